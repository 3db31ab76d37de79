import Derived.Test.YtpongdpnbclchaaGreatDoorKLf
set_option linter.all false
namespace Go.Proofs.YtpongdpnbclchaaGreatDoor
variable{n s:Nat}{w:World}{xs:List Value}
open Go.RowKit
def SL(w:World)(s:Nat)(v:Value)(n:Nat)(xs:List Value):Prop:=xs.length=n*s/\(∀u∈xs,u.oneCell'=true)/\∃ao cap,v=.slice ao n cap/\(n=0\/∃b o,ao=some ⟨b,o,none⟩/\b<w.heap.size/\∀j u,xs[j]?=some u->w.cell? ⟨b,o+j,none⟩=some u)
theorem SL.below{w1:World}{v:Value}(h:SL w s v n xs)(hb:Ok w w1):SL w1 s v n xs:=by obtain⟨h0,h1,ao,cap,e,h2⟩:=h;exact⟨h0,h1,ao,cap,e,h2.imp id λ⟨b,o,e,hl,hc⟩=>⟨b,o,e,lL_ hl hb.le,λj u hj=>hb.cell (p:=⟨b,o+j,none⟩) hl (hc j u hj)⟩⟩
theorem Ok.grown0{w':World}(h:w.grownBy w' none):Ok w w':=(Ok.refl w).grown h (λb e=>by cases e)
theorem zi6(base:Nat)(t ty e:TypeId)(i:TypeInfo)(size c:Nat)(w:World)(ht:Tryz.prog.underlying t=some (.slice e))(hi:Tryz.prog.info? e=some i)
  (v:Value) (n:Nat) (xs:List Value) (hown:w.ownsRow base e size v n xs) :
  (Builtin.append_ #[t,t] ty #[v,.slice none 0 c]).run Tryz.prog w=.ok v w:=by
 rcases hown.2 with ⟨rfl,rfl⟩ | ⟨g,cap,cur,rfl,_,_,hnc,_⟩
 ·simp[Builtin.append_,run_underlying ht,sizeOf,typeInfo,hi,Builtin.lenOf,Builtin.firstCells]
 simp[Builtin.append_,run_underlying ht,sizeOf,typeInfo,hi,Builtin.lenOf,Builtin.firstCells,hnc,storeCells]
theorem yI3(w:World)(base:Nat)(e:TypeId)(s:Nat)(hb:base<=w.heap.size):(w.alloc (.cells #[] e)).ownsRow base e s (.slice (sA w.heap.size 0) 0 0) 0 []:=by have:=World.ownsRow_lit (base:=base) (e:=e) (size:=s) w #[] 0 hb (zL_ _) sI;simpa using this
theorem ze4{ops:Array Oper}{rest:List Oper}{op:Oper}{a:Act}{Q:Exit->Act->World->Prop}(hgd:op.guard=none)(s x:Operand)(lT eT:TypeId)(sz bts:Nat)(z:Value)
  (ho:op.op=.call { callee:=.builtin .append,args:=#[s,x],argTypes:=#[lT,lT] })
  (hund:Tryz.prog.underlying lT=some (.slice eT)) (hinf:(Tryz.prog.info? eT).map (λi=>(i.zero,i.size,i.bytes))=some (some z,sz,bts)) (hzc:z.cells.size=sz) (hsz:0<sz) (hbt:0<bts)
  (base:Nat) (sv:Value) (k:Nat) (ys:List Value) (hs:a.eval s=sv) (hown:w.ownsRow base eT sz sv k ys) (v:Value) (n:Nat) (xs:List Value) (hx:a.eval x=v) (hT:SL w sz v n xs)
  (hb:(k+n)*bts<=140737488355328) (hbase:base<=w.heap.size)
  (h:∀v' w',w'.ownsRow base eT sz v' (k+n) (ys++xs)->w.grownBy w' sv.ownBlock->wpList Tryz.prog ops Q rest (a.put op.dst v') w'):wpList Tryz.prog ops Q (op::rest) a w:=by
 obtain⟨i,hi,hz,hsi,hby⟩:=zg6 hinf;obtain⟨h0,h1,ao,cap,rfl,h2⟩:=hT
 cases ao with
 | none =>
  have hn:n=0:=by
   rcases h2 with h2 | ⟨b,o,e,_⟩
   ·exact h2
   cases e
  subst hn;have hxs:xs=[]:=List.eq_nil_of_length_eq_zero oM;subst hxs;refine wpList_plain hgd λK hK=>?_;have hrun:=zi6 base lT op.type eT i sz cap w hund hi sv k ys hown;unfold Oper.wp;simp[execOp,ho,resolve,invoke,builtin,hs,hx,hrun,Result.andThen];exact hK _ _ (h _ _ (by rw[List.append_nil];exact hown) (World.grownBy.refl w _))
 | some ad =>
  by_cases hn:n=0
  ·subst hn
   have hxs:xs=[]:=List.eq_nil_of_length_eq_zero oM;subst hxs;refine wpList_append_own_at w hgd s x lT ho base eT i z sz bts hund hi hz hsi hby hzc hsz _ k ys hs hown ad 0 cap [] hx (by simp) (by intro j u hj;simp at hj) (by simp) (by have:=Nat.le_mul_of_pos_right (k+0) hbt;unfold maxLen;omega) hb hbase ?_;intro v' w' k1 k2 k3 k4;exact h v' w' k1 k2
  obtain⟨b,o,e,hl,hc⟩:=h2.resolve_left hn;cases e;refine wpList_append_own_at w hgd s x lT ho base eT i z sz bts hund hi hz hsi hby hzc hsz _ k ys hs hown ⟨b,o,none⟩ n cap xs hx h0 (by intro j u hj;rw[zb7];exact hc j u hj) h1 (by have:=Nat.le_mul_of_pos_right (k+n) hbt;unfold maxLen;omega) hb hbase ?_;intro v' w' k1 k2 k3 k4;exact h v' w' k1 k2
theorem yj8{B g cap:Nat}{e:TypeId}{m:Nat}{ys:List Value}(h:w.ownsRow B e s (.slice (sA g 0) m cap) m (xs++ys))(hx:xs.length=n*s)(hn:n<=m):w.ownsRow B e s (.slice (sA g 0) n cap) n xs:=by
 refine⟨hx,?_⟩;rcases h.2 with ⟨e1,_⟩ | ⟨g',cap',cur,e1,h1,h2,h3,h4,h5,h6⟩
 ·cases e1
 injection e1 with e2 e3 e4
 injection e2 with e2
 injection e2 with e2
 subst e2 e4;refine .inr ⟨g,cap,cur,rfl,h1,h2,by omega,h4,h5,?_⟩;have hl:(xs++ys).length=m*s:=h.1;have:xs=(xs++ys).take (n*s):=by rw[List.take_append_of_le_length (by omega),List.take_of_length_le (by omega)]
 rw[this,<-h6,List.take_take]
 congr 1
 have:=Nat.mul_le_mul_right s hn;omega
theorem SL.one(w:World)(t:TypeId)(xs:List Value)(hs:xs.length=1*s)(h1:∀u∈xs,u.oneCell'=true):SL (w.alloc (.cells xs.toArray t)) s (.slice (sA w.heap.size 0) 1 1) 1 xs:=by refine⟨hs,h1,_,1,rfl,.inr ⟨_,0,rfl,by simp,λj u hj=>?_⟩⟩;rw[Nat.zero_add];exact(cell_of_row _ _ j _ _ _ (za3 _ _)).trans (by simpa using hj)
theorem yt8{B g cap:Nat}{e:TypeId}(h:w.ownsRow B e s (.slice (sA g 0) n cap) n xs):n<=cap/\cap<=maxLen:=by
 rcases h.2 with ⟨e1,_⟩ | ⟨g',cap',cur,e1,h1,h2,h3,h4,h5,h6⟩
 ·cases e1
 injection e1 with e2 e3 e4
 subst e4;exact⟨h3,h4⟩
theorem zC1(ty lT eT:TypeId)(sz bts:Nat)(z:Value)(hund:Tryz.prog.underlying lT=some (.slice eT))(hinf:(Tryz.prog.info? eT).map (λi=>(i.zero,i.size,i.bytes))=some (some z,sz,bts))(hzc:z.cells.size=sz)(hsz:0<sz)(hbt:0<bts)
  (base:Nat) (sv:Value) (k:Nat) (ys:List Value) (hown:w.ownsRow base eT sz sv k ys) (v:Value) (n:Nat) (xs:List Value) (hT:SL w sz v n xs)
  (hb:(k+n)*bts<=140737488355328) (hbase:base<=w.heap.size):∃v' w',(Builtin.append_ #[lT,lT] ty #[sv,v]).run Tryz.prog w=.ok v' w'/\w'.ownsRow base eT sz v' (k+n) (ys++xs)/\w.grownBy w' sv.ownBlock:=by
 obtain⟨i,hi,hz,hsi,hby⟩:=zg6 hinf;obtain⟨h0,h1,ao,cap,rfl,h2⟩:=hT;have hm:k+n<=maxLen:=by have:=Nat.le_mul_of_pos_right (k+n) hbt;unfold maxLen;omega
 cases ao with
 | none =>
  have hn:n=0:=by
   rcases h2 with h2 | ⟨b,o,e,_⟩
   ·exact h2
   cases e
  subst hn;have hxs:xs=[]:=List.eq_nil_of_length_eq_zero oM;subst hxs;exact⟨sv,w,zi6 base lT ty eT i sz cap w hund hi sv k ys hown,by rw[List.append_nil];exact hown,World.grownBy.refl w _⟩
 | some ad =>
  have hc:∀j u,xs[j]?=some u->w.cell? (ad.add j)=some u:=by
   rcases h2 with h2 | ⟨b,o,e,hl,hc⟩
   ·subst h2
    have hxs:xs=[]:=List.eq_nil_of_length_eq_zero oM;subst hxs;intro j u hj;simp at hj
   cases e;intro j u hj;rw[zb7];exact hc j u hj
  obtain⟨v',w',r1,r2,r3,_⟩:=run_append_own w base lT ty eT i z sz bts hund hi hz hsi hby hzc hsz sv k ys hown ad n cap xs h0 hc h1 hm hb hbase;exact⟨v',w',r1,r2,r3⟩
theorem zj0{ops:Array Oper}{o:Oper}{a:Act}{K:Act->World->Prop}{Q:Exit->Act->World->Prop}{E:Prop}(hgd:o.guard=none)(s x:Operand)(lT eT:TypeId)(sz bts:Nat)(z:Value)
  (ho:o.op=.call { callee:=.builtin .append,args:=#[s,x],argTypes:=#[lT,lT] })
  (hund:Tryz.prog.underlying lT=some (.slice eT)) (hinf:(Tryz.prog.info? eT).map (λi=>(i.zero,i.size,i.bytes))=some (some z,sz,bts)) (hzc:z.cells.size=sz) (hsz:0<sz) (hbt:0<bts)
  (base:Nat) (sv:Value) (k:Nat) (ys:List Value) (hs:a.eval s=sv) (hown:w.ownsRow base eT sz sv k ys) (v:Value) (n:Nat) (xs:List Value) (hx:a.eval x=v) (hT:SL w sz v n xs)
  (hb:(k+n)*bts<=140737488355328) (hbase:base<=w.heap.size)
  (h:∀v' w',w'.ownsRow base eT sz v' (k+n) (ys++xs)->w.grownBy w' sv.ownBlock->K (a.put o.dst v') w') :
  if Region.wanted o (yielded ops a.tmps)=true then Oper.wp Tryz.prog o a w K Q else E:=by
 have hw:Region.wanted o (yielded ops a.tmps)=true:=by simp[Region.wanted,hgd]
 rw[if_pos hw];obtain⟨v',w',r1,r2,r3⟩:=zC1 o.type lT eT sz bts z hund hinf hzc hsz hbt base sv k ys hown v n xs hT hb hbase;unfold Oper.wp execOp;simp only[ho,resolve,invoke,builtin,Sem.run_bind,Sem.run_pure,Result.andThen_ok,List.map_toArray,List.map_cons,List.map_nil,hs,hx,r1];exact h v' w' r2 r3
end Go.Proofs.YtpongdpnbclchaaGreatDoor
