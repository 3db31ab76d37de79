import Derived.Shelf.Strconv.Clone
import Derived.Test.YtbneneijdgcccaaGreatDoorProg
import Derived.Test.YtbneneijdgcccaaGreatDoorKPh
set_option maxHeartbeats 8000000
set_option linter.all false
namespace Go.Proofs.YtbneneijdgcccaaGreatDoor
section
open Go.RowKit
def SL (w:World) (s:Nat) (v:Value) (n:Nat) (xs:List Value):Prop:=xs.length=n*s/\(∀ u∈xs,u.oneCell'=true)/\∃ ao cap,v=.slice ao n cap/\(n=0\/∃ b o,ao=some ⟨b,o,none⟩/\b<w.heap.size/\∀ j u,xs[j]?=some u->w.cell? ⟨b,o+j,none⟩=some u)
theorem SL.below {w w1:World} {s:Nat} {v:Value} {n:Nat} {xs:List Value} (h:SL w s v n xs) (hb:Ok w w1):SL w1 s v n xs:=by
 obtain ⟨h0,h1,ao,cap,e,h2⟩:=h
 exact ⟨h0,h1,ao,cap,e,h2.imp id fun ⟨b,o,e,hl,hc⟩=>⟨b,o,e,Nat.lt_of_lt_of_le hl hb.le,fun j u hj=>hb.cell (p:=⟨b,o+j,none⟩) hl (hc j u hj)⟩⟩
theorem Ok.grown0 {w w':World} (h:w.grownBy w' none):Ok w w':=(Ok.refl w).grown h (fun b e=>by cases e)
theorem zi6 (base:Nat) (t ty e:TypeId) (i:TypeInfo) (size c:Nat) (w:World) (ht:Tryz.prog.underlying t=some (.slice e)) (hi:Tryz.prog.info? e=some i)
  (v:Value) (n:Nat) (xs:List Value) (hown:w.ownsRow base e size v n xs) :
  (Builtin.append_ #[t,t] ty #[v,.slice none 0 c]).run Tryz.prog w=.ok v w:=by
 rcases hown.2 with ⟨rfl,rfl⟩ | ⟨g,cap,cur,rfl,_,_,hnc,_⟩
 ·simp [Builtin.append_,run_underlying ht,sizeOf,typeInfo,hi,Builtin.lenOf,Builtin.firstCells]
 simp [Builtin.append_,run_underlying ht,sizeOf,typeInfo,hi,Builtin.lenOf,Builtin.firstCells,hnc,storeCells]
theorem ze4 {w:World} {ops:Array Oper} {rest:List Oper} {op:Oper} {a:Act} {Q:Exit->Act->World->Prop} (hgd:op.guard=none) (s x:Operand) (lT eT:TypeId) (sz bts:Nat) (z:Value)
  (ho:op.op=.call { callee:=.builtin .append,args:=#[s,x],argTypes:=#[lT,lT] })
  (hund:Tryz.prog.underlying lT=some (.slice eT)) (hinf:(Tryz.prog.info? eT).map (fun i=>(i.zero,i.size,i.bytes))=some (some z,sz,bts)) (hzc:z.cells.size=sz) (hsz:0<sz) (hbt:0<bts)
  (base:Nat) (sv:Value) (k:Nat) (ys:List Value) (hs:a.eval s=sv) (hown:w.ownsRow base eT sz sv k ys) (v:Value) (n:Nat) (xs:List Value) (hx:a.eval x=v) (hT:SL w sz v n xs)
  (hb:(k+n)*bts<=140737488355328) (hbase:base<=w.heap.size)
  (h:∀ v' w',w'.ownsRow base eT sz v' (k+n) (ys++xs)->w.grownBy w' sv.ownBlock->wpList Tryz.prog ops Q rest (a.put op.dst v') w'):wpList Tryz.prog ops Q (op::rest) a w:=by
 obtain ⟨i,hi,hz,hsi,hby⟩:=zg6 hinf
 obtain ⟨h0,h1,ao,cap,rfl,h2⟩:=hT
 cases ao with
 | none =>
  have hn:n=0:=by
   rcases h2 with h2 | ⟨b,o,e,_⟩
   ·exact h2
   cases e
  subst hn
  have hxs:xs=[]:=List.eq_nil_of_length_eq_zero (by omega)
  subst hxs
  refine wpList_plain hgd fun K hK=>?_
  have hrun:=zi6 base lT op.type eT i sz cap w hund hi sv k ys hown
  unfold Oper.wp
  simp [execOp,ho,resolve,invoke,builtin,hs,hx,hrun,Result.andThen]
  exact hK _ _ (h _ _ (by rw [List.append_nil];exact hown) (World.grownBy.refl w _))
 | some ad =>
  by_cases hn:n=0
  ·subst hn
   have hxs:xs=[]:=List.eq_nil_of_length_eq_zero (by omega)
   subst hxs
   refine wpList_append_own_at w hgd s x lT ho base eT i z sz bts hund hi hz hsi hby hzc hsz _ k ys hs hown ad 0 cap [] hx (by simp) (by intro j u hj;simp at hj) (by simp) (by have:=Nat.le_mul_of_pos_right (k+0) hbt;unfold maxLen;omega) hb hbase ?_
   intro v' w' k1 k2 k3 k4
   exact h v' w' k1 k2
  obtain ⟨b,o,e,hl,hc⟩:=h2.resolve_left hn
  cases e
  refine wpList_append_own_at w hgd s x lT ho base eT i z sz bts hund hi hz hsi hby hzc hsz _ k ys hs hown ⟨b,o,none⟩ n cap xs hx h0 (by intro j u hj;rw [zb7];exact hc j u hj) h1 (by have:=Nat.le_mul_of_pos_right (k+n) hbt;unfold maxLen;omega) hb hbase ?_
  intro v' w' k1 k2 k3 k4
  exact h v' w' k1 k2
theorem yj8 {w:World} {B g cap:Nat} {e:TypeId} {s n m:Nat} {xs ys:List Value} (h:w.ownsRow B e s (.slice (some ⟨g,0,none⟩) m cap) m (xs++ys)) (hx:xs.length=n*s) (hn:n<=m):w.ownsRow B e s (.slice (some ⟨g,0,none⟩) n cap) n xs:=by
 refine ⟨hx,?_⟩
 rcases h.2 with ⟨e1,_⟩ | ⟨g',cap',cur,e1,h1,h2,h3,h4,h5,h6⟩
 ·cases e1
 injection e1 with e2 e3 e4
 injection e2 with e2
 injection e2 with e2
 subst e2 e4
 refine .inr ⟨g,cap,cur,rfl,h1,h2,by omega,h4,h5,?_⟩
 have hl:(xs++ys).length=m*s:=h.1
 have:xs=(xs++ys).take (n*s):=by rw [List.take_append_of_le_length (by omega),List.take_of_length_le (by omega)]
 rw [this,<-h6,List.take_take]
 congr 1
 have:=Nat.mul_le_mul_right s hn
 omega
theorem SL.one (w:World) (t:TypeId) (xs:List Value) {s:Nat} (hs:xs.length=1*s) (h1:∀ u∈xs,u.oneCell'=true):SL (w.alloc (.cells xs.toArray t)) s (.slice (some ⟨w.heap.size,0,none⟩) 1 1) 1 xs:=by
 refine ⟨hs,h1,_,1,rfl,.inr ⟨_,0,rfl,by simp,fun j u hj=>?_⟩⟩
 rw [Nat.zero_add]
 exact (cell_of_row _ _ j _ _ _ (za3 _ _)).trans (by simpa using hj)
theorem yt8 {w:World} {B g cap:Nat} {e:TypeId} {s n:Nat} {xs:List Value} (h:w.ownsRow B e s (.slice (some ⟨g,0,none⟩) n cap) n xs):n<=cap/\cap<=maxLen:=by
 rcases h.2 with ⟨e1,_⟩ | ⟨g',cap',cur,e1,h1,h2,h3,h4,h5,h6⟩
 ·cases e1
 injection e1 with e2 e3 e4
 subst e4
 exact ⟨h3,h4⟩
theorem zC1 {w:World} (ty lT eT:TypeId) (sz bts:Nat) (z:Value) (hund:Tryz.prog.underlying lT=some (.slice eT)) (hinf:(Tryz.prog.info? eT).map (fun i=>(i.zero,i.size,i.bytes))=some (some z,sz,bts)) (hzc:z.cells.size=sz) (hsz:0<sz) (hbt:0<bts)
  (base:Nat) (sv:Value) (k:Nat) (ys:List Value) (hown:w.ownsRow base eT sz sv k ys) (v:Value) (n:Nat) (xs:List Value) (hT:SL w sz v n xs)
  (hb:(k+n)*bts<=140737488355328) (hbase:base<=w.heap.size):∃ v' w',(Builtin.append_ #[lT,lT] ty #[sv,v]).run Tryz.prog w=.ok v' w'/\w'.ownsRow base eT sz v' (k+n) (ys++xs)/\w.grownBy w' sv.ownBlock:=by
 obtain ⟨i,hi,hz,hsi,hby⟩:=zg6 hinf
 obtain ⟨h0,h1,ao,cap,rfl,h2⟩:=hT
 have hm:k+n<=maxLen:=by have:=Nat.le_mul_of_pos_right (k+n) hbt;unfold maxLen;omega
 cases ao with
 | none =>
  have hn:n=0:=by
   rcases h2 with h2 | ⟨b,o,e,_⟩
   ·exact h2
   cases e
  subst hn
  have hxs:xs=[]:=List.eq_nil_of_length_eq_zero (by omega)
  subst hxs
  exact ⟨sv,w,zi6 base lT ty eT i sz cap w hund hi sv k ys hown,by rw [List.append_nil];exact hown,World.grownBy.refl w _⟩
 | some ad =>
  have hc:∀ j u,xs[j]?=some u->w.cell? (ad.add j)=some u:=by
   rcases h2 with h2 | ⟨b,o,e,hl,hc⟩
   ·subst h2
    have hxs:xs=[]:=List.eq_nil_of_length_eq_zero (by omega)
    subst hxs
    intro j u hj
    simp at hj
   cases e
   intro j u hj
   rw [zb7]
   exact hc j u hj
  obtain ⟨v',w',r1,r2,r3,_⟩:=run_append_own w base lT ty eT i z sz bts hund hi hz hsi hby hzc hsz sv k ys hown ad n cap xs h0 hc h1 hm hb hbase
  exact ⟨v',w',r1,r2,r3⟩
theorem zj0 {w:World} {ops:Array Oper} {o:Oper} {a:Act} {K:Act->World->Prop} {Q:Exit->Act->World->Prop} {E:Prop} (hgd:o.guard=none) (s x:Operand) (lT eT:TypeId) (sz bts:Nat) (z:Value)
  (ho:o.op=.call { callee:=.builtin .append,args:=#[s,x],argTypes:=#[lT,lT] })
  (hund:Tryz.prog.underlying lT=some (.slice eT)) (hinf:(Tryz.prog.info? eT).map (fun i=>(i.zero,i.size,i.bytes))=some (some z,sz,bts)) (hzc:z.cells.size=sz) (hsz:0<sz) (hbt:0<bts)
  (base:Nat) (sv:Value) (k:Nat) (ys:List Value) (hs:a.eval s=sv) (hown:w.ownsRow base eT sz sv k ys) (v:Value) (n:Nat) (xs:List Value) (hx:a.eval x=v) (hT:SL w sz v n xs)
  (hb:(k+n)*bts<=140737488355328) (hbase:base<=w.heap.size)
  (h:∀ v' w',w'.ownsRow base eT sz v' (k+n) (ys++xs)->w.grownBy w' sv.ownBlock->K (a.put o.dst v') w') :
  if Region.wanted o (yielded ops a.tmps)=true then Oper.wp Tryz.prog o a w K Q else E:=by
 have hw:Region.wanted o (yielded ops a.tmps)=true:=by simp [Region.wanted,hgd]
 rw [if_pos hw]
 obtain ⟨v',w',r1,r2,r3⟩:=zC1 o.type lT eT sz bts z hund hinf hzc hsz hbt base sv k ys hown v n xs hT hb hbase
 unfold Oper.wp execOp
 simp only [ho,resolve,invoke,builtin,Sem.run_bind,Sem.run_pure,Result.andThen_ok,List.map_toArray,List.map_cons,List.map_nil,hs,hx,r1]
 exact h v' w' r2 r3
end
section
section
open Go.Shelf
def Tryz.laysM316_ren:Go.Shelf.Ren:=⟨fun | 316=>154 | n=>n,fun | 9=>9 | 3=>3 | 4=>4 | 37=>214 | 0=>0 | 127=>262 | 5=>5 | n=>n,fun | n=>n⟩
theorem Tryz.laysM316:Go.Proofs.LaysM.n316 Tryz.prog Tryz.laysM316_ren:={
 mixed:=by kernel_rfl
 f316:=Tryz.func154.trans (congrArg some (by kernel_rfl))
 t0:=Tryz.underlying0
 a0:=Tryz.isAgg0
 z0:=Tryz.sizeOf0
 v0:=Tryz.zeroValue0
 t3:=Tryz.underlying3
 a3:=Tryz.isAgg3
 z3:=Tryz.sizeOf3
 v3:=Tryz.zeroValue3
 t4:=Tryz.underlying4
 a4:=Tryz.isAgg4
 z4:=Tryz.sizeOf4
 v4:=Tryz.zeroValue4
 t9:=Tryz.underlying9
 a9:=Tryz.isAgg9
 z9:=Tryz.sizeOf9
 v9:=Tryz.zeroValue9
 t37:=Tryz.underlying214
 a37:=Tryz.isAgg214
 z37:=Tryz.sizeOf214
 v37:=Tryz.zeroValue214
 t127:=Tryz.underlying262
 a127:=Tryz.isAgg262
 z127:=Tryz.sizeOf262
 v127:=Tryz.zeroValue262
 t5:=Tryz.underlying5
 a5:=Tryz.isAgg5
 z5:=Tryz.sizeOf5
 v5:=Tryz.zeroValue5
 i0:=by kernel_rfl
 i3:=by kernel_rfl
 i4:=by kernel_rfl
 i5:=by kernel_rfl
 i9:=by kernel_rfl
 i37:=by kernel_rfl
 i127:=by kernel_rfl }
open Go.RowKit in
theorem Tryz.stringslite_Clone (s:ByteArray) (w:World) (hlim:s.size<=281474976710656) :
  Calls Tryz.prog 154 #[.string s] w fun e w'=>e=.returned (.string s)/\Below w.heap.size w w':=Any.stringslite_Clone Tryz.laysM316 s w hlim
end
end
section
open Go.RowKit
theorem zp0 (t ty e:TypeId) (i:TypeInfo) (c:Nat) (w:World) (ht:Tryz.prog.underlying t=some (.slice e)) (hi:Tryz.prog.info? e=some i) :
  (Builtin.append_ #[t,t] ty #[.slice none 0 0,.slice none 0 c]).run Tryz.prog w=.ok (.slice none 0 0) w:=by
 simp [Builtin.append_,run_underlying ht,sizeOf,typeInfo,hi,Builtin.lenOf,Builtin.firstCells]
theorem zf7 {w:World} {ops:Array Oper} {rest:List Oper} {op:Oper} {a:Act} {Q:Exit->Act->World->Prop} (hgd:op.guard=none) (s x:Operand) (lT eT:TypeId) (sz bts:Nat) (z:Value)
  (ho:op.op=.call { callee:=.builtin .append,args:=#[s,x],argTypes:=#[lT,lT] })
  (hund:Tryz.prog.underlying lT=some (.slice eT)) (hinf:(Tryz.prog.info? eT).map (fun i=>(i.zero,i.size,i.bytes))=some (some z,sz,bts)) (hzc:z.cells.size=sz) (hsz:0<sz) (hbt:bts<=56)
  (base:Nat) (hs:a.eval s=.slice none 0 0) (v:Value) (n:Nat) (xs:List Value) (hx:a.eval x=v) (hT:SL w sz v n xs)
  (hb:n<=1000000) (hbase:base<=w.heap.size)
  (h:∀ v' w',w'.ownsRow base eT sz v' n xs->Ok w w'->wpList Tryz.prog ops Q rest (a.put op.dst v') w'):wpList Tryz.prog ops Q (op::rest) a w:=by
 obtain ⟨i,hi,hz,hsi,hby⟩:=zg6 hinf
 obtain ⟨h0,h1,ao,cap,rfl,h2⟩:=hT
 cases ao with
 | none =>
  have hn:n=0:=by
   rcases h2 with h2 | ⟨b,o,e,_⟩
   ·exact h2
   cases e
  subst hn
  have hxs:xs=[]:=List.eq_nil_of_length_eq_zero (by omega)
  subst hxs
  refine wpList_plain hgd fun K hK=>?_
  have hrun:=zp0 lT op.type eT i cap w hund hi
  unfold Oper.wp
  simp [execOp,ho,resolve,invoke,builtin,hs,hx,hrun,Result.andThen]
  exact hK _ _ (h _ _ (World.ownsRow_nil _ _ _ _) (Ok.refl w))
 | some ad =>
  by_cases hn:n=0
  ·subst hn
   have hxs:xs=[]:=List.eq_nil_of_length_eq_zero (by omega)
   subst hxs
   refine wpList_append_own_at w hgd s x lT ho base eT i z sz bts hund hi hz hsi hby hzc hsz _ 0 [] hs (World.ownsRow_nil _ _ _ _) ad 0 cap [] hx (by simp) (by intro j u hj;simp at hj) (by simp) (by unfold maxLen;omega) (by omega) hbase ?_
   intro v' w' k1 k2 k3 k4
   exact h v' w' k1 (Ok.grown0 k2)
  obtain ⟨b,o,e,hl,hc⟩:=h2.resolve_left hn
  cases e
  refine wpList_append_own_at w hgd s x lT ho base eT i z sz bts hund hi hz hsi hby hzc hsz _ 0 [] hs (World.ownsRow_nil _ _ _ _) ⟨b,o,none⟩ n cap xs hx h0 (by intro j u hj;rw [zb7];exact hc j u hj) h1 (by unfold maxLen;omega) (by have:(0+n)*bts<=1000000*56:=Nat.mul_le_mul (by omega) hbt;omega) hbase ?_
  intro v' w' k1 k2 k3 k4
  rw [Nat.zero_add,List.nil_append] at k1
  exact h v' w' k1 (Ok.grown0 k2)
theorem infFN:(Tryz.prog.info? 75).map (fun i=>(i.zero,i.size,i.bytes))=some (some (.agg #[.int .i64 0,.int .i64 0,.string ⟨#[]⟩,.int .i64 0,.int .i64 0,.int .i64 0]),6,56):=by kernel_rfl
theorem zW7 (v:Value) (n:Nat) (xs:List Value) (w:World) (h:SL w 6 v n xs) (hn:n<=1000000) :
  Calls Tryz.prog 120 #[v] w fun e w'=>∃ v',e=.returned v'/\w'.ownsRow w.heap.size 75 6 v' n xs/\Ok w w':=by
 have H:=hid h
 obtain ⟨_,_,ao,cap,rfl,_⟩:=h
 go_enter Tryz.func120,Tryz.ntmps120
 go_wp2_with (first
  | (at_builtin;refine zf7 rfl _ _ 25 75 6 56 _ rfl Tryz.underlying25 infFN (by rfl) (by decide) (by decide) w.heap.size (by rfl) _ n xs (by rfl) H.o hn (Nat.le_refl _) ?_;intro v' w' k1 k2;have HK:Hi (w'.ownsRow w.heap.size 75 6 v' n xs/\Ok w w'):=⟨k1,k2⟩;clear k1 k2)
  | fail)
 go_ret
 exact ⟨_,rfl,HK.o.1,HK.o.2⟩
theorem infFS:(Tryz.prog.info? 9).map (fun i=>(i.zero,i.size,i.bytes))=some (some (.string ⟨#[]⟩),1,16):=by kernel_rfl
theorem zW8 (v:Value) (n:Nat) (xs:List Value) (w:World) (h:SL w 1 v n xs) (hn:n<=1000000) :
  Calls Tryz.prog 121 #[v] w fun e w'=>∃ v',e=.returned v'/\w'.ownsRow w.heap.size 9 1 v' n xs/\Ok w w':=by
 have H:=hid h
 obtain ⟨_,_,ao,cap,rfl,_⟩:=h
 go_enter Tryz.func121,Tryz.ntmps121
 go_wp2_with (first
  | (at_builtin;refine zf7 rfl _ _ 26 9 1 16 _ rfl Tryz.underlying26 infFS (by rfl) (by decide) (by decide) w.heap.size (by rfl) _ n xs (by rfl) H.o hn (Nat.le_refl _) ?_;intro v' w' k1 k2;have HK:Hi (w'.ownsRow w.heap.size 9 1 v' n xs/\Ok w w'):=⟨k1,k2⟩;clear k1 k2)
  | fail)
 go_ret
 exact ⟨_,rfl,HK.o.1,HK.o.2⟩
theorem infFA:(Tryz.prog.info? 125).map (fun i=>(i.zero,i.size,i.bytes))=some (some (.agg #[.string ⟨#[]⟩,.int .i64 0]),2,24):=by kernel_rfl
theorem zW9 (v:Value) (n:Nat) (xs:List Value) (w:World) (h:SL w 2 v n xs) (hn:n<=1000000) :
  Calls Tryz.prog 122 #[v] w fun e w'=>∃ v',e=.returned v'/\w'.ownsRow w.heap.size 125 2 v' n xs/\Ok w w':=by
 have H:=hid h
 obtain ⟨_,_,ao,cap,rfl,_⟩:=h
 go_enter Tryz.func122,Tryz.ntmps122
 go_wp2_with (first
  | (at_builtin;refine zf7 rfl _ _ 27 125 2 24 _ rfl Tryz.underlying27 infFA (by rfl) (by decide) (by decide) w.heap.size (by rfl) _ n xs (by rfl) H.o hn (Nat.le_refl _) ?_;intro v' w' k1 k2;have HK:Hi (w'.ownsRow w.heap.size 125 2 v' n xs/\Ok w w'):=⟨k1,k2⟩;clear k1 k2)
  | fail)
 go_ret
 exact ⟨_,rfl,HK.o.1,HK.o.2⟩
theorem infFI:(Tryz.prog.info? 3).map (fun i=>(i.zero,i.size,i.bytes))=some (some (.int .i64 0),1,8):=by kernel_rfl
theorem zq2 (v:Value) (n:Nat) (xs:List Value) (w:World) (h:SL w 1 v n xs) (hn:n<=1000000) :
  Calls Tryz.prog 123 #[v] w fun e w'=>∃ v',e=.returned v'/\w'.ownsRow w.heap.size 3 1 v' n xs/\Ok w w':=by
 have H:=hid h
 obtain ⟨_,_,ao,cap,rfl,_⟩:=h
 go_enter Tryz.func123,Tryz.ntmps123
 go_wp2_with (first
  | (at_builtin;refine zf7 rfl _ _ 28 3 1 8 _ rfl Tryz.underlying28 infFI (by rfl) (by decide) (by decide) w.heap.size (by rfl) _ n xs (by rfl) H.o hn (Nat.le_refl _) ?_;intro v' w' k1 k2;have HK:Hi (w'.ownsRow w.heap.size 3 1 v' n xs/\Ok w w'):=⟨k1,k2⟩;clear k1 k2)
  | fail)
 go_ret
 exact ⟨_,rfl,HK.o.1,HK.o.2⟩
end
section
open Go.RowKit
structure PL6 (w:World) (v0 v1 v2 v3 v4 v5:Value) (ns:List Nd) (l:Ls):Prop where
 nd:SL w 6 v0 ns.length (ndL ns)
 sc:SL w 1 v1 l.sc.length (l.sc.map fun s=>.string s)
 ar:SL w 2 v2 l.ar.length (l.ar.flatMap fun a=>[.string a.1,.int .i64 a.2])
 sy:SL w 1 v3 l.sy.length (l.sy.map fun s=>.int .i64 s)
 si:SL w 1 v4 l.si.length (l.si.map fun s=>.int .i64 s)
 so:SL w 1 v5 l.so.length (l.so.map fun s=>.int .i64 s)
theorem PL6.below {w w1:World} {v0 v1 v2 v3 v4 v5:Value} {ns:List Nd} {l:Ls} (h:PL6 w v0 v1 v2 v3 v4 v5 ns l) (hb:Ok w w1):PL6 w1 v0 v1 v2 v3 v4 v5 ns l:=⟨h.nd.below hb,h.sc.below hb,h.ar.below hb,h.sy.below hb,h.si.below hb,h.so.below hb⟩
structure Bd6 (ns:List Nd) (l:Ls):Prop where
 nd:ns.length<=1000
 sc:l.sc.length<=1000
 ar:l.ar.length<=1000
 sy:l.sy.length<=1000
 si:l.si.length<=1000
 so:l.so.length<=1000
 nm:∀ n∈ns,n.name.size<=281474976710656
 sn:∀ s∈l.sc,s.size<=281474976710656
 an:∀ a∈l.ar,a.1.size<=281474976710656
theorem zm5 {w:World} {b o:Nat} {u:Value} (h:w.cell? ⟨b,o,none⟩=some u):w.setCell ⟨b,o,none⟩ u=w:=by
 have hh:(w.setCell ⟨b,o,none⟩ u).heap=w.heap:=by
  apply Array.ext_getElem?
  intro i
  by_cases e:i=b
  ·subst e
   unfold World.cell? at h
   simp only [World.setCell,Array.getElem?_modify,if_true]
   cases e2:w.heap[i]? with
   | none=>rfl
   | some x =>
    rw [e2] at h
    cases x with
    | cells c elem frozen =>
     simp only [Option.isSome_none,Bool.false_eq_true,if_false] at h
     obtain ⟨h3,h4⟩:=Array.getElem?_eq_some_iff.1 h
     have hc:c.setIfInBounds o u=c:=by
      apply Array.ext_getElem?
      intro j
      rw [Array.getElem?_setIfInBounds]
      split
      ·next e3 =>
       subst e3
       first | exact h.symm | (rw [if_pos h3,h])
      rfl
     simp [hc]
    | _=>rfl
  exact Below.heap_setCell _ _ _ _ e
 cases w
 unfold World.setCell at hh ⊢
 simp only at hh ⊢
 rw [hh]
theorem zq3 (s:ByteArray) (w:World) (hs:s.size<=281474976710656):Calls Tryz.prog 124 #[.string s] w fun e w'=>e=.returned (.string s)/\Ok w w':=by
 go_enter Tryz.func124,Tryz.ntmps124
 go_wp2_with (first | (go_at_call 154;refine (Tryz.stringslite_Clone s _ hs).mono ?_;rintro e w1 ⟨rfl,hb⟩;have HB:Hi (Ok w w1):=hb;clear hb) | fail)
 go_ret
 exact ⟨rfl,HB.o⟩
def sixF (u0 u1 u2 u3 u4 u5:Value) (k:Nat):Value:=if k=0 then u0 else if k=1 then u1 else if k=2 then u2 else if k=3 then u3 else if k=4 then u4 else u5
theorem PrIs.of6 {w:World} {B:Nat} {u0 u1 u2 u3 u4 u5:Value} {ns:List Nd} {l:Ls} (h0:w.ownsRow B 75 6 u0 ns.length (ndL ns)) (h1:w.ownsRow B 9 1 u1 l.sc.length (l.sc.map fun s=>.string s)) (h2:w.ownsRow B 125 2 u2 l.ar.length (l.ar.flatMap fun a=>[.string a.1,.int .i64 a.2])) (h3:w.ownsRow B 3 1 u3 l.sy.length (l.sy.map fun s=>.int .i64 s)) (h4:w.ownsRow B 3 1 u4 l.si.length (l.si.map fun s=>.int .i64 s)) (h5:w.ownsRow B 3 1 u5 l.so.length (l.so.map fun s=>.int .i64 s)):PrIs w B (sixF u0 u1 u2 u3 u4 u5) ns l:=by
 intro k hk
 have e:xOf ns ns.length l 0=ndL ns:=by unfold xOf;rw [if_pos rfl,List.take_length];rfl
 rcases (show k=0\/k=1\/k=2\/k=3\/k=4\/k=5 by omega) with rfl | rfl | rfl | rfl | rfl | rfl
 ·rw [e];exact h0
 ·exact h1
 ·exact h2
 ·exact h3
 ·exact h4
 exact h5
theorem zb5 {x:World} {B gq:Nat} {e:TypeId} {s n:Nat} {v:Value} {xs:List Value} {a0 a1 a2 a3 a4 a5:Value} (h:x.ownsRow B e s v n xs) (he:e≠30) (hs:Six x gq a0 a1 a2 a3 a4 a5) (b0 b1 b2 b3 b4 b5:Value) :
  ((((((x.setCell ⟨gq,0,none⟩ b0).setCell ⟨gq,1,none⟩ b1).setCell ⟨gq,2,none⟩ b2).setCell ⟨gq,3,none⟩ b3).setCell ⟨gq,4,none⟩ b4).setCell ⟨gq,5,none⟩ b5).ownsRow B e s v n xs:=by
 refine zb4 h fun b hb=>?_
 have hne:b≠gq:=by
  intro e'
  subst e'
  rcases h.2 with ⟨rfl,_⟩ | ⟨g,cap,cur,rfl,_,hg,_⟩
  ·cases hb
  have:b=g:=by
   have:=Option.some.inj hb
   exact this.symm
  subst this
  have h2:=hg.symm.trans hs.heap
  injection h2 with h2
  injection h2 with _ h3 _
  exact he h3
 rw [Below.heap_setCell _ ⟨gq,5,none⟩ b5 b hne,Below.heap_setCell _ ⟨gq,4,none⟩ b4 b hne,Below.heap_setCell _ ⟨gq,3,none⟩ b3 b hne,Below.heap_setCell _ ⟨gq,2,none⟩ b2 b hne,Below.heap_setCell _ ⟨gq,1,none⟩ b1 b hne,Below.heap_setCell _ ⟨gq,0,none⟩ b0 b hne]
theorem zn4 {x:World} {gr gq:Nat} {c0 c1 c2 c3 c4 c5:Value} (h:Six x gr c0 c1 c2 c3 c4 c5) (hne:gr≠gq) (b0 b1 b2 b3 b4 b5:Value) :
  Six ((((((x.setCell ⟨gq,0,none⟩ b0).setCell ⟨gq,1,none⟩ b1).setCell ⟨gq,2,none⟩ b2).setCell ⟨gq,3,none⟩ b3).setCell ⟨gq,4,none⟩ b4).setCell ⟨gq,5,none⟩ b5) gr c0 c1 c2 c3 c4 c5:=by
 constructor
 rw [Below.heap_setCell _ ⟨gq,5,none⟩ b5 gr hne,Below.heap_setCell _ ⟨gq,4,none⟩ b4 gr hne,Below.heap_setCell _ ⟨gq,3,none⟩ b3 gr hne,Below.heap_setCell _ ⟨gq,2,none⟩ b2 gr hne,Below.heap_setCell _ ⟨gq,1,none⟩ b1 gr hne,Below.heap_setCell _ ⟨gq,0,none⟩ b0 gr hne]
 exact h.heap
theorem TY_ne (k:Nat) (hk:k<6):TY k≠30:=by
 rcases (show k=0\/k=1\/k=2\/k=3\/k=4\/k=5 by omega) with rfl | rfl | rfl | rfl | rfl | rfl<;>decide
theorem PrIs.nd0 {w:World} {B:Nat} {u0 u1 u2 u3 u4 u5:Value} {ns:List Nd} {l:Ls} (h:PrIs w B (sixF u0 u1 u2 u3 u4 u5) ns l):w.ownsRow B 75 6 u0 ns.length (ndL ns):=by
 have:=h 0 (by decide)
 have e:xOf ns ns.length l 0=ndL ns:=by unfold xOf;rw [if_pos rfl,List.take_length];rfl
 rw [e] at this
 exact this
theorem zN1 {x:World} {B gq b:Nat} {e:TypeId} {s n:Nat} {v:Value} {xs:List Value} {a0 a1 a2 a3 a4 a5:Value} (h:x.ownsRow B e s v n xs) (he:e≠30) (hs:Six x gq a0 a1 a2 a3 a4 a5) (hb:v.ownBlock=some b):¬b=gq:=by
 intro e'
 subst e'
 rcases h.2 with ⟨rfl,_⟩ | ⟨g,cap,cur,rfl,_,hg,_⟩
 ·cases hb
 have:b=g:=by
  have:=Option.some.inj hb
  exact this.symm
 subst this
 have h2:=hg.symm.trans hs.heap
 injection h2 with h2
 injection h2 with _ h3 _
 exact he h3
def Ap (u:Nat->Value):Prop:=∀ j k,3<=j->j<k->k<6->∀ b c,(u j).ownBlock=some b->(u k).ownBlock=some c->b<c
theorem ap_of {x3 x4:World} {B:Nat} {u0 u1 u2 u3 u4 u5:Value} {n3 n4:Nat} {l3 l4:List Value} (h3:x3.ownsRow B 3 1 u3 n3 l3) (h4:x4.ownsRow B 3 1 u4 n4 l4) (m4:∀ b,u4.ownBlock=some b->x3.heap.size<=b) (m5:∀ b,u5.ownBlock=some b->x4.heap.size<=b) (hk:x3.heap.size<=x4.heap.size):Ap (sixF u0 u1 u2 u3 u4 u5):=by
 intro j k hj hjk hk6 b c hb hc
 rcases (show (j=3/\k=4)\/(j=3/\k=5)\/(j=4/\k=5) by omega) with ⟨rfl,rfl⟩ | ⟨rfl,rfl⟩ | ⟨rfl,rfl⟩
 ·have h1:=(h3.lt b hb).2;have h2:=m4 c hc;omega
 ·have h1:=(h3.lt b hb).2;have h2:=m5 c hc;omega
 have h1:=(h4.lt b hb).2;have h2:=m5 c hc;omega
structure OwF (w Y:World) (gq:Nat) (u0 u1 u2 u3 u4 u5:Value) (ns:List Nd) (l:Ls):Prop where
 six:Six Y gq u0 u1 u2 u3 u4 u5
 res:Six Y (w.heap.size+1) (.slice none 0 0) (.slice none 0 0) (.slice none 0 0) (.slice none 0 0) (.slice none 0 0) (.slice none 0 0)
 ne:gq≠w.heap.size+1
 ge:w.heap.size<=gq
 ok:Ok w Y
 pr:PrIs Y w.heap.size (sixF u0 u1 u2 u3 u4 u5) ns l
 ap:Ap (sixF u0 u1 u2 u3 u4 u5)
end
end Go.Proofs.YtbneneijdgcccaaGreatDoor
