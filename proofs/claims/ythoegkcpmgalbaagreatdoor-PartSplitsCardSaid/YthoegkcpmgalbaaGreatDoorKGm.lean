import Derived.Lib.ItoaNum
import Derived.Test.YthoegkcpmgalbaaGreatDoorKFd
set_option maxHeartbeats 8000000
set_option linter.all false
set_option maxRecDepth 100000
namespace Go.Proofs.YthoegkcpmgalbaaGreatDoor
open Go.RowKit Go Go.Lib Go.Maps
variable{B N b fuel g i n s:Nat}{Q:Exit->Act->World->Prop}{a:Act}{e k:TypeId}{f:Value->Option Int}{hv key lv v:Value}{listed:Array Bool}{t:Tok}{w w':World}{xs:List Value}
def SL(w:World)(s:Nat)(v:Value)(n:Nat)(xs:List Value):Prop:=xs.length=n*s/\(∀u∈xs,u.oneCell'=true)/\∃ao cap,v=.slice ao n cap/\(n=0\/∃b o,ao=some ⟨b,o,none⟩/\b<w.heap.size/\∀j u,xs[j]?=some u->w.cell? ⟨b,o+j,none⟩=some u)
def SL.below{w1:World}(h:SL w s v n xs)(d:Ok w w1):SL w1 s v n xs:=by obtain⟨G,O,J,cap,e,L⟩:=h;exact⟨G,O,J,cap,e,L.imp id λ⟨b,o,e,D,K⟩=>⟨b,o,e,lL_ D d.le,λj u I=>d.cell (p:=⟨b,o+j,none⟩) D (K j u I)⟩⟩
def Ok.grown0(h:w.grownBy w' none):Ok w w':=(Ok.refl w).grown h (λb e=>by cases e)
def zi6(base:Nat)(t J e:TypeId)(i:TypeInfo)(size c:Nat)(w:World)(G:Tryz.prog.underlying t=some (.slice e))(D:Tryz.prog.info? e=some i)
  (v:Value) (n:Nat) (xs:List Value) (d:w.ownsRow base e size v n xs) :
  (Builtin.append_ #[t,t] J #[v,.slice none 0 c]).run Tryz.prog w=.ok v w:=by
 rcases d.2 with ⟨rfl,rfl⟩ | ⟨g,cap,I,rfl,_,_,o,_⟩
 ·simp[Builtin.append_,run_underlying G,sizeOf,typeInfo,D,Builtin.lenOf,Builtin.firstCells]
 simp[Builtin.append_,run_underlying G,sizeOf,typeInfo,D,Builtin.lenOf,Builtin.firstCells,o,storeCells]
def yI3(w:World)(base:Nat)(e:TypeId)(s:Nat)(d:base<=w.heap.size):(w.alloc (.cells #[] e)).ownsRow base e s (.slice (sA w.heap.size 0) 0 0) 0 []:=by have:=World.ownsRow_lit (base:=base) (e:=e) (size:=s) w #[] 0 d (zL_ _) sI;simpa using this
def ze4{ops:Array Oper}{L:List Oper}{op:Oper}(W:op.guard=none)(s x:Operand)(X R:TypeId)(J I:Nat)(z:Value)
  (ho:op.op=.call { callee:=.builtin .append,args:=#[s,x],argTypes:=#[X,X] })
  (D:Tryz.prog.underlying X=some (.slice R)) (a1:(Tryz.prog.info? R).map (λi=>(i.zero,i.size,i.bytes))=some (some z,J,I)) (a3:z.cells.size=J) (a5:0<J) (a6:0<I)
  (base:Nat) (sv:Value) (k:Nat) (ys:List Value) (hs:a.eval s=sv) (d:w.ownsRow base R J sv k ys) (v:Value) (n:Nat) (xs:List Value) (hx:a.eval x=v) (hT:SL w J v n xs)
  (hb:(k+n)*I<=140737488355328) (G:base<=w.heap.size)
  (h:∀Y w',w'.ownsRow base R J Y (k+n) (ys++xs)->w.grownBy w' sv.ownBlock->wpList Tryz.prog ops Q L (a.put op.dst Y) w'):wpList Tryz.prog ops Q (op::L) a w:=by
 obtain⟨i,hi,hz,a2,Z⟩:=zg6 a1;obtain⟨h0,h1,ao,cap,rfl,h2⟩:=hT
 cases ao with
 | none =>
  have hn:n=0:=by
   rcases h2 with h2 | ⟨b,o,e,_⟩
   ·exact h2
   cases e
  subst hn;have O:xs=[]:=aW oM;subst O;refine wpList_plain W λK hK=>?_;have a4:=zi6 base X op.type R i J cap w D hi sv k ys d;unfold Oper.wp;simp[execOp,ho,resolve,invoke,builtin,hs,hx,a4,Result.andThen];exact hK _ _ (h _ _ (by rw[bD];exact d) (World.grownBy.refl w _))
 | some ad =>
  by_cases hn:n=0
  ·subst hn
   have O:xs=[]:=aW oM;subst O;refine wpList_append_own_at w W s x X ho base R i z J I D hi hz a2 Z a3 a5 _ k ys hs d ad 0 cap [] hx (by simp) (by intro j u hj;simp at hj) (by simp) (by have:=dT (k+0) a6;unfold maxLen;omega) hb G ?_;intro Y w' K k2 k3 k4;exact h Y w' K k2
  obtain⟨b,o,e,hl,hc⟩:=h2.resolve_left hn;cases e;refine wpList_append_own_at w W s x X ho base R i z J I D hi hz a2 Z a3 a5 _ k ys hs d ⟨b,o,none⟩ n cap xs hx h0 (by intro j u hj;rw[zb7];exact hc j u hj) h1 (by have:=dT (k+n) a6;unfold maxLen;omega) hb G ?_;intro Y w' K k2 k3 k4;exact h Y w' K k2
def yj8{cap:Nat}{m:Nat}{ys:List Value}(h:w.ownsRow B e s (.slice (sA g 0) m cap) m (xs++ys))(K:xs.length=n*s)(I:n<=m):w.ownsRow B e s (.slice (sA g 0) n cap) n xs:=by
 refine⟨K,?_⟩;rcases h.2 with ⟨o,_⟩ | ⟨W,D,d,o,L,J,Y,G,O,R⟩
 ·cases o
 injection o with e2 e3 e4
 injection e2 with e2
 injection e2 with e2
 subst e2 e4;refine .inr ⟨g,cap,d,rfl,L,J,oM,G,O,?_⟩;have X:(xs++ys).length=m*s:=h.1;have:xs=(xs++ys).take (n*s):=by rw[fW oM,bE oM]
 rw[this,<-R,List.take_take]
 congr 1
 have:=fX s I;omega
def SL.one(w:World)(t:TypeId)(xs:List Value)(d:xs.length=1*s)(o:∀u∈xs,u.oneCell'=true):SL (w.alloc (.cells xs.toArray t)) s (.slice (sA w.heap.size 0) 1 1) 1 xs:=by refine⟨d,o,_,1,rfl,.inr ⟨_,0,rfl,by simp,λj u D=>?_⟩⟩;rw[aL];exact(cell_of_row _ _ j _ _ _ (za3 _ _)).trans (by simpa using D)
def zC1(ty lT eT:TypeId)(I D:Nat)(z:Value)(G:Tryz.prog.underlying lT=some (.slice eT))(R:(Tryz.prog.info? eT).map (λi=>(i.zero,i.size,i.bytes))=some (some z,I,D))(a2:z.cells.size=I)(a3:0<I)(a4:0<D)
  (base:Nat) (O:Value) (k:Nat) (ys:List Value) (d:w.ownsRow base eT I O k ys) (v:Value) (n:Nat) (xs:List Value) (hT:SL w I v n xs)
  (hb:(k+n)*D<=140737488355328) (K:base<=w.heap.size):∃W w',(Builtin.append_ #[lT,lT] ty #[O,v]).run Tryz.prog w=.ok W w'/\w'.ownsRow base eT I W (k+n) (ys++xs)/\w.grownBy w' O.ownBlock:=by
 obtain⟨i,hi,hz,a1,Y⟩:=zg6 R;obtain⟨h0,h1,ao,cap,rfl,L⟩:=hT;have hm:k+n<=maxLen:=by have:=dT (k+n) a4;unfold maxLen;omega
 cases ao with
 | none =>
  have X:n=0:=by
   rcases L with L | ⟨b,o,e,_⟩
   ·exact L
   cases e
  subst X;have J:xs=[]:=aW oM;subst J;exact⟨O,w,zi6 base lT ty eT i I cap w G hi O k ys d,by rw[bD];exact d,World.grownBy.refl w _⟩
 | some ad =>
  have X:∀j u,xs[j]?=some u->w.cell? (ad.add j)=some u:=by
   rcases L with L | ⟨b,o,e,hl,X⟩
   ·subst L
    have J:xs=[]:=aW oM;subst J;intro j u Z;simp at Z
   cases e;intro j u Z;rw[zb7];exact X j u Z
  obtain⟨W,w',r1,r2,Z,_⟩:=run_append_own w base lT ty eT i z I D G hi hz a1 Y a2 a3 O k ys d ad n cap xs h0 X h1 hm hb K;exact⟨W,w',r1,r2,Z⟩
def zj0{ops:Array Oper}{o:Oper}{K:Act->World->Prop}{E:Prop}(Y:o.guard=none)(s x:Operand)(W J:TypeId)(D d:Nat)(z:Value)
  (ho:o.op=.call { callee:=.builtin .append,args:=#[s,x],argTypes:=#[W,W] })
  (I:Tryz.prog.underlying W=some (.slice J)) (O:(Tryz.prog.info? J).map (λi=>(i.zero,i.size,i.bytes))=some (some z,D,d)) (Z:z.cells.size=D) (a1:0<D) (a2:0<d)
  (base:Nat) (R:Value) (k:Nat) (ys:List Value) (hs:a.eval s=R) (L:w.ownsRow base J D R k ys) (v:Value) (n:Nat) (xs:List Value) (hx:a.eval x=v) (hT:SL w D v n xs)
  (hb:(k+n)*d<=140737488355328) (G:base<=w.heap.size)
  (h:∀X w',w'.ownsRow base J D X (k+n) (ys++xs)->w.grownBy w' R.ownBlock->K (a.put o.dst X) w') :
  if Region.wanted o (yielded ops a.tmps)=true then Oper.wp Tryz.prog o a w K Q else E:=by
 have hw:Region.wanted o (yielded ops a.tmps)=true:=by simp[Region.wanted,Y]
 rw[aG hw];obtain⟨X,w',r1,r2,r3⟩:=zC1 o.type W J D d z I O Z a1 a2 base R k ys L v n xs hT hb G;unfold Oper.wp execOp;simp only[ho,resolve,invoke,builtin,Sem.run_bind,Sem.run_pure,Result.andThen_ok,fT,dK,eK,hs,hx,r1];exact h X w' r2 r3
variable {P:Program} {ops:Array Oper} {Q:Exit->Act->World->Prop} {md:Region.Mode} {S:World->Prop} {n:Nat}
def EU(P:Program)(md:Region.Mode)(ops:Array Oper)(Q:Exit->Act->World->Prop)(S:World->Prop)(n:Nat):Nat->Array Bool->Act->World->Prop
 | 0,listed,a,w=>Region.ready md ops listed=[]/\Q .normal a w
 | fuel+1,listed,a,w =>
  (Region.ready md ops listed=[]->Q .normal a w) /\
  ∀i∈Region.ready md ops listed,wpOp P ops Q i (λa' w'=>(i≠n->S w')/\EU P md ops Q S n fuel (listed.setIfInBounds i true) a' w') a w
def zy3:∀(fuel:Nat) (listed:Array Bool) (a:Act) (w:World),EU P md ops Q S n fuel listed a w->wpAny P md ops Q fuel listed a w
 | 0,_,_,_,h=>h
 | fuel+1,_,_,_,h=>⟨h.1,λi D=>wpOp_mono (λo w' d=>zy3 fuel _ o w' d.2) (h.2 i D)⟩
def zI8{oi:Oper}(hi:ops[i]?=some oi)(J:∀(j:Nat) (o:Oper) cs b,ops[j]?=some o->o.op≠.select cs b)
  (hw:∃ol,ops[n]?=some ol/\∃e∈ol.after,Region.binds md e=true/\e.on=i)
  (hQ:∀c a w,Q (.panic c) (a.put oi.dst v) w->Q (.panic c) a w) :
  ∀(fuel:Nat) (listed:Array Bool) (a:Act) (w:World),
   (∀j R,ops[j]?=some R->j≠i->listed.getD j true=false->(∀e∈R.after,Region.binds md e=true->e.on≠i)->oi.apart ops R=true) ->
   i∈Region.ready md ops listed->YieldsIf P ops S oi v a->S w ->
   EU P md ops Q S n fuel (listed.setIfInBounds i true) (a.put oi.dst v) w->EU P md ops Q S n (fuel+1) listed a w:=by
 intro fuel
 induction fuel with
 | zero =>
  intro listed a w _ O hy hS H;refine⟨λh=>(by rw[h]at O;cases O),λj hj=>?_⟩;by_cases d:j=i
  ·subst d;exact hy.wpOp hi hS ⟨λ_=>hS,H⟩
  have:=ready_mono hj d;rw[H.1]at this;cases this
 | succ fuel ih =>
  intro listed a w D O hy hS H;refine⟨λh=>(by rw[h]at O;cases O),λj hj=>?_⟩;by_cases d:j=i
  ·subst d;exact hy.wpOp hi hS ⟨λ_=>hS,H⟩
  have W:=H.2 j (ready_mono hj d);obtain⟨K,R,G,a1⟩:=mem_ready.1 hj
  have L:∀e∈R.after,Region.binds md e=true->e.on≠i:=λe he hb a3=>by
   have W:=a1 e he hb;have I:=(mem_ready.1 O).1;rw[a3]at W;rcases cC i listed.size with h' | h'
   ·simp[h']at I W;rw[I]at W;cases W
   simp[cU h']at W
  have a5:j≠n:=by rintro rfl;obtain⟨ol,X,e,Z,I,Y⟩:=hw;rw[G]at X;cases X;exact L e Z I Y
  have h2:=wpOp_putIf G (D j R G d K L) (λcs b=>J i oi cs b hi) (λcs b=>J j R cs b G) hQ hy W
  have I:∀k ok,ops[k]?=some ok->k≠i->(listed.setIfInBounds j true).getD k true=false ->
    (∀e∈ok.after,Region.binds md e=true->e.on≠i)->oi.apart ops ok=true:=λk ok hk a2 Z a4=>by
   refine D k ok hk a2 ?_ a4;by_cases Y:j=k
   ·subst Y;exact K
   rw[getD_set_ne true Y]at Z;exact Z
  refine wpOp_mono (λa' w' X=>⟨X.2.1,ih (listed.setIfInBounds j true) a' w' I (ready_mono O (eL d)) X.1 (X.2.1 a5) ?_⟩) h2;rw[hC _ _ d];exact X.2.2
def wd1(md:Region.Mode)(ops:Array Oper)(n i:Nat):Bool :=
 match ops[n]? with
 | some o=>o.after.any λe=>Region.binds md e&&(e.on==i)
 | none=>false
def zD2(h:wd1 md ops n i=true):∃D,ops[n]?=some D/\∃e∈D.after,Region.binds md e=true/\e.on=i:=by
 unfold wd1 at h
 split at h
 ·rename_i o ho
  refine⟨o,ho,?_⟩;rw[gJ]at h;obtain⟨e,G,d⟩:=h;simp only[bM,bZ]at d;exact⟨e,G,d.1,d.2⟩
 cases h
def zO2{oi:Oper}(d:ops[i]?=some oi)
  (K:Region.noSelect ops=true) (G:Region.free md ops listed i=true) (L:(Region.ready md ops listed).contains i=true) (o:wd1 md ops n i=true)
  (I:∀c a w,Q (.panic c) (a.put oi.dst v) w->Q (.panic c) a w) (D:S w) (J:YieldsIf P ops S oi v a)
  (h:EU P md ops Q S n fuel (listed.setIfInBounds i true) (a.put oi.dst v) w):EU P md ops Q S n (fuel+1) listed a w :=
 zI8 d (Region.noSelect_spec K) (zD2 o) I fuel listed a w (Region.free_spec d G) (by simpa using L) J D h
def tL{P:Program}{ops:Array Oper}{md:Region.Mode}{S:World->Prop}{n:Nat}(i:Nat)(v:Value){d:Oper}{listed:Array Bool}{a:Act}{w:World}(G:S w)(L:∀w',S w'->Sem.run P (execOp a.eval d) w'=Result.ok (Next.value v) w')(h:EU P md ops Q S n fuel (listed.setIfInBounds i true) (a.put d.dst v) w)(I:ops[i]?=some d:=by rfl)(O:Region.noSelect ops=true:=by kernel_rfl)(J:Region.free md ops listed i=true:=by kernel_rfl)(R:(Region.ready md ops listed).contains i=true:=by kernel_rfl)(o:wd1 md ops n i=true:=by kernel_rfl)(D:Region.wanted d (yielded ops a.tmps)=true:=by rfl)(K:∀c a w,Q (.panic c) (a.put d.dst v) w->Q (.panic c) a w:=by exact λ_ _ _ h=>h):EU P md ops Q S n (fuel+1) listed a w:=zO2 I O J R o K G (Or.inl ⟨D,L⟩) h
def tH{P:Program}{ops:Array Oper}{md:Region.Mode}{S:World->Prop}(i:Nat)(v:Value){d:Oper}{listed:Array Bool}{a:Act}{w:World}(K:∀w',S w'->Sem.run P (execOp a.eval d) w'=Result.ok (Next.value v) w')(D:S w)(h:wpAnyH P md ops Q S fuel (listed.setIfInBounds i true) (a.put d.dst v) w)(G:ops[i]?=some d:=by rfl)(L:Region.noSelect ops=true:=by kernel_rfl)(I:Region.free md ops listed i=true:=by kernel_rfl)(O:(Region.ready md ops listed).contains i=true:=by kernel_rfl)(o:Region.wanted d (yielded ops a.tmps)=true:=by rfl)(J:∀c a w,Q (.panic c) (a.put d.dst v) w->Q (.panic c) a w:=by exact λ_ _ _ h=>h):wpAnyH P md ops Q S (fuel+1) listed a w:=wpAnyH_take G L I O J (Or.inl ⟨o,K⟩) D h
def tJ{P:Program}{ops:Array Oper}{Q:Exit->Act->World->Prop}{md:Region.Mode}{S:World->Prop}(i:Nat)(v:Value){d:Oper}{fuel:Nat}{listed:Array Bool}{a:Act}{w:World}(G:S w)(h:wpAnyH P md ops Q S fuel (listed.setIfInBounds i true) (a.put d.dst v) w)(I:ops[i]?=some d:=by rfl)(O:Region.noSelect ops=true:=by kernel_rfl)(J:Region.free md ops listed i=true:=by kernel_rfl)(R:(Region.ready md ops listed).contains i=true:=by kernel_rfl)(o:Region.wanted d (yielded ops a.tmps)=true:=by rfl)(K:∀c a w,Q (.panic c) (a.put d.dst v) w->Q (.panic c) a w:=by exact λ_ _ _ h=>h)(L:∀w',S w'->Sem.run P (execOp a.eval d) w'=Result.ok (Next.value v) w':=by intro w' D;clear D;go_simp;try with_reducible rfl):wpAnyH P md ops Q S (fuel+1) listed a w:=wpAnyH_take I O J R K (Or.inl ⟨o,L⟩) G h
def tK{P:Program}{ops:Array Oper}{Q:Exit->Act->World->Prop}{md:Region.Mode}{S:World->Prop}{n:Nat}(i:Nat)(v:Value){d:Oper}{fuel:Nat}{listed:Array Bool}{a:Act}{w:World}(I:S w)(h:EU P md ops Q S n fuel (listed.setIfInBounds i true) (a.put d.dst v) w)(J:ops[i]?=some d:=by rfl)(R:Region.noSelect ops=true:=by kernel_rfl)(K:Region.free md ops listed i=true:=by kernel_rfl)(W:(Region.ready md ops listed).contains i=true:=by kernel_rfl)(o:wd1 md ops n i=true:=by kernel_rfl)(D:Region.wanted d (yielded ops a.tmps)=true:=by rfl)(L:∀c a w,Q (.panic c) (a.put d.dst v) w->Q (.panic c) a w:=by exact λ_ _ _ h=>h)(O:∀w',S w'->Sem.run P (execOp a.eval d) w'=Result.ok (Next.value v) w':=by intro w' G;clear G;go_simp;try with_reducible rfl):EU P md ops Q S n (fuel+1) listed a w:=tL i v I O h J R K W o D L
def zb0{o:Oper}(I:Region.ready md ops listed=[i])(O:ops[i]?=some o)
  (h:∀d:Act->World->Prop,Shut (∀a w,(i≠n->S w)->EU P md ops Q S n fuel (listed.setIfInBounds i true) a w->d a w)->if Region.wanted o (yielded ops a.tmps)=true then Oper.wp P o a w d Q else d (a.put o.dst undef) w) :
  EU P md ops Q S n (fuel+1) listed a w:=by
 refine⟨λD=>(by rw[I]at D;cases D),λj G=>?_⟩;rw[I,aT]at G;subst G;exact wpOp_step O (λd J=>h d (λa w L K=>J a w ⟨L,K⟩))
def zd4(hr:Region.ready md ops listed=[])(h:Q .normal a w) :
  ∀fuel,EU P md ops Q S n fuel listed a w
 | 0=>⟨hr,h⟩
 | _+1=>⟨λ_=>h,by rw[hr];simp⟩
def zd5{id:Nat}(S:World->Prop)(n:Nat)(d:P.follows .mixedOrders=true)
  (h:EU P .any ops Q S n ops.size (Array.replicate ops.size false) a w.drew):(Code.region id ops true).wp P Q a w :=
 wp_region_any d (zy3 _ _ _ _ h)
def goP(ls:List Lk):Nat->List Int->Option Nat
 | v,[]=>some v
 | v,k::t=>match (if 0<=k then wb5 ls v k.toNat else none) with
  | none=>none
  | some u=>goP ls u t
def zP9(ls:List Lk)(v:Nat)(k:Int)(t:List Int):goP ls v (k::t)=(if 0<=k then wb5 ls v k.toNat else none).bind λu=>goP ls u t:=by
 conv=>lhs;unfold goP
 cases (if 0<=k then wb5 ls v k.toNat else none)<;>rfl
def yb5(ls:List Lk):∀(v:Nat) (a b:List Int),goP ls v (a++b)=(goP ls v a).bind λu=>goP ls u b
 | v,[],b=>rfl
 | v,k::a,b=>by
  rw[cE,zP9,zP9]
  cases (if 0<=k then wb5 ls v k.toNat else none) with
  | none=>rfl
  | some u=>exact yb5 ls u a b
def yy1(ls:List Lk)(v:Nat)(k:Int):goP ls v [k]=if 0<=k then wb5 ls v k.toNat else none:=by
 unfold goP
 cases (if 0<=k then wb5 ls v k.toNat else none)<;>rfl
def zn0{u:Nat}(h:u<10):decDigits u=[UInt8.ofNat (48+u)]:=by rw[decDigits,dif_pos h]
def zx1{u:Nat}(h:¬u<10):decDigits u=decDigits (u/10)++[UInt8.ofNat (48+u%10)]:=by rw[decDigits,dif_neg h]
def wm9(u:Nat):decDigits u≠[]:=by
 by_cases h:u<10
 ·rw[zn0 h];simp
 rw[zx1 h];simp
def yb6{a:Nat}(d:a<256)(o:b<256)(h:UInt8.ofNat a=UInt8.ofNat b):a=b:=by have:=cA UInt8.toNat h;simp only[UInt8.toNat_ofNat']at this;omega
def yv4(u:Nat):∀v,decDigits u=decDigits v->u=v:=by
 induction u using Nat.strongRecOn with
 | _ u ih =>
  intro v h;by_cases c:u<10
  ·by_cases d:v<10
   ·rw[zn0 c,zn0 d]at h
    simp only[cJ,gK]at h;have:=yb6 oM oM h;omega
   exfalso;rw[zn0 c,zx1 d]at h;have:=cA List.length h;rw[aA,aZ,aZ]at this;exact wm9 (v/10) (aW oM)
  by_cases d:v<10
  ·exfalso
   rw[zx1 c,zn0 d]at h;have:=cA List.length h;rw[aA,aZ,aZ]at this;exact wm9 (u/10) (aW oM)
  rw[zx1 c,zx1 d]at h;obtain⟨D,o⟩:=List.append_inj' h rfl;simp only[cJ,gK]at o;have G:=ih (u/10) oM (v/10) D;have I:=yb6 oM oM o;omega
def yb7(u:Nat):∀c∈decDigits u,(48:UInt8)<=c/\c<=57:=by
 have key:∀d,d<10->(48:UInt8)<=UInt8.ofNat (48+d)/\UInt8.ofNat (48+d)<=57:=by decide
 induction u using Nat.strongRecOn with
 | _ u ih =>
  intro c hc;by_cases h:u<10
  ·rw[zn0 h]at hc
   rw[aT.1 hc];exact key u h
  rw[zx1 h]at hc;rcases bA.1 hc with hc | hc
  ·exact ih (u/10) oM c hc
  rw[aT.1 hc];exact key (u%10) oM
def zz7:Dig itoa:=by
 refine⟨λa b h=>?_,λa c hc=>?_,λa h=>?_⟩
 ·have o:∀u v:Nat,45::decDigits u≠decDigits v:=λu v e=>by
   have:=yb7 v 45 (by rw[<-e];exact aY);exact absurd this.1 dC
  unfold itoa at h;by_cases c:a<0
  ·by_cases d:b<0
   ·rw[aG c,aG d]at h
    simp only[cJ,gI]at h;have:=yv4 _ _ h;omega
   rw[aG c,aC d]at h;exact absurd h (o _ _)
  by_cases d:b<0
  ·rw[aC c,aG d]at h
   exact absurd h.symm (o _ _)
  rw[aC c,aC d]at h;have:=yv4 _ _ h;omega
 ·unfold itoa at hc
  split at hc
  ·rcases bJ.1 hc with e | hc
   ·exact .inl e
   exact .inr (yb7 _ c hc)
  exact .inr (yb7 _ c hc)
 unfold itoa at h
 split at h
 ·cases h
 exact wm9 _ h
def ilL(l:List Int):List Value:=l.map λx=>nI x
def lpL(l:List (Int×Int)):List Value:=l.flatMap λx=>[nI x.1,nI x.2]
def zz8:∀(l:List (Int×Int)),(lpL l).length=l.length*2
 | []=>rfl
 | x::l=>by
  have e:lpL (x::l)=[nI x.1,nI x.2]++lpL l:=by simp[lpL]
  rw[e,aA,zz8 l,aR];simp;omega
def zi1:∀(l:List (Int×Int)) (k:Nat) (x:Int×Int),l[k]?=some x->(lpL l)[k*2]?=some (nI x.1)/\(lpL l)[k*2+1]?=some (nI x.2)
 | [],k,x,h=>by simp at h
 | y::l,k,x,h=>by
  have e:lpL (y::l)=nI y.1::nI y.2::lpL l:=by simp[lpL]
  cases k with
  | zero =>
   simp only[bR,cD]at h;subst h;rw[e];exact⟨rfl,rfl⟩
  | succ k =>
   simp only[bF]at h;obtain⟨d,o⟩:=zi1 l k x h;rw[e,show(k+1)*2=k*2+1+1 by omega];exact⟨d,o⟩
structure EA(w:World)(hv lv:Value)(t:Tok):Prop where
 hist:SL w 1 hv t.2.1.length (ilL t.2.1)
 loops:SL w 2 lv t.2.2.length (lpL t.2.2)
 cap:∀ao n c,lv=.slice ao n c->n<=c
def EA.below(h:EA w hv lv t)(d:Ok w w'):EA w' hv lv t:=⟨h.hist.below d,h.loops.below d,h.cap⟩
structure AD(w:World)(B:Nat)(hv lv:Value)(t:Tok):Prop where
 hist:w.ownsRow B 3 1 hv t.2.1.length (ilL t.2.1)
 loops:w.ownsRow B 117 2 lv t.2.2.length (lpL t.2.2)
def AD.ok(h:AD w B hv lv t)(d:Ok w w'):AD w' B hv lv t:=⟨za1 h.hist d,za1 h.loops d⟩
def AD.base{B':Nat}(h:AD w B hv lv t)(d:B'<=B):AD w B' hv lv t:=⟨za7 h.hist d,za7 h.loops d⟩
def zt1(h:w.ownsRow B e s v n xs)(D:∀u∈xs,u.oneCell'=true)(I:0<s):SL w s v n xs:=by
 obtain⟨o,cap,rfl⟩:=za0 h;refine⟨h.1,D,o,cap,rfl,?_⟩;by_cases c:n=0
 ·exact .inl c
 right;obtain⟨g,G,e,_⟩:=h.form oM
 injection e with e1 e2 e3
 subst e1;exact⟨g,0,rfl,(h.lt g rfl).2,λj u d=>by have:=h.cells (g:=g) rfl j u d;rw[zb7]at this;exact this⟩
def zJ6(l:List Int):∀u∈ilL l,u.oneCell'=true:=λu d=>by obtain⟨x,_,rfl⟩:=bX.1 d;rfl
def yb8(l:List (Int×Int)):∀u∈lpL l,u.oneCell'=true:=λu o=>by
 obtain⟨x,_,d⟩:=eH.1 o;simp only[bJ,dE,fL]at d
 rcases d with rfl | rfl<;>rfl
def yy2(h:w.ownsRow B e s v n xs):∀o m c,v=.slice o m c->m<=c:=by
 intro o m c hv;rcases h.2 with ⟨d,_⟩ | ⟨g,cap,D,d,_,_,G,_⟩
 ·rw[hv]at d
  injection d with _ e2 e3
  omega
 rw[hv]at d
 injection d with _ e2 e3
 omega
def AD.is(h:AD w B hv lv t):EA w hv lv t:=⟨zt1 h.hist (zJ6 _) dC,zt1 h.loops (yb8 _) dC,yy2 h.loops⟩
def yb9{h:Int}{x:Int×Int}(d:t.2.2[t.2.2.length-1]?=some x):ET t h=(x.1==h):=by unfold ET;rw[fA,d]
def zz9{h:Int}(d:t.2.2=[]):ET t h=false:=by unfold ET;rw[d];rfl
def zx2(m:Bool)(hv lv:Value)(t:Tok)(h:Int)(w:World)(o:EA w hv lv t)(L:t.2.2.length<1000000000000000) :
  Calls Tryz.prog 144 #[.agg #[.bool m,hv,lv],nI h] w λe w'=>e=.returned (.bool (ET t h))/\Ok w w':=by
 obtain⟨_,_,ho,Z,rfl,_⟩:=o.hist;obtain⟨_,_,O,R,rfl,K⟩:=o.loops;obtain⟨q,D⟩:=qq (t.2.1.length);obtain⟨n,d⟩:=qq (t.2.2.length);rw[<-D,<-d];have J:Hi (n=t.2.2.length):=d;have HT:Hi (SL w 2 (.slice O n R) n (lpL t.2.2)):=by rw[d];exact o.loops
 rw[<-d]at L K;clear D d o
 cases n with
 | zero =>
  have I:Hi (ET t h=false):=zz9 (aW J.o.symm);go_enter Tryz.func144,Tryz.ntmps144;go_wp2_with fail;go_ret;exact⟨by rw[I.o];rfl,(Ok.refl w).alloc _⟩
 | succ k =>
  obtain⟨b,o,e,hb,D⟩:=K.resolve_left oM;subst e;have d:k<t.2.2.length:=oH J.o
  obtain⟨x,G⟩:∃x,t.2.2[k]?=some x:=⟨_,gG_ d⟩;have I:Hi (ET t h=(x.1==h)):=yb9 (by rw[<-J.o];exact G);have Y:w.cell? ⟨b,o+k*2,none⟩=some (nI x.1):=D _ _ (zi1 _ _ _ G).1;have X:IntKind.i64.wrap (((k+1:Nat):Int)-1)=(k:Int):=by rw[IntKind.wrap_i64];omega
  have W:wrap64 (k:Int)=(k:Int):=by unfold wrap64;omega
  have k0:(0:Int)<=(k:Int):=oM;clear G D L d;go_enter Tryz.func144,Tryz.ntmps144;go_wp2_with fail;go_ret;exact⟨by rw[I.o];rfl,(Ok.refl w).alloc _⟩
def wj4:(Tryz.prog.info? 117).map (λi=>(i.zero,i.size,i.bytes))=some (some (.agg #[nI 0,nI 0]),2,16):=by kernel_rfl
def wb7:(Tryz.prog.info? 3).map (λi=>(i.zero,i.size,i.bytes))=some (some (nI 0),1,8):=by kernel_rfl
def EV:(Tryz.prog.info? 74).map (·.size)=some 3:=by kernel_rfl
def zd9{u x:Value}{t:TypeId}(d:w.heap[g]?=some (.cells #[u,v,x] t (0,0)))(a b c:Value):(((w.setCell (aD g 0) a).setCell (aD g 1) b).setCell (aD g 2) c).heap[g]?=some (.cells #[a,b,c] t (0,0)):=by have o:=heap_setCell_same w g 0 _ t a d;have G:=heap_setCell_same _ g 1 _ t b o;have D:=heap_setCell_same _ g 2 _ t c G;simpa using D
def za9{u x:Value}{t:TypeId}(h:w.heap[g]?=some (.cells #[u,v,x] t (0,0))) :
  w.cell? (aD g 0)=some u/\w.cell? (aD g 1)=some v/\w.cell? (aD g 2)=some x/\w.frozen? (aD g 0)=false/\w.frozen? (aD g 1)=false/\w.frozen? (aD g 2)=false :=
 ⟨(cell_of_row _ _ 0 _ _ _ h).trans sI,(cell_of_row _ _ 1 _ _ _ h).trans sI,(cell_of_row _ _ 2 _ _ _ h).trans sI,frozen_of_row _ _ _ _ _ h,frozen_of_row _ _ _ _ _ h,frozen_of_row _ _ _ _ _ h⟩
def zf6(h:w.ownsRow B e s v n xs)(D:g<B)(a b c:Value):(((w.setCell (aD g 0) a).setCell (aD g 1) b).setCell (aD g 2) c).ownsRow B e s v n xs :=
 zb4 h λk o=>by
  have d:k≠g:=by have:=(h.lt k o).1;omega
  rw[Below.heap_setCell _ _ _ _ d,Below.heap_setCell _ _ _ _ d,Below.heap_setCell _ _ _ _ d]
def cpT(t:Tok):Tok:=if t.1=true then EG else t
def zi2(hv lv:Value)(t:Tok)(w:World)(d:EA w hv lv t)(I:t.2.1.length*8<=140737488355328/\t.2.2.length*16<=140737488355328) :
  Calls Tryz.prog 102 #[.agg #[.bool t.1,hv,lv]] w λe w'=>∃a3 a2,e=.returned (.agg #[.bool t.1,a3,a2])/\AD w' w.heap.size a3 a2 (cpT t)/\Ok w w':=by
 have G:=hid d;have HB:=hid I;obtain⟨_,_,ho,O,rfl,_⟩:=d.hist;obtain⟨_,_,L,R,rfl,_⟩:=d.loops;obtain⟨m,D⟩:=qq (t.1);have HM:Hi (m=t.1):=D;rw[<-D];clear d I D;obtain⟨q,D⟩:=qq (t.2.1.length);obtain⟨n,d⟩:=qq (t.2.2.length);have HQ:Hi (q=t.2.1.length/\n=t.2.2.length):=⟨D,d⟩;rw[<-D,<-d];have X:Hi (SL w 1 (.slice ho q O) q (ilL t.2.1)):=by rw[D];exact G.o.hist
 have Z:Hi (SL w 2 (.slice L n R) n (lpL t.2.2)):=by rw[d];exact G.o.loops
 clear D d G;go_enter Tryz.func102,Tryz.ntmps102
 cases m with
 | true =>
  have HE:Hi (cpT t=EG):=by unfold Hi cpT;rw[aG HM.o.symm]
  go_wp2_with fail;(try simp only[Exit.inBlock,Exit.then]);refine bodyPost_ret (results_cell_row rfl _ _ (w.heap.size+1) 74 #[_,_,_] (0,0) _ rfl jj Tryz.underlying74 rfl EV) rfl ?_;exact⟨_,_,rfl,by rw[HE.o];exact⟨World.ownsRow_nil _ _ _ _,World.ownsRow_nil _ _ _ _⟩,((Ok.refl w).alloc _).alloc _⟩
 | false =>
  have HE:Hi (cpT t=t):=by unfold Hi cpT;rw[aC (by rw[<-HM.o];decide)]
  go_wp2_with fail;obtain⟨W,G⟩:=qq ((w.alloc (Obj.cells #[.bool false,.slice ho q O,.slice L n R] 74)).alloc (Obj.cells #[.bool false,sZ,sZ] 74));obtain⟨gr,d⟩:=qq (w.heap.size+1);obtain⟨gp,D⟩:=qq (w.heap.size);rw[<-G,<-d,<-D];have HK:Hi (Ok w W):=by rw[G];exact((Ok.refl w).alloc _).alloc _
  have HP:Hi (W.heap[gp]?=some (.cells #[Value.bool false,Value.slice ho q O,Value.slice L n R] 74 (0,0))):=by rw[G,D];exact jj
  have HR:Hi (W.heap[gr]?=some (.cells #[Value.bool false,sZ,sZ] 74 (0,0))):=by rw[G,d];exact jj
  have HG:Hi (w.heap.size<=gr):=by unfold Hi;omega
  clear G d D;replace X:Hi (∀Y,Ok W Y->SL Y 1 (.slice ho q O) q (ilL t.2.1)):=λY hY=>X.o.below (HK.o.step hY);replace Z:Hi (∀Y,Ok W Y->SL Y 2 (.slice L n R) n (lpL t.2.2)):=λY hY=>Z.o.below (HK.o.step hY)
  have a1:Hi (∀Y,Ok W Y->Y.cell? (aD gp 1)=some (.slice ho q O)/\Y.cell? (aD gp 2)=some (.slice L n R)/\gp<Y.heap.size):=λY hY=>by have h:=Ok.row' hY HP.o;exact⟨(cell_of_row _ _ 1 _ _ _ h).trans sI,(cell_of_row _ _ 2 _ _ _ h).trans sI,za2 h⟩
  have S0:Ok W W.drew:=Below.drew (Ok.refl _);refine zd5 (λY=>Ok W Y) 7 kR ?_;refine tL 0 (pA gp 1) S0 ?_ ?_
  ·intro w' J;clear J;go_simp;try with_reducible rfl
  simp only[pu];refine tL 1 (.slice ho q O) S0 ?_ ?_
  ·intro w' J;obtain⟨z1,z2,z3⟩:=a1.o w' J;clear J;go_simp;try with_reducible rfl
  simp only[pu];refine tL 3 (pA gp 2) S0 ?_ ?_
  ·intro w' J;clear J;go_simp;try with_reducible rfl
  simp only[pu];refine tL 4 (.slice L n R) S0 ?_ ?_
  ·intro w' J;obtain⟨z1,z2,z3⟩:=a1.o w' J;clear J;go_simp;try with_reducible rfl
  simp only[pu];refine zb0 (i:=2) kR rfl (λK d=>?_);refine zj0 rfl _ _ 28 3 1 8 _ rfl Tryz.underlying28 wb7 (by rfl) dC dC W.heap.size (sZ) 0 [] (by rfl) (World.ownsRow_nil _ _ _ _) (.slice ho q O) q (ilL t.2.1) (by rfl) (X.o _ (Below.drew (Ok.refl _))) (oK HB.o.1 HQ.o.1) (nR_ _) ?_;intro v1 w1 G k2;rw[aL,cV]at G;have D:Hi (Ok W w1):=Ok.step (Below.drew (Ok.refl _)) (Ok.grown0 k2);have a4:=hid G;obtain⟨vo,vc,rfl⟩:=za0 G;clear G k2;refine d.out _ _ (λ_=>D.o) ?_;clear d K;simp only[pu];refine zb0 (i:=5) kR rfl (λK d=>?_);refine zj0 rfl _ _ 72 117 2 16 _ rfl Tryz.underlying72 wj4 (by rfl) dC dC W.heap.size (sZ) 0 [] (by rfl) (World.ownsRow_nil _ _ _ _) (.slice L n R) n (lpL t.2.2) (by rfl) (Z.o _ D.o) (oK HB.o.2 HQ.o.2) D.o.le ?_;intro v2 w2 G k2;rw[aL,cV]at G;have I:=hid (D.o.step (Ok.grown0 k2));have a6:=hid (za1 a4.o (Ok.grown0 k2));have a5:=hid G;obtain⟨uo,uc,rfl⟩:=za0 G;clear G k2;refine d.out _ _ (λ_=>I.o) ?_;clear d K;simp only[pu];refine zb0 (i:=6) kR rfl (λK d=>?_);go_simp;refine d.out _ _ (λ_=>I.o) ?_;clear d K;have G:Hi _:=Ok.row' I.o HR.o;obtain⟨c0,c1,c2,c3,c4,c5⟩:=za9 G.o;have a7:=za2 G.o;refine zb0 (i:=7) kR rfl (λK d=>?_);go_simp;refine d.out _ _ (λh=>absurd rfl h) ?_;clear d K;refine zd4 kR ?_ _;go_wp2_with fail;(try simp only[Exit.inBlock,Exit.then]);refine bodyPost_ret (results_cell_row rfl _ _ gr 74 #[_,_,_] (0,0) _ rfl (zd9 G.o _ _ _) Tryz.underlying74 rfl EV) rfl ?_;have d:gr<W.heap.size:=za2 HR.o;refine⟨_,_,rfl,?_,((((HK.o.step I.o).set HG.o _).set HG.o _).set HG.o _)⟩;rw[HE.o];refine⟨?_,?_⟩
  ·rw[<-HQ.o.1];exact za7 (zf6 a6.o d _ _ _) HK.o.le
  rw[<-HQ.o.2];exact za7 (zf6 a5.o d _ _ _) HK.o.le
def wn0(w:World):(zeroValue 3).run Tryz.prog w=.ok (nI 0) w:=by kernel_rfl
def gwf{v:Int}(d : -9223372036854775808<=v)(o:v<=9223372036854775807):(Lit.int .i64 v).wf=true:=by
 have D:IntKind.i64.min = -9223372036854775808:=by decide
 have G:IntKind.i64.max=9223372036854775807:=by decide
 simp only[Lit.wf,D,G];simp[d,o]
structure MI(k:TypeId)(D:DataW Unit)(f:Value->Option Int):Prop where
 mp:IsMap D
 val:∀key kl,keyOf Tryz.prog k key=some kl->Maps.has D kl=(f key).isSome/\D.atKey kl (.lit (.int .i64 0))=.lit (.int .i64 ((f key).getD 0))
def MI.nil(k:TypeId):MI k (.map []) (λ_=>Option.none):=⟨⟨[],rfl⟩,λkey d _=>⟨rfl,rfl⟩⟩
def MI.put(K:Keyed Tryz.prog k){D:DataW Unit}{f':Value->Option Int}(h:MI k D f){I:Lit}(G:keyOf Tryz.prog k key=some I){y:Int}(O:f' key=some y)(L:∀u,u≠key->f' u=f u):MI k (D.put I (.lit (.int .i64 y))) f':=by
 refine⟨?_,λu J d=>?_⟩
 ·obtain⟨es,rfl⟩:=h.mp
  exact⟨_,DataW.put_eq _ _ _⟩
 by_cases e:u=key
 ·subst e
  rw[G]at d
  injection d with d
  subst d;rw[O];exact⟨has_put_same h.mp (K.key G) _,atKey_put_same h.mp (K.key G) _ _⟩
 have o:J≠I:=λR=>by subst R;exact e (K.inj d G)
 rw[has_put_other o,atKey_put_other o,L u e];exact h.val u J d
def CE(w:World)(k:TypeId)(b N:Nat)(f:Value->Option Int):Prop:=∃n D,n<=N/\w.ownsMap Tryz.prog k (plainElem Tryz.prog 3) b n D/\MI k D f
def CE.made(w:World)(k:TypeId):CE (w.alloc (.map #[] 0)) k w.heap.size 0 (λ_=>Option.none):=⟨0,_,nR_ _,World.ownsMap_made w Tryz.prog k _,MI.nil k⟩
def CE.lt(h:CE w k b N f):b<w.heap.size:=by obtain⟨n,D,_,d,_⟩:=h;exact d.lt
def CE.kept{r:Option Nat}(h:CE w k b N f)(G:w.grownBy w' r)(d:some b≠r):CE w' k b N f:=by obtain⟨n,D,o,J,I⟩:=h;exact⟨n,D,o,J.kept G d,I⟩
def CE.ok(h:CE w k b N f)(d:Ok w w'):CE w' k b N f:=h.kept (zu1 d) sI
def CE.set(h:CE w k b N f){p:Addr}(o:b≠p.block)(v:Value):CE (w.setCell p v) k b N f:=by obtain⟨n,D,d,G,I⟩:=h;exact⟨n,D,d,G.setCell o v,I⟩
def CE.as{g:Value->Option Int}(h:CE w k b N f)(K:∀key d,keyOf Tryz.prog k key=some d->g key=f key):CE w k b N g:=by obtain⟨n,D,I,J,o⟩:=h;exact⟨n,D,I,J,o.mp,λkey d G=>by rw[K key d G];exact o.val key d G⟩
def CE.look_ok{t:TypeId}(h:CE w k b N f)(K:Keyed Tryz.prog k)(R:Tryz.prog.underlying t=some (.map k 3)){o:Lit}(I:keyOf Tryz.prog k key=some o) :
  (Instr.lookup t (.map (some b)) key true).run Tryz.prog w=.ok (.tuple #[nI ((f key).getD 0),.bool (f key).isSome]) w:=by
 obtain⟨n,D,_,W,L⟩:=h;obtain⟨u,ps,d,G⟩:=W.look_ok K R (wn0 w) (plainElem_int Tryz.underlying3 dC) I;obtain⟨O,J⟩:=L.val key o I;rw[J]at G;obtain⟨a,rfl,e,_⟩:=plainElem_int_inv Tryz.underlying3 G;simp only[fV,DataW.lit.injEq,Lit.int.injEq,gI]at e;rw[d,O,e.1]
def CE.look{t:TypeId}(h:CE w k b N f)(K:Keyed Tryz.prog k)(O:Tryz.prog.underlying t=some (.map k 3)){o:Lit}(I:keyOf Tryz.prog k key=some o) :
  (Instr.lookup t (.map (some b)) key false).run Tryz.prog w=.ok (nI ((f key).getD 0)) w:=by
 obtain⟨n,D,_,R,L⟩:=h;obtain⟨u,ps,d,G⟩:=R.lookup K O (wn0 w) (plainElem_int Tryz.underlying3 dC) I;obtain⟨W,J⟩:=L.val key o I;rw[J]at G;obtain⟨a,rfl,e,_⟩:=plainElem_int_inv Tryz.underlying3 G;simp only[fV,DataW.lit.injEq,Lit.int.injEq,gI]at e;rw[d,e.1]
def CE.put{t:TypeId}{f':Value->Option Int}(h:CE w k b N f)(K:Keyed Tryz.prog k)(Y:Tryz.prog.underlying t=some (.map k 3)){R:Lit}(G:keyOf Tryz.prog k key=some R){y:Int}(I : -9223372036854775808<=y)(W:y<=9223372036854775807)(hN:N<maxLen)(X:f' key=some y)(L:∀u,u≠key->f' u=f u) :
  ∃w',(Instr.mapUpdate t (.map (some b)) key (nI y)).run Tryz.prog w=.ok () w'/\CE w' k b (N+1) f'/\w.grownBy w' (some b):=by
 obtain⟨n,D,hn,Z,O⟩:=h;obtain⟨w',d,o,J⟩:=Z.update K Y oM G (plainElem_int (a:=y) Tryz.underlying3 (gwf I W));exact⟨w',d,⟨n+1,_,oM,o,O.put K G X L⟩,J⟩
end Go.Proofs.YthoegkcpmgalbaaGreatDoor
