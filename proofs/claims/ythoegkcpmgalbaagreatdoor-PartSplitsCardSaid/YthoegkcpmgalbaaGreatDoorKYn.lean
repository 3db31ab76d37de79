import Derived.Test.YthoegkcpmgalbaaGreatDoorKJd
import Derived.Test.YthoegkcpmgalbaaGreatDoorKRr
set_option maxHeartbeats 8000000
set_option linter.all false
set_option maxRecDepth 100000
namespace Go.Proofs.YthoegkcpmgalbaaGreatDoor
open Go.RowKit Go.Maps
variable{B E N i s:Nat}{L:List Value}{M V:Nat->Value}{P:List Int×List Vx×List Lk}{Z w w':World}{lv mv vv:Value}{tl:Nat->List (Value×Value)}
def PtO(w:World)(B:Nat)(vv lv mv:Value)(P:List Int×List Vx×List Lk):Prop:=EH w B vv P.2.1/\w.ownsRow B 78 3 lv P.2.2.length (lkL P.2.2)/\w.ownsRow B 3 1 mv P.1.length (ilL P.1)
def PtO.ok(h:PtO w B vv lv mv P)(d:Ok w w'):PtO w' B vv lv mv P:=⟨h.1.ok d,za1 h.2.1 d,za1 h.2.2 d⟩
structure PtB(P:List Int×List Vx×List Lk):Prop where
 vs:P.2.1.length<=2000
 tk:∀v∈P.2.1,TkB 100000 v.2
 ls:P.2.2.length<=100000000
 ms:P.1.length<=100000
def EH.at{vs:List Vx}{v:Vx}(h:EH w B vv vs)(K:vs[i]?=some v):∃g cap o I G D,vv=.slice (sA g 0) vs.length cap/\g<w.heap.size/\w.cell? ⟨g,i*4,none⟩=some (nI v.1)/\w.cell? ⟨g,i*4+1,none⟩=some (.bool v.2.1)/\w.cell? ⟨g,i*4+1+1,none⟩=some (.slice o v.2.2.1.length I)/\w.cell? ⟨g,i*4+1+2,none⟩=some (.slice G v.2.2.2.length D)/\EA w (.slice o v.2.2.1.length I) (.slice G v.2.2.2.length D) v.2:=by
 obtain⟨tl,J,W,h3⟩:=h;have hi:=(aE.1 K).1;obtain⟨x,X⟩:∃x,tl[i]?=some x:=⟨_,gG_ oM⟩;obtain⟨g,cap,O,_⟩:=W.form oM;have R:=h3 i v x K X;obtain⟨o,I,e2⟩:=za0 R.hist;obtain⟨G,D,Y⟩:=za0 R.loops;have d:∀j u,(vxL vs tl)[j]?=some u->w.cell? (aD g j)=some u:=λj u hj=>by have J:=W.cells (g:=g) (by rw[O];rfl) j u hj;rw[zb7,aL]at J;exact J
 obtain⟨u0,u1,u2,u3⟩:=zA2 K X;rw[e2]at u2;rw[Y]at u3;exact⟨g,cap,o,I,G,D,O,(W.lt g (by rw[O];rfl)).2,d _ _ u0,d _ _ u1,d _ _ u2,d _ _ u3,by rw[<-e2,<-Y];exact R.is⟩
def yL7(va la ma vb lb mb:Value)(P:List Int×List Vx×List Lk)(w:World)(B B':Nat)(I:PtO w B va la ma P)(K:PtO w B' vb lb mb P)(O:PtB P) :
  Calls Tryz.prog 9 #[.agg #[va,la,ma],.agg #[vb,lb,mb]] w λe w'=>e=.returned (.bool true)/\Ok w w':=by
 have d3:=hid I.1;have d2:=hid K.1;have c7:=hid I.2.1;have d1:=hid K.2.1;have f8:=hid O;have X:Hi (∀Y,Ok w Y->Calls Tryz.prog 20 #[ma,mb] Y λe w'=>e=.returned (.bool true)/\Ok Y w'):=λY J=>zM0 ma mb P.1 Y (zt1 (za1 I.2.2 J) (zJ6 _) dC) (zt1 (za1 K.2.2 J) (zJ6 _) dC) (oH O.ms);obtain⟨tl,_,z1,_⟩:=I.1;obtain⟨f3,a9,rfl⟩:=za0 z1;obtain⟨g6,_,z2,_⟩:=K.1;obtain⟨f0,a7,rfl⟩:=za0 z2;obtain⟨d9,f1,rfl⟩:=za0 I.2.1;obtain⟨d7,d8,rfl⟩:=za0 K.2.1;obtain⟨f4,d6,rfl⟩:=za0 I.2.2;obtain⟨d5,f2,rfl⟩:=za0 K.2.2;obtain⟨ml,vs,ls⟩:=P;simp only at d3 d2 c7 d1 X ⊢;obtain⟨R,d⟩:=qq (vs.length);obtain⟨ln,D⟩:=qq (ls.length);obtain⟨mn,G⟩:=qq (ml.length);have HN:Hi (R=vs.length/\ln=ls.length/\R<=2000/\ln<=100000000):=⟨d,D,d ▸ O.vs,D ▸ O.ls⟩;rw[<-d]at d3 d2;rw[<-D]at c7 d1;rw[<-G]at X;rw[<-d,<-D,<-G];clear I K O z1 z2 d D G;go_enter Tryz.func9,Tryz.ntmps9;go_wp2_with fail;obtain⟨W,I⟩:=qq ((w.alloc (Obj.cells #[.slice f3 R a9,.slice d9 ln f1,.slice f4 mn d6] 37)).alloc (Obj.cells #[.slice f0 R a7,.slice d7 ln d8,.slice d5 mn f2] 37));obtain⟨gA,d⟩:=qq (w.heap.size);obtain⟨gB,D⟩:=qq (w.heap.size+1);rw[<-I,<-D,<-d];have G:Hi (Ok w W):=by rw[I];exact((Ok.refl w).alloc _).alloc _
 have K:Hi (W.heap[gA]?=some (.cells #[.slice f3 R a9,.slice d9 ln f1,.slice f4 mn d6] 37 (0,0))):=by rw[I,d];exact jj
 have O:Hi (W.heap[gB]?=some (.cells #[.slice f0 R a7,.slice d7 ln d8,.slice d5 mn f2] 37 (0,0))):=by rw[I,D];exact jj
 clear I d D;refine mq (X.o W G.o) λw1 d=>?_;obtain⟨a0,a1,a2,_⟩:=za9 (Ok.row' d K.o);have la:=za2 (Ok.row' d K.o);obtain⟨b0,b1,b2,_⟩:=za9 (Ok.row' d O.o);have lb:=za2 (Ok.row' d O.o);have a5:=hid (G.o.step d);have a3:Hi (w1.heap[gA]?=_):=Ok.row' d K.o;have a4:Hi (w1.heap[gB]?=_):=Ok.row' d O.o;clear d K O X G;go_wp2_with fail;clear a0 a1 a2 b0 b1 b2 la lb;go_loopw [5] (λt wr=>∃k:Nat,t=nI (k:Nat)/\k<=R/\Hi (Ok w1 wr)) (λt _=>R-(intOf t).toNat)
 case atStart=>exact⟨0,rfl,zL_ _,Ok.refl _⟩
 obtain⟨k,rfl,hk,G⟩:=hrel;obtain⟨a0,a1,a2,_⟩:=za9 (Ok.row' G.o a3.o);have la:=za2 (Ok.row' G.o a3.o);obtain⟨b0,b1,b2,_⟩:=za9 (Ok.row' G.o a4.o);have lb:=za2 (Ok.row' G.o a4.o);by_cases b6:k<R
 ·have b5:(k:Int)<(R:Int):=za5 b6
  have h4:IntKind.i64.wrap ((k:Int)+1)=((k+1:Nat):Int):=zb3 (oH HN.o);have g9:(0:Int)<=(k:Int):=oM;have d:¬((R:Int)<=(k:Int)):=oM;obtain⟨v,hv⟩:∃v,vs[k]?=some v:=⟨_,gG_ (oH HN.o)⟩;have f5:=hid (f8.o.tk v (mG_ hv));obtain⟨g1,c1,d4,I,c5,d0,e1,q1,X,c9,c6,b7,t1⟩:=EH.at (d3.o.ok a5.o) hv;obtain⟨g2,c2,c8,O,c3,b9,e2,q2,D,K,c0,c4,t2⟩:=EH.at (d2.o.ok a5.o) hv
  injection e1 with e1 ev1 e3
  injection e2 with e2 ev2 e4
  subst e1 e2 e3 e4;clear ev1 ev2;obtain⟨m,hm⟩:=qq (v.2.1);obtain⟨x,hx⟩:=qq (v.1);obtain⟨q,hq⟩:=qq (v.2.2.1.length);obtain⟨n,hn⟩:=qq (v.2.2.2.length);rw[<-hm]at c9 K;rw[<-hx]at X D;rw[<-hq]at c6 c0 t1 t2;rw[<-hn]at b7 c4 t1 t2;have f9:=hid t1;have f6:=hid t2;have f7:Hi (m=v.2.1/\q=v.2.2.1.length/\n=v.2.2.2.length):=⟨hm,hq,hn⟩
  have HC:Hi (∀Y,Ok w1 Y->Y.cell? (aD gA 0)=some (.slice (sA g1 0) R a9)/\gA<Y.heap.size/\Y.cell? (aD gB 0)=some (.slice (sA g2 0) R a7)/\gB<Y.heap.size/\g1<Y.heap.size/\g2<Y.heap.size/\Y.cell? ⟨g1,k*4,none⟩=some (nI x)/\Y.cell? ⟨g1,k*4+1,none⟩=some (.bool m)/\Y.cell? ⟨g1,k*4+1+1,none⟩=some (.slice d4 q I)/\Y.cell? ⟨g1,k*4+1+2,none⟩=some (.slice c5 n d0)/\Y.cell? ⟨g2,k*4,none⟩=some (nI x)/\Y.cell? ⟨g2,k*4+1,none⟩=some (.bool m)/\Y.cell? ⟨g2,k*4+1+1,none⟩=some (.slice c8 q O)/\Y.cell? ⟨g2,k*4+1+2,none⟩=some (.slice c3 n b9)):=λY J=>by obtain⟨a0,_⟩:=za9 (Ok.row' J a3.o);obtain⟨b0,_⟩:=za9 (Ok.row' J a4.o);exact⟨a0,za2 (Ok.row' J a3.o),b0,za2 (Ok.row' J a4.o),lL_ q1 J.le,lL_ q2 J.le,J.cell q1 X,J.cell q1 c9,J.cell q1 c6,J.cell q1 b7,J.cell q2 D,J.cell q2 K,J.cell q2 c0,J.cell q2 c4⟩
  clear hm hx hq hn hv t1 t2 X c9 c6 b7 D K c0 c4 q1 q2
  go_upto_region 6 with (fail)
  clear a0 a1 a2 b0 b1 b2 la lb;refine zd5 (λY=>Ok w1 Y) 13 kR ?_;obtain⟨D,K⟩:=qq (wr.drew);have X:Ok w1 D:=by rw[K];exact Below.drew G.o
  rw[<-K];clear K G;refine tK 0 (pA gA 0) X ?_;simp only[pu];refine tL 1 (.slice (sA g1 0) R a9) X ?_ ?_
  ·intro w' s0;obtain⟨z0,z1,z2,z3,z4,z5,z6,z7,z8,z9,a8,b4,b3,a6⟩:=HC.o w' s0;clear s0;go_simp;try with_reducible rfl
  simp only[pu];refine tK 2 (nI (k:Nat)) X ?_;simp only[pu];refine tK 3 (.pointer (some ⟨g1,k*4,none⟩)) X ?_;simp only[pu];refine tK 4 (.pointer (some ⟨g1,k*4+1,none⟩)) X ?_;simp only[pu];refine tL 5 (.agg #[.bool m,.slice d4 q I,.slice c5 n d0]) X ?_ ?_
  ·intro w' s0;obtain⟨z0,z1,z2,z3,z4,z5,z6,z7,z8,z9,a8,b4,b3,a6⟩:=HC.o w' s0;clear s0;go_simp;try with_reducible rfl
  simp only[pu];refine tK 6 (pA gB 0) X ?_;simp only[pu];refine tL 7 (.slice (sA g2 0) R a7) X ?_ ?_
  ·intro w' s0;obtain⟨z0,z1,z2,z3,z4,z5,z6,z7,z8,z9,a8,b4,b3,a6⟩:=HC.o w' s0;clear s0;go_simp;try with_reducible rfl
  simp only[pu];refine tK 8 (nI (k:Nat)) X ?_;simp only[pu];refine tK 9 (.pointer (some ⟨g2,k*4,none⟩)) X ?_;simp only[pu];refine tK 10 (.pointer (some ⟨g2,k*4+1,none⟩)) X ?_;simp only[pu];refine tL 11 (.agg #[.bool m,.slice c8 q O,.slice c3 n b9]) X ?_ ?_
  ·intro w' s0;obtain⟨z0,z1,z2,z3,z4,z5,z6,z7,z8,z9,a8,b4,b3,a6⟩:=HC.o w' s0;clear s0;go_simp;try with_reducible rfl
  simp only[pu];refine zb0 (i:=12) kR rfl (λK hK=>?_);go_simp;have b8:=zH2 (.slice d4 q I) (.slice c5 n d0) (.slice c8 q O) (.slice c3 n b9) v.2 D (f9.o.below X) (f6.o.below X) ⟨oH f5.o.hl,oH f5.o.ll⟩;rw[<-f7.o.1]at b8;refine b8.mono ?_;rintro e D1 ⟨rfl,hd⟩;clear b8;have S1:Ok w1 D1:=X.step hd;clear X hd;go_wp2_with fail;refine hK.out _ _ (λ_=>S1) ?_;clear hK K;refine zb0 (i:=13) kR rfl (λK hK=>?_);go_simp;refine hK.out _ _ (λh=>absurd h dC) ?_;clear hK K;refine zd4 kR ?_ _;obtain⟨z0,z1,z2,z3,z4,z5,z6,z7,z8,z9,a8,b4,b3,a6⟩:=HC.o D1 S1;have K:=hid S1;clear S1 HC;go_wp2_with fail;go_quiet (fail);go_wp2_with fail;go_roundw
  ·exact⟨k+1,rfl,b6,below_drewN K.o _⟩
  simp only[intOf,aO];omega
 have b5:¬(k:Int)<(R:Int):=oM;go_wp2_with fail;clear a0 a1 a2 b0 b1 b2 la lb b5 b6 hk;obtain⟨w2,D⟩:=qq (wr);rw[<-D]at G ⊢;clear D;go_loopw [7] (λt wr=>∃k:Nat,t=nI (k:Nat)/\k<=ln/\Hi (Ok w1 wr)) (λt _=>ln-(intOf t).toNat)
 case atStart=>exact⟨0,rfl,zL_ _,G⟩
 clear G;obtain⟨j,rfl,hj,G⟩:=hrel;obtain⟨a0,a1,a2,_⟩:=za9 (Ok.row' G.o a3.o);have la:=za2 (Ok.row' G.o a3.o);obtain⟨b0,b1,b2,_⟩:=za9 (Ok.row' G.o a4.o);have lb:=za2 (Ok.row' G.o a4.o);by_cases K:j<ln
 ·have D:(j:Int)<(ln:Int):=za5 K
  have g3:IntKind.i64.wrap ((j:Int)+1)=((j+1:Nat):Int):=zb3 (oH HN.o);have g8:(0:Int)<=(j:Int):=oM;have h5:¬((ln:Int)<=(j:Int)):=oM;obtain⟨y,hy⟩:∃y,ls[j]?=some y:=⟨_,gG_ (oH HN.o)⟩;have X:=za1 c7.o (a5.o.step G.o);have k2:=za1 d1.o (a5.o.step G.o);obtain⟨g1,c1,e1,_⟩:=X.form oM;obtain⟨g2,c2,e2,_⟩:=k2.form oM
  injection e1 with e1 ev1 e3
  injection e2 with e2 ev2 e4
  subst e1 e2 e3 e4;clear ev1 ev2;obtain⟨y0,y1,y2⟩:=zA3 hy;have q1:=(X.lt g1 rfl).2;have q2:=(k2.lt g2 rfl).2;have I:∀i u,(lkL ls)[i]?=some u->wr.cell? (aD g1 i)=some u:=λi u hi=>by have h:=X.cells (g:=g1) rfl i u hi;rw[zb7,aL]at h;exact h
  have O:∀i u,(lkL ls)[i]?=some u->wr.cell? (aD g2 i)=some u:=λi u hi=>by have h:=k2.cells (g:=g2) rfl i u hi;rw[zb7,aL]at h;exact h
  have g4:=I _ _ y0;have g5:=I _ _ y1;have g0:=I _ _ y2;have g7:=O _ _ y0;have h3:=O _ _ y1;have h0:=O _ _ y2;clear I O y0 y1 y2 X k2 hy;go_wp2_with fail;go_quiet (fail);go_wp2_with fail;refine⟨⟨j+1,rfl,K,below_drewN G.o _⟩,?_⟩;simp only[intOf,aO];omega
 have D:¬(j:Int)<(ln:Int):=oM;go_wp2_with fail;go_ret;exact⟨rfl,a5.o.step G.o⟩
def LL(w:World)(B:Nat)(e:TypeId)(s:Nat)(L:List Value):Prop:=∀u∈L,∃n X,w.ownsRow B e s u n X/\n<=1000000000
def ApV(L:List Value):Prop:=∀(i j:Nat) (u x:Value),i<j->L[i]?=some u->L[j]?=some x->∀b,u.ownBlock=some b->x.ownBlock≠some b
def atL(L:List Value)(i:Nat):Value:=L.getD i (sZ)
def yJ5(h:i<L.length):L[i]?=some (atL L i):=by unfold atL;rw[bT,aJ h];rfl
def yP2(L:List Value):vsL (atL L) L.length=L:=by
 apply eD;intro i;by_cases h:i<L.length
 ·rw[yK4 _ h,yJ5 h]
 rw[aS (by unfold vsL;simp;omega),aS oM]
def ApV.apart(h:ApV L):FK L.length (atL L):=λj J G o D b I d=>by
 rcases Nat.lt_or_gt_of_ne D with c | c
 ·exact h j J _ _ c (yJ5 G) (yJ5 o) b I d
 exact h J j _ _ c (yJ5 o) (yJ5 G) b d I
def LL.fun{e:TypeId}(h:LL w B e s L):∃(n:Nat->Nat) (X:Nat->List Value),∀j,j<L.length->w.ownsRow B e s (atL L j) (n j) (X j)/\n j<=1000000000:=by
 have o:∀j,∃y:Nat×List Value,j<L.length->w.ownsRow B e s (atL L j) y.1 y.2/\y.1<=1000000000:=λj=>by
  by_cases c:j<L.length
  ·obtain⟨n,X,d⟩:=h _ (mG_ (yJ5 c))
   exact⟨(n,X),λ_=>d⟩
  exact⟨(0,[]),λh=>absurd h c⟩
 obtain⟨f,d⟩:=iB o;exact⟨λj=>(f j).1,λj=>(f j).2,d⟩
def yM5{Z':World}{e t:TypeId}{n:Nat->Nat}{X:Nat->List Value}(G:∀j,j<N->Z.ownsRow B e s (V j) (n j) (X j))(D:∀b,b<Z.heap.size->(∀j,j<N->(V j).ownBlock≠some b)->Z'.heap[b]?=Z.heap[b]?)(K:t≠e):∀b,b<Z.heap.size->(∃c f,Z.heap[b]?=some (.cells c t f))->Z'.heap[b]?=Z.heap[b]?:=λb J ⟨c,f,k⟩=>D b J λj o I=>by
 obtain⟨R,O,d⟩:=zf9 (G j o) b I;rw[k]at d
 injection d with d
 injection d with _ k2
 exact K k2
def yJ9{Z':World}{n:Nat}{t:TypeId}{v:Value}{o:List Value}(h:Z.ownsRow B t s v n o)(D:∀b,b<Z.heap.size->(∃c f,Z.heap[b]?=some (.cells c t f))->Z'.heap[b]?=Z.heap[b]?):Z'.ownsRow B t s v n o:=zb4 h λb d=>D b (h.lt b d).2 (zf9 h b d)
def nmL(M:Nat->Value)(tl:Nat->List (Value×Value))(k:Nat):List Value:=(List.range k).flatMap λj=>M j::(tl j).map (·.1)
def rdL(tl:Nat->List (Value×Value))(k:Nat):List Value:=(List.range k).flatMap λj=>(tl j).map (·.2)
def yK1(M:Nat->Value)(tl:Nat->List (Value×Value))(k:Nat):nmL M tl (k+1)=nmL M tl k++M k::(tl k).map (·.1):=by unfold nmL;rw[fE];simp
def yK2(tl:Nat->List (Value×Value))(k:Nat):rdL tl (k+1)=rdL tl k++(tl k).map (·.2):=by unfold rdL;rw[fE];simp
structure PsM(w:World)(B N:Nat)(V M:Nat->Value)(P:Nat->List Int×List Vx×List Lk)(tl:Nat->List (Value×Value)):Prop where
 len:∀k,k<N->(tl k).length=(P k).2.1.length
 vs:∀k,k<N->w.ownsRow B 76 4 (V (2*k)) (P k).2.1.length (vxL (P k).2.1 (tl k))
 ls:∀k,k<N->w.ownsRow B 78 3 (V (2*k+1)) (P k).2.2.length (lkL (P k).2.2)
 ms:∀k,k<N->w.ownsRow B 3 1 (M k) (P k).1.length (ilL (P k).1)
 tk:∀k,k<N->∀(i:Nat) (v:Vx) (x:Value×Value),(P k).2.1[i]?=some v->(tl k)[i]?=some x->AD w B x.1 x.2 v.2
 sm:∀k,k<N->PtB (P k)
 an:ApV (nmL M tl N)
 ar:ApV (rdL tl N)
 av:FK (2*N) V
def PsM.nums{P:Nat->List Int×List Vx×List Lk}(h:PsM w B N V M P tl):LL w B 3 1 (nmL M tl N):=λu G=>by
 unfold nmL at G;obtain⟨k,d,I⟩:=eH.1 G;have d:=dJ.1 d;rcases bJ.1 I with h2 | h2
 ·rw[h2];exact⟨_,_,h.ms k d,by have:=(h.sm k d).ms;omega⟩
 obtain⟨x,J,e⟩:=bX.1 h2;obtain⟨i,o⟩:=bW.1 J;obtain⟨v,D⟩:∃v,(P k).2.1[i]?=some v:=⟨_,aJ (by rw[<-h.len k d];exact(aE.1 o).1)⟩;rw[<-e];exact⟨_,_,(h.tk k d i v x D o).hist,by have:=((h.sm k d).tk v (mG_ D)).hl;omega⟩
def PsM.rds{P:Nat->List Int×List Vx×List Lk}(h:PsM w B N V M P tl):LL w B 117 2 (rdL tl N):=λu G=>by unfold rdL at G;obtain⟨k,d,I⟩:=eH.1 G;have d:=dJ.1 d;obtain⟨x,J,e⟩:=bX.1 I;obtain⟨i,o⟩:=bW.1 J;obtain⟨v,D⟩:∃v,(P k).2.1[i]?=some v:=⟨_,aJ (by rw[<-h.len k d];exact(aE.1 o).1)⟩;rw[<-e];exact⟨_,_,(h.tk k d i v x D o).loops,by have:=((h.sm k d).tk v (mG_ D)).ll;omega⟩
def yO0:∀{N:Nat},(∀k,k<N->(tl k).length<=2000)->(nmL M tl N).length<=N*2001
 | 0,_=>by unfold nmL;simp
 | N+1,h=>by have D:(nmL M tl N).length<=N*2001:=yO0 λk o=>h k oM;have d:=h N oM;rw[yK1,aA,aR,aM];omega
def yO1:∀{N:Nat},(∀k,k<N->(tl k).length<=2000)->(rdL tl N).length<=N*2000
 | 0,_=>by unfold rdL;simp
 | N+1,h=>by have D:=yO1 (N:=N) λk o=>h k oM;have d:=h N oM;rw[yK2,aA,aM];omega
def yL3{α β:Type}(f:α->β){l:List α}{x:α}(h:l[i]?=some x):(l.take (i+1)).map f=(l.take i).map f++[f x]:=by obtain⟨d,e⟩:=aE.1 h;rw[cN d,e];simp
def yO2(N:Nat)(lo:Option Addr)(lc:Nat)(V M:Nat->Value)(P:Nat->List Int×List Vx×List Lk)(tl:Nat->List (Value×Value))(B Bl:Nat)(w:World)(D:w.ownsRow Bl 37 3 (.slice lo N lc) N (pqL V M N))(d:PsM w B N V M P tl)(R:B<=w.heap.size)(J:N<=100) :
  Calls Tryz.prog 13 #[.slice lo N lc] w λe w'=>e=.returned (.bool true)/\Below B w w':=by
 have HL:=hid D;have HP:=hid d;have a4:Hi (N<=100/\B<=w.heap.size):=⟨J,R⟩;have HT:Hi (∀k,k<N->(tl k).length<=2000):=λk hk=>by have h1:=(d.sm k hk).vs;rw[d.len k hk];exact h1
 have HW:Hi (∀Y:World,Ok w Y->∀k,k<N->∃b,lo=some ⟨b,0,none⟩/\Y.cell? ⟨b,k*3,none⟩=some (V (2*k))/\Y.cell? ⟨b,k*3+2,none⟩=some (M k)/\b<Y.heap.size):=λY hY k hk=>by
  have h0:=za1 D hY;obtain⟨b,cp,e,_⟩:=h0.form oM
  injection e with X O e3
  subst X
  have hc:∀j u,(pqL V M N)[j]?=some u->Y.cell? (aD b j)=some u:=λj u I=>by have h1:=h0.cells (g:=b) rfl j u I;rw[zb7,aL]at h1;exact h1
  obtain⟨a1,a2,G⟩:=yK8 V M hk;exact⟨b,rfl,hc _ _ a1,hc _ _ G,(h0.lt b rfl).2⟩
 have HC:Hi (∀Y:World,Ok w Y->∀k,k<N->∀v (x:Value×Value),(tl k)[v]?=some x->∃g cap,V (2*k)=.slice (sA g 0) (tl k).length cap/\g<Y.heap.size/\Y.cell? ⟨g,v*4+1+1,none⟩=some x.1/\Y.cell? ⟨g,v*4+1+2,none⟩=some x.2):=λY hY k hk v x hx=>by
  have h0:=za1 (d.vs k hk) hY;have G:=(aE.1 hx).1;rw[<-d.len k hk]at h0;obtain⟨g,cap,e,_⟩:=h0.form oM;obtain⟨y,K⟩:∃y,(P k).2.1[v]?=some y:=⟨_,aJ (by rw[<-d.len k hk];exact G)⟩;obtain⟨_,_,u2,u3⟩:=zA2 K hx
  have hc:∀j u,(vxL (P k).2.1 (tl k))[j]?=some u->Y.cell? (aD g j)=some u:=λj u I=>by have h1:=h0.cells (g:=g) (by rw[e];rfl) j u I;rw[zb7,aL]at h1;exact h1
  exact⟨g,cap,e,(h0.lt g (by rw[e];rfl)).2,hc _ _ u2,hc _ _ u3⟩
 have HF:Hi (∀k,k<N->(∃ao cp,V (2*k)=.slice ao (tl k).length cp)/\(∃ao l cp,M k=.slice ao l cp)/\∀x∈tl k,(∃ao l cp,x.1=.slice ao l cp)/\∃ao l cp,x.2=.slice ao l cp):=λk hk=>by
  refine⟨by rw[d.len k hk];exact za0 (d.vs k hk),?_,λx hx=>?_⟩
  ·obtain⟨ao,cp,e⟩:=za0 (d.ms k hk)
   exact⟨_,_,_,e⟩
  obtain⟨i,K⟩:=bW.1 hx;obtain⟨v,hv⟩:∃v,(P k).2.1[i]?=some v:=⟨_,aJ (by rw[<-d.len k hk];exact(aE.1 K).1)⟩;have G:=d.tk k hk i v x hv K;obtain⟨a1,W,X⟩:=za0 G.hist;obtain⟨a2,c2,O⟩:=za0 G.loops;exact⟨⟨_,_,_,X⟩,⟨_,_,_,O⟩⟩
 clear D d R J;go_enter Tryz.func13,Tryz.ntmps13;go_wp2_with fail;go_loopw [3,4,5] (λs3 s4 t wr=>∃(k:Nat) (no ro:Option Addr) (nc rc:Nat),k<=N/\s3=.slice no (nmL M tl k).length nc/\s4=.slice ro (rdL tl k).length rc/\t=nI (k:Nat)/\Hi (wr.ownsRow w.heap.size 28 1 (.slice no (nmL M tl k).length nc) (nmL M tl k).length (nmL M tl k))/\Hi (wr.ownsRow w.heap.size 72 1 (.slice ro (rdL tl k).length rc) (rdL tl k).length (rdL tl k))/\Hi (Ok w wr)) (λ_ _ t _=>N-(intOf t).toNat)
 case atStart=>exact⟨0,none,none,0,0,zL_ _,rfl,rfl,rfl,World.ownsRow_nil _ _ _ _,World.ownsRow_nil _ _ _ _,Ok.refl _⟩
 obtain⟨k,no,ro,nc,rc,hk,rfl,rfl,rfl,R,W,J⟩:=hrel;obtain⟨q,G⟩:=qq ((nmL M tl k).length);obtain⟨r,D⟩:=qq ((rdL tl k).length);have d:Hi (q=(nmL M tl k).length/\r=(rdL tl k).length/\q<=1000000/\r<=1000000):=⟨G,D,by have h1:=yO0 (M:=M) (N:=k) (λj I=>HT.o j oM);have h2:=a4.o;omega,by have h1:=yO1 (N:=k) (λj I=>HT.o j oM);have h2:=a4.o;omega⟩;rw[<-G]at R ⊢;rw[<-D]at W ⊢;clear G D;have g0:(0:Int)<=(k:Int):=oM;by_cases b3:k<N
 ·have b0:=hid b3
  have d8:(k:Int)<(N:Int):=za5 b3;have f7:¬((N:Int)<=(k:Int)):=oM;have g2:IntKind.i64.wrap ((k:Int)+1)=((k+1:Nat):Int):=zb3 (oH a4.o);obtain⟨bl,rfl,c0,c2,a9⟩:=HW.o wr J.o k b3;obtain⟨⟨vo,vp,G⟩,⟨mo,ml,mc,K⟩,hX⟩:=HF.o k b3;have HX:=hid hX;obtain⟨vn,b1⟩:=qq ((tl k).length);rw[<-b1]at G;rw[G]at c0;rw[K]at c2;have D:Hi (V (2*k)=.slice vo vn vp/\M k=.slice mo ml mc/\vn=(tl k).length/\vn<=2000):=⟨G,K,b1,b1 ▸ HT.o k b3⟩;clear G K hX b1;have G:Hi ((wr.alloc (Obj.cells #[.slice mo ml mc] 28)).ownsRow w.heap.size 28 1 (.slice no q nc) q (nmL M tl k)):=za1 R.o ((Ok.refl _).alloc _);have K:Hi ((wr.alloc (Obj.cells #[.slice mo ml mc] 28)).ownsRow w.heap.size 72 1 (.slice ro r rc) r (rdL tl k)):=za1 W.o ((Ok.refl _).alloc _);have a6:=hid J.o.le
  go_upto_region 7 with (first|(at_builtin;refine ze4 rfl _ _ 85 28 1 24 _ rfl Tryz.underlying85 wo6 (by rfl) (by decide) (by decide) w.heap.size (.slice no q nc) q (nmL M tl k) (by rfl) G.o (.slice (sA wr.heap.size 0) 1 1) 1 [.slice mo ml mc] (by rfl) (SL.one wr 28 [.slice mo ml mc] rfl (by simp[Value.oneCell'])) (by have h1:=d.o;omega) (by have:=a6.o;simp;omega) ?_;intro v9 w9 k1 k2;have a7:=hid k1;have b2:Hi (w9.ownsRow w.heap.size 72 1 (.slice ro r rc) r (rdL tl k)):=zd6 K.o G.o (by decide) k2;have a5:Hi (Ok w w9):=(J.o.alloc _).grown k2 (λb e=>(G.o.lt b e).1);clear k1 k2;obtain⟨b6,b7,rfl⟩:=za0 a7.o)|fail)
  clear c0 c2 a9 G K a6 R W J;go_wp2_with fail;go_loopw [3,4,6] (λs3 s4 t wr=>∃(v:Nat) (no ro:Option Addr) (nc rc:Nat),v<=vn/\s3=.slice no (q+1+v) nc/\s4=.slice ro (r+v) rc/\t=nI (v:Nat)/\Hi (wr.ownsRow w.heap.size 28 1 (.slice no (q+1+v) nc) (q+1+v) (nmL M tl k++M k::((tl k).take v).map (·.1)))/\Hi (wr.ownsRow w.heap.size 72 1 (.slice ro (r+v) rc) (r+v) (rdL tl k++((tl k).take v).map (·.2)))/\Hi (Ok w wr)) (λ_ _ t _=>vn-(intOf t).toNat)
  case atStart=>exact⟨0,b6,ro,b7,rc,dQ _,rfl,rfl,rfl,by have h:=a7.o;rw[<-D.o.2.1]at h;exact h,by have h:=b2.o;simpa[Hi] using h,a5⟩
  clear a7 b2 a5;obtain⟨v,no,ro,nc,rc,hv,rfl,rfl,rfl,R,W,J⟩:=hrel;have f4:(0:Int)<=(v:Int):=oM;obtain⟨f5,X,c0,_,a9⟩:=HW.o wr J.o k b0.o
  injection X with X
  injection X with X _ _
  subst X;rw[D.o.1]at c0;by_cases b9:v<vn
  ·have c3:=hid b9
   have b8:(v:Int)<(vn:Int):=za5 b9;have f6:¬((vn:Int)<=(v:Int)):=oM;have f8:IntKind.i64.wrap ((v:Int)+1)=((v+1:Nat):Int):=zb3 (oH D.o);obtain⟨x,hx⟩:∃x,(tl k)[v]?=some x:=⟨_,gG_ (oH D.o.2.2.1)⟩;obtain⟨gv,cv,O,c5,d1,d2⟩:=HC.o wr J.o k b0.o v x hx;rw[D.o.1]at O
   injection O with O e3 e4
   subst O e4;clear e3;obtain⟨⟨ho,hn,hc,e5⟩,⟨b5,ln,b4,e6⟩⟩:=HX.o x (mG_ hx);rw[e5]at d1;rw[e6]at d2;have a8:Hi ((tl k)[v]?=some x/\x.1=.slice ho hn hc/\x.2=.slice b5 ln b4):=⟨hx,e5,e6⟩;clear hx e5 e6;have G:Hi ((wr.alloc (Obj.cells #[.slice ho hn hc] 28)).ownsRow w.heap.size 28 1 (.slice no (q+1+v) nc) (q+1+v) (nmL M tl k++M k::((tl k).take v).map (·.1))):=za1 R.o ((Ok.refl _).alloc _);have K:Hi ((wr.alloc (Obj.cells #[.slice ho hn hc] 28)).ownsRow w.heap.size 72 1 (.slice ro (r+v) rc) (r+v) (rdL tl k++((tl k).take v).map (·.2))):=za1 W.o ((Ok.refl _).alloc _);have a6:=hid J.o.le
   go_upto_region 11 with (first|(at_builtin;refine ze4 rfl _ _ 85 28 1 24 _ rfl Tryz.underlying85 wo6 (by rfl) (by decide) (by decide) w.heap.size (.slice no (q+1+v) nc) (q+1+v) (nmL M tl k++M k::((tl k).take v).map (·.1)) (by rfl) G.o (.slice (sA wr.heap.size 0) 1 1) 1 [.slice ho hn hc] (by rfl) (SL.one wr 28 [.slice ho hn hc] rfl (by simp[Value.oneCell'])) (by have h1:=d.o;have h2:=D.o.2.2.2;have h3:=c3.o;omega) (by have:=a6.o;simp;omega) ?_;intro v9 w9 k1 k2;have a7:=hid k1;have b2:Hi (w9.ownsRow w.heap.size 72 1 (.slice ro (r+v) rc) (r+v) (rdL tl k++((tl k).take v).map (·.2))):=zd6 K.o G.o (by decide) k2;have a5:Hi (Ok w w9):=(J.o.alloc _).grown k2 (λb e=>(G.o.lt b e).1);clear k1 k2;obtain⟨b6,b7,rfl⟩:=za0 a7.o)|fail)
   clear c0 a9 c5 d1 d2 G K a6 R W J;obtain⟨f5,X,c0,_,a9⟩:=HW.o w9 a5.o k b0.o
   injection X with X
   injection X with X _ _
   subst X;rw[D.o.1]at c0;obtain⟨f9,g1,O,c5,d1,d2⟩:=HC.o w9 a5.o k b0.o v x a8.o.1;rw[D.o.1]at O
   injection O with O e3 e4
   injection O with O
   injection O with O _ _
   subst O e4;clear e3;rw[a8.o.2.2]at d2;clear d1;have G:Hi ((w9.alloc (Obj.cells #[.slice b5 ln b4] 72)).ownsRow w.heap.size 28 1 (.slice b6 (q+1+v+1) b7) (q+1+v+1) (nmL M tl k++M k::((tl k).take v).map (·.1)++[.slice ho hn hc])):=za1 a7.o ((Ok.refl _).alloc _);have K:Hi ((w9.alloc (Obj.cells #[.slice b5 ln b4] 72)).ownsRow w.heap.size 72 1 (.slice ro (r+v) rc) (r+v) (rdL tl k++((tl k).take v).map (·.2))):=za1 b2.o ((Ok.refl _).alloc _);have a6:=hid a5.o.le
   go_upto_region 9 with (first|(at_builtin;refine ze4 rfl _ _ 86 72 1 24 _ rfl Tryz.underlying86 wq9 (by rfl) (by decide) (by decide) w.heap.size (.slice ro (r+v) rc) (r+v) (rdL tl k++((tl k).take v).map (·.2)) (by rfl) K.o (.slice (sA w9.heap.size 0) 1 1) 1 [.slice b5 ln b4] (by rfl) (SL.one w9 72 [.slice b5 ln b4] rfl (by simp[Value.oneCell'])) (by have h1:=d.o;have h2:=D.o.2.2.2;have h3:=c3.o;omega) (by have:=a6.o;simp;omega) ?_;intro v8 w8 k1 k2;have d4:=hid k1;have f2:Hi (w8.ownsRow w.heap.size 28 1 (.slice b6 (q+1+v+1) b7) (q+1+v+1) (nmL M tl k++M k::((tl k).take v).map (·.1)++[.slice ho hn hc])):=zd6 G.o K.o (by decide) k2;have f0:Hi (Ok w w8):=(a5.o.alloc _).grown k2 (λb e=>(K.o.lt b e).1);clear k1 k2;obtain⟨d9,f1,rfl⟩:=za0 d4.o)|fail)
   clear c0 a9 c5 d2 G K a6 a7 b2 a5;go_wp2_with fail;refine⟨⟨v+1,b6,d9,b7,f1,c3.o,rfl,rfl,rfl,?_,?_,f0⟩,?_⟩
   ·have h:=f2.o
    rw[<-a8.o.2.1,bN,cE,<-yL3 _ a8.o.1]at h;exact h
   ·have h:=d4.o
    rw[<-a8.o.2.2,bN,<-yL3 _ a8.o.1]at h;exact h
   simp only[intOf,aO];omega
  have b8:¬(v:Int)<(vn:Int):=oM;have b1:v=vn:=oM;subst b1;go_wp2_with fail;clear c0 a9 b8 b9 hv f4;go_roundw
  ·have X:(nmL M tl (k+1)).length=q+1+v:=by rw[yK1,aA,aR,aM,<-d.o.1,<-D.o.2.2.1];omega
   have O:(rdL tl (k+1)).length=r+v:=by rw[yK2,aA,aM,<-d.o.2.1,<-D.o.2.2.1]
   have h1:=R.o;have h2:=W.o;rw[bE (by rw[D.o.2.2.1];exact aK _),<-yK1]at h1;rw[bE (by rw[D.o.2.2.1];exact aK _),<-yK2]at h2;exact⟨k+1,no,ro,nc,rc,b0.o,by rw[X],by rw[O],rfl,by rw[X];exact h1,by rw[O];exact h2,J⟩
  have:=b0.o;simp only[intOf,aO];omega
 have d8:¬(k:Int)<(N:Int):=oM;have f3:k=N:=oM;subst f3;obtain⟨n1,X1,D⟩:=HP.o.nums.fun;obtain⟨n2,X2,G⟩:=HP.o.rds.fun;have HI:=hid (yO5 q no nc (atL (nmL M tl k)) n1 X1 B w.heap.size wr (by rw[d.o.1,yP2,<-d.o.1];exact R.o) (λj I=>za1 (D j (by rw[<-d.o.1];exact I)).1 J.o) (by rw[d.o.1];exact HP.o.an.apart) (aH a4.o.2 J.o.le) (λj I=>by have:=(D j (by rw[<-d.o.1];exact I)).2;omega) d.o.2.2.1);have d3:Hi (∀j,j<q->wr.ownsRow B 3 1 (atL (nmL M tl k) j) (n1 j) (X1 j)):=λj I=>za1 (D j (by rw[<-d.o.1];exact I)).1 J.o;have c4:Hi (∀j,j<r->w.ownsRow B 117 2 (atL (rdL tl k) j) (n2 j) (X2 j)/\n2 j<=1000000000):=λj I=>G j (by rw[<-d.o.2.1];exact I);clear D G;go_wp2_with fail;refine HI.o.mono ?_;rintro e G ⟨rfl,d0,c8,d5⟩;have D:∀{t:TypeId},t≠3->∀b,b<wr.heap.size->(∃c f,wr.heap[b]?=some (.cells c t f))->G.heap[b]?=wr.heap[b]?:=λht=>yM5 d3.o d5 ht;have c9:Hi (G.ownsRow w.heap.size 72 1 (.slice ro r rc) r (rdL tl k)):=yJ9 W.o (D dC);have c6:Hi (∀j,j<r->G.ownsRow B 117 2 (atL (rdL tl k) j) (n2 j) (X2 j)):=λj I=>yJ9 (za1 (c4.o j I).1 J.o) (D dC);have d7:Hi (G.ownsRow Bl 37 3 (.slice lo k lc) k (pqL V M k)):=yJ9 (za1 HL.o J.o) (D dC);have c7:Hi (∀j,j<k->G.ownsRow B 76 4 (V (2*j)) (P j).2.1.length (vxL (P j).2.1 (tl j))/\G.ownsRow B 78 3 (V (2*j+1)) (P j).2.2.length (lkL (P j).2.2)):=λj I=>⟨yJ9 (za1 (HP.o.vs j I) J.o) (D dC),yJ9 (za1 (HP.o.ls j I) J.o) (D dC)⟩;have K:Hi (Below B w G/\w.heap.size<=G.heap.size):=⟨(Below.mono J.o a4.o.2).trans d0,aH J.o.le c8⟩;have HJ:=hid (yN4 r ro rc (atL (rdL tl k)) n2 X2 B w.heap.size G (by rw[d.o.2.1,yP2,<-d.o.2.1];exact c9.o) c6.o (by rw[d.o.2.1];exact HP.o.ar.apart) (aH a4.o.2 K.o.2) (λj I=>by have:=(c4.o j I).2;omega) d.o.2.2.2);clear d0 c8 d5 D HI d3 R W c9 J HL;go_wp2_with fail;refine HJ.o.mono ?_;rintro e w3 ⟨rfl,W,d6,R⟩;have D:∀{t:TypeId},t≠117->∀b,b<G.heap.size->(∃c f,G.heap[b]?=some (.cells c t f))->w3.heap[b]?=G.heap[b]?:=λht=>yM5 c6.o R ht;have J:Hi (Below B w w3/\w.heap.size<=w3.heap.size):=⟨K.o.1.trans W,aH K.o.2 d6⟩
 have HR:=hid (yN2 k lo lc V M (λj=>if j%2=0 then (P (j/2)).2.1.length else (P (j/2)).2.2.length) (λj=>if j%2=0 then vxL (P (j/2)).2.1 (tl (j/2)) else lkL (P (j/2)).2.2) B Bl w3 (yJ9 d7.o (D dC)) (λj I=>by
  rcases Nat.mod_two_eq_zero_or_one j with c | c
  ·have h:=yJ9 (c7.o (j/2) oM).1 (D dC)
   rw[show 2*(j/2)=j by omega]at h;simp only[eR,sR,aG c];exact h
  ·have h:=yJ9 (c7.o (j/2) oM).2 (D dC)
   rw[show 2*(j/2)+1=j by omega]at h;have c':¬j%2=0:=oM;simp only[eR,sR,aC c']
   exact h) HP.o.av (aH a4.o.2 J.o.2) (λj I=>by
  have h:=HP.o.sm (j/2) oM;have h1:=h.vs;have h2:=h.ls
  split<;>omega) (λj I=>(HF.o j I).2.1) (oH a4.o))
 clear W d6 R D HJ c4 c6 d7 c7 K;go_wp2_with fail;refine HR.o.mono ?_;rintro e w4 ⟨rfl,D,K,W⟩;have R:=hid (J.o.1.trans D);clear D K W;go_wp2_with fail;go_ret;exact⟨rfl,R.o⟩
structure PtT(w:World)(B E:Nat)(vv lv mv:Value)(P:List Int×List Vx×List Lk)(tl:List (Value×Value)):Prop where
 len:tl.length=P.2.1.length
 vs:w.ownsRow B 76 4 vv P.2.1.length (vxL P.2.1 tl)
 ls:w.ownsRow B 78 3 lv P.2.2.length (lkL P.2.2)
 ms:w.ownsRow B 3 1 mv P.1.length (ilL P.1)
 tk:∀(i:Nat) (v:Vx) (x:Value×Value),P.2.1[i]?=some v->tl[i]?=some x->AD w B x.1 x.2 v.2
 ap:ApL tl
 am:∀y∈tl,ApT y (mv,sZ)
 ev:∀b,vv.ownBlock=some b\/lv.ownBlock=some b\/mv.ownBlock=some b->b<E
 et:∀y∈tl,∀b,y.1.ownBlock=some b\/y.2.ownBlock=some b->b<E
def PtT.ok{tl:List (Value×Value)}(h:PtT w B E vv lv mv P tl)(d:Ok w w'):PtT w' B E vv lv mv P tl :=
 { h with
  vs:=za1 h.vs d
  ls:=za1 h.ls d
  ms:=za1 h.ms d
  tk:=λi v x D o=>(h.tk i v x D o).ok d }
def PtT.o{tl:List (Value×Value)}(h:PtT w B E vv lv mv P tl):PtO w B vv lv mv P:=⟨⟨tl,h.len,h.vs,h.tk⟩,h.ls,h.ms⟩
def PtT.at{tl:List (Value×Value)}(h:PtT w B E vv lv mv P tl){y:Value×Value}(D:y∈tl):∃v,AD w B y.1 y.2 v/\v∈P.2.1.map (·.2):=by obtain⟨i,d⟩:=bW.1 D;obtain⟨v,o⟩:∃v,P.2.1[i]?=some v:=⟨_,aJ (by rw[<-h.len];exact(aE.1 d).1)⟩;exact⟨v.2,h.tk i v y o d,bX.2 ⟨v,mG_ o,rfl⟩⟩
def spZ(r:Int)(N:Nat)(R:List Int×List Vx×List Lk):List Int×List Vx×List Lk:=if r=0 then (mgL N R.1,R.2.1,R.2.2) else ([],[],[])
def wr6.t{r:Int}{R:List Int×List Vx×List Lk}{e:Ending}(h:wr6 w r N R e w'):∃vv lv mv tl,e=.returned (.tuple #[.agg #[vv,lv,mv],nI r])/\PtT w' w.heap.size w'.heap.size vv lv mv (spZ r N R) tl/\Ok w w':=by
 rcases h with ⟨G,rfl,I⟩ | ⟨G,vv,lv,mv,rfl,⟨tl,D,J,O,h4⟩,X,W,h7,I⟩
 ·refine⟨_,_,_,[],rfl,?_,I⟩
  unfold spZ;rw[aC G];exact⟨rfl,World.ownsRow_nil _ _ _ _,World.ownsRow_nil _ _ _ _,World.ownsRow_nil _ _ _ _,λi v x o=>by simp at o,λi j y x _ d=>by simp at d,λy d=>by simp at d,λb hb=>by simp[Value.ownBlock]at hb,λy d=>by simp at d⟩
 subst G;refine⟨_,_,_,tl,rfl,?_,I⟩;unfold spZ;rw[aG rfl];refine⟨D,J,X,W,O,h4,h7 tl D (za7 J (zL_ _)),λb hb=>?_,λy d b hb=>?_⟩
 ·rcases hb with hb | hb | hb
  ·exact(J.lt b hb).2
  ·exact(X.lt b hb).2
  exact(W.lt b hb).2
 obtain⟨i,K⟩:=bW.1 d;obtain⟨v,o⟩:∃v,R.2.1[i]?=some v:=⟨_,aJ (by rw[<-D];exact(aE.1 K).1)⟩;have Y:=O i v y o K;rcases hb with hb | hb
 ·exact(Y.hist.lt b hb).2
 exact(Y.loops.lt b hb).2
def SpG.o{r:Int}{R:List Int×List Vx×List Lk}{e:Ending}(h:SpG w r N R e w'):∃vv lv mv,e=.returned (.tuple #[.agg #[vv,lv,mv],nI r])/\PtO w' w.heap.size vv lv mv (spZ r N R)/\Ok w w':=by
 rcases h with ⟨d,rfl,D⟩ | ⟨d,vv,lv,mv,rfl,I,K,G,D⟩
 ·refine⟨_,_,_,rfl,?_,D⟩
  unfold spZ;rw[aC d];exact⟨⟨[],rfl,World.ownsRow_nil _ _ _ _,λi v x J=>by simp at J⟩,World.ownsRow_nil _ _ _ _,World.ownsRow_nil _ _ _ _⟩
 subst d;refine⟨_,_,_,rfl,?_,D⟩;unfold spZ;rw[aG rfl];exact⟨I,K,G⟩
def ApV.nil:ApV []:=λi j u x _ h=>by simp at h
def ApV.app{K:List Value}(I:ApV L)(O:ApV K)(J:∀u∈L,∀x∈K,∀b,u.ownBlock=some b->x.ownBlock≠some b):ApV (L++K):=λi j u x G D o=>by
 by_cases c:j<L.length
 ·rw[aQ c]at o
  rw[aQ oM]at D;exact I i j u x G D o
 rw[bC oM]at o;by_cases d:i<L.length
 ·rw[aQ d]at D
  exact J u (mG_ D) x (mG_ o)
 rw[bC oM]at D;exact O _ _ u x oM D o
def ApV.one(u:Value):ApV [u]:=λi j v x o G d=>by have D:=(aE.1 d).1;simp at D;omega
def ApL.map1{tl:List (Value×Value)}(h:ApL tl):ApV (tl.map (·.1)):=λi j u x d o D=>by rw[aX]at o D;obtain⟨y,I,rfl⟩:=eM.1 o;obtain⟨z,G,rfl⟩:=eM.1 D;exact(h i j y z d I G).1
def ApL.map2{tl:List (Value×Value)}(h:ApL tl):ApV (tl.map (·.2)):=λi j u x d o D=>by rw[aX]at o D;obtain⟨y,I,rfl⟩:=eM.1 o;obtain⟨z,G,rfl⟩:=eM.1 D;exact(h i j y z d I G).2
def prV(vv lv:Nat->Value)(j:Nat):Value:=if j%2=0 then vv (j/2) else lv (j/2)
def wx3(vv lv:Nat->Value)(k:Nat):prV vv lv (2*k)=vv k:=by unfold prV;rw[aG oM,show 2*k/2=k by omega]
def wx4(vv lv:Nat->Value)(k:Nat):prV vv lv (2*k+1)=lv k:=by unfold prV;rw[aC oM,show(2*k+1)/2=k by omega]
def PsM.of{B0:Nat}{vv lv:Nat->Value}{P:Nat->List Int×List Vx×List Lk}{B E:Nat->Nat}(h:∀k,k<N->PtT Z (B k) (E k) (vv k) (lv k) (M k) (P k) (tl k))(R:∀k k',k<k'->k'<N->E k<=B k')(h0:∀k,k<N->B0<=B k)(hs:∀k,k<N->PtB (P k)):PsM Z B0 N (prV vv lv) M P tl:=by
 have nm:∀k,k<=N->ApV (nmL M tl k)/\∀u∈nmL M tl k,∀b,u.ownBlock=some b->∃j,j<k/\b<E j:=λk=>by
  induction k with
  | zero=>exact λ_=>⟨ApV.nil,λu G=>by simp[nmL]at G⟩
  | succ k ih =>
   intro J;obtain⟨i1,i2⟩:=ih oM;have D:=h k oM
   have O:∀u∈M k::(tl k).map (·.1),∀b,u.ownBlock=some b->B k<=b/\b<E k:=λu G b o=>by
    rcases bJ.1 G with e | e
    ·rw[e]at o;exact⟨(D.ms.lt b o).1,D.ev b (.inr (.inr o))⟩
    obtain⟨y,W,e2⟩:=bX.1 e;subst e2;obtain⟨v,hv,_⟩:=D.at W;exact⟨(hv.hist.lt b o).1,D.et y W b (.inl o)⟩
   rw[yK1];refine⟨i1.app ?_ λu G x hx b o K=>?_,λu G b o=>?_⟩
   ·refine(ApV.one (M k)).app D.ap.map1 λu G x hx b o K=>?_
    rw[aT.1 G]at o;obtain⟨y,W,e2⟩:=bX.1 hx;subst e2;exact(D.am y W).1 b K o
   ·obtain⟨j,Y,X⟩:=i2 u G b o
    have h2:=(O x hx b K).1;have h3:=R j k Y oM;omega
   rcases bA.1 G with e | e
   ·obtain⟨j,Y,X⟩:=i2 u e b o
    exact⟨j,oM,X⟩
   exact⟨k,oM,(O u e b o).2⟩
 have rd:∀k,k<=N->ApV (rdL tl k)/\∀u∈rdL tl k,∀b,u.ownBlock=some b->∃j,j<k/\b<E j:=λk=>by
  induction k with
  | zero=>exact λ_=>⟨ApV.nil,λu G=>by simp[rdL]at G⟩
  | succ k ih =>
   intro J;obtain⟨i1,i2⟩:=ih oM;have D:=h k oM
   have O:∀u∈(tl k).map (·.2),∀b,u.ownBlock=some b->B k<=b/\b<E k:=λu G b o=>by obtain⟨y,W,e2⟩:=bX.1 G;subst e2;obtain⟨v,hv,_⟩:=D.at W;exact⟨(hv.loops.lt b o).1,D.et y W b (.inr o)⟩
   rw[yK2];refine⟨i1.app D.ap.map2 λu G x hx b o K=>?_,λu G b o=>?_⟩
   ·obtain⟨j,Y,X⟩:=i2 u G b o
    have h2:=(O x hx b K).1;have h3:=R j k Y oM;omega
   rcases bA.1 G with e | e
   ·obtain⟨j,Y,X⟩:=i2 u e b o
    exact⟨j,oM,X⟩
   exact⟨k,oM,(O u e b o).2⟩
 refine⟨λk J=>(h k J).len,λk J=>?_,λk J=>?_,λk J=>za7 (h k J).ms (h0 k J),λk J i v x X h2=>((h k J).tk i v x X h2).base (h0 k J),hs,(nm N (nR_ _)).1,(rd N (nR_ _)).1,λj j' Y a2 a3 b o I=>?_⟩
 ·rw[wx3];exact za7 (h k J).vs (h0 k J)
 ·rw[wx4];exact za7 (h k J).ls (h0 k J)
 have a1:∀i,i<2*N->(prV vv lv i).ownBlock=some b->B (i/2)<=b/\b<E (i/2):=λi hi e=>by
  unfold prV at e;have D:=h (i/2) oM
  split at e
  ·exact⟨(D.vs.lt b e).1,D.ev b (.inl e)⟩
  exact⟨(D.ls.lt b e).1,D.ev b (.inr (.inl e))⟩
 have k1:=a1 j Y o;have k2:=a1 j' a2 I;rcases eU (j/2) (j'/2) with c | c | c
 ·have:=R _ _ c oM;omega
 ·unfold prV at o I
  have D:=h (j/2) oM;rw[<-c]at I;by_cases d:j%2=0
  ·rw[aG d]at o
   rw[aC oM]at I;exact yJ2 D.vs D.ls dC b I o
  rw[aC d]at o;rw[aG oM]at I;exact yJ2 D.vs D.ls dC b o I
 have:=R _ _ c oM;omega
end Go.Proofs.YthoegkcpmgalbaaGreatDoor
