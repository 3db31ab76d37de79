import Derived.Deep.CutBlock
import Derived.Test.YthoegkcpmgalbaaGreatDoorKHc
set_option maxHeartbeats 8000000
set_option linter.all false
set_option maxRecDepth 100000
namespace Go.Proofs.YthoegkcpmgalbaaGreatDoor
open Go.RowKit
def yH4(hv lv:Value)(t:Tok)(w:World)(d:EA w hv lv t)(I:t.2.1.length*8<=140737488355328/\t.2.2.length*16<=140737488355328) :
  Calls Tryz.prog 57 #[.agg #[.bool t.1,hv,lv]] w λe w'=>∃a3 a2,e=.returned (.agg #[.bool t.1,a3,a2])/\AD w' w.heap.size a3 a2 (cpT t)/\Ok w w':=by
 have G:=hid d;have HB:=hid I;obtain⟨_,_,Z,L,rfl,_⟩:=d.hist;obtain⟨_,_,J,O,rfl,_⟩:=d.loops;obtain⟨m,D⟩:=qq (t.1);have HM:Hi (m=t.1):=D;rw[<-D];clear d I D;obtain⟨q,D⟩:=qq (t.2.1.length);obtain⟨n,d⟩:=qq (t.2.2.length);have HQ:Hi (q=t.2.1.length/\n=t.2.2.length):=⟨D,d⟩;rw[<-D,<-d];have R:Hi (SL w 1 (.slice Z q L) q (ilL t.2.1)):=by rw[D];exact G.o.hist
 have X:Hi (SL w 2 (.slice J n O) n (lpL t.2.2)):=by rw[d];exact G.o.loops
 clear D d G;go_enter Tryz.func57,Tryz.ntmps57
 cases m with
 | true =>
  have HE:Hi (cpT t=EG):=by unfold Hi cpT;rw[aG HM.o.symm]
  go_wp2_with fail;(try simp only[Exit.inBlock,Exit.then]);refine bodyPost_ret (results_cell_row rfl _ _ (w.heap.size+1) 74 #[_,_,_] (0,0) _ rfl jj Tryz.underlying74 rfl EV) rfl ?_;exact⟨_,_,rfl,by rw[HE.o];exact⟨World.ownsRow_nil _ _ _ _,World.ownsRow_nil _ _ _ _⟩,((Ok.refl w).alloc _).alloc _⟩
 | false =>
  have HE:Hi (cpT t=t):=by unfold Hi cpT;rw[aC (by rw[<-HM.o];decide)]
  go_wp2_with fail;obtain⟨W,G⟩:=qq ((w.alloc (Obj.cells #[.bool false,.slice Z q L,.slice J n O] 74)).alloc (Obj.cells #[.bool false,sZ,sZ] 74));obtain⟨gr,d⟩:=qq (w.heap.size+1);obtain⟨gp,D⟩:=qq (w.heap.size);rw[<-G,<-d,<-D];have HK:Hi (Ok w W):=by rw[G];exact((Ok.refl w).alloc _).alloc _
  have HP:Hi (W.heap[gp]?=some (.cells #[Value.bool false,Value.slice Z q L,Value.slice J n O] 74 (0,0))):=by rw[G,D];exact jj
  have HR:Hi (W.heap[gr]?=some (.cells #[Value.bool false,sZ,sZ] 74 (0,0))):=by rw[G,d];exact jj
  have HG:Hi (w.heap.size<=gr):=by unfold Hi;omega
  clear G d D;replace R:Hi (∀Y,Ok W Y->SL Y 1 (.slice Z q L) q (ilL t.2.1)):=λY hY=>R.o.below (HK.o.step hY);replace X:Hi (∀Y,Ok W Y->SL Y 2 (.slice J n O) n (lpL t.2.2)):=λY hY=>X.o.below (HK.o.step hY)
  have a1:Hi (∀Y,Ok W Y->Y.cell? (aD gp 1)=some (.slice Z q L)/\Y.cell? (aD gp 2)=some (.slice J n O)/\gp<Y.heap.size):=λY hY=>by have h:=Ok.row' hY HP.o;exact⟨(cell_of_row _ _ 1 _ _ _ h).trans sI,(cell_of_row _ _ 2 _ _ _ h).trans sI,za2 h⟩
  have S0:Ok W W.drew:=Below.drew (Ok.refl _);refine zd5 (λY=>Ok W Y) 7 kR ?_;refine tK 0 (pA gp 1) S0 ?_;simp only[pu];refine tL 1 (.slice Z q L) S0 ?_ ?_
  ·intro w' s0;obtain⟨z1,z2,z3⟩:=a1.o w' s0;clear s0;go_simp;try with_reducible rfl
  simp only[pu];refine tK 3 (pA gp 2) S0 ?_;simp only[pu];refine tL 4 (.slice J n O) S0 ?_ ?_
  ·intro w' s0;obtain⟨z1,z2,z3⟩:=a1.o w' s0;clear s0;go_simp;try with_reducible rfl
  simp only[pu];refine zb0 (i:=2) kR rfl (λK d=>?_);refine zj0 rfl _ _ 28 3 1 8 _ rfl Tryz.underlying28 wb7 (by rfl) dC dC W.heap.size (sZ) 0 [] (by rfl) (World.ownsRow_nil _ _ _ _) (.slice Z q L) q (ilL t.2.1) (by rfl) (R.o _ (Below.drew (Ok.refl _))) (oK HB.o.1 HQ.o.1) (nR_ _) ?_;intro v1 w1 G k2;rw[aL,cV]at G;have D:Hi (Ok W w1):=Ok.step (Below.drew (Ok.refl _)) (Ok.grown0 k2);have a4:=hid G;obtain⟨vo,vc,rfl⟩:=za0 G;clear G k2;refine d.out _ _ (λ_=>D.o) ?_;clear d K;simp only[pu];refine zb0 (i:=5) kR rfl (λK d=>?_);refine zj0 rfl _ _ 72 117 2 16 _ rfl Tryz.underlying72 wj4 (by rfl) dC dC W.heap.size (sZ) 0 [] (by rfl) (World.ownsRow_nil _ _ _ _) (.slice J n O) n (lpL t.2.2) (by rfl) (X.o _ D.o) (oK HB.o.2 HQ.o.2) D.o.le ?_;intro v2 w2 G k2;rw[aL,cV]at G;have I:=hid (D.o.step (Ok.grown0 k2));have a6:=hid (za1 a4.o (Ok.grown0 k2));have a5:=hid G;obtain⟨uo,uc,rfl⟩:=za0 G;clear G k2;refine d.out _ _ (λ_=>I.o) ?_;clear d K;simp only[pu];refine zb0 (i:=6) kR rfl (λK d=>?_);go_simp;refine d.out _ _ (λ_=>I.o) ?_;clear d K;have G:Hi _:=Ok.row' I.o HR.o;obtain⟨c0,c1,c2,c3,c4,c5⟩:=za9 G.o;have a7:=za2 G.o;refine zb0 (i:=7) kR rfl (λK d=>?_);go_simp;refine d.out _ _ (λh=>absurd rfl h) ?_;clear d K;refine zd4 kR ?_ _;go_wp2_with fail;(try simp only[Exit.inBlock,Exit.then]);refine bodyPost_ret (results_cell_row rfl _ _ gr 74 #[_,_,_] (0,0) _ rfl (zd9 G.o _ _ _) Tryz.underlying74 rfl EV) rfl ?_;have d:gr<W.heap.size:=za2 HR.o;refine⟨_,_,rfl,?_,((((HK.o.step I.o).set HG.o _).set HG.o _).set HG.o _)⟩;rw[HE.o];refine⟨?_,?_⟩
  ·rw[<-HQ.o.1];exact za7 (zf6 a6.o d _ _ _) HK.o.le
  rw[<-HQ.o.2];exact za7 (zf6 a5.o d _ _ _) HK.o.le
def yH8(H U:Int)(e:Ed)(i:Nat)(d:List Int)(o:List (Int×Int)):(AM H U e i (false,d,o)).1=false:=by
 unfold AM;rw[aC (by simp)]
 repeat (first | rfl | split)
def yH9{w:World}{B s n g cap:Nat}{e:TypeId}{J:List Value}(h:w.ownsRow B e s (.slice (sA g 0) n cap) n J)(o:Nat):w.frozen? (aD g o)=false:=by
 rcases h.2 with ⟨D,_⟩ | ⟨K,G,I,D,_,d,_⟩
 ·cases D
 injection D with e5 _ _
 injection e5 with e5
 injection e5 with e5
 rw[<-e5]at d;exact frozen_of_row _ _ _ _ _ d
def yH5(e:Ed)(i:Nat)(c:Nat->Int)(tz:Option Addr)(tn tc:Nat)(hv lv:Value)(t:Tok)(w:World)(D:EA w hv lv t)(I:TkW t)(K:i<=1000000)(hU:c 1<=1000) :
  Calls Tryz.prog 35 #[.agg #[nI e.from',nI e.to',nI e.op,nI e.place,.bool e.sense,.bool e.loop],nI (i:Nat),.agg #[nI (c 0),nI (c 1),nI (c 2),nI (c 3),nI (c 4),nI (c 5),.slice tz tn tc,nI (c 7),nI (c 8)],.agg #[.bool t.1,hv,lv]] w λex w'=>∃b5 b3,ex=.returned (.agg #[.bool (AM (c 0) (c 1) e i t).1,b5,b3])/\AD w' w.heap.size b5 b3 (AM (c 0) (c 1) e i t)/\Ok w w':=by
 have HB:Hi (TkW t/\i<=1000000/\c 1<=1000):=⟨I,K,hU⟩;have R:Hi (∀Y,Ok w Y->Calls Tryz.prog 57 #[.agg #[.bool t.1,hv,lv]] Y λex w'=>∃b5 b3,ex=.returned (.agg #[.bool t.1,b5,b3])/\AD w' Y.heap.size b5 b3 (cpT t)/\Ok Y w'):=λY hY=>yH4 hv lv t Y (D.below hY) ⟨oH I.hz,oH I.lz⟩;obtain⟨_,_,ho,hc,e1,_⟩:=D.hist;obtain⟨_,_,lo,lc,e2,_⟩:=D.loops;obtain⟨Z,f1,op,pl,sn,lp⟩:=e;obtain⟨m,G,d⟩:=t;obtain⟨q,J⟩:=qq (G.length);obtain⟨n,hn⟩:=qq (d.length);simp only[<-J,<-hn]at e1 e2;subst e1 e2;clear D I K hU J hn;go_enter Tryz.func35,Tryz.ntmps35;go_wp2_with fail;obtain⟨W,K⟩:=qq ((((w.alloc (Obj.cells #[nI Z,nI f1,nI op,nI pl,.bool sn,.bool lp] 98)).alloc (Obj.cells #[nI (c 0),nI (c 1),nI (c 2),nI (c 3),nI (c 4),nI (c 5),.slice tz tn tc,nI (c 7),nI (c 8)] 24)).alloc (Obj.cells #[.bool m,.slice ho q hc,.slice lo n lc] 74)).alloc (Obj.cells #[.bool false,sZ,sZ] 74));obtain⟨gE,D⟩:=qq (w.heap.size);obtain⟨gC,J⟩:=qq (w.heap.size+1);obtain⟨gT,L⟩:=qq (w.heap.size+1+1);obtain⟨gR,I⟩:=qq (w.heap.size+1+1+1);rw[<-K,<-I,<-L,<-J,<-D];have a5:Hi (Ok w W):=by rw[K];exact((((Ok.refl w).alloc _).alloc _).alloc _).alloc _
 have g2:Hi (W.heap[gE]?=some (.cells #[nI Z,nI f1,nI op,nI pl,.bool sn,.bool lp] 98 (0,0))):=by rw[K,D];exact jj
 have f9:Hi (W.heap[gC]?=some (.cells #[nI (c 0),nI (c 1),nI (c 2),nI (c 3),nI (c 4),nI (c 5),.slice tz tn tc,nI (c 7),nI (c 8)] 24 (0,0))):=by rw[K,J];exact jj
 have b4:Hi (W.heap[gR]?=some (.cells #[.bool false,sZ,sZ] 74 (0,0))):=by rw[K,I];exact jj
 have HG:Hi (w.heap.size<=gR):=by unfold Hi;omega
 clear K D J L I;refine(R.o W a5.o).mono ?_;rintro ex w1 ⟨i7,i1,rfl,D,b9⟩;obtain⟨o1,c1,rfl⟩:=za0 D.hist;obtain⟨o2,c2,rfl⟩:=za0 D.loops;obtain⟨q1,J⟩:=qq ((cpT (m,G,d)).2.1.length);obtain⟨I,L⟩:=qq ((cpT (m,G,d)).2.2.length);have HQ:Hi (q1=(cpT (m,G,d)).2.1.length/\I=(cpT (m,G,d)).2.2.length):=⟨J,L⟩;rw[<-J,<-L]at D ⊢;have O:=hid D;have K:=hid b9;clear D b9 J L R
 go_upto_region 2 with (fail)
 obtain⟨X,L⟩:=qq (w1.alloc (Obj.cells #[.bool m,.slice o1 q1 c1,.slice o2 I c2] 74));obtain⟨g9,J⟩:=qq (w1.heap.size);rw[<-L,<-J];have D:Hi (Ok w1 X):=by rw[L];exact(Ok.refl _).alloc _
 have b7:Hi (X.heap[g9]?=some (.cells #[.bool m,.slice o1 q1 c1,.slice o2 I c2] 74 (0,0))):=by rw[L,J];exact za3 _ _
 have c3:Hi (W.heap.size<=g9/\(∀v B n xs,w1.ownsRow B 3 1 v n xs->v.ownBlock≠some g9)/\∀v B n xs,w1.ownsRow B 117 2 v n xs->v.ownBlock≠some g9):=by unfold Hi;rw[J];exact⟨K.o.le,λv B n xs h e=>by have:=(h.lt _ e).2;omega,λv B n xs h e=>by have:=(h.lt _ e).2;omega⟩
 have a8:=hid (K.o.step D.o);have R:=hid (O.o.ok D.o);clear L J K O D;obtain⟨E0,E1,E2,E3,E4,E5,lE⟩:=CY (Ok.row' a8.o g2.o);obtain⟨p0,p1,p2,p3,p4,p5,p6,p7,p8,c0⟩:=CH (Ok.row' a8.o f9.o);obtain⟨y0,y1,y2,y3,y4,y5⟩:=za9 b7.o;have ly:=za2 b7.o;have b8:Hi (X.heap[gR]?=_):=Ok.row' a8.o b4.o;obtain⟨d0,d1,d2,d3,d4,d5⟩:=za9 b8.o;have ld:=za2 b8.o
 cases m with
 | true =>
  go_wp2_with fail;(try simp only[Exit.inBlock,Exit.then]);refine bodyPost_ret (results_cell_row rfl _ _ gR 74 #[_,_,_] (0,0) _ rfl (zd9 b8.o _ _ _) Tryz.underlying74 rfl EV) rfl ?_;have e:AM (c 0) (c 1) ⟨Z,f1,op,pl,sn,lp⟩ i (true,G,d)=cpT (true,G,d):=by unfold AM cpT;rw[aG rfl,aG rfl]
  have a3:gR<W.heap.size:=za2 b4.o;exact⟨_,_,by rw[e];rfl,by rw[e];exact(R.o.set3 a3 _ _ _).base a5.o.le,(a5.o.step a8.o).set3 HG.o _ _ _⟩
 | false =>
  have g4:cpT (false,G,d)=(false,G,d):=rfl;rw[g4]at R HQ;by_cases h5:op=5;rotate_left
  ·have D:(op != 5)=true:=by rw[dO];exact h5
   go_wp2_with fail;(try simp only[Exit.inBlock,Exit.then]);refine bodyPost_ret (results_cell_row rfl _ _ gR 74 #[_,_,_] (0,0) _ rfl (zd9 b8.o _ _ _) Tryz.underlying74 rfl EV) rfl ?_;have e:AM (c 0) (c 1) ⟨Z,f1,op,pl,sn,lp⟩ i (false,G,d)=(false,G,d):=by unfold AM;rw[aC (by simp),aG h5]
   have a3:gR<W.heap.size:=za2 b4.o;exact⟨_,_,by rw[e],by rw[e];exact(R.o.set3 a3 _ _ _).base a5.o.le,(a5.o.step a8.o).set3 HG.o _ _ _⟩
  subst h5;obtain⟨la,h8⟩:∃z:Int,IntKind.i64.wrap ((I:Int)-1)=z:=⟨_,rfl⟩;have c9:Hi (I*16+16<=140737488355328/\q1*8+8<=140737488355328):=⟨by rw[HQ.o.2];exact HB.o.1.lz,by rw[HQ.o.1];exact HB.o.1.hz⟩;have d9:Hi (la=(I:Int)-1):=by unfold Hi;rw[<-h8,IntKind.wrap_i64];have:=c9.o;omega
  obtain⟨a9,D⟩:=qq (ET (false,G,d) Z);have a6:=hid D;clear D
  go_upto_region 5 with (fail)
  go_cut [10,11] from 12 to 109 (λf2 g3 wx=>f2=nI la/\g3=.bool a9/\Hi (Ok X wx))
  case first =>
   by_cases J:I=0
   ·have O:¬(0<=la):=oH d9.o
    have D:Hi (a9=false):=by rw[a6.o];exact zz9 (aW (by have:=HQ.o.2;exact this.symm.trans J))
    clear J;go_quiet (fail);go_wp2_with fail
    go_meet
    case rel=>exact⟨rfl,by rw[D.o],(Ok.refl X).draws _⟩
   obtain⟨k,hk⟩:∃k,I=k+1:=⟨I-1,oM⟩;have c7:la=(k:Int):=oH d9.o
   obtain⟨x,hx⟩:∃x,d[k]?=some x:=⟨_,gG_ (by have h:=HQ.o.2;have K:I=d.length:=h;omega)⟩;have D:Hi (a9=(x.1==Z)):=by rw[a6.o];exact yb9 (t:=(false,G,d)) (by have h:=HQ.o.2;have K:I=d.length:=h;show d[d.length-1]?=_;rw[show d.length-1=k by omega];exact hx)
   obtain⟨b2,g0,e1,_⟩:=R.o.loops.form (by have h:=HQ.o.2;show 0<d.length;have K:I=d.length:=h;omega)
   injection e1 with e1 e6 e7
   subst e1 e7;clear e6;have L:=R.o.loops.cells (g:=b2) rfl (k*2) _ (zi1 d k x hx).1;rw[zb7,aL]at L;have h4:=(R.o.loops.lt b2 rfl).2;have b9:(0:Int)<=(k:Int):=oM;have h7:(k:Int)<(I:Int):=oM;have g5:¬((I:Int)<=(k:Int)):=oM;clear hx hk J;go_quiet (fail);go_wp2_with fail
   go_meet
   case rel=>exact⟨by rw[c7],by rw[D.o],(Ok.refl X).draws _⟩
  obtain⟨rfl,rfl,b1⟩:=hcut;obtain⟨st,D⟩:=qq (AM (c 0) (c 1) ⟨Z,f1,5,pl,sn,lp⟩ i (false,G,d));have a4:=hid D;clear D E0 E1 E2 E3 E4 E5 lE p0 p1 p2 p3 p4 p5 p6 p7 p8 c0 y0 y1 y2 y3 y4 y5 ly d0 d1 d2 d3 d4 d5 ld;have O:=hid (a8.o.step b1.o);have D:Hi (wc.heap[g9]?=_):=Ok.row' b1.o b7.o;have c8:q1=G.length:=HQ.o.1;have L:I=d.length:=HQ.o.2;have HH:Hi (wc.ownsRow W.heap.size 3 1 (.slice o1 q1 c1) q1 (ilL G)):=by have h:=za1 R.o.hist b1.o;unfold Hi;rw[c8]at h ⊢;exact h
  have J:Hi (wc.ownsRow W.heap.size 117 2 (.slice o2 I c2) I (lpL d)):=by have h:=za1 R.o.loops b1.o;unfold Hi;rw[L]at h ⊢;exact h
  have K:Hi (q1=G.length/\I=d.length):=⟨c8,L⟩;have c4:Hi (st=(false,G,d)->∃xo xn xc yo yn yc,Hi (Ok W wc/\wc.heap[g9]?=some (.cells #[.bool false,.slice xo xn xc,.slice yo yn yc] 74 (0,0))/\AD wc W.heap.size (.slice xo xn xc) (.slice yo yn yc) st)):=λe=>⟨_,_,_,_,_,_,O.o,D.o,by rw[e];exact R.o.ok b1.o⟩;clear c8 L R b7;obtain⟨E0,E1,E2,E3,E4,E5,lE⟩:=CY (Ok.row' O.o g2.o);obtain⟨p0,p1,p2,p3,p4,p5,p6,p7,p8,c0⟩:=CH (Ok.row' O.o f9.o);obtain⟨y0,y1,y2,y3,y4,y5⟩:=za9 D.o;have ly:=za2 D.o
  go_upto_block 0 with (fail)
  go_cut [10] from 12 to 109 (λf2 wx=>∃xo xn xc yo yn yc,Hi (Ok W wx/\wx.heap[g9]?=some (.cells #[.bool false,.slice xo xn xc,.slice yo yn yc] 74 (0,0))/\AD wx W.heap.size (.slice xo xn xc) (.slice yo yn yc) st))
  case first =>
   cases lp with
   | false =>
    by_cases a3:(q1:Int)<c 0
    ·have HE:Hi (st=(false,G++[(i:Int)],d)):=by unfold Hi;rw[a4.o];unfold AM;rw[aC (by simp),aC (by simp),aG rfl,aG (by show((G.length:Nat):Int)<c 0;rw[<-K.o.1];exact a3)]
     have a1:Hi ((wc.alloc (Obj.cells #[nI (i:Nat)] 3)).ownsRow W.heap.size 3 1 (.slice o1 q1 c1) q1 (ilL G)):=World.ownsRow.alloc HH.o _;have a7:Hi ((wc.alloc (Obj.cells #[nI (i:Nat)] 3)).heap[g9]?=some (.cells #[.bool false,.slice o1 q1 c1,.slice o2 I c2] 74 (0,0))):=heap_past _ _ _ (za2 D.o) D.o;have d8:Hi ((Value.slice o1 q1 c1).ownBlock≠some g9):=zb6 a1.o a7.o dC
     go_wp2_with (first|(at_builtin;refine ze4 rfl _ _ 28 3 1 8 _ rfl Tryz.underlying28 wb7 (by rfl) (by decide) (by decide) W.heap.size (.slice o1 q1 c1) q1 (ilL G) (by rfl) a1.o (.slice (sA wc.heap.size 0) 1 1) 1 [nI (i:Nat)] (by rfl) (SL.one wc 3 [nI (i:Nat)] rfl (by simp[Value.oneCell'])) (oH c9.o) (by have h1:=O.o.le;simp;omega) ?_;intro v9 w9 k1 k2;have b6:=hid k1;have b0:=hid k2;obtain⟨vo,vc,rfl⟩:=za0 k1;have L:Hi (w9.heap[g9]?=some (.cells #[.bool false,.slice o1 q1 c1,.slice o2 I c2] 74 (0,0))):=(k2.block g9 (za2 a7.o) (λe=>d8.o e.symm)).trans a7.o;clear k1 k2 y0 y1 y2 y3 y4 y5 ly;obtain⟨y0,y1,y2,y3,y4,y5⟩:=za9 L.o;have ly:=za2 L.o)|fail)
     go_meet
     case rel =>
      refine⟨_,_,_,_,_,_,(Ok.grown (O.o.alloc _) b0.o (λb e=>(a1.o.lt b e).1)).set c3.o.1 _,by have h3:=heap_setCell_same w9 g9 1 _ 74 (.slice vo (q1+1) vc) L.o;simpa using h3,?_⟩;rw[HE.o];refine⟨?_,?_⟩
      ·show World.ownsRow _ _ _ _ _ (G++[(i:Int)]).length (ilL (G++[(i:Int)]))
       rw[zJ7,aA,aZ,<-K.o.1];exact zc7 b6.o (zb6 b6.o L.o dC) _
      show World.ownsRow _ _ _ _ _ d.length (lpL d);rw[<-K.o.2];have h9:=zd6 (World.ownsRow.alloc J.o (Obj.cells #[nI (i:Nat)] 3)) a1.o dC b0.o;exact zc7 h9 (zb6 h9 L.o dC) _
    have HE:Hi (st=(false,G,d)):=by unfold Hi;rw[a4.o];unfold AM;rw[aC (by simp),aC (by simp),aG rfl,aC (by show ¬((G.length:Nat):Int)<c 0;rw[<-K.o.1];exact a3)]
    go_wp2_with fail
    go_meet
    case rel=>exact c4.o HE.o
   | true =>
    have f4:Hi (a9=true->∃(k b2:Nat) (x:Int×Int),d.length=k+1/\la=(k:Int)/\d[k]?=some x/\o2=some ⟨b2,0,none⟩):=λe=>by
     have h2:=K.o.2
     cases hn:I with
     | zero =>
      have h1:=zz9 (t:=(false,G,d)) (h:=Z) (aW (by rw[<-h2,hn]));rw[<-a6.o,e]at h1;cases h1
     | succ k =>
      obtain⟨b2,g0,e1,_⟩:=J.o.form oM
      injection e1 with e1 _ _
      exact⟨k,b2,_,oM,oH d9.o,gG_ oM,e1⟩
    cases sn with
    | false =>
     cases a9 with
     | false =>
      have HE:Hi (st=(false,G,d)):=by unfold Hi;rw[a4.o];unfold AM;rw[aC (by simp),aC (by simp),aC (by simp),aG rfl,aC (by show ¬ET (false,G,d) Z=true;rw[<-a6.o];decide)]
      go_wp2_with fail
      go_meet
      case rel=>exact c4.o HE.o
     | true =>
      have HE:Hi (st=(false,G,d.dropLast)):=by unfold Hi;rw[a4.o];unfold AM;rw[aC (by simp),aC (by simp),aC (by simp),aG rfl,aG (by show ET (false,G,d) Z=true;rw[<-a6.o])]
      obtain⟨k,b2,x,hk,c7,hx,rfl⟩:=f4.o rfl;have g6:I<=c2:=yy2 J.o _ _ _ rfl;have i0:k<=c2:=oH K.o.2
      have i5:(k:Int)<=(c2:Int):=oM;have i6:(0:Int)<=(k:Int):=oM;have a2:Hi (d.length=k+1/\d[k]?=some x):=⟨hk,hx⟩;clear hk hx g6;go_wp2_with fail
      go_meet
      case rel =>
       refine⟨_,_,_,_,_,_,O.o.set c3.o.1 _,yy3 D.o _,?_⟩;rw[HE.o];refine⟨?_,?_⟩
       ·show World.ownsRow _ _ _ _ _ G.length (ilL G)
        rw[<-K.o.1];exact zc7 HH.o (zb6 HH.o D.o dC) _
       have g1:d.dropLast.length=k:=by rw[eB,a2.o.1];omega
       show World.ownsRow _ _ _ _ _ d.dropLast.length (lpL d.dropLast);rw[g1];have f3:d≠[]:=λe=>by have:=a2.o.1;rw[e]at this;cases this
       have e:lpL d=lpL d.dropLast++lpL [d.getLast f3]:=by
        conv=>lhs;rw[<-eN f3]
        unfold lpL;rw[fC]
       have h9:=J.o;rw[e]at h9;have f7:wc.ownsRow W.heap.size 117 2 (.slice (sA b2 0) k c2) k (lpL d.dropLast):=yj8 h9 (by rw[zz8,g1]) (oK K.o.2 a2.o.1);exact zc7 f7 (zb6 f7 D.o dC) _
    | true =>
     by_cases hU:0<c 1;rotate_left
     ·have HE:Hi (st=(false,G,d)):=by unfold Hi;rw[a4.o];unfold AM;rw[aC (by simp),aC (by simp),aC (by simp),aC (by simp),aC hU]
      go_wp2_with fail
      go_meet
      case rel=>exact c4.o HE.o
     cases a9 with
     | false =>
      have HE:Hi (st=(false,G,d++[(Z,1)])):=by unfold Hi;rw[a4.o];unfold AM;rw[aC (by simp),aC (by simp),aC (by simp),aC (by simp),aG hU,aC (by show ¬ET (false,G,d) Z=true;rw[<-a6.o];decide)]
      have a1:Hi ((wc.alloc (Obj.cells #[nI Z,nI 1] 117)).ownsRow W.heap.size 117 2 (.slice o2 I c2) I (lpL d)):=World.ownsRow.alloc J.o _;have a7:Hi ((wc.alloc (Obj.cells #[nI Z,nI 1] 117)).heap[g9]?=some (.cells #[.bool false,.slice o1 q1 c1,.slice o2 I c2] 74 (0,0))):=heap_past _ _ _ (za2 D.o) D.o;have d8:Hi ((Value.slice o2 I c2).ownBlock≠some g9):=zb6 a1.o a7.o dC
      go_wp2_with (first|(at_builtin;refine ze4 rfl _ _ 72 117 2 16 _ rfl Tryz.underlying72 wj4 (by rfl) (by decide) (by decide) W.heap.size (.slice o2 I c2) I (lpL d) (by rfl) a1.o (.slice (sA wc.heap.size 0) 1 1) 1 [nI Z,nI 1] (by rfl) (SL.one wc 117 [nI Z,nI 1] rfl (by simp[Value.oneCell'])) (oH c9.o) (by have h1:=O.o.le;simp;omega) ?_;intro v9 w9 k1 k2;have b6:=hid k1;have b0:=hid k2;obtain⟨vo,vc,rfl⟩:=za0 k1;have L:Hi (w9.heap[g9]?=some (.cells #[.bool false,.slice o1 q1 c1,.slice o2 I c2] 74 (0,0))):=(k2.block g9 (za2 a7.o) (λe=>d8.o e.symm)).trans a7.o;clear k1 k2 y0 y1 y2 y3 y4 y5 ly;obtain⟨y0,y1,y2,y3,y4,y5⟩:=za9 L.o;have ly:=za2 L.o)|fail)
      go_meet
      case rel =>
       refine⟨_,_,_,_,_,_,(Ok.grown (O.o.alloc _) b0.o (λb e=>(a1.o.lt b e).1)).set c3.o.1 _,yy3 L.o _,?_⟩;rw[HE.o];refine⟨?_,?_⟩
       ·show World.ownsRow _ _ _ _ _ G.length (ilL G)
        rw[<-K.o.1];have h9:=zd6 (World.ownsRow.alloc HH.o (Obj.cells #[nI Z,nI 1] 117)) a1.o dC b0.o;exact zc7 h9 (zb6 h9 L.o dC) _
       show World.ownsRow _ _ _ _ _ (d++[(Z,1)]).length (lpL (d++[(Z,1)]));rw[zJ8,aA,aZ,<-K.o.2];exact zc7 b6.o (zb6 b6.o L.o dC) _
     | true =>
      have HE:Hi (st=(false,G,wb0 (c 1) d)):=by unfold Hi;rw[a4.o];unfold AM;rw[aC (by simp),aC (by simp),aC (by simp),aC (by simp),aG hU,aG (by show ET (false,G,d) Z=true;rw[<-a6.o])]
      obtain⟨k,b2,x,hk,c7,hx,rfl⟩:=f4.o rfl;have d7:=J.o.cells (g:=b2) rfl (k*2+1) _ (zi1 d k x hx).2;rw[zb7,aL]at d7;have h4:=(J.o.lt b2 rfl).2;have b9:(0:Int)<=(k:Int):=oM;have h7:(k:Int)<(I:Int):=oH K.o.2
      have g5:¬((I:Int)<=(k:Int)):=oM;have h6:=(HB.o.1.li x (mG_ hx)).2;have a2:Hi (d.length=k+1/\d[k]?=some x/\I=k+1):=⟨hk,hx,oH K.o.2⟩
      have f8:Hi (∀wy z wx,Ok wc wy->z=(if x.2<c 1 then x.2+1 else c 1)->wx=wy.setCell ⟨b2,k*2+1,none⟩ (nI z)->∃xo xn xc yo yn yc,Hi (Ok W wx/\wx.heap[g9]?=some (.cells #[.bool false,.slice xo xn xc,.slice yo yn yc] 74 (0,0))/\AD wx W.heap.size (.slice xo xn xc) (.slice yo yn yc) st)):=λwy z wx hy hz hw=>by
       have J:=hid (za1 J.o hy);have HH:=hid (za1 HH.o hy);have O:=hid (O.o.step hy);have D:=hid (Ok.row' hy D.o);have g7:(Value.slice (sA b2 0) I c2).ownBlock≠some g9:=zb6 J.o D.o dC;have g8:g9≠b2:=λe=>g7 (by rw[e];rfl);subst hw;refine⟨_,_,_,_,_,_,O.o.set (J.o.lt b2 rfl).1 _,(Below.heap_setCell _ _ _ _ g8).trans D.o,?_⟩;rw[HE.o];obtain⟨u1,u2⟩:=yD2 a2.o.1 a2.o.2.1 (c 1);refine⟨?_,?_⟩
       ·show World.ownsRow _ _ _ _ _ G.length (ilL G)
        rw[<-K.o.1];refine zc7 HH.o (λe=>?_) _;obtain⟨c5,f5,k5⟩:=zf9 HH.o b2 e;obtain⟨c6,f6,k6⟩:=zf9 J.o b2 rfl;rw[k5]at k6
        injection k6 with k6
        injection k6 with _ k6
        exact absurd k6 dC
       show World.ownsRow _ _ _ _ _ (wb0 (c 1) d).length (lpL (wb0 (c 1) d));rw[u1,u2,<-hz,<-a2.o.2.2];exact zA1 J.o _ (oH a2.o.2.2)
      have i4:=yH9 J.o (k*2+1);clear hk hx;by_cases i2:c 1<=x.2
      ·go_upto_region 11 with (fail)
       go_quiet (fail);go_wp2_with fail
       go_meet
       case rel=>exact f8.o _ _ _ ((Ok.refl wc).draws _) (by rw[aC oM]) rfl
      have i3:IntKind.i64.wrap (x.2+1)=x.2+1:=by rw[IntKind.wrap_i64];have:=HB.o.2.2;have:=h6.1;omega
      go_upto_region 11 with (fail)
      go_quiet (fail);go_wp2_with fail
      go_meet
      case rel=>exact f8.o _ _ _ ((Ok.refl wc).draws _) (by rw[aG oM]) rfl
  obtain⟨xo,xn,xc,yo,yn,yc,HF⟩:=hcut;clear E0 E1 E2 E3 E4 E5 lE p0 p1 p2 p3 p4 p5 p6 p7 p8 c0 y0 y1 y2 y3 y4 y5 ly;have L:Hi (wc.heap[gR]?=_):=Ok.row' HF.o.1 b4.o;obtain⟨d0,d1,d2,d3,d4,d5⟩:=za9 L.o;have ld:=za2 L.o;obtain⟨y0,y1,y2,y3,y4,y5⟩:=za9 HF.o.2.1;have ly:=za2 HF.o.2.1;go_wp2_with fail;(try simp only[Exit.inBlock,Exit.then]);refine bodyPost_ret (results_cell_row rfl _ _ gR 74 #[_,_,_] (0,0) _ rfl (zd9 L.o _ _ _) Tryz.underlying74 rfl EV) rfl ?_;have a3:gR<W.heap.size:=za2 b4.o;exact⟨_,_,by rw[yH8],by rw[<-a4.o];exact(HF.o.2.2.set3 a3 _ _ _).base a5.o.le,(a5.o.step HF.o.1).set3 HG.o _ _ _⟩
end Go.Proofs.YthoegkcpmgalbaaGreatDoor
