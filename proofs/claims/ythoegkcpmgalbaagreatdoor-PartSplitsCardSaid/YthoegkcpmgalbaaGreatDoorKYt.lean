import Derived.Test.YthoegkcpmgalbaaGreatDoorKXt
import Derived.Test.YthoegkcpmgalbaaGreatDoorKYr
set_option maxHeartbeats 8000000
set_option linter.all false
set_option maxRecDepth 100000
namespace Go.Proofs.YthoegkcpmgalbaaGreatDoor
open Go.RowKit Go.Maps
variable{B i:Nat}{l:Ls}{ns:List Nd}{v:Nat->Value}{w:World}
def bkC(ns:List Nd)(d:Int):Nat->Nat->Int->Int
 | 0,_,n=>n
 | f+1,i,n=>match ns[i]? with
  | none=>n
  | some x=>if d<x.depth then bkC ns d f (i+1) (if x.depth=IntKind.i64.wrap (d+1)/\x.kind=9 then n+1 else n) else n
def bkO(ns:List Nd)(k:Nat):Int:=match ns[k]? with
 | some x=>bkC ns x.depth ns.length (k+1) 0
 | none=>0
def yP5{d:Int}(h:ns[i]?=none)(f:Nat)(n:Int):bkC ns d f i n=n:=by
 cases f with
 | zero=>rfl
 | succ f=>unfold bkC;rw[h]
def yL8:∀{ns:List Nd} {i:Nat} {x:Nd},ns[i]?=some x->(ns.flatMap AQ)[i*6]?=some (nI x.depth)/\(ns.flatMap AQ)[i*6+1]?=some (nI x.kind)
 | [],i,x,h=>by simp at h
 | u::ns,i,x,h=>by
  have e:(u::ns).flatMap AQ=nI u.depth::nI u.kind::.string u.name::nI u.num::nI u.op::nI u.pos::ns.flatMap AQ:=by simp[AQ]
  cases i with
  | zero =>
   simp only[bR,cD]at h;subst h;rw[e];exact⟨rfl,rfl⟩
  | succ i =>
   simp only[bF]at h;obtain⟨d,o⟩:=yL8 h;rw[e,show(i+1)*6=i*6+1+1+1+1+1+1 by omega];exact⟨d,o⟩
def yO3:∀{ns:List Nd} {i:Nat} {x:Nd} (y:Int),ns[i]?=some x->(ns.flatMap AQ).set (i*6+1) (nI y)=(ns.set i { x with kind:=y }).flatMap AQ
 | [],i,x,y,h=>by simp at h
 | u::ns,0,x,y,h=>by simp only[bR,cD]at h;subst h;simp[AQ]
 | u::ns,i+1,x,y,h=>by simp only[bF]at h;have o:=yO3 y h;have d:(AQ u).length=6:=rfl;rw[gH,eV,eV,<-o,fP _ _ oM,d,show(i+1)*6+1-6=i*6+1 by omega]
def AG.nd(h:AG w B v ns l):w.ownsRow B 53 6 (v 0) ns.length (ns.flatMap AQ):=by
 have d:=h 0 dC;have e:xOf ns ns.length l 0=ns.flatMap AQ:=by unfold xOf;rw[aG rfl,cH]
 rw[e]at d;exact d
def AG.ok'{w':World}(h:AG w B v ns l)(o:Ok w w'):AG w' B v ns l:=λk d=>za1 (h k d) o
def yM8(v:Nat->Value)(ns:List Nd)(l:Ls)(B k:Nat)(w:World)(h:AG w B v ns l)(R:k<ns.length)(W:ns.length<=1000000000000) :
  Calls Tryz.prog 22 #[.agg #[v 0,v 1,v 2,v 3,v 4,v 5],nI (k:Nat)] w λe w'=>e=.returned (nI (bkO ns k))/\Ok w w':=by
 have H0:Hi (∀Y,Ok w Y->Y.ownsRow B 53 6 (v 0) ns.length (ns.flatMap AQ)):=λY hY=>za1 h.nd hY;obtain⟨g0,G,k0,g1,n1,k1,g2,n2,k2,g3,n3,k3,g4,n4,k4,g5,n5,k5,J,e1,e2,e3,e4,Z⟩:=DV (λi hi=>by obtain⟨o,c,e⟩:=za0 (h i hi);exact⟨_,_,_,e⟩:∀i,i<6->∃d n c,v i=.slice d n c);obtain⟨g,cap,e6,_⟩:=h.nd.form oM;rw[J]at e6
 injection e6 with e7 e8 e9
 subst e7 e9;obtain⟨x,K⟩:∃x,ns[k]?=some x:=⟨_,gG_ R⟩;obtain⟨d,O⟩:=qq (x.depth);obtain⟨L,D⟩:=qq (bkO ns k);have HT:Hi (bkC ns d ns.length (k+1) 0=L):=by unfold Hi;rw[D,O];unfold bkO;rw[K]
 obtain⟨dd,I⟩:=qq (IntKind.i64.wrap (d+1));have a2:=hid I.symm;obtain⟨n,o⟩:=qq (ns.length);have X:Hi (n=ns.length/\n<=1000000000000/\k<n/\G=n):=⟨o,o ▸ W,o ▸ R,by rw[o];exact e8⟩;rw[J,e1,e2,e3,e4,Z,<-D];rw[J]at H0;obtain rfl:G=n:=X.o.2.2.2;have HX:Hi (ns[k]?=some x/\d=x.depth):=⟨K,O⟩;clear h R W J e1 e2 e3 e4 Z e8 K O D I o;go_enter Tryz.func22,Tryz.ntmps22;have I:IntKind.i64.wrap ((k:Int)+1)=((k+1:Nat):Int):=zb3 (oH X.o);go_wp2_with fail;obtain⟨W,D⟩:=qq (w.alloc (Obj.cells #[.slice (some ⟨g,0,none⟩) G k0,.slice g1 n1 k1,.slice g2 n2 k2,.slice g3 n3 k3,.slice g4 n4 k4,.slice g5 n5 k5] 30));obtain⟨gP,o⟩:=qq (w.heap.size);rw[<-D,<-o];have a1:Hi (Ok w W):=by rw[D];exact(Ok.refl w).alloc _
 have HP:Hi (W.heap[gP]?=some (.cells #[.slice (sA g 0) G k0,.slice g1 n1 k1,.slice g2 n2 k2,.slice g3 n3 k3,.slice g4 n4 k4,.slice g5 n5 k5] 30 (0,0))):=by rw[D,o];exact za3 _ _
 clear D o I
 have HC:Hi (∀Y,Ok W Y->∀i (y:Nd),ns[i]?=some y->g<Y.heap.size/\Y.cell? ⟨g,i*6,none⟩=some (nI y.depth)/\Y.cell? ⟨g,i*6+1,none⟩=some (nI y.kind)):=λY hY i y hi=>by
  have o:=H0.o Y (a1.o.step hY);have D:∀j u,(ns.flatMap AQ)[j]?=some u->Y.cell? (aD g j)=some u:=λj u I=>by have h:=o.cells (g:=g) rfl j u I;rw[zb7,aL]at h;exact h
  obtain⟨y0,y1⟩:=yL8 hi;exact⟨(o.lt g rfl).2,D _ _ y0,D _ _ y1⟩
 go_loopw [5,6] (λs5 t wr=>∃(i f:Nat) (c:Int),s5=nI c/\t=nI (i:Nat)/\i<=G/\G+1<=f+i/\Hi (0<=c/\c<=(i:Int))/\Hi (bkC ns d f i c=L)/\Hi (Ok W wr)) (λ_ t _=>G-(intOf t).toNat)
 case atStart=>exact⟨k+1,G,0,rfl,rfl,oH X.o,oM,⟨oM,oM⟩,by have h:=HT.o;rw[<-X.o.1]at h;exact h,Ok.refl _⟩
 obtain⟨i,f,c,rfl,rfl,hi,hf,D,Z,HK⟩:=hrel;obtain⟨p0,p1,p2,p3,p4,p5,b1⟩:=CY (Ok.row' HK.o HP.o);have b6:(0:Int)<=(i:Int):=oM;have b7:(0:Int)<=(k:Int):=oM;have b2:(k:Int)<(G:Int):=oH X.o
 have a8:¬((G:Int)<=(k:Int)):=oM;by_cases a6:i<G
 ·have J:=hid a6
  have a4:(i:Int)<(G:Int):=za5 a6;have b0:¬((G:Int)<=(i:Int)):=oM;have b4:IntKind.i64.wrap ((i:Int)+1)=((i+1:Nat):Int):=zb3 (oH X.o);obtain⟨y,K⟩:∃y,ns[i]?=some y:=⟨_,gG_ (oH X.o)⟩;obtain⟨O,I⟩:=qq (y.depth);obtain⟨yk,o⟩:=qq (y.kind);obtain⟨lg,r0,r1⟩:=HC.o wr HK.o i y K;obtain⟨_,q0,_⟩:=HC.o wr HK.o k x HX.o.1;rw[<-HX.o.2]at q0;rw[<-I]at r0;rw[<-o]at r1;have R:Hi (ns[i]?=some y/\O=y.depth/\yk=y.kind):=⟨K,I,o⟩;obtain⟨f,rfl⟩:∃f',f=f'+1:=⟨f-1,oM⟩;have b3:IntKind.i64.wrap (c+1)=c+1:=by have h1:=D.o;have h2:=X.o;rw[IntKind.wrap_i64];omega
  have a9:=a2.o;clear K I o;by_cases I:d<O
  ·have a5:=hid I
   by_cases hq:O=dd/\yk=9
   ·obtain⟨rfl,rfl⟩:=hq
    have HQ:Hi (O=O/\(9:Int)=9):=⟨rfl,rfl⟩;have a3:(O==O)=true:=by simp
    go_wp2_with fail;go_quiet (fail);obtain⟨a7,o⟩:=qq (nq);rw[<-o];clear o;go_wp2_with fail;go_quiet (fail);go_wp2_with fail;go_roundw
    ·refine⟨i+1,f,c+1,rfl,rfl,J.o,oM,⟨oH D.o,oH D.o⟩,?_,below_drewN HK.o _⟩
     have h:=Z.o;unfold bkC at h;rw[R.o.1]at h;simp only at h;rw[aG (by rw[<-R.o.2.1];exact a5.o),aG ⟨by rw[<-R.o.2.1,a2.o],R.o.2.2.symm⟩]at h;exact h
    simp only[intOf,aO];have:=J.o;omega
   have HQ:=hid hq
   have hw:Hi (bkC ns d f (i+1) c=L):=by have h:=Z.o;unfold bkC at h;rw[R.o.1]at h;simp only at h;rw[aG (by rw[<-R.o.2.1];exact a5.o),aC (by rw[<-R.o.2.1,<-R.o.2.2,a2.o];exact HQ.o)]at h;exact h
   by_cases K:O=dd
   ·have a3:(O==dd)=true:=bZ.2 K
    have b5:(yk==9)=false:=aF.2 (λe=>hq ⟨K,e⟩);clear hq K;go_wp2_with fail;go_quiet (fail);obtain⟨a7,o⟩:=qq (nq);rw[<-o];clear o;go_wp2_with fail;go_quiet (fail);go_wp2_with fail;go_roundw
    ·exact⟨i+1,f,c,rfl,rfl,J.o,oM,⟨oH D.o,oH D.o⟩,hw,below_drewN HK.o _⟩
    simp only[intOf,aO];have:=J.o;omega
   have a3:(O==dd)=false:=aF.2 K;clear hq K;go_wp2_with fail;go_quiet (fail);obtain⟨a7,o⟩:=qq (nq);rw[<-o];clear o;go_wp2_with fail;go_quiet (fail);go_wp2_with fail;go_roundw
   ·exact⟨i+1,f,c,rfl,rfl,J.o,oM,⟨oH D.o,oH D.o⟩,hw,below_drewN HK.o _⟩
   simp only[intOf,aO];have:=J.o;omega
  have o:Hi (c=L):=by have h:=Z.o;unfold bkC at h;rw[R.o.1]at h;simp only at h;rw[aC (by rw[<-R.o.2.1];exact I)]at h;exact h
  go_wp2_with fail;go_quiet (fail);go_wp2_with fail;go_ret;exact⟨by rw[o.o];rfl,a1.o.step (below_drewN HK.o _)⟩
 have a4:¬(i:Int)<(G:Int):=oM
 have o:Hi (c=L):=by have h:=Z.o;rw[yP5 (aS (oH X.o))]at h;exact h
 go_wp2_with fail;go_quiet (fail);go_wp2_with fail;go_ret;exact⟨by rw[o.o];rfl,a1.o.step (below_drewN HK.o _)⟩
def anW(ns:List Nd)(i:Nat):Bool:=(ns.take i).any λx=>decide (x.kind=8)
def tuL(a b:Int)(ns:List Nd):Nat->List Nd
 | 0=>ns
 | i+1=>match (tuL a b ns i)[i]? with
  | some x=>if x.kind=a/\bkO (tuL a b ns i) i=1 then (tuL a b ns i).set i { x with kind:=b } else tuL a b ns i
  | none=>tuL a b ns i
def tuF(ns:List Nd):List Nd:=tuL (if anW ns ns.length then 8 else 7) (if anW ns ns.length then 7 else 8) ns ns.length
def yK9(a b:Int)(ns:List Nd):∀i,(tuL a b ns i).length=ns.length
 | 0=>rfl
 | i+1=>by
  unfold tuL
  split
  ·split
   ·rw[dN];exact yK9 a b ns i
   exact yK9 a b ns i
  exact yK9 a b ns i
def yL4(a b:Int)(ns:List Nd)(h:∀n∈ns,n.Ok):∀i,∀n∈tuL a b ns i,n.Ok
 | 0=>h
 | i+1=>λn d=>by
  unfold tuL at d
  split at d
  ·next x hx =>
   split at d
   ·rcases gS d with h1 | h1
    ·exact yL4 a b ns h i n h1
    have o:=yL4 a b ns h i x (mG_ hx);rw[h1];exact⟨o.name,o.lo,o.hi,o.num⟩
   exact yL4 a b ns h i n d
  exact yL4 a b ns h i n d
def yO6{x:Nd}(h:ns[i]?=some x):anW ns (i+1)=(anW ns i||decide (x.kind=8)):=by obtain⟨d,e⟩:=aE.1 h;unfold anW;rw[cN d,List.any_append,e];simp
structure TuI(W w:World)(B:Nat)(v:Nat->Value)(ns:List Nd)(l:Ls):Prop where
 pr:AG w B v ns l
 bel:Below B W w
 le:B<=W.heap.size
 fr:∀b,b<W.heap.size->(v 0).ownBlock≠some b->w.heap[b]?=W.heap[b]?
def TuI.call{W w':World}(h:TuI W w B v ns l)(d:Ok w w'):TuI W w' B v ns l :=
 ⟨h.pr.ok' d,h.bel.trans (Below.mono d (aH h.le h.bel.size)),h.le,λb o D=>(Below.block d b (lL_ o h.bel.size)).trans (h.fr b o D)⟩
def TuI.put{W:World}{g n cap:Nat}{x:Nd}(h:TuI W w B v ns l)(D:v 0=.slice (sA g 0) n cap)(L:ns[i]?=some x)(y:Int):TuI W (w.setCell ⟨g,i*6+1,none⟩ (nI y)) B v (ns.set i { x with kind:=y }) l:=by
 have hi:=(aE.1 L).1;have d:=h.pr.nd;have Z:=d.lt g (by rw[D];rfl)
 have O:∀j,j<6->j≠0->TY j≠53:=λj J K=>by
  match j,J,K with
  | 1,_,_ | 2,_,_ | 3,_,_ | 4,_,_ | 5,_,_=>decide
 have G:n=ns.length:=by obtain⟨_,_,e⟩:=za0 d;rw[D]at e;injection e
 subst G;rw[D]at d;refine⟨λj J=>?_,h.bel.setCell (p:=⟨g,i*6+1,none⟩) Z.1 _,h.le,λb Y G=>(Below.heap_setCell _ _ _ _ (λe=>G (by rw[D,e];rfl))).trans (h.fr b Y G)⟩;by_cases c:j=0
 ·subst c
  have o:=zA1 d (j:=i*6+1) (nI y) oM;rw[yO3 y L]at o;rw[D];show World.ownsRow _ B 53 6 _ (ns.set i _).length (((ns.set i _).take (ns.set i _).length).flatMap AQ);rw[cH,dN];exact o
 have o:=h.pr j J;have e1:nOf (ns.set i { x with kind:=y }).length l j=nOf ns.length l j:=by unfold nOf;rw[aC c,aC c]
 have R:xOf (ns.set i { x with kind:=y }) (ns.set i { x with kind:=y }).length l j=xOf ns ns.length l j:=by unfold xOf;rw[aC c,aC c]
 rw[e1,R];refine zc7 o (p:=⟨g,i*6+1,none⟩) (λe=>?_) _;obtain⟨c1,f1,X⟩:=zf9 o g e;obtain⟨c2,f2,I⟩:=zf9 d g rfl;rw[X]at I
 injection I with I
 injection I with _ k3
 exact O j J c k3
def yM6(v:Nat->Value)(ns:List Nd)(l:Ls)(B:Nat)(w:World)(h:AG w B v ns l)(R:B<=w.heap.size)(W:ns.length<=1000000000000) :
  Calls Tryz.prog 10 #[.agg #[v 0,v 1,v 2,v 3,v 4,v 5]] w λe w'=>e=.returned (.tuple #[])/\TuI w w' B v (tuF ns) l:=by
 have D:Hi (∀i,i<6->∃ao n c,v i=.slice ao n c):=λi hi=>by obtain⟨o,c,e⟩:=za0 (h i hi);exact⟨_,_,_,e⟩
 obtain⟨g0,I,k0,g1,n1,k1,g2,n2,k2,g3,n3,k3,g4,n4,k4,g5,n5,k5,K,e1,e2,e3,O,L⟩:=DV D.o
 have b4:Hi (∀Y J k,AG Y B v J l->k<J.length->J.length<=1000000000000->Calls Tryz.prog 22 #[.agg #[.slice g0 I k0,.slice g1 n1 k1,.slice g2 n2 k2,.slice g3 n3 k3,.slice g4 n4 k4,.slice g5 n5 k5],nI (k:Nat)] Y λe w'=>e=.returned (nI (bkO J k))/\Ok Y w'):=λY J k h1 h2 h3=>by have d:=yM8 v J l B k Y h1 h2 h3;rw[K,e1,e2,e3,O,L]at d;exact d
 have G:Hi (TuI w w B v ns l):=⟨h,Below.refl _ _,R,λ_ _ _=>rfl⟩;obtain⟨n,d⟩:=qq (ns.length)
 have e8:I=n:=by
  obtain⟨_,_,e⟩:=za0 h.nd;rw[K]at e
  injection e with _ e _
  rw[d];exact e
 subst e8;have HN:Hi (I=ns.length/\I<=1000000000000):=⟨d,d ▸ W⟩;have Z:=hid K;rw[K,e1,e2,e3,O,L];clear h R W K e1 e2 e3 O L d D;go_enter Tryz.func10,Tryz.ntmps10;go_wp2_with fail;obtain⟨W,K⟩:=qq (w.alloc (Obj.cells #[.slice g0 I k0,.slice g1 n1 k1,.slice g2 n2 k2,.slice g3 n3 k3,.slice g4 n4 k4,.slice g5 n5 k5] 30));obtain⟨gP,d⟩:=qq (w.heap.size);rw[<-K,<-d];have D:Ok w W:=by rw[K];exact(Ok.refl w).alloc _
 have HP:Hi (W.heap[gP]?=some (.cells #[.slice g0 I k0,.slice g1 n1 k1,.slice g2 n2 k2,.slice g3 n3 k3,.slice g4 n4 k4,.slice g5 n5 k5] 30 (0,0))):=by rw[K,d];exact za3 _ _
 replace G:Hi (TuI w W B v ns l):=G.o.call D;clear K d D
 have HC:Hi (∀Y J,TuI w Y B v J l->∀i (y:Nd),J[i]?=some y->∃g,g0=some ⟨g,0,none⟩/\g<Y.heap.size/\Y.cell? ⟨g,i*6+1,none⟩=some (nI y.kind)/\(∀o,Y.frozen? (aD g o)=false)):=λY J hT i y hi=>by
  have X:=hT.pr.nd;rw[Z.o]at X;have d:=(aE.1 hi).1;obtain⟨g,cap,e,_⟩:=X.form oM
  injection e with e1 e2 e3
  subst e1 e2;have h:=X.cells (g:=g) rfl _ _ (yL8 hi).2;rw[zb7,aL]at h;exact⟨g,rfl,(X.lt g rfl).2,h,λo=>yI8 X o⟩
 go_loopw [2,3,4] (λs2 s3 t wr=>∃(i:Nat),s2=nI (if anW ns i then 8 else 7)/\s3=nI (if anW ns i then 7 else 8)/\t=nI (i:Nat)/\i<=I/\Hi (Ok W wr)) (λ_ _ t _=>I-(intOf t).toNat)
 case atStart=>exact⟨0,rfl,rfl,rfl,zL_ _,Ok.refl _⟩
 obtain⟨i,rfl,rfl,rfl,hi,HK⟩:=hrel;obtain⟨p0,p1,p2,p3,p4,p5,K⟩:=CY (Ok.row' HK.o HP.o);have b7:(0:Int)<=(i:Int):=oM;by_cases a4:i<I
 ·have a9:=hid a4
  have R:(i:Int)<(I:Int):=za5 a4;have b9:¬((I:Int)<=(i:Int)):=oM;have c2:IntKind.i64.wrap ((i:Int)+1)=((i+1:Nat):Int):=zb3 (oH HN.o);obtain⟨y,hy⟩:∃y,ns[i]?=some y:=⟨_,gG_ (oH HN.o)⟩;obtain⟨g,rfl,lg,r1,_⟩:=HC.o wr ns (G.o.call HK.o) i y hy;obtain⟨L,D⟩:=qq (y.kind);rw[<-D]at r1;have d:Hi (anW ns (i+1)=(anW ns i||decide (L=8))):=by rw[D];exact yO6 hy
  clear hy D;obtain⟨b,hb⟩:=qq (anW ns i);rw[<-hb]at d ⊢;clear hb;by_cases O:L=8
  ·subst O
   go_wp2_with fail;refine⟨⟨i+1,?_,?_,rfl,a9.o,HK⟩,?_⟩
   ·rw[d.o];simp
   ·rw[d.o];simp
   simp only[intOf,aO];omega
  have a6:(L==8)=false:=aF.2 O;go_wp2_with fail;refine⟨⟨i+1,?_,?_,rfl,a9.o,HK⟩,?_⟩
  ·rw[d.o,aN O,fD]
  ·rw[d.o,aN O,fD]
  simp only[intOf,aO];omega
 have R:¬(i:Int)<(I:Int):=oM;have b5:i=I:=oM;subst b5;obtain⟨a,d⟩:∃a:Int,a=if anW ns i then 8 else 7:=⟨_,rfl⟩;obtain⟨c,hc⟩:∃a:Int,a=if anW ns i then 7 else 8:=⟨_,rfl⟩;rw[<-d,<-hc];have b6:Hi (tuF ns=tuL a c ns i):=by unfold Hi tuF;rw[<-HN.o.1,<-d,<-hc]
 have a3:=hid (yK9 a c ns);clear d hc;go_wp2_with fail;have d:Hi (TuI w wr B v ns l/\wr.heap[gP]?=some (.cells #[.slice g0 i k0,.slice g1 n1 k1,.slice g2 n2 k2,.slice g3 n3 k3,.slice g4 n4 k4,.slice g5 n5 k5] 30 (0,0))):=⟨G.o.call HK.o,Ok.row' HK.o HP.o⟩;clear a4 R hi b7 G HP HK p0 p1 p2 p3 p4 p5 K;go_loopw [5] (λt wr=>∃j:Nat,t=nI (j:Nat)/\j<=i/\Hi (TuI w wr B v (tuL a c ns j) l/\wr.heap[gP]?=some (.cells #[.slice g0 i k0,.slice g1 n1 k1,.slice g2 n2 k2,.slice g3 n3 k3,.slice g4 n4 k4,.slice g5 n5 k5] 30 (0,0)))) (λt _=>i-(intOf t).toNat)
 case atStart=>exact⟨0,rfl,zL_ _,d⟩
 clear d;obtain⟨j,rfl,hj,d⟩:=hrel;obtain⟨p0,p1,p2,p3,p4,p5,K⟩:=CY d.o.2;have c1:(0:Int)<=(j:Int):=oM;by_cases a7:j<i
 ·have a1:=hid a7
  have a8:(j:Int)<(i:Int):=za5 a7;have b8:¬((i:Int)<=(j:Int)):=oM;have c0:IntKind.i64.wrap ((j:Int)+1)=((j+1:Nat):Int):=zb3 (oH HN.o);obtain⟨y,hy⟩:∃y,(tuL a c ns j)[j]?=some y:=⟨_,aJ (by rw[a3.o];have:=HN.o;omega)⟩;obtain⟨g,rfl,lg,r1,rf⟩:=HC.o wr _ d.o.1 j y hy;have b2:=rf (j*6+1);obtain⟨L,D⟩:=qq (y.kind);rw[<-D]at r1;have HY:Hi ((tuL a c ns j)[j]?=some y/\L=y.kind):=⟨hy,D⟩;have b3:=hid (b4.o wr (tuL a c ns j) j d.o.1.pr (by rw[a3.o];have:=HN.o;omega) (by rw[a3.o];have:=HN.o;omega))
  have b0:Hi (¬(L=a/\bkO (tuL a c ns j) j=1)->tuL a c ns (j+1)=tuL a c ns j):=λR=>by
   conv=>lhs;unfold tuL
   rw[HY.o.1];simp only;rw[aC (by rw[<-HY.o.2];exact R)]
  clear hy D rf;by_cases O:L=a
  ·have HQ:=hid O
   have a6:(L==a)=true:=bZ.2 O;go_wp2_with fail;refine b3.o.mono ?_;rintro e w2 ⟨rfl,a2⟩;have G:Hi (TuI w w2 B v (tuL a c ns j) l/\w2.heap[gP]?=some (.cells #[.slice (sA g 0) i k0,.slice g1 n1 k1,.slice g2 n2 k2,.slice g3 n3 k3,.slice g4 n4 k4,.slice g5 n5 k5] 30 (0,0))):=⟨d.o.1.call a2,Ok.row' a2 d.o.2⟩;obtain⟨bb,a5⟩:=qq (bkO (tuL a c ns j) j);rw[<-a5];have b1:=hid a5;clear a5 a2 p0 p1 p2 p3 p4 p5 K lg r1 b2;obtain⟨p0,p1,p2,p3,p4,p5,K⟩:=CY G.o.2;obtain⟨g',eg,lg,r1,rf⟩:=HC.o w2 _ G.o.1 j y HY.o.1
   injection eg with eg
   injection eg with eg _ _
   subst eg;rw[<-HY.o.2]at r1;have b2:=rf (j*6+1);clear rf;by_cases hb:bb=1
   ·subst hb
    go_wp2_with fail
    have R:gP≠g:=λe=>by have X:=G.o.1.pr.nd;rw[Z.o]at X;exact zb6 X G.o.2 (by decide) (by rw[e];rfl)
    refine⟨⟨j+1,rfl,a1.o,?_⟩,?_⟩
    ·refine⟨?_,(Below.heap_setCell _ _ _ _ R).trans G.o.2⟩
     have h1:=G.o.1.put Z.o HY.o.1 c
     have e1:tuL a c ns (j+1)=(tuL a c ns j).set j { y with kind:=c }:=by
      conv=>lhs;unfold tuL
      rw[HY.o.1];simp only;rw[aG ⟨by rw[<-HY.o.2];exact HQ.o,b1.o.symm⟩]
     rw[e1];exact h1
    simp only[intOf,aO];omega
   have c3:(bb==1)=false:=aF.2 hb;go_wp2_with fail;refine⟨⟨j+1,rfl,a1.o,?_⟩,?_⟩
   ·rw[b0.o (λe=>hb (b1.o.trans e.2))]
    exact G
   simp only[intOf,aO];omega
  have a6:(L==a)=false:=aF.2 O;go_wp2_with fail;refine⟨⟨j+1,rfl,a1.o,?_⟩,?_⟩
  ·rw[b0.o (λe=>O e.1)]
   exact d
  simp only[intOf,aO];omega
 have a8:¬(j:Int)<(i:Int):=oM;have G:j=i:=oM;subst G;go_wp2_with fail
 go_end0
 exact⟨rfl,by rw[b6.o];exact d.o.1⟩
end Go.Proofs.YthoegkcpmgalbaaGreatDoor
