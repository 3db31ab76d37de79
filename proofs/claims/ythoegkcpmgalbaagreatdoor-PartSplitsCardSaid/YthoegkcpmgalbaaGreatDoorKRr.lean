import Derived.Test.YthoegkcpmgalbaaGreatDoorKGi
import Derived.Test.YthoegkcpmgalbaaGreatDoorKXc
set_option linter.all false
set_option maxRecDepth 100000
namespace Go.Proofs.YthoegkcpmgalbaaGreatDoor
open Go.RowKit
variable{B N g i k:Nat}{V:Nat->Value}{W w:World}{e:Nat->TypeId}{n s:Nat->Nat}
def wu4:(Tryz.prog.info? 76).map (λi=>(i.zero,i.size,i.bytes))=some (some (.agg #[nI 0,.bool false,sZ,sZ]),4,64):=by kernel_rfl
def wu5:(Tryz.prog.info? 78).map (λi=>(i.zero,i.size,i.bytes))=some (some (.agg #[nI 0,nI 0,nI 0]),3,24):=by kernel_rfl
def wu6:(Tryz.prog.info? 37).map (λi=>(i.zero,i.size,i.bytes))=some (some (.agg #[sZ,sZ,sZ]),3,72):=by kernel_rfl
def vW(k:Nat):List Value:=[nI (-1-(k:Int)),.bool false,sZ,sZ]
def lW(k:Nat):List Value:=[nI (-1-(k:Int)),nI (-1-(k:Int)),nI (-1-(k:Int))]
def eR(j:Nat):TypeId:=if j%2=0 then 76 else 78
def sR(j:Nat):Nat:=if j%2=0 then 4 else 3
def wR(j:Nat):List Value:=if j%2=0 then vW (j/2) else lW (j/2)
def eR0(k:Nat):eR (2*k)=76:=aG oM
def eR1(k:Nat):eR (2*k+1)=78:=aC oM
def sR0(k:Nat):sR (2*k)=4:=aG oM
def sR1(k:Nat):sR (2*k+1)=3:=aC oM
def wR0(k:Nat):wR (2*k)=vW k:=by unfold wR;rw[aG oM,show 2*k/2=k by omega]
def wR1(k:Nat):wR (2*k+1)=lW k:=by unfold wR;rw[aC oM,show(2*k+1)/2=k by omega]
def yO7(j:Nat):(wR j).length=sR j:=by unfold wR sR;split<;>rfl
def yO8(j:Nat):0<sR j:=by unfold sR;split<;>decide
def wl7(j:Nat):eR j≠37:=by unfold eR;split<;>decide
def pqL(V M:Nat->Value)(N:Nat):List Value:=(List.range N).flatMap λk=>[V (2*k),V (2*k+1),M k]
def yK7(V M:Nat->Value)(k:Nat):pqL V M (k+1)=pqL V M k++[V (2*k),V (2*k+1),M k]:=by unfold pqL;rw[fE];simp
def yM9(V M:Nat->Value):∀N,(pqL V M N).length=N*3
 | 0=>rfl
 | N+1=>by rw[yK7,aA,yM9 V M N,fJ];rfl
def yK8(V M:Nat->Value):∀{N:Nat},k<N->(pqL V M N)[k*3]?=some (V (2*k))/\(pqL V M N)[k*3+1]?=some (V (2*k+1))/\(pqL V M N)[k*3+2]?=some (M k)
 | N+1,h=>by
  have o:=yM9 V M N;rw[yK7];by_cases c:k<N
  ·obtain⟨a,b,d⟩:=yK8 V M c
   exact⟨by rw[aQ oM];exact a,by rw[aQ oM];exact b,by rw[aQ oM];exact d⟩
  have e:k=N:=oM;subst e;exact⟨by rw[bC oM,show k*3-(pqL V M k).length=0 by omega];rfl,by rw[bC oM,show k*3+1-(pqL V M k).length=1 by omega];rfl,by rw[bC oM,show k*3+2-(pqL V M k).length=2 by omega];rfl⟩
def yN0(V M:Nat->Value){j:Nat}(x:Value)(h:2*k<=j):pqL (DT V j x) M k=pqL V M k:=by unfold pqL;refine cA List.flatten (eF λi d=>?_);have:=dJ.1 d;rw[yI7 _ _ oM,yI7 _ _ oM]
def yK6{α:Type}(Y:Nat->α)(k:Nat)(a b:α):DT (DT Y k a) k b=DT Y k b:=by
 funext j
 unfold DT
 split<;>rfl
def yL0{l:List Value}(d:i+2<l.length)(a b c:Value):(((l.set i a).set (i+1) b).set (i+2) c).take (i+3)=l.take i++[a,b,c]:=by rw[yJ1 (by simpa using d),yL1 oM];simp
def yN1{l:List Value}(o:i+3<l.length)(a b c d:Value):((((l.set i a).set (i+1) b).set (i+2) c).set (i+3) d).take (i+4)=l.take i++[a,b,c,d]:=by rw[yJ1 (by simpa using o),yL0 oM];simp
def MR.put3{cap:Nat}{Y:Nat->List Value}(h:MR W w B N e s V n Y)(o:FK N V)(D:k<N)(d:V k=.slice (sA g 0) (n k) cap)(I:i+2<n k*s k)(a b c:Value) :
  MR W (((w.setCell (aD g i) a).setCell ⟨g,i+1,none⟩ b).setCell ⟨g,i+2,none⟩ c) B N e s V n (DT Y k ((((Y k).set i a).set (i+1) b).set (i+2) c)):=by
 have G:=((h.put o D d (i:=i) oM a).put o D d (i:=i+1) oM b).put o D d (i:=i+2) oM c;simp only[yI6,yK6]at G;exact G
def MR.put4{cap:Nat}{Y:Nat->List Value}(h:MR W w B N e s V n Y)(D:FK N V)(I:k<N)(o:V k=.slice (sA g 0) (n k) cap)(J:i+3<n k*s k)(a b c d:Value) :
  MR W ((((w.setCell (aD g i) a).setCell ⟨g,i+1,none⟩ b).setCell ⟨g,i+2,none⟩ c).setCell ⟨g,i+3,none⟩ d) B N e s V n (DT Y k (((((Y k).set i a).set (i+1) b).set (i+2) c).set (i+3) d)):=by
 have G:=(h.put3 D I o (i:=i) oM a b c).put D I o (i:=i+3) oM d;simp only[yI6,yK6]at G;exact G
def GR.off{wd:Nat->List Value}{u:Nat->Value}{m:Nat->Nat}(h:GR W w B N e s wd V n u m){o:Nat}{c:Array Value}{t:TypeId}{f:Nat×Nat}(I:w.heap[g]?=some (.cells c t f))(X:∀j,e j≠t)(J:W.heap.size<=g)(x:Value):GR W (w.setCell (aD g o) x) B N e s wd V n u m :=
 have G:∀{v:Value} {m j:Nat} {O:List Value},w.ownsRow B (e j) (s j) v m O->v.ownBlock≠some g:=λL R=>by
  obtain⟨K,D,d⟩:=zf9 L g R;rw[I]at d
  injection d with d
  injection d with _ k2
  exact X _ k2.symm
 { h with
  row:=λj d=>zc7 (h.row j d) (p:=⟨g,o,none⟩) (G (h.row j d)) x
  old:=λj d=>zc7 (h.old j d) (p:=⟨g,o,none⟩) (G (h.old j d)) x
  bel:=h.bel.setCell (p:=⟨g,o,none⟩) (aH h.le J) x
  fr:=λb D K=>(Below.heap_setCell _ _ _ _ (by show b≠g;omega)).trans (h.fr b D K) }
set_option maxHeartbeats 8000000 in
def yN2(N:Nat)(lo:Option Addr)(lc:Nat)(V M:Nat->Value)(n:Nat->Nat)(X:Nat->List Value)(B Bl:Nat)(w:World)(d:w.ownsRow Bl 37 3 (.slice lo N lc) N (pqL V M N))(D:∀j,j<2*N->w.ownsRow B (eR j) (sR j) (V j) (n j) (X j))(L:FK (2*N) V)(G:B<=w.heap.size)(K:∀j,j<2*N->(n j+64)*64<=140737488355328)(O:∀k,k<N->∃ao l cp,M k=.slice ao l cp)(J:N<=1000000) :
  Calls Tryz.prog 28 #[.slice lo N lc] w λe w'=>e=.returned (.bool true)/\Below B w w'/\w.heap.size<=w'.heap.size/\∀b,b<w.heap.size->(∀j,j<2*N->(V j).ownBlock≠some b)->w'.heap[b]?=w.heap[b]?:=by
 have HD:=hid L;have HB:=hid G;have HN:=hid K;have d2:=hid J;have i5:Hi (MR w w B (2*N) eR sR V n X):=⟨D,Below.refl _ _,G,λ_ _ _=>rfl⟩;have i6:Hi (∀j,j<2*N->∀b,(V j).ownBlock=some b->b<w.heap.size):=λj R b hb=>((D j R).lt b hb).2;have HF:Hi (∀j,j<2*N->∃ao cp,V j=.slice ao (n j) cp):=λj R=>za0 (D j R);have i4:=hid O
 have HW:Hi (∀Y:World,Below B w Y->(∀b,b<w.heap.size->(∀j,j<2*N->(V j).ownBlock≠some b)->Y.heap[b]?=w.heap[b]?)->∀k,k<N->∃b,lo=some ⟨b,0,none⟩/\Y.cell? ⟨b,k*3,none⟩=some (V (2*k))/\Y.cell? ⟨b,k*3+1,none⟩=some (V (2*k+1))/\Y.cell? ⟨b,k*3+2,none⟩=some (M k)/\b<Y.heap.size):=λY hY hf k hk=>by
  obtain⟨b,cp,e,_⟩:=d.form oM
  injection e with e1 e2 e3
  subst e1;have hb:=(d.lt b rfl).2;have h2:=hf b hb λj R=>yJ2 (D j R) d (wl7 j) b rfl
  have I:∀j u,(pqL V M N)[j]?=some u->Y.cell? (aD b j)=some u:=λj u R=>by have h1:=d.cells (g:=b) rfl j u R;rw[zb7,aL]at h1;rw[<-h1];unfold World.cell?;simp only[h2]
  obtain⟨a1,a2,a3⟩:=yK8 V M hk;exact⟨b,rfl,I _ _ a1,I _ _ a2,I _ _ a3,lL_ hb hY.size⟩
 clear d D L G K O J;go_enter Tryz.func28,Tryz.ntmps28;go_wp2_with fail;go_loopw [3] (λt wr=>∃(k:Nat) (Y:Nat->List Value),k<=N/\t=nI (k:Nat)/\Hi (MR w wr B (2*N) eR sR V n Y)/\Hi (∀j,j<2*k->Y j=rep (n j) (wR j))) (λt _=>N-(intOf t).toNat)
 case atStart=>exact⟨0,X,zL_ _,rfl,i5,λj R=>absurd R oM⟩
 obtain⟨k,Y,hk,rfl,HM,HY⟩:=hrel;by_cases g3:k<N
 ·have HK:=hid g3
  have g9:(k:Int)<(N:Int):=za5 g3;have k7:IntKind.i64.wrap ((k:Int)+1)=((k+1:Nat):Int):=zb3 (oH d2.o);have j7:wrap64 (-1-(k:Int)) = -1-(k:Int):=by unfold wrap64;have:=d2.o;omega
  have g6:(0:Int)<=(k:Int):=oM;obtain⟨bl,rfl,a6,J,a5,b6⟩:=HW.o wr HM.o.bel HM.o.fr k g3;obtain⟨ao,cp,hV⟩:=HF.o (2*k) oM;obtain⟨bo,cq,hU⟩:=HF.o (2*k+1) oM;obtain⟨L,b2⟩:=qq (n (2*k));obtain⟨mk,b1⟩:=qq (n (2*k+1));have HV:Hi (V (2*k)=.slice ao L cp/\V (2*k+1)=.slice bo mk cq):=⟨by rw[b2];exact hV,by rw[b1];exact hU⟩;have d:Hi (L=n (2*k)/\(L+64)*64<=140737488355328/\mk=n (2*k+1)/\(mk+64)*64<=140737488355328):=⟨b2,b2 ▸ HN.o (2*k) oM,b1,b1 ▸ HN.o (2*k+1) oM⟩;rw[hV,<-b2]at a6;rw[hU,<-b1]at J;clear hV hU b2 b1;go_wp2_with fail;clear a6 J a5 b6;go_loopw [4] (λt wr=>∃(i:Nat) (Z:Nat->List Value),i<=L/\t=nI (i:Nat)/\Hi (MR w wr B (2*N) eR sR V n Z)/\Hi (∀j,j<2*k->Z j=rep (n j) (wR j))/\Hi ((Z (2*k)).take (i*4)=rep i (vW k))) (λt _=>L-(intOf t).toNat)
  case atStart=>exact⟨0,Y,zL_ _,rfl,HM,HY,rfl⟩
  obtain⟨i,Z,hi,rfl,G,HZ,HP⟩:=hrel;have f7:(0:Int)<=(i:Int):=oM;obtain⟨i8,e1,a6,J,a5,b6⟩:=HW.o wr G.o.bel G.o.fr k HK.o
  injection e1 with e1
  injection e1 with e1 _ _
  subst e1;rw[HV.o.1]at a6;rw[HV.o.2]at J;by_cases K:i<L
  ·have d6:=hid K
   have O:(i:Int)<(L:Int):=za5 K;have g5:IntKind.i64.wrap ((i:Int)+1)=((i+1:Nat):Int):=by rw[IntKind.wrap_i64];have:=d.o;omega
   have D:=G.o.row (2*k) (oH HK.o);rw[eR0,sR0]at D;obtain⟨g,j4,hg,_⟩:=D.form (oH d.o);rw[hg]at D;rw[HV.o.1,<-d.o.1]at hg
   injection hg with d7 _ hg2
   subst d7 hg2;have f3:(Z (2*k)).length=L*4:=by have:=D.1;rw[<-d.o.1]at this;exact this
   obtain⟨u0,f2⟩:∃u,(Z (2*k))[i*4]?=some u:=⟨_,gG_ oM⟩;obtain⟨u1,I⟩:∃u,(Z (2*k))[i*4+1]?=some u:=⟨_,gG_ oM⟩;obtain⟨u2,a7⟩:∃u,(Z (2*k))[i*4+2]?=some u:=⟨_,gG_ oM⟩;obtain⟨u3,i7⟩:∃u,(Z (2*k))[i*4+3]?=some u:=⟨_,gG_ oM⟩;have f1:=D.cells (g:=g) rfl (i*4) u0 f2;have f4:=D.cells (g:=g) rfl (i*4+1) u1 I;have f8:=D.cells (g:=g) rfl (i*4+2) u2 a7;have i1:=D.cells (g:=g) rfl (i*4+3) u3 i7;rw[zb7,aL]at f1 f4 f8 i1;have h7:=yI8 D (i*4);have h8:=yI8 D (i*4+1);have h3:=yI8 D (i*4+2);have i9:=yI8 D (i*4+3);have h5:=(D.lt g rfl).2;have d8:Hi (V (2*k)=.slice (sA g 0) (n (2*k)) cp/\(Z (2*k)).length=L*4):=⟨by rw[HV.o.1,d.o.1],f3⟩;clear D f3 f2 I a7 i7;go_wp2_with fail;clear a6 J a5 b6 h5 f1 h7 f4 h8 f8 h3 i1 i9;refine⟨⟨i+1,_,K,rfl,G.o.put4 HD.o (oH HK.o) d8.o.1 (i:=i*4) (by rw[sR0,<-d.o.1];have:=d6.o;omega) (nI (-1-(k:Int))) (.bool false) (sZ) (sZ),λj R=>?_,?_⟩,?_⟩
   ·rw[yI7 _ _ oM];exact HZ.o j R
   ·rw[yI6,fJ,iU,yN1 (by rw[d8.o.2];have:=d6.o;omega),HP.o,yJ3];rfl
   simp only[intOf,aO];omega
  have O:¬(i:Int)<(L:Int):=oM;have d0:i=L:=oM;subst d0
  have g2:Hi (∀j,j<2*k+1->Z j=rep (n j) (wR j)):=λj R=>by
   by_cases e:j=2*k
   ·subst e
    have h1:=(G.o.row (2*k) (oH HK.o)).1;rw[sR0]at h1;have h2:=HP.o;rw[bE (by rw[h1];have:=d.o;omega)]at h2;rw[h2,wR0,d.o.1]
   exact HZ.o j oM
  go_wp2_with fail;clear a6 J a5 b6 O K hi f7;go_loopw [5] (λt wr=>∃(i:Nat) (Z:Nat->List Value),i<=mk/\t=nI (i:Nat)/\Hi (MR w wr B (2*N) eR sR V n Z)/\Hi (∀j,j<2*k+1->Z j=rep (n j) (wR j))/\Hi ((Z (2*k+1)).take (i*3)=rep i (lW k))) (λt _=>mk-(intOf t).toNat)
  case atStart=>exact⟨0,Z,zL_ _,rfl,G,g2,rfl⟩
  clear G HZ HP g2;obtain⟨i,Z,hi,rfl,G,HZ,HP⟩:=hrel;have f7:(0:Int)<=(i:Int):=oM;obtain⟨i8,e1,a6,J,a5,b6⟩:=HW.o wr G.o.bel G.o.fr k HK.o
  injection e1 with e1
  injection e1 with e1 _ _
  subst e1;rw[HV.o.1]at a6;rw[HV.o.2]at J;by_cases K:i<mk
  ·have d6:=hid K
   have O:(i:Int)<(mk:Int):=za5 K;have g5:IntKind.i64.wrap ((i:Int)+1)=((i+1:Nat):Int):=by rw[IntKind.wrap_i64];have:=d.o;omega
   have D:=G.o.row (2*k+1) (oH HK.o);rw[eR1,sR1]at D;obtain⟨g,j4,hg,_⟩:=D.form (oH d.o);rw[hg]at D;rw[HV.o.2,<-d.o.2.2.1]at hg
   injection hg with d7 _ hg2
   subst d7 hg2;have f3:(Z (2*k+1)).length=mk*3:=by have:=D.1;rw[<-d.o.2.2.1]at this;exact this
   obtain⟨u0,f2⟩:∃u,(Z (2*k+1))[i*3]?=some u:=⟨_,gG_ oM⟩;obtain⟨u1,I⟩:∃u,(Z (2*k+1))[i*3+1]?=some u:=⟨_,gG_ oM⟩;obtain⟨u2,a7⟩:∃u,(Z (2*k+1))[i*3+2]?=some u:=⟨_,gG_ oM⟩;have f1:=D.cells (g:=g) rfl (i*3) u0 f2;have f4:=D.cells (g:=g) rfl (i*3+1) u1 I;have f8:=D.cells (g:=g) rfl (i*3+2) u2 a7;rw[zb7,aL]at f1 f4 f8;have h7:=yI8 D (i*3);have h8:=yI8 D (i*3+1);have h3:=yI8 D (i*3+2);have h5:=(D.lt g rfl).2;have d8:Hi (V (2*k+1)=.slice (sA g 0) (n (2*k+1)) cq/\(Z (2*k+1)).length=mk*3):=⟨by rw[HV.o.2,d.o.2.2.1],f3⟩;clear D f3 f2 I a7;go_wp2_with fail;clear a6 J a5 b6 h5 f1 h7 f4 h8 f8 h3;refine⟨⟨i+1,_,K,rfl,G.o.put3 HD.o (oH HK.o) d8.o.1 (i:=i*3) (by rw[sR1,<-d.o.2.2.1];have:=d6.o;omega) (nI (-1-(k:Int))) (nI (-1-(k:Int))) (nI (-1-(k:Int))),λj R=>?_,?_⟩,?_⟩
   ·rw[yI7 _ _ oM];exact HZ.o j R
   ·rw[yI6,fJ,iU,yL0 (by rw[d8.o.2];have:=d6.o;omega),HP.o,yJ3];rfl
   simp only[intOf,aO];omega
  have O:¬(i:Int)<(mk:Int):=oM;have d0:i=mk:=oM;subst d0
  have g2:Hi (∀j,j<2*(k+1)->Z j=rep (n j) (wR j)):=λj R=>by
   by_cases e:j=2*k+1
   ·subst e
    have h1:=(G.o.row (2*k+1) (oH HK.o)).1;rw[sR1]at h1;have h2:=HP.o;rw[bE (by rw[h1];have:=d.o;omega)]at h2;rw[h2,wR1,d.o.2.2.1]
   exact HZ.o j oM
  go_wp2_with fail;clear a6 J a5 b6 O K hi f7;go_roundw
  ·exact⟨k+1,Z,HK.o,rfl,G,g2⟩
  have:=HK.o;simp only[intOf];omega
 have g9:¬(k:Int)<(N:Int):=oM;have j0:k=N:=oM;subst j0;have G:=hid (HM.o.gr HD.o i6.o HY.o);go_wp2_with fail;clear g9 g3 hk HM HY;go_loopw [6,7] (λs6 t wr=>∃(q:Nat) (u:Nat->Value) (m:Nat->Nat) (qo:Option Addr) (qc:Nat),q<=k/\s6=.slice qo q qc/\t=nI (q:Nat)/\Hi (GR w wr B (2*k) eR sR wR V n u m)/\Hi (∀j,j<2*q->m j=n j+64)/\Hi (∀j,2*q<=j->m j=n j/\u j=V j)/\Hi (wr.ownsRow w.heap.size 37 3 (.slice qo q qc) q (pqL u M q))) (λ_ t _=>k-(intOf t).toNat)
 case atStart=>exact⟨0,V,n,none,0,zL_ _,rfl,rfl,G,λj R=>absurd R oM,λj _=>⟨rfl,rfl⟩,World.ownsRow_nil _ _ _ _⟩
 clear G;obtain⟨q,u,m,qo,qc,hq,rfl,rfl,HG,b0,a9,HQ⟩:=hrel;by_cases f0:q<k
 ·have HK:=hid f0
  have g8:(q:Int)<(k:Int):=za5 f0;have j5:IntKind.i64.wrap ((q:Int)+1)=((q+1:Nat):Int):=zb3 (oH d2.o);have j8:wrap64 (-1-(q:Int)) = -1-(q:Int):=by unfold wrap64;have:=d2.o;omega
  have j9:(0:Int)<=(q:Int):=oM;obtain⟨bl,rfl,a6,J,a5,b6⟩:=HW.o wr HG.o.bel HG.o.fr q f0;obtain⟨ao,cp,hV⟩:=HF.o (2*q) oM;obtain⟨bo,cq,hU⟩:=HF.o (2*q+1) oM;obtain⟨mo,ml,mc,G⟩:=i4.o q f0;obtain⟨L,b2⟩:=qq (n (2*q));obtain⟨mk,b1⟩:=qq (n (2*q+1));have HV:Hi (V (2*q)=.slice ao L cp/\V (2*q+1)=.slice bo mk cq/\M q=.slice mo ml mc):=⟨by rw[b2];exact hV,by rw[b1];exact hU,G⟩;have d:Hi (L=n (2*q)/\(L+64)*64<=140737488355328/\mk=n (2*q+1)/\(mk+64)*64<=140737488355328):=⟨b2,b2 ▸ HN.o (2*q) oM,b1,b1 ▸ HN.o (2*q+1) oM⟩;rw[hV,<-b2]at a6;rw[hU,<-b1]at J;rw[G]at a5;clear hV hU G b2 b1
  go_upto_region 17 with (fail)
  obtain⟨G,Z⟩:=qq (wr.heap.size);obtain⟨Z0,I⟩:=qq (wr.alloc (Obj.cells #[.slice ao L cp,.slice bo mk cq,.slice mo ml mc] 37));rw[<-I,<-Z];have g6:Ok wr Z0:=by rw[I];exact(Ok.refl _).alloc _
  have HX:Hi (Z0.heap[G]?=some (.cells #[.slice ao L cp,.slice bo mk cq,.slice mo ml mc] 37 (0,0))):=by rw[I,Z];exact za3 _ _
  have g4:Hi (w.heap.size<=G/\(Value.slice qo q qc).ownBlock≠some G):=⟨by rw[Z];exact HG.o.bel.size,λe=>by have:=(HQ.o.lt G e).2;omega⟩;replace HG:Hi (GR w Z0 B (2*k) eR sR wR V n u m):=HG.o.call g6;replace HQ:Hi (Z0.ownsRow w.heap.size 37 3 (.slice qo q qc) q (pqL u M q)):=za1 HQ.o g6;clear a6 J a5 b6 I Z g6;go_wp2_with fail
  have I:Hi (m (2*q)=L/\u (2*q)=.slice ao L cp/\m (2*q+1)=mk/\u (2*q+1)=.slice bo mk cq):=by obtain⟨a1,a2⟩:=a9.o (2*q) (nR_ _);obtain⟨a3,Z⟩:=a9.o (2*q+1) oM;exact⟨a1.trans d.o.1.symm,a2.trans HV.o.1,a3.trans d.o.2.2.1.symm,Z.trans HV.o.2.1⟩
  go_loopw [9] (λt wr=>∃(i:Nat) (u:Nat->Value) (m:Nat->Nat) (xo:Option Addr) (xc:Nat) (yo:Option Addr) (yc:Nat),i<=64/\t=nI (i:Nat)/\Hi (GR w wr B (2*k) eR sR wR V n u m)/\Hi (∀j,j<2*q->m j=n j+64)/\Hi (∀j,2*q+1<j->m j=n j/\u j=V j)/\Hi (m (2*q)=L+i/\u (2*q)=.slice xo (L+i) xc/\m (2*q+1)=mk+i/\u (2*q+1)=.slice yo (mk+i) yc)/\Hi (wr.heap[G]?=some (.cells #[.slice xo (L+i) xc,.slice yo (mk+i) yc,.slice mo ml mc] 37 (0,0)))/\Hi (wr.ownsRow w.heap.size 37 3 (.slice qo q qc) q (pqL u M q))) (λt _=>64-(intOf t).toNat)
  case atStart=>exact⟨0,u,m,ao,cp,bo,cq,zL_ _,rfl,HG,b0,λj R=>a9.o j oM,I,HX,HQ⟩
  clear HG b0 a9 HQ I HX;obtain⟨i,u,m,xo,xc,yo,yc,hi,rfl,HG,b0,a9,Z,HX,HQ⟩:=hrel;obtain⟨x0,x1,x2,x3,x4,x5⟩:=za9 HX.o;have d1:=za2 HX.o;by_cases K:i<64
  ·have d6:=hid K
   have O:(i:Int)<64:=oM;have g5:IntKind.i64.wrap ((i:Int)+1)=((i+1:Nat):Int):=zb3 oM;have b4:Hi (GR w (wr.alloc (Obj.cells #[nI (-1-(q:Int)),.bool false,sZ,sZ] 76)) B (2*k) eR sR wR V n u m):=HG.o.call ((Ok.refl _).alloc _);have b9:Hi ((wr.alloc (Obj.cells #[nI (-1-(q:Int)),.bool false,sZ,sZ] 76)).ownsRow w.heap.size 37 3 (.slice qo q qc) q (pqL u M q)):=za1 HQ.o ((Ok.refl _).alloc _);have b7:Hi ((wr.alloc (Obj.cells #[nI (-1-(q:Int)),.bool false,sZ,sZ] 76)).heap[G]?=_):=Ok.row' ((Ok.refl _).alloc _) HX.o;have b8:Hi ((wr.alloc (Obj.cells #[nI (-1-(q:Int)),.bool false,sZ,sZ] 76)).ownsRow B 76 4 (.slice xo (L+i) xc) (L+i) (rep (L+i) (vW q))):=by have h:=b4.o.row (2*q) (oH HK.o);rw[eR0,sR0,Z.o.1,Z.o.2.1,wR0]at h;exact h
   have d3:=hid (aH HG.o.le HG.o.bel.size)
   go_upto_region 21 with (first|(at_builtin;(refine yI9 rfl _ _ 34 76 4 64 _ rfl Tryz.underlying34 wu4 (by rfl) (by decide) (by decide) B (.slice xo (L+i) xc) (L+i) (rep (L+i) (vW q)) (by rfl) b8.o wr.heap.size (vW q) (by rfl) (by rfl) (λj v R=>by rw[zb7,aL];exact(cell_of_row _ _ j _ _ _ (za3 _ _)).trans (by simpa[vW,lW] using R)) (by simp[vW,lW,Value.oneCell']) (oH d.o) (by have:=d3.o;simp;omega) ?_;intro g cg w9 k1 k2 k3 k4;have c0:=hid k1;have b5:=hid k2;have I:=hid k3;have d9:=hid k4;have b3:Hi (w9.heap[G]?=_):=(k2.block G (za2 b7.o) (λe=>zb6 b8.o b7.o (by decide) e.symm)).trans b7.o;clear k1 k2 k3 k4 x0 x1 x2 x3 x4 x5 d1;obtain⟨x0,x1,x2,x3,x4,x5⟩:=za9 b3.o;have d1:=za2 b3.o))|fail)
   have c7:=b4.o.app yO8 yO7 (j:=2*q) (g:=g) (cap:=cg) (w':=w9) (oH HK.o) (by rw[eR0,sR0,Z.o.1,wR0];exact c0.o) (by rw[Z.o.2.1];exact b5.o) (by rw[Z.o.2.1];exact I.o) (by rw[eR0,sR0,Z.o.1,Z.o.2.1,wR0];exact d9.o);have a8:Hi (GR w (w9.setCell (aD G 0) (.slice (sA g 0) (L+i+1) cg)) B (2*k) eR sR wR V n (DT u (2*q) (.slice (sA g 0) (m (2*q)+1) cg)) (DT m (2*q) (m (2*q)+1))):=c7.off b3.o wl7 g4.o.1 _;have c8:Hi ((w9.setCell (aD G 0) (.slice (sA g 0) (L+i+1) cg)).ownsRow w.heap.size 37 3 (.slice qo q qc) q (pqL (DT u (2*q) (.slice (sA g 0) (m (2*q)+1) cg)) M q)):=by rw[yN0 _ _ _ oM];exact zc7 (zd6 b9.o b8.o (by decide) b5.o) (p:=⟨G,0,none⟩) g4.o.2 _
   have c9:Hi ((w9.setCell (aD G 0) (.slice (sA g 0) (L+i+1) cg)).heap[G]?=_):=heap_setCell_same _ G 0 _ _ _ b3.o;obtain⟨E0,hE⟩:=qq (w9.setCell ⟨G,0,none⟩ (.slice (some ⟨g,0,none⟩) (L+i+1) cg));rw[<-hE]at a8 c8 c9 ⊢;clear hE c7 b4 b9 b7 b8 c0 b5 I d9 b3 HG HQ HX d3 x0 x1 x2 x3 x4 x5 d1;obtain⟨u2,a7⟩:=qq (DT u (2*q) (.slice (some ⟨g,0,none⟩) (m (2*q)+1) cg));obtain⟨m2,d5⟩:=qq (DT m (2*q) (m (2*q)+1));have g0:Hi (m2 (2*q)=L+i+1/\u2 (2*q)=.slice (sA g 0) (L+i+1) cg/\m2 (2*q+1)=mk+i/\u2 (2*q+1)=.slice yo (mk+i) yc):=⟨by rw[d5,yI6,Z.o.1],by rw[a7,yI6,Z.o.1],by rw[d5,yI7 _ _ oM];exact Z.o.2.2.1,by rw[a7,yI7 _ _ oM];exact Z.o.2.2.2⟩;have f5:Hi (∀j,j<2*q->m2 j=n j+64):=λj R=>by rw[d5,yI7 _ _ oM];exact b0.o j R
   have d4:Hi (∀j,2*q+1<j->m2 j=n j/\u2 j=V j):=λj R=>by rw[d5,a7,yI7 _ _ oM,yI7 _ _ oM];exact a9.o j R
   rw[<-a7,<-d5]at a8;rw[<-a7]at c8;clear a7 d5 Z b0 a9 u m;obtain⟨u,hu⟩:=qq (u2);obtain⟨m,hm⟩:=qq (m2);rw[<-hu]at a8 c8 g0 d4;rw[<-hm]at a8 g0 f5 d4;clear hu hm;have Z:=g0;have b0:=f5;have a9:=d4;clear g0 f5 d4;obtain⟨g1,d7⟩:=qq (g);obtain⟨j1,g7⟩:=qq (cg);rw[<-d7,<-g7]at Z c9;clear d7 g7;have HG:=a8;have HQ:=c8;have HX:=c9;clear a8 c8 c9;obtain⟨x0,x1,x2,x3,x4,x5⟩:=za9 HX.o;have d1:=za2 HX.o;have b4:Hi (GR w (E0.alloc (Obj.cells #[nI (-1-(q:Int)),nI (-1-(q:Int)),nI (-1-(q:Int))] 78)) B (2*k) eR sR wR V n u m):=HG.o.call ((Ok.refl _).alloc _);have b9:Hi ((E0.alloc (Obj.cells #[nI (-1-(q:Int)),nI (-1-(q:Int)),nI (-1-(q:Int))] 78)).ownsRow w.heap.size 37 3 (.slice qo q qc) q (pqL u M q)):=za1 HQ.o ((Ok.refl _).alloc _);have b7:Hi ((E0.alloc (Obj.cells #[nI (-1-(q:Int)),nI (-1-(q:Int)),nI (-1-(q:Int))] 78)).heap[G]?=_):=Ok.row' ((Ok.refl _).alloc _) HX.o;have b8:Hi ((E0.alloc (Obj.cells #[nI (-1-(q:Int)),nI (-1-(q:Int)),nI (-1-(q:Int))] 78)).ownsRow B 78 3 (.slice yo (mk+i) yc) (mk+i) (rep (mk+i) (lW q))):=by have h:=b4.o.row (2*q+1) (oH HK.o);rw[eR1,sR1,Z.o.2.2.1,Z.o.2.2.2,wR1]at h;exact h
   have d3:=hid (aH HG.o.le HG.o.bel.size)
   go_upto_region 19 with (first|(at_builtin;(refine yI9 rfl _ _ 35 78 3 24 _ rfl Tryz.underlying35 wu5 (by rfl) (by decide) (by decide) B (.slice yo (mk+i) yc) (mk+i) (rep (mk+i) (lW q)) (by rfl) b8.o E0.heap.size (lW q) (by rfl) (by rfl) (λj v R=>by rw[zb7,aL];exact(cell_of_row _ _ j _ _ _ (za3 _ _)).trans (by simpa[vW,lW] using R)) (by simp[vW,lW,Value.oneCell']) (oH d.o) (by have:=d3.o;simp;omega) ?_;intro g cg w9 k1 k2 k3 k4;have c0:=hid k1;have b5:=hid k2;have I:=hid k3;have d9:=hid k4;have b3:Hi (w9.heap[G]?=_):=(k2.block G (za2 b7.o) (λe=>zb6 b8.o b7.o (by decide) e.symm)).trans b7.o;clear k1 k2 k3 k4 x0 x1 x2 x3 x4 x5 d1;obtain⟨x0,x1,x2,x3,x4,x5⟩:=za9 b3.o;have d1:=za2 b3.o))|fail)
   have c7:=b4.o.app yO8 yO7 (j:=2*q+1) (g:=g) (cap:=cg) (w':=w9) (oH HK.o) (by rw[eR1,sR1,Z.o.2.2.1,wR1];exact c0.o) (by rw[Z.o.2.2.2];exact b5.o) (by rw[Z.o.2.2.2];exact I.o) (by rw[eR1,sR1,Z.o.2.2.1,Z.o.2.2.2,wR1];exact d9.o);have a8:Hi (GR w (w9.setCell (aD G 1) (.slice (sA g 0) (mk+i+1) cg)) B (2*k) eR sR wR V n (DT u (2*q+1) (.slice (sA g 0) (m (2*q+1)+1) cg)) (DT m (2*q+1) (m (2*q+1)+1))):=c7.off b3.o wl7 g4.o.1 _;have c8:Hi ((w9.setCell (aD G 1) (.slice (sA g 0) (mk+i+1) cg)).ownsRow w.heap.size 37 3 (.slice qo q qc) q (pqL (DT u (2*q+1) (.slice (sA g 0) (m (2*q+1)+1) cg)) M q)):=by rw[yN0 _ _ _ oM];exact zc7 (zd6 b9.o b8.o (by decide) b5.o) (p:=⟨G,1,none⟩) g4.o.2 _
   have c9:Hi ((w9.setCell (aD G 1) (.slice (sA g 0) (mk+i+1) cg)).heap[G]?=_):=heap_setCell_same _ G 1 _ _ _ b3.o;obtain⟨E1,hE⟩:=qq (w9.setCell ⟨G,1,none⟩ (.slice (some ⟨g,0,none⟩) (mk+i+1) cg));rw[<-hE]at a8 c8 c9 ⊢;clear hE c7 b4 b9 b7 b8 c0 b5 I d9 b3 HG HQ HX d3 x0 x1 x2 x3 x4 x5 d1;go_wp2_with fail;refine⟨⟨i+1,_,_,some ⟨g1,0,none⟩,j1,some ⟨g,0,none⟩,cg,K,rfl,a8,λj R=>?_,λj R=>?_,⟨?_,?_,?_,?_⟩,c9,c8⟩,?_⟩
   ·rw[yI7 _ _ oM];exact b0.o j R
   ·rw[yI7 _ _ oM,yI7 _ _ oM];exact a9.o j R
   ·rw[yI7 _ _ oM];exact Z.o.1
   ·rw[yI7 _ _ oM];exact Z.o.2.1
   ·rw[yI6,Z.o.2.2.1];rfl
   ·rw[yI6,Z.o.2.2.1];rfl
   simp only[intOf];omega
  have O:¬(i:Int)<64:=oM;have i3:i=64:=oM;subst i3;have b4:Hi (GR w (wr.alloc (Obj.cells #[.slice xo (L+64) xc,.slice yo (mk+64) yc,.slice mo ml mc] 37)) B (2*k) eR sR wR V n u m):=HG.o.call ((Ok.refl _).alloc _);have b9:Hi ((wr.alloc (Obj.cells #[.slice xo (L+64) xc,.slice yo (mk+64) yc,.slice mo ml mc] 37)).ownsRow w.heap.size 37 3 (.slice qo q qc) q (pqL u M q)):=za1 HQ.o ((Ok.refl _).alloc _);have d3:=hid HG.o.bel.size
  go_wp2_with (first|(at_builtin;refine ze4 rfl _ _ 48 37 3 72 _ rfl Tryz.underlying48 wu6 (by rfl) (by decide) (by decide) w.heap.size (.slice qo q qc) q (pqL u M q) (by rfl) b9.o (.slice (sA wr.heap.size 0) 1 1) 1 [.slice xo (L+64) xc,.slice yo (mk+64) yc,.slice mo ml mc] (by rfl) (SL.one wr 37 [.slice xo (L+64) xc,.slice yo (mk+64) yc,.slice mo ml mc] rfl (by simp[Value.oneCell'])) (by have h1:=d2.o;have h2:=HK.o;omega) (by have:=d3.o;simp;omega) ?_;intro v9 w9 k1 k2;have c0:=hid k1;have b5:=hid k2;clear k1 k2)|fail)
  have a8:=hid (b4.o.grow b9.o wl7 b5.o);obtain⟨vo,vc,rfl⟩:=za0 c0.o;go_roundw
  ·refine⟨q+1,u,m,vo,vc,HK.o,rfl,rfl,a8,λj R=>?_,λj R=>a9.o j oM,?_⟩
   ·by_cases e:j<2*q
    ·exact b0.o j e
    rcases(show j=2*q\/j=2*q+1 by omega) with e | e
    ·rw[e,Z.o.1,d.o.1]
    rw[e,Z.o.2.2.1,d.o.2.2.1]
   rw[yK7,Z.o.2.1,Z.o.2.2.2,HV.o.2.2];exact c0.o
  have:=HK.o;simp only[intOf];omega
 have g8:¬(q:Int)<(k:Int):=oM;have j3:q=k:=oM;subst j3;go_wp2_with fail;clear g8 f0 hq a9 HB i5 i6 HD;obtain⟨w3,Z⟩:=qq (wr);rw[<-Z]at HG HQ ⊢;clear Z
 have i2:Hi (∀Y,Ok w3 Y->∀p,p<q->∃bq bl,qo=some ⟨bq,0,none⟩/\lo=some ⟨bl,0,none⟩/\bq<Y.heap.size/\bl<Y.heap.size/\(∃G ux ao cp,Y.cell? ⟨bq,p*3,none⟩=some (.slice (sA G 0) (n (2*p)+64) ux)/\Y.cell? ⟨bl,p*3,none⟩=some (.slice ao (n (2*p)) cp)/\G<Y.heap.size/\(∀i,i<n (2*p)+64->Y.cell? ⟨G,i*4,none⟩=some (nI (-1-(p:Int))))/\(∀i,i<n (2*p)->∃Z,ao=some ⟨Z,0,none⟩/\Z<Y.heap.size/\Y.cell? ⟨Z,i*4,none⟩=some (nI (-1-(p:Int)))))/\(∃G ux ao cp,Y.cell? ⟨bq,p*3+1,none⟩=some (.slice (sA G 0) (n (2*p+1)+64) ux)/\Y.cell? ⟨bl,p*3+1,none⟩=some (.slice ao (n (2*p+1)) cp)/\G<Y.heap.size/\(∀i,i<n (2*p+1)+64->Y.cell? ⟨G,i*3+2,none⟩=some (nI (-1-(p:Int))))/\(∀i,i<n (2*p+1)->∃Z,ao=some ⟨Z,0,none⟩/\Z<Y.heap.size/\Y.cell? ⟨Z,i*3,none⟩=some (nI (-1-(p:Int)))))):=λY hY p hp=>by
  have hG:=HG.o.call hY;obtain⟨bl,e1,c1,j2,_,l1⟩:=HW.o Y hG.bel hG.fr p hp;have hQ:=za1 HQ.o hY;obtain⟨bq,cq,e2,_⟩:=hQ.form oM
  injection e2 with e2 _ _
  subst e2;obtain⟨a1,a2,_⟩:=yK8 u M hp;have c2:=hQ.cells (g:=bq) rfl _ _ a1;have h0:=hQ.cells (g:=bq) rfl _ _ a2;rw[zb7,aL]at c2 h0;refine⟨bq,bl,rfl,e1,(hQ.lt bq rfl).2,l1,?_,?_⟩
  ·obtain⟨ao,cp,hV⟩:=HF.o (2*p) oM
   have D:=hG.row (2*p) oM;rw[eR0,sR0,wR0,b0.o (2*p) oM]at D;obtain⟨G,ux,e3,_⟩:=D.form oM;rw[e3]at D c2;have ho:=hG.old (2*p) oM;rw[eR0,sR0,wR0]at ho;refine⟨G,ux,ao,cp,c2,hV ▸ c1,(D.lt G rfl).2,λi hi=>?_,λi hi=>?_⟩
   ·have h:=D.cells (g:=G) rfl _ _ (yJ0 (c:=vW p) (t:=0) hi rfl)
    rw[zb7]at h;simpa[vW,lW] using h
   obtain⟨Z,uv,e4,_⟩:=ho.form oM;rw[e4]at ho hV
   injection hV with e5 _ _
   subst e5;have h:=ho.cells (g:=Z) rfl _ _ (yJ0 (c:=vW p) (t:=0) hi rfl);rw[zb7]at h;exact⟨Z,rfl,(ho.lt Z rfl).2,by simpa[vW,lW] using h⟩
  obtain⟨ao,cp,hV⟩:=HF.o (2*p+1) oM;have D:=hG.row (2*p+1) oM;rw[eR1,sR1,wR1,b0.o (2*p+1) oM]at D;obtain⟨G,ux,e3,_⟩:=D.form oM;rw[e3]at D h0;have ho:=hG.old (2*p+1) oM;rw[eR1,sR1,wR1]at ho;refine⟨G,ux,ao,cp,h0,hV ▸ j2,(D.lt G rfl).2,λi hi=>?_,λi hi=>?_⟩
  ·have h:=D.cells (g:=G) rfl _ _ (yJ0 (c:=lW p) (t:=2) hi rfl)
   rw[zb7]at h;simpa[vW,lW] using h
  obtain⟨Z,uv,e4,_⟩:=ho.form oM;rw[e4]at ho hV
  injection hV with e5 _ _
  subst e5;have h:=ho.cells (g:=Z) rfl _ _ (yJ0 (c:=lW p) (t:=0) hi rfl);rw[zb7]at h;exact⟨Z,rfl,(ho.lt Z rfl).2,by simpa[vW,lW] using h⟩
 have HE:Hi (∀Y,Ok w3 Y->Below B w Y/\w.heap.size<=Y.heap.size/\∀b,b<w.heap.size->(∀j,j<2*q->(V j).ownBlock≠some b)->Y.heap[b]?=w.heap[b]?):=λY hY=>⟨(HG.o.call hY).bel,(HG.o.call hY).bel.size,(HG.o.call hY).fr⟩;clear HG HQ b0 HW HF i4;go_loopw [10] (λt wr=>∃p:Nat,p<=q/\t=nI (p:Nat)/\Hi (Ok w3 wr)) (λt _=>q-(intOf t).toNat)
 case atStart=>exact⟨0,zL_ _,rfl,Ok.refl _⟩
 obtain⟨p,hp,rfl,I⟩:=hrel;by_cases h9:p<q
 ·have HP:=hid h9
  have i0:(p:Int)<(q:Int):=za5 h9;have j6:IntKind.i64.wrap ((p:Int)+1)=((p+1:Nat):Int):=zb3 (oH d2.o);have k6:wrap64 (-1-(p:Int)) = -1-(p:Int):=by unfold wrap64;have:=d2.o;omega
  have k5:(0:Int)<=(p:Int):=oM;obtain⟨np,h6⟩:=qq (n (2*p));obtain⟨mp,h4⟩:=qq (n (2*p+1));have f9:Hi (np=n (2*p)/\(np+64)*64<=140737488355328/\mp=n (2*p+1)/\(mp+64)*64<=140737488355328):=⟨h6,h6 ▸ HN.o (2*p) oM,h4,h4 ▸ HN.o (2*p+1) oM⟩;clear h6 h4;go_wp2_with fail;go_loopw [11] (λt wr=>∃i:Nat,i<=np+64/\t=nI (i:Nat)/\Hi (Ok w3 wr)) (λt _=>(np+64)-(intOf t).toNat)
  case atStart=>exact⟨0,zL_ _,rfl,I⟩
  clear I;obtain⟨i,hi,rfl,I⟩:=hrel;have f7:(0:Int)<=(i:Int):=oM;have g5:IntKind.i64.wrap ((i:Int)+1)=((i+1:Nat):Int):=by rw[IntKind.wrap_i64];have:=f9.o;omega
  obtain⟨bq,bl,rfl,rfl,l1,l2,⟨G,ux,ao,cp,c1,c2,l3,c3,c4⟩,_⟩:=i2.o wr I.o p HP.o;rw[<-f9.o.1]at c1 c2 c3 c4;by_cases K:i<np+64
  ·have O:(i:Int)<((np+64:Nat):Int):=oM
   have c5:=c3 i K;by_cases d0:i<np
   ·have f6:(i:Int)<(np:Int):=oM
    obtain⟨Z,rfl,l6,c6⟩:=c4 i d0;clear c3 c4;go_wp2_with fail;refine⟨⟨i+1,K,rfl,I⟩,?_⟩;simp only[intOf];omega
   have f6:¬(i:Int)<(np:Int):=oM;clear c3 c4;go_wp2_with fail;refine⟨⟨i+1,K,rfl,I⟩,?_⟩;simp only[intOf];omega
  have O:¬(i:Int)<((np+64:Nat):Int):=oM;clear c3 c4;go_wp2_with fail;clear c1 c2 l1 l2 l3;go_loopw [12] (λt wr=>∃i:Nat,i<=mp+64/\t=nI (i:Nat)/\Hi (Ok w3 wr)) (λt _=>(mp+64)-(intOf t).toNat)
  case atStart=>exact⟨0,zL_ _,rfl,I⟩
  clear I;obtain⟨i,hi,rfl,I⟩:=hrel;have f7:(0:Int)<=(i:Int):=oM;have g5:IntKind.i64.wrap ((i:Int)+1)=((i+1:Nat):Int):=by rw[IntKind.wrap_i64];have:=f9.o;omega
  obtain⟨k0,i8,e1,e2,l1,l2,_,⟨G,ux,ao,cp,c1,c2,l3,c3,c4⟩⟩:=i2.o wr I.o p HP.o
  injection e1 with e1
  injection e1 with e1 _ _
  injection e2 with e2
  injection e2 with e2 _ _
  subst e1 e2;rw[<-f9.o.2.2.1]at c1 c2 c3 c4;by_cases K:i<mp+64
  ·have O:(i:Int)<((mp+64:Nat):Int):=oM
   have c5:=c3 i K;by_cases d0:i<mp
   ·have f6:(i:Int)<(mp:Int):=oM
    obtain⟨Z,rfl,l6,c6⟩:=c4 i d0;clear c3 c4;go_wp2_with fail;refine⟨⟨i+1,K,rfl,I⟩,?_⟩;simp only[intOf];omega
   have f6:¬(i:Int)<(mp:Int):=oM;clear c3 c4;go_wp2_with fail;refine⟨⟨i+1,K,rfl,I⟩,?_⟩;simp only[intOf];omega
  have O:¬(i:Int)<((mp+64:Nat):Int):=oM;clear c3 c4;go_wp2_with fail;go_roundw
  ·exact⟨p+1,HP.o,rfl,I⟩
  have:=HP.o;simp only[intOf];omega
 have i0:¬(p:Int)<(q:Int):=oM;go_wp2_with fail;go_ret;exact⟨rfl,HE.o wr I.o⟩
end Go.Proofs.YthoegkcpmgalbaaGreatDoor
