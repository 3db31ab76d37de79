import Derived.Test.YthoegkcpmgalbaaGreatDoorKYr
set_option maxHeartbeats 8000000
set_option linter.all false
set_option maxRecDepth 100000
namespace Go.Proofs.YthoegkcpmgalbaaGreatDoor
open Go.RowKit
def wo6:(Tryz.prog.info? 28).map (λi=>(i.zero,i.size,i.bytes))=some (some (sZ),1,24):=by kernel_rfl
def wI(j:Nat):List Value:=[nI (-1-(j:Int))]
def vsL(V:Nat->Value)(k:Nat):List Value:=(List.range k).map V
def yK4(V:Nat->Value){N k:Nat}(h:k<N):(vsL V N)[k]?=some (V k):=by unfold vsL;rw[aX,cF h];rfl
def yL9(V:Nat->Value)(k:Nat):vsL V (k+1)=vsL V k++[V k]:=by unfold vsL;rw[fE];simp
def yN3(V:Nat->Value){k j:Nat}(x:Value)(h:k<=j):vsL (DT V j x) k=vsL V k:=by unfold vsL;refine eF λi d=>?_;have:=dJ.1 d;exact yI7 _ _ oM
def yJ2{w:World}{B W s R n K:Nat}{e G:TypeId}{v I:Value}{X o:List Value}(h:w.ownsRow B e s v n X)(J:w.ownsRow W G R I K o)(O:e≠G):∀b,I.ownBlock=some b->v.ownBlock≠some b:=λb L D=>by
 obtain⟨c1,f1,Y⟩:=zf9 h b D;obtain⟨c2,Z,d⟩:=zf9 J b L;rw[Y]at d
 injection d with d
 injection d with _ k3
 exact O k3
def yO5(N:Nat)(lo:Option Addr)(lc:Nat)(V:Nat->Value)(n:Nat->Nat)(X:Nat->List Value)(B Bl:Nat)(w:World)(d:w.ownsRow Bl 28 1 (.slice lo N lc) N (vsL V N))(W:∀j,j<N->w.ownsRow B 3 1 (V j) (n j) (X j))(K:FK N V)(D:B<=w.heap.size)(J:∀j,j<N->(n j+64)*8<=140737488355328)(G:N<=1000000) :
  Calls Tryz.prog 26 #[.slice lo N lc] w λe w'=>e=.returned (.bool true)/\Below B w w'/\w.heap.size<=w'.heap.size/\∀b,b<w.heap.size->(∀j,j<N->(V j).ownBlock≠some b)->w'.heap[b]?=w.heap[b]?:=by
 have HD:=hid K;have HB:=hid D;have HN:=hid J;have a1:=hid G;have c8:Hi (MK w w B N 3 1 V n X):=⟨W,Below.refl _ _,D,λ_ _ _=>rfl⟩;have c9:Hi (∀j,j<N->∀b,(V j).ownBlock=some b->b<w.heap.size):=λj I b hb=>((W j I).lt b hb).2;have HF:Hi (∀j,j<N->∃ao cp,V j=.slice ao (n j) cp):=λj I=>za0 (W j I)
 have HW:Hi (∀Y:World,Below B w Y->(∀b,b<w.heap.size->(∀j,j<N->(V j).ownBlock≠some b)->Y.heap[b]?=w.heap[b]?)->∀k,k<N->∃b,lo=some ⟨b,0,none⟩/\Y.cell? (aD b k)=some (V k)/\b<Y.heap.size):=λY hY hf k hk=>by
  obtain⟨b,cp,e,_⟩:=d.form oM
  injection e with e1 e2 e3
  subst e1;have hb:=(d.lt b rfl).2;have h1:=d.cells (g:=b) rfl k (V k) (yK4 V hk);rw[zb7,aL]at h1;have h2:=hf b hb λj I=>yJ2 (W j I) d dC b rfl;refine⟨b,rfl,?_,lL_ hb hY.size⟩;rw[<-h1];unfold World.cell?;simp only[h2]
 clear d W K D J G;go_enter Tryz.func26,Tryz.ntmps26;go_wp2_with fail;go_loopw [3] (λt wr=>∃(k:Nat) (Y:Nat->List Value),k<=N/\t=nI (k:Nat)/\Hi (MK w wr B N 3 1 V n Y)/\Hi (∀j,j<k->Y j=rep (n j) (wI j))) (λt _=>N-(intOf t).toNat)
 case atStart=>exact⟨0,X,zL_ _,rfl,c8,λj I=>absurd I (eA _)⟩
 obtain⟨k,Y,hk,rfl,HM,HY⟩:=hrel;by_cases G:k<N
 ·have HK:=hid G
  have L:(k:Int)<(N:Int):=za5 G;have f8:IntKind.i64.wrap ((k:Int)+1)=((k+1:Nat):Int):=zb3 (oH a1.o);have f2:wrap64 (-1-(k:Int)) = -1-(k:Int):=by unfold wrap64;have:=a1.o;omega
  have f7:(0:Int)<=(k:Int):=oM;obtain⟨bl,rfl,K,a3⟩:=HW.o wr HM.o.bel HM.o.fr k G;obtain⟨ao,cp,hV⟩:=HF.o k G;have HV:=hid hV;obtain⟨d,O⟩:=qq (n k);have D:Hi (d=n k/\(d+64)*8<=140737488355328):=⟨O,O ▸ HN.o k G⟩;rw[hV,<-O]at K;clear hV O;go_wp2_with fail;clear K a3;go_loopw [4] (λt wr=>∃(i:Nat) (Z:Nat->List Value),i<=d/\t=nI (i:Nat)/\Hi (MK w wr B N 3 1 V n Z)/\Hi (∀j,j<k->Z j=rep (n j) (wI j))/\Hi ((Z k).take i=rep i (wI k))) (λt _=>d-(intOf t).toNat)
  case atStart=>exact⟨0,Y,zL_ _,rfl,HM,HY,rfl⟩
  obtain⟨i,Z,hi,rfl,HI,HZ,HP⟩:=hrel;have d9:(0:Int)<=(i:Int):=oM;obtain⟨g0,e1,K,a3⟩:=HW.o wr HI.o.bel HI.o.fr k HK.o
  injection e1 with e1
  injection e1 with e1 _ _
  subst e1;rw[HV.o,<-D.o.1]at K;by_cases J:i<d
  ·have c0:=hid J
   have R:(i:Int)<(d:Int):=za5 J;have d0:IntKind.i64.wrap ((i:Int)+1)=((i+1:Nat):Int):=by rw[IntKind.wrap_i64];have:=D.o;omega
   obtain⟨g,f9,hg,_⟩:=(HI.o.row k HK.o).form (oH D.o);have W:=HI.o.row k HK.o;rw[hg]at W;rw[HV.o,<-D.o.1]at hg
   injection hg with hg1 _ hg2
   subst hg1 hg2;have c7:(Z k).length=d:=by have:=W.1;rw[<-D.o.1]at this;omega
   obtain⟨u,hu⟩:∃u,(Z k)[i]?=some u:=⟨_,gG_ oM⟩;have d2:=W.cells (g:=g) rfl i u hu;rw[zb7,aL]at d2;have d4:=yI8 W i;have d6:=(W.lt g rfl).2;have b6:Hi (V k=.slice (sA g 0) (n k) cp/\(Z k).length=d):=⟨HV.o,c7⟩;clear W hu c7;go_wp2_with fail;clear d2 d4 d6 K a3;refine⟨⟨i+1,DT Z k ((Z k).set i (nI (-1-(k:Int)))),J,rfl,HI.o.put HD.o HK.o b6.o.1 (oH D.o.1) _,λj I=>?_,?_⟩,?_⟩
   ·rw[yI7 _ _ oM];exact HZ.o j I
   ·rw[yI6,yJ1 (by rw[b6.o.2];exact c0.o),HP.o,yJ3];rfl
   simp only[intOf,aO];omega
  have R:¬(i:Int)<(d:Int):=oM;have b1:i=d:=oM;subst b1;go_wp2_with fail;clear K a3;go_roundw
  ·refine⟨k+1,Z,HK.o,rfl,HI,λj I=>?_⟩
   by_cases e:j=k
   ·subst e
    have h1:=(HI.o.row j HK.o).1;have h2:=HP.o;rw[bE (by rw[h1];have:=D.o.1;omega)]at h2;rw[h2,D.o.1]
   exact HZ.o j oM
  have:=HK.o;simp only[intOf];omega
 have L:¬(k:Int)<(N:Int):=oM;have d5:k=N:=oM;subst d5;have Z:=hid (HM.o.gw HD.o c9.o HY.o);go_wp2_with fail;clear L G hk HM HY;go_loopw [5,6] (λs5 t wr=>∃(q:Nat) (u:Nat->Value) (m:Nat->Nat) (qo:Option Addr) (qc:Nat),q<=k/\s5=.slice qo q qc/\t=nI (q:Nat)/\Hi (GW w wr B k 3 1 wI V n u m)/\Hi (∀j,j<q->m j=n j+64)/\Hi (∀j,q<=j->m j=n j/\u j=V j)/\Hi (wr.ownsRow w.heap.size 28 1 (.slice qo q qc) q (vsL u q))) (λ_ t _=>k-(intOf t).toNat)
 case atStart=>exact⟨0,V,n,none,0,zL_ _,rfl,rfl,Z,λj I=>absurd I (eA _),λj _=>⟨rfl,rfl⟩,World.ownsRow_nil _ _ _ _⟩
 clear Z;obtain⟨q,u,m,qo,qc,hq,rfl,rfl,HG,L,Z,HQ⟩:=hrel;by_cases a2:q<k
 ·have HK:=hid a2
  have a8:(q:Int)<(k:Int):=za5 a2;have f0:IntKind.i64.wrap ((q:Int)+1)=((q+1:Nat):Int):=zb3 (oH a1.o);have f3:wrap64 (-1-(q:Int)) = -1-(q:Int):=by unfold wrap64;have:=a1.o;omega
  have f4:(0:Int)<=(q:Int):=oM;obtain⟨bl,rfl,K,a3⟩:=HW.o wr HG.o.bel HG.o.fr q a2;obtain⟨ao,cp,hV⟩:=HF.o q a2;have HV:=hid hV;obtain⟨d,O⟩:=qq (n q);have D:Hi (d=n q/\(d+64)*8<=140737488355328):=⟨O,O ▸ HN.o q a2⟩;rw[hV,<-O]at K;clear hV O;go_wp2_with fail;clear K a3;have G:Hi (m q=d/\u q=.slice ao d cp):=⟨by rw[(Z.o q (aK _)).1];exact D.o.1.symm,by rw[(Z.o q (aK _)).2,HV.o,<-D.o.1]⟩;go_loopw [7,8] (λs7 t wr=>∃(i:Nat) (u:Nat->Value) (m:Nat->Nat) (xo:Option Addr) (xc:Nat),i<=64/\s7=.slice xo (d+i) xc/\t=nI (i:Nat)/\Hi (GW w wr B k 3 1 wI V n u m)/\Hi (∀j,j<q->m j=n j+64)/\Hi (∀j,q<j->m j=n j/\u j=V j)/\Hi (m q=d+i/\u q=.slice xo (d+i) xc)/\Hi (wr.ownsRow w.heap.size 28 1 (.slice qo q qc) q (vsL u q))) (λ_ t _=>64-(intOf t).toNat)
  case atStart=>exact⟨0,u,m,ao,cp,zL_ _,rfl,rfl,HG,L,λj I=>Z.o j (dL I),G,HQ⟩
  clear HG L Z HQ G;obtain⟨i,u,m,xo,xc,hi,rfl,rfl,HG,L,Z,HS,HQ⟩:=hrel;by_cases J:i<64
  ·have c0:=hid J
   have R:(i:Int)<64:=oM;have d0:IntKind.i64.wrap ((i:Int)+1)=((i+1:Nat):Int):=zb3 oM;have a5:Hi (GW w (wr.alloc (Obj.cells #[nI (-1-(q:Int))] 3)) B k 3 1 wI V n u m):=HG.o.call ((Ok.refl _).alloc _);have a4:Hi ((wr.alloc (Obj.cells #[nI (-1-(q:Int))] 3)).ownsRow w.heap.size 28 1 (.slice qo q qc) q (vsL u q)):=za1 HQ.o ((Ok.refl _).alloc _);have b3:Hi ((wr.alloc (Obj.cells #[nI (-1-(q:Int))] 3)).ownsRow B 3 1 (.slice xo (d+i) xc) (d+i) (rep (d+i) (wI q))):=by have h:=a5.o.row q HK.o;rw[HS.o.1,HS.o.2]at h;exact h
   have b4:=hid (aH HG.o.le HG.o.bel.size)
   go_wp2_with (first|(at_builtin;refine yI9 rfl _ _ 28 3 1 8 _ rfl Tryz.underlying28 wb7 (by rfl) (by decide) (by decide) B (.slice xo (d+i) xc) (d+i) (rep (d+i) (wI q)) (by rfl) b3.o wr.heap.size (wI q) (by rfl) (by rfl) (λj v I=>by rw[zb7,aL];exact(cell_of_row _ _ j _ _ _ (za3 _ _)).trans (by simpa[wI] using I)) (by simp[wI,Value.oneCell']) (oH D.o) (by have:=b4.o;simp;omega) ?_;intro g cg w9 k1 k2 k3 k4;have a6:=hid k1;have a7:=hid k2;have G:=hid k3;have b9:=hid k4;clear k1 k2 k3 k4)|fail)
   have b0:Hi (GW w w9 B k 3 1 wI V n (DT u q (.slice (sA g 0) (m q+1) cg)) (DT m q (m q+1))):=a5.o.app (by decide) (λ_=>rfl) HK.o (by rw[HS.o.1];exact a6.o) (by rw[HS.o.2];exact a7.o) (by rw[HS.o.2];exact G.o) (by rw[HS.o.1,HS.o.2];exact b9.o);have d7:Hi (w9.ownsRow w.heap.size 28 1 (.slice qo q qc) q (vsL u q)):=zd6 a4.o b3.o dC a7.o;clear a5 a4 b3 a6 a7 G b9 HG HQ;refine⟨⟨i+1,_,_,some ⟨g,0,none⟩,cg,J,rfl,rfl,b0,λj I=>?_,λj I=>?_,⟨?_,?_⟩,?_⟩,?_⟩
   ·rw[yI7 _ _ oM];exact L.o j I
   ·rw[yI7 _ _ oM,yI7 _ _ oM];exact Z.o j I
   ·rw[yI6,HS.o.1];rfl
   ·rw[yI6,HS.o.1];rfl
   ·rw[yN3 _ _ (aK _)];exact d7.o
   simp only[intOf];omega
  have R:¬(i:Int)<64:=oM;have b8:i=64:=oM;subst b8;have a5:Hi (GW w (wr.alloc (Obj.cells #[.slice xo (d+64) xc] 28)) B k 3 1 wI V n u m):=HG.o.call ((Ok.refl _).alloc _);have a4:Hi ((wr.alloc (Obj.cells #[.slice xo (d+64) xc] 28)).ownsRow w.heap.size 28 1 (.slice qo q qc) q (vsL u q)):=za1 HQ.o ((Ok.refl _).alloc _);have b4:=hid HG.o.bel.size
  go_wp2_with (first|(at_builtin;refine ze4 rfl _ _ 85 28 1 24 _ rfl Tryz.underlying85 wo6 (by rfl) (by decide) (by decide) w.heap.size (.slice qo q qc) q (vsL u q) (by rfl) a4.o (.slice (sA wr.heap.size 0) 1 1) 1 [.slice xo (d+64) xc] (by rfl) (SL.one wr 28 [.slice xo (d+64) xc] rfl (by simp[Value.oneCell'])) (by have h1:=a1.o;have h2:=HK.o;omega) (by have:=b4.o;simp;omega) ?_;intro v9 w9 k1 k2;have a6:=hid k1;have a7:=hid k2;clear k1 k2)|fail)
  have b0:Hi (GW w w9 B k 3 1 wI V n u m):=a5.o.grow a4.o dC a7.o;obtain⟨vo,vc,rfl⟩:=za0 a6.o;go_roundw
  ·refine⟨q+1,u,m,vo,vc,HK.o,rfl,rfl,b0,λj I=>?_,λj I=>Z.o j I,?_⟩
   ·by_cases e:j=q
    ·subst e;rw[HS.o.1,D.o.1]
    exact L.o j oM
   rw[yL9,HS.o.2];exact a6.o
  have:=HK.o;simp only[intOf];omega
 have a8:¬(q:Int)<(k:Int):=oM;have d8:q=k:=oM;subst d8;go_wp2_with fail;clear a8 a2 hq Z HB c8 c9 HD;obtain⟨w3,Z⟩:=qq (wr);rw[<-Z]at HG HQ ⊢;clear Z
 have d3:Hi (∀Y,Ok w3 Y->∀p,p<q->∃bq bl gx ux ao cp,qo=some ⟨bq,0,none⟩/\lo=some ⟨bl,0,none⟩/\Y.cell? (aD bq p)=some (.slice (sA gx 0) (n p+64) ux)/\bq<Y.heap.size/\Y.cell? (aD bl p)=some (.slice ao (n p) cp)/\bl<Y.heap.size/\gx<Y.heap.size/\(∀i,i<n p+64->Y.cell? (aD gx i)=some (nI (-1-(p:Int))))/\(∀i,i<n p->∃gv,ao=some ⟨gv,0,none⟩/\gv<Y.heap.size/\Y.cell? (aD gv i)=some (nI (-1-(p:Int))))):=λY hY p Z=>by
  have hG:=HG.o.call hY;obtain⟨bl,e1,c1,l1⟩:=HW.o Y hG.bel hG.fr p Z;obtain⟨ao,cp,hV⟩:=HF.o p Z;have hQ:=za1 HQ.o hY;obtain⟨bq,cq,e2,_⟩:=hQ.form oM
  injection e2 with e2 _ _
  subst e2;have c2:=hQ.cells (g:=bq) rfl p (u p) (yK4 u Z);rw[zb7,aL]at c2;have W:=hG.row p Z;obtain⟨gx,ux,e3,_⟩:=W.form (by rw[L.o p Z];omega);rw[e3,L.o p Z]at W;rw[e3,L.o p Z]at c2;refine⟨bq,bl,gx,ux,ao,cp,rfl,e1,c2,(hQ.lt bq rfl).2,hV ▸ c1,l1,(W.lt gx rfl).2,λi hi=>?_,λi hi=>?_⟩
  ·have h:=W.cells (g:=gx) rfl _ _ (yJ0 (c:=wI p) (t:=0) hi rfl)
   rw[zb7]at h;simpa[wI] using h
  have ho:=hG.old p Z;obtain⟨gv,uv,e4,_⟩:=ho.form oM;rw[e4]at ho hV
  injection hV with e5 _ _
  subst e5;have h:=ho.cells (g:=gv) rfl _ _ (yJ0 (c:=wI p) (t:=0) hi rfl);rw[zb7]at h;exact⟨gv,rfl,(ho.lt gv rfl).2,by simpa[wI] using h⟩
 have HE:Hi (∀Y,Ok w3 Y->Below B w Y/\w.heap.size<=Y.heap.size/\∀b,b<w.heap.size->(∀j,j<q->(V j).ownBlock≠some b)->Y.heap[b]?=w.heap[b]?):=λY hY=>⟨(HG.o.call hY).bel,(HG.o.call hY).bel.size,(HG.o.call hY).fr⟩;clear HG HQ L HW HF;go_loopw [9] (λt wr=>∃p:Nat,p<=q/\t=nI (p:Nat)/\Hi (Ok w3 wr)) (λt _=>q-(intOf t).toNat)
 case atStart=>exact⟨0,zL_ _,rfl,Ok.refl _⟩
 obtain⟨p,Z,rfl,G⟩:=hrel;by_cases a9:p<q
 ·have HP:=hid a9
  have b7:(p:Int)<(q:Int):=za5 a9;have f1:IntKind.i64.wrap ((p:Int)+1)=((p+1:Nat):Int):=zb3 (oH a1.o);have f6:wrap64 (-1-(p:Int)) = -1-(p:Int):=by unfold wrap64;have:=a1.o;omega
  have f5:(0:Int)<=(p:Int):=oM;obtain⟨L,b2⟩:=qq (n p);have b5:Hi (L=n p/\(L+64)*8<=140737488355328):=⟨b2,b2 ▸ HN.o p a9⟩;clear b2;go_wp2_with fail;go_loopw [10] (λt wr=>∃i:Nat,i<=L+64/\t=nI (i:Nat)/\Hi (Ok w3 wr)) (λt _=>(L+64)-(intOf t).toNat)
  case atStart=>exact⟨0,zL_ _,rfl,G⟩
  clear G;obtain⟨i,hi,rfl,G⟩:=hrel;have d9:(0:Int)<=(i:Int):=oM;have d0:IntKind.i64.wrap ((i:Int)+1)=((i+1:Nat):Int):=by rw[IntKind.wrap_i64];have:=b5.o;omega
  obtain⟨bq,bl,gx,ux,ao,cp,rfl,rfl,c1,l1,c2,l2,l3,c3,c4⟩:=d3.o wr G.o p HP.o;rw[<-b5.o.1]at c1 c2 c3 c4;by_cases J:i<L+64
  ·have R:(i:Int)<((L+64:Nat):Int):=oM
   have c5:=c3 i J;by_cases b1:i<L
   ·have d1:(i:Int)<(L:Int):=oM
    obtain⟨gv,rfl,l6,c6⟩:=c4 i b1;clear c3 c4;go_wp2_with fail;refine⟨⟨i+1,J,rfl,G⟩,?_⟩;simp only[intOf];omega
   have d1:¬(i:Int)<(L:Int):=oM;clear c3 c4;go_wp2_with fail;refine⟨⟨i+1,J,rfl,G⟩,?_⟩;simp only[intOf];omega
  have R:¬(i:Int)<((L+64:Nat):Int):=oM;clear c3 c4;go_wp2_with fail;go_roundw
  ·exact⟨p+1,HP.o,rfl,G⟩
  have:=HP.o;simp only[intOf];omega
 have b7:¬(p:Int)<(q:Int):=oM;go_wp2_with fail;go_ret;exact⟨rfl,HE.o wr G.o⟩
def wq9:(Tryz.prog.info? 72).map (λi=>(i.zero,i.size,i.bytes))=some (some (sZ),1,24):=by kernel_rfl
def wL(j:Nat):List Value:=[nI (-1-(j:Int)),nI (-1-(j:Int))]
def yN4(N:Nat)(lo:Option Addr)(lc:Nat)(V:Nat->Value)(n:Nat->Nat)(X:Nat->List Value)(B Bl:Nat)(w:World)(d:w.ownsRow Bl 72 1 (.slice lo N lc) N (vsL V N))(K:∀j,j<N->w.ownsRow B 117 2 (V j) (n j) (X j))(L:FK N V)(D:B<=w.heap.size)(J:∀j,j<N->(n j+64)*16<=140737488355328)(G:N<=1000000) :
  Calls Tryz.prog 27 #[.slice lo N lc] w λe w'=>e=.returned (.bool true)/\Below B w w'/\w.heap.size<=w'.heap.size/\∀b,b<w.heap.size->(∀j,j<N->(V j).ownBlock≠some b)->w'.heap[b]?=w.heap[b]?:=by
 have HD:=hid L;have HB:=hid D;have HN:=hid J;have a1:=hid G;have d0:Hi (MK w w B N 117 2 V n X):=⟨K,Below.refl _ _,D,λ_ _ _=>rfl⟩;have d1:Hi (∀j,j<N->∀b,(V j).ownBlock=some b->b<w.heap.size):=λj I b hb=>((K j I).lt b hb).2;have HF:Hi (∀j,j<N->∃ao cp,V j=.slice ao (n j) cp):=λj I=>za0 (K j I)
 have HW:Hi (∀Y:World,Below B w Y->(∀b,b<w.heap.size->(∀j,j<N->(V j).ownBlock≠some b)->Y.heap[b]?=w.heap[b]?)->∀k,k<N->∃b,lo=some ⟨b,0,none⟩/\Y.cell? (aD b k)=some (V k)/\b<Y.heap.size):=λY hY hf k hk=>by
  obtain⟨b,cp,e,_⟩:=d.form oM
  injection e with e1 e2 e3
  subst e1;have hb:=(d.lt b rfl).2;have h1:=d.cells (g:=b) rfl k (V k) (yK4 V hk);rw[zb7,aL]at h1;have h2:=hf b hb λj I=>yJ2 (K j I) d dC b rfl;refine⟨b,rfl,?_,lL_ hb hY.size⟩;rw[<-h1];unfold World.cell?;simp only[h2]
 clear d K L D J G;go_enter Tryz.func27,Tryz.ntmps27;go_wp2_with fail;go_loopw [3] (λt wr=>∃(k:Nat) (Y:Nat->List Value),k<=N/\t=nI (k:Nat)/\Hi (MK w wr B N 117 2 V n Y)/\Hi (∀j,j<k->Y j=rep (n j) (wL j))) (λt _=>N-(intOf t).toNat)
 case atStart=>exact⟨0,X,zL_ _,rfl,d0,λj I=>absurd I (eA _)⟩
 obtain⟨k,Y,hk,rfl,HM,HY⟩:=hrel;by_cases G:k<N
 ·have HK:=hid G
  have O:(k:Int)<(N:Int):=za5 G;have g2:IntKind.i64.wrap ((k:Int)+1)=((k+1:Nat):Int):=zb3 (oH a1.o);have f5:wrap64 (-1-(k:Int)) = -1-(k:Int):=by unfold wrap64;have:=a1.o;omega
  have g1:(0:Int)<=(k:Int):=oM;obtain⟨bl,rfl,L,a3⟩:=HW.o wr HM.o.bel HM.o.fr k G;obtain⟨ao,cp,hV⟩:=HF.o k G;have HV:=hid hV;obtain⟨D,R⟩:=qq (n k);have d:Hi (D=n k/\(D+64)*16<=140737488355328):=⟨R,R ▸ HN.o k G⟩;rw[hV,<-R]at L;clear hV R;go_wp2_with fail;clear L a3;go_loopw [4] (λt wr=>∃(i:Nat) (Z:Nat->List Value),i<=D/\t=nI (i:Nat)/\Hi (MK w wr B N 117 2 V n Z)/\Hi (∀j,j<k->Z j=rep (n j) (wL j))/\Hi ((Z k).take (i*2)=rep i (wL k))) (λt _=>D-(intOf t).toNat)
  case atStart=>exact⟨0,Y,zL_ _,rfl,HM,HY,rfl⟩
  obtain⟨i,Z,hi,rfl,HI,HZ,HP⟩:=hrel;have f2:(0:Int)<=(i:Int):=oM;obtain⟨g4,e1,L,a3⟩:=HW.o wr HI.o.bel HI.o.fr k HK.o
  injection e1 with e1
  injection e1 with e1 _ _
  subst e1;rw[HV.o,<-d.o.1]at L;by_cases J:i<D
  ·have c7:=hid J
   have W:(i:Int)<(D:Int):=za5 J;have d2:IntKind.i64.wrap ((i:Int)+1)=((i+1:Nat):Int):=by rw[IntKind.wrap_i64];have:=d.o;omega
   obtain⟨g,g3,hg,_⟩:=(HI.o.row k HK.o).form (oH d.o);have K:=HI.o.row k HK.o;rw[hg]at K;rw[HV.o,<-d.o.1]at hg
   injection hg with hg1 _ hg2
   subst hg1 hg2;have c9:(Z k).length=D*2:=by have:=K.1;rw[<-d.o.1]at this;exact this
   obtain⟨u,hu⟩:∃u,(Z k)[i*2]?=some u:=⟨_,gG_ oM⟩;obtain⟨u2,c8⟩:∃u,(Z k)[i*2+1]?=some u:=⟨_,gG_ oM⟩;have d4:=K.cells (g:=g) rfl (i*2) u hu;have b8:=K.cells (g:=g) rfl (i*2+1) u2 c8;rw[zb7,aL]at d4 b8;have d6:=yI8 K (i*2);have d7:=yI8 K (i*2+1);have d9:=(K.lt g rfl).2;have b0:Hi (V k=.slice (sA g 0) (n k) cp/\(Z k).length=D*2):=⟨HV.o,c9⟩;clear K hu c8 c9;go_wp2_with fail;clear d4 d6 d9 b8 d7 L a3;refine⟨⟨i+1,DT (DT Z k ((Z k).set (i*2) (nI (-1-(k:Int))))) k (((DT Z k ((Z k).set (i*2) (nI (-1-(k:Int))))) k).set (i*2+1) (nI (-1-(k:Int)))),J,rfl,(HI.o.put HD.o HK.o b0.o.1 (i:=i*2) (oH d.o.1) _).put HD.o HK.o b0.o.1 (i:=i*2+1) (oH d.o.1) _,λj I=>?_,?_⟩,?_⟩
   ·rw[yI7 _ _ oM,yI7 _ _ oM];exact HZ.o j I
   ·rw[yI6,yI6,fJ,iU,yL1 (by rw[b0.o.2];have:=c7.o;omega),HP.o,yJ3];rfl
   simp only[intOf,aO];omega
  have W:¬(i:Int)<(D:Int):=oM;have b2:i=D:=oM;subst b2;go_wp2_with fail;clear L a3;go_roundw
  ·refine⟨k+1,Z,HK.o,rfl,HI,λj I=>?_⟩
   by_cases e:j=k
   ·subst e
    have h1:=(HI.o.row j HK.o).1;have h2:=HP.o;rw[bE (by rw[h1];have:=d.o.1;omega)]at h2;rw[h2,d.o.1]
   exact HZ.o j oM
  have:=HK.o;simp only[intOf];omega
 have O:¬(k:Int)<(N:Int):=oM;have d8:k=N:=oM;subst d8;have Z:=hid (HM.o.gw HD.o d1.o HY.o);go_wp2_with fail;clear O G hk HM HY;go_loopw [5,6] (λs5 t wr=>∃(q:Nat) (u:Nat->Value) (m:Nat->Nat) (qo:Option Addr) (qc:Nat),q<=k/\s5=.slice qo q qc/\t=nI (q:Nat)/\Hi (GW w wr B k 117 2 wL V n u m)/\Hi (∀j,j<q->m j=n j+64)/\Hi (∀j,q<=j->m j=n j/\u j=V j)/\Hi (wr.ownsRow w.heap.size 72 1 (.slice qo q qc) q (vsL u q))) (λ_ t _=>k-(intOf t).toNat)
 case atStart=>exact⟨0,V,n,none,0,zL_ _,rfl,rfl,Z,λj I=>absurd I (eA _),λj _=>⟨rfl,rfl⟩,World.ownsRow_nil _ _ _ _⟩
 clear Z;obtain⟨q,u,m,qo,qc,hq,rfl,rfl,HG,O,Z,HQ⟩:=hrel;by_cases a2:q<k
 ·have HK:=hid a2
  have a8:(q:Int)<(k:Int):=za5 a2;have f3:IntKind.i64.wrap ((q:Int)+1)=((q+1:Nat):Int):=zb3 (oH a1.o);have f6:wrap64 (-1-(q:Int)) = -1-(q:Int):=by unfold wrap64;have:=a1.o;omega
  have f7:(0:Int)<=(q:Int):=oM;obtain⟨bl,rfl,L,a3⟩:=HW.o wr HG.o.bel HG.o.fr q a2;obtain⟨ao,cp,hV⟩:=HF.o q a2;have HV:=hid hV;obtain⟨D,R⟩:=qq (n q);have d:Hi (D=n q/\(D+64)*16<=140737488355328):=⟨R,R ▸ HN.o q a2⟩;rw[hV,<-R]at L;clear hV R;go_wp2_with fail;clear L a3;have G:Hi (m q=D/\u q=.slice ao D cp):=⟨by rw[(Z.o q (aK _)).1];exact d.o.1.symm,by rw[(Z.o q (aK _)).2,HV.o,<-d.o.1]⟩;go_loopw [7,8] (λs7 t wr=>∃(i:Nat) (u:Nat->Value) (m:Nat->Nat) (xo:Option Addr) (xc:Nat),i<=64/\s7=.slice xo (D+i) xc/\t=nI (i:Nat)/\Hi (GW w wr B k 117 2 wL V n u m)/\Hi (∀j,j<q->m j=n j+64)/\Hi (∀j,q<j->m j=n j/\u j=V j)/\Hi (m q=D+i/\u q=.slice xo (D+i) xc)/\Hi (wr.ownsRow w.heap.size 72 1 (.slice qo q qc) q (vsL u q))) (λ_ t _=>64-(intOf t).toNat)
  case atStart=>exact⟨0,u,m,ao,cp,zL_ _,rfl,rfl,HG,O,λj I=>Z.o j (dL I),G,HQ⟩
  clear HG O Z HQ G;obtain⟨i,u,m,xo,xc,hi,rfl,rfl,HG,O,Z,HS,HQ⟩:=hrel;by_cases J:i<64
  ·have c7:=hid J
   have W:(i:Int)<64:=oM;have d2:IntKind.i64.wrap ((i:Int)+1)=((i+1:Nat):Int):=zb3 oM;have a5:Hi (GW w (wr.alloc (Obj.cells #[nI (-1-(q:Int)),nI (-1-(q:Int))] 117)) B k 117 2 wL V n u m):=HG.o.call ((Ok.refl _).alloc _);have a4:Hi ((wr.alloc (Obj.cells #[nI (-1-(q:Int)),nI (-1-(q:Int))] 117)).ownsRow w.heap.size 72 1 (.slice qo q qc) q (vsL u q)):=za1 HQ.o ((Ok.refl _).alloc _);have b4:Hi ((wr.alloc (Obj.cells #[nI (-1-(q:Int)),nI (-1-(q:Int))] 117)).ownsRow B 117 2 (.slice xo (D+i) xc) (D+i) (rep (D+i) (wL q))):=by have h:=a5.o.row q HK.o;rw[HS.o.1,HS.o.2]at h;exact h
   have b5:=hid (aH HG.o.le HG.o.bel.size)
   go_wp2_with (first|(at_builtin;refine yI9 rfl _ _ 72 117 2 16 _ rfl Tryz.underlying72 wj4 (by rfl) (by decide) (by decide) B (.slice xo (D+i) xc) (D+i) (rep (D+i) (wL q)) (by rfl) b4.o wr.heap.size (wL q) (by rfl) (by rfl) (λj v I=>by rw[zb7,aL];exact(cell_of_row _ _ j _ _ _ (za3 _ _)).trans (by simpa[wL] using I)) (by simp[wL,Value.oneCell']) (oH d.o) (by have:=b5.o;simp;omega) ?_;intro g cg w9 k1 k2 k3 k4;have a6:=hid k1;have a7:=hid k2;have G:=hid k3;have c0:=hid k4;clear k1 k2 k3 k4)|fail)
   have b1:Hi (GW w w9 B k 117 2 wL V n (DT u q (.slice (sA g 0) (m q+1) cg)) (DT m q (m q+1))):=a5.o.app (by decide) (λ_=>rfl) HK.o (by rw[HS.o.1];exact a6.o) (by rw[HS.o.2];exact a7.o) (by rw[HS.o.2];exact G.o) (by rw[HS.o.1,HS.o.2];exact c0.o);have f0:Hi (w9.ownsRow w.heap.size 72 1 (.slice qo q qc) q (vsL u q)):=zd6 a4.o b4.o dC a7.o;clear a5 a4 b4 a6 a7 G c0 HG HQ;refine⟨⟨i+1,_,_,some ⟨g,0,none⟩,cg,J,rfl,rfl,b1,λj I=>?_,λj I=>?_,⟨?_,?_⟩,?_⟩,?_⟩
   ·rw[yI7 _ _ oM];exact O.o j I
   ·rw[yI7 _ _ oM,yI7 _ _ oM];exact Z.o j I
   ·rw[yI6,HS.o.1];rfl
   ·rw[yI6,HS.o.1];rfl
   ·rw[yN3 _ _ (aK _)];exact f0.o
   simp only[intOf];omega
  have W:¬(i:Int)<64:=oM;have b9:i=64:=oM;subst b9;have a5:Hi (GW w (wr.alloc (Obj.cells #[.slice xo (D+64) xc] 72)) B k 117 2 wL V n u m):=HG.o.call ((Ok.refl _).alloc _);have a4:Hi ((wr.alloc (Obj.cells #[.slice xo (D+64) xc] 72)).ownsRow w.heap.size 72 1 (.slice qo q qc) q (vsL u q)):=za1 HQ.o ((Ok.refl _).alloc _);have b5:=hid HG.o.bel.size
  go_wp2_with (first|(at_builtin;refine ze4 rfl _ _ 86 72 1 24 _ rfl Tryz.underlying86 wq9 (by rfl) (by decide) (by decide) w.heap.size (.slice qo q qc) q (vsL u q) (by rfl) a4.o (.slice (sA wr.heap.size 0) 1 1) 1 [.slice xo (D+64) xc] (by rfl) (SL.one wr 72 [.slice xo (D+64) xc] rfl (by simp[Value.oneCell'])) (by have h1:=a1.o;have h2:=HK.o;omega) (by have:=b5.o;simp;omega) ?_;intro v9 w9 k1 k2;have a6:=hid k1;have a7:=hid k2;clear k1 k2)|fail)
  have b1:Hi (GW w w9 B k 117 2 wL V n u m):=a5.o.grow a4.o dC a7.o;obtain⟨vo,vc,rfl⟩:=za0 a6.o;go_roundw
  ·refine⟨q+1,u,m,vo,vc,HK.o,rfl,rfl,b1,λj I=>?_,λj I=>Z.o j I,?_⟩
   ·by_cases e:j=q
    ·subst e;rw[HS.o.1,d.o.1]
    exact O.o j oM
   rw[yL9,HS.o.2];exact a6.o
  have:=HK.o;simp only[intOf];omega
 have a8:¬(q:Int)<(k:Int):=oM;have f1:q=k:=oM;subst f1;go_wp2_with fail;clear a8 a2 hq Z HB d0 d1 HD;obtain⟨w3,Z⟩:=qq (wr);rw[<-Z]at HG HQ ⊢;clear Z
 have d5:Hi (∀Y,Ok w3 Y->∀p,p<q->∃bq bl Z ux ao cp,qo=some ⟨bq,0,none⟩/\lo=some ⟨bl,0,none⟩/\Y.cell? (aD bq p)=some (.slice (sA Z 0) (n p+64) ux)/\bq<Y.heap.size/\Y.cell? (aD bl p)=some (.slice ao (n p) cp)/\bl<Y.heap.size/\Z<Y.heap.size/\(∀i,i<n p+64->Y.cell? ⟨Z,i*2,none⟩=some (nI (-1-(p:Int)))/\Y.cell? ⟨Z,i*2+1,none⟩=some (nI (-1-(p:Int))))/\(∀i,i<n p->∃gv,ao=some ⟨gv,0,none⟩/\gv<Y.heap.size/\Y.cell? ⟨gv,i*2,none⟩=some (nI (-1-(p:Int))))):=λY hY p hp=>by
  have hG:=HG.o.call hY;obtain⟨bl,e1,c1,l1⟩:=HW.o Y hG.bel hG.fr p hp;obtain⟨ao,cp,hV⟩:=HF.o p hp;have hQ:=za1 HQ.o hY;obtain⟨bq,cq,e2,_⟩:=hQ.form oM
  injection e2 with e2 _ _
  subst e2;have c2:=hQ.cells (g:=bq) rfl p (u p) (yK4 u hp);rw[zb7,aL]at c2;have K:=hG.row p hp;obtain⟨Z,ux,e3,_⟩:=K.form (by rw[O.o p hp];omega);rw[e3,O.o p hp]at K;rw[e3,O.o p hp]at c2;refine⟨bq,bl,Z,ux,ao,cp,rfl,e1,c2,(hQ.lt bq rfl).2,hV ▸ c1,l1,(K.lt Z rfl).2,λi hi=>?_,λi hi=>?_⟩
  ·have h:=K.cells (g:=Z) rfl _ _ (yJ0 (c:=wL p) (t:=0) hi rfl)
   have h2:=K.cells (g:=Z) rfl _ _ (yJ0 (c:=wL p) (t:=1) hi rfl);rw[zb7]at h h2;exact⟨by simpa[wL] using h,by simpa[wL] using h2⟩
  have ho:=hG.old p hp;obtain⟨gv,uv,e4,_⟩:=ho.form oM;rw[e4]at ho hV
  injection hV with e5 _ _
  subst e5;have h:=ho.cells (g:=gv) rfl _ _ (yJ0 (c:=wL p) (t:=0) hi rfl);rw[zb7]at h;exact⟨gv,rfl,(ho.lt gv rfl).2,by simpa[wL] using h⟩
 have HE:Hi (∀Y,Ok w3 Y->Below B w Y/\w.heap.size<=Y.heap.size/\∀b,b<w.heap.size->(∀j,j<q->(V j).ownBlock≠some b)->Y.heap[b]?=w.heap[b]?):=λY hY=>⟨(HG.o.call hY).bel,(HG.o.call hY).bel.size,(HG.o.call hY).fr⟩;clear HG HQ O HW HF;go_loopw [9] (λt wr=>∃p:Nat,p<=q/\t=nI (p:Nat)/\Hi (Ok w3 wr)) (λt _=>q-(intOf t).toNat)
 case atStart=>exact⟨0,zL_ _,rfl,Ok.refl _⟩
 obtain⟨p,hp,rfl,G⟩:=hrel;by_cases a9:p<q
 ·have HP:=hid a9
  have b7:(p:Int)<(q:Int):=za5 a9;have f4:IntKind.i64.wrap ((p:Int)+1)=((p+1:Nat):Int):=zb3 (oH a1.o);have g0:wrap64 (-1-(p:Int)) = -1-(p:Int):=by unfold wrap64;have:=a1.o;omega
  have f9:(0:Int)<=(p:Int):=oM;obtain⟨O,b3⟩:=qq (n p);have b6:Hi (O=n p/\(O+64)*16<=140737488355328):=⟨b3,b3 ▸ HN.o p a9⟩;clear b3;go_wp2_with fail;go_loopw [10] (λt wr=>∃i:Nat,i<=O+64/\t=nI (i:Nat)/\Hi (Ok w3 wr)) (λt _=>(O+64)-(intOf t).toNat)
  case atStart=>exact⟨0,zL_ _,rfl,G⟩
  clear G;obtain⟨i,hi,rfl,G⟩:=hrel;have f2:(0:Int)<=(i:Int):=oM;have d2:IntKind.i64.wrap ((i:Int)+1)=((i+1:Nat):Int):=by rw[IntKind.wrap_i64];have:=b6.o;omega
  obtain⟨bq,bl,Z,ux,ao,cp,rfl,rfl,c1,l1,c2,l2,l3,c3,c4⟩:=d5.o wr G.o p HP.o;rw[<-b6.o.1]at c1 c2 c3 c4;by_cases J:i<O+64
  ·have W:(i:Int)<((O+64:Nat):Int):=oM
   obtain⟨c5,f8⟩:=c3 i J;by_cases b2:i<O
   ·have d3:(i:Int)<(O:Int):=oM
    obtain⟨gv,rfl,l6,c6⟩:=c4 i b2;clear c3 c4;go_wp2_with fail;refine⟨⟨i+1,J,rfl,G⟩,?_⟩;simp only[intOf];omega
   have d3:¬(i:Int)<(O:Int):=oM;clear c3 c4;go_wp2_with fail;refine⟨⟨i+1,J,rfl,G⟩,?_⟩;simp only[intOf];omega
  have W:¬(i:Int)<((O+64:Nat):Int):=oM;clear c3 c4;go_wp2_with fail;go_roundw
  ·exact⟨p+1,HP.o,rfl,G⟩
  have:=HP.o;simp only[intOf];omega
 have b7:¬(p:Int)<(q:Int):=oM;go_wp2_with fail;go_ret;exact⟨rfl,HE.o wr G.o⟩
end Go.Proofs.YthoegkcpmgalbaaGreatDoor
