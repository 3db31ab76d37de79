import Derived.Test.YtpongdpnbclchaaGreatDoorKXb
set_option linter.all false
set_option maxRecDepth 100000
namespace Go.Proofs.YtpongdpnbclchaaGreatDoor
open Go.RowKit
theorem ws8:(Tryz.prog.info? 26).map (λi=>(i.zero,i.size,i.bytes))=some (some (sZ),1,24):=by kernel_rfl
def wL(j:Nat):List Value:=[nI (-1-(j:Int)),nI (-1-(j:Int))]
set_option maxHeartbeats 8000000 in
theorem yM2(N:Nat)(lo:Option Addr)(lc:Nat)(V:Nat->Value)(n:Nat->Nat)(X:Nat->List Value)(B Bl:Nat)(w:World)(hl:w.ownsRow Bl 26 1 (.slice lo N lc) N (vsL V N))(hr:∀j,j<N->w.ownsRow B 45 2 (V j) (n j) (X j))(hd:wd6 N V)(hB:B<=w.heap.size)(hn:∀j,j<N->(n j+64)*16<=140737488355328)(hN:N<=1000000) :
  Calls Tryz.prog 10 #[.slice lo N lc] w λe w'=>e=.returned (.bool true)/\Below B w w'/\w.heap.size<=w'.heap.size/\∀b,b<w.heap.size->(∀j,j<N->(V j).ownBlock≠some b)->w'.heap[b]?=w.heap[b]?:=by
 have HD:=hid hd;have HB:=hid hB;have HN:=hid hn;have HNN:=hid hN;have HM0:Hi (MK w w B N 45 2 V n X):=⟨hr,Below.refl _ _,hB,λ_ _ _=>rfl⟩;have HLT:Hi (∀j,j<N->∀b,(V j).ownBlock=some b->b<w.heap.size):=λj hj b hb=>((hr j hj).lt b hb).2;have HF:Hi (∀j,j<N->∃ao cp,V j=.slice ao (n j) cp):=λj hj=>za0 (hr j hj)
 have HW:Hi (∀Y:World,Below B w Y->(∀b,b<w.heap.size->(∀j,j<N->(V j).ownBlock≠some b)->Y.heap[b]?=w.heap[b]?)->∀k,k<N->∃b,lo=some ⟨b,0,none⟩/\Y.cell? (aD b k)=some (V k)/\b<Y.heap.size):=λY hY hf k hk=>by
  obtain⟨b,cp,e,_⟩:=hl.form oM
  injection e with e1 e2 e3
  subst e1;have hb:=(hl.lt b rfl).2;have h1:=hl.cells (g:=b) rfl k (V k) (yK6 V hk);rw[zb7,Nat.zero_add]at h1;have h2:=hf b hb λj hj=>yJ2 (hr j hj) hl dC b rfl;refine⟨b,rfl,?_,lL_ hb hY.size⟩;rw[<-h1];unfold World.cell?;simp only[h2]
 clear hl hr hd hB hn hN;go_enter Tryz.func10,Tryz.ntmps10;go_wp2_with fail;go_loopw [3] (λt wr=>∃(k:Nat) (Y:Nat->List Value),k<=N/\t=nI (k:Nat)/\Hi (MK w wr B N 45 2 V n Y)/\Hi (∀j,j<k->Y j=rep (n j) (wL j))) (λt _=>N-(intOf t).toNat)
 case atStart=>exact⟨0,X,zL_ _,rfl,HM0,λj hj=>absurd hj (Nat.not_lt_zero _)⟩
 obtain⟨k,Y,hk,rfl,HM,HY⟩:=hrel;by_cases hkl:k<N
 ·have HK:=hid hkl
  have hkl':(k:Int)<(N:Int):=za5 hkl;have hkw:IntKind.i64.wrap ((k:Int)+1)=((k+1:Nat):Int):=zb3 (by have:=HNN.o;omega);have hkm:wrap64 (-1-(k:Int)) = -1-(k:Int):=by unfold wrap64;have:=HNN.o;omega
  have hk0:(0:Int)<=(k:Int):=oM;obtain⟨bl,rfl,lcl,llt⟩:=HW.o wr HM.o.bel HM.o.fr k hkl;obtain⟨ao,cp,hV⟩:=HF.o k hkl;have HV:=hid hV;obtain⟨nk,hnk⟩:=qq (n k);have HNK:Hi (nk=n k/\(nk+64)*16<=140737488355328):=⟨hnk,hnk ▸ HN.o k hkl⟩;rw[hV,<-hnk]at lcl;clear hV hnk;go_wp2_with fail;clear lcl llt;go_loopw [4] (λt wr=>∃(i:Nat) (Z:Nat->List Value),i<=nk/\t=nI (i:Nat)/\Hi (MK w wr B N 45 2 V n Z)/\Hi (∀j,j<k->Z j=rep (n j) (wL j))/\Hi ((Z k).take (i*2)=rep i (wL k))) (λt _=>nk-(intOf t).toNat)
  case atStart=>exact⟨0,Y,zL_ _,rfl,HM,HY,rfl⟩
  obtain⟨i,Z,hi,rfl,HI,HZ,HP⟩:=hrel;have hi0:(0:Int)<=(i:Int):=oM;obtain⟨bl',e1,lcl,llt⟩:=HW.o wr HI.o.bel HI.o.fr k HK.o
  injection e1 with e1
  injection e1 with e1 _ _
  subst e1;rw[HV.o,<-HNK.o.1]at lcl;by_cases hil:i<nk
  ·have HIL:=hid hil
   have hil':(i:Int)<(nk:Int):=za5 hil;have hiw:IntKind.i64.wrap ((i:Int)+1)=((i+1:Nat):Int):=by rw[IntKind.wrap_i64];have:=HNK.o;omega
   obtain⟨g,cp',hg,_⟩:=(HI.o.row k HK.o).form (by have:=HNK.o;omega);have hr:=HI.o.row k HK.o;rw[hg]at hr;rw[HV.o,<-HNK.o.1]at hg
   injection hg with hg1 _ hg2
   subst hg1 hg2;have hlz:(Z k).length=nk*2:=by have:=hr.1;rw[<-HNK.o.1]at this;exact this
   obtain⟨u,hu⟩:∃u,(Z k)[i*2]?=some u:=⟨_,gG_ oM⟩;obtain⟨u2,hu2⟩:∃u,(Z k)[i*2+1]?=some u:=⟨_,gG_ oM⟩;have lc2:=hr.cells (g:=g) rfl (i*2) u hu;have lc3:=hr.cells (g:=g) rfl (i*2+1) u2 hu2;rw[zb7,Nat.zero_add]at lc2 lc3;have lf2:=yJ5 hr (i*2);have lf3:=yJ5 hr (i*2+1);have lg2:=(hr.lt g rfl).2;have HGZ:Hi (V k=.slice (sA g 0) (n k) cp/\(Z k).length=nk*2):=⟨HV.o,hlz⟩;clear hr hu hu2 hlz;go_wp2_with fail;clear lc2 lf2 lg2 lc3 lf3 lcl llt;refine⟨⟨i+1,wd7 (wd7 Z k ((Z k).set (i*2) (nI (-1-(k:Int))))) k (((wd7 Z k ((Z k).set (i*2) (nI (-1-(k:Int))))) k).set (i*2+1) (nI (-1-(k:Int)))),hil,rfl,(HI.o.put HD.o HK.o HGZ.o.1 (i:=i*2) (by have:=HNK.o.1;omega) _).put HD.o HK.o HGZ.o.1 (i:=i*2+1) (by have:=HNK.o.1;omega) _,λj hj=>?_,?_⟩,?_⟩
   ·rw[yI7 _ _ (by omega),yI7 _ _ (by omega)];exact HZ.o j hj
   ·rw[yI6,yI6,Nat.add_mul,Nat.one_mul,yM0 (by rw[HGZ.o.2];have:=HIL.o;omega),HP.o,yK5];rfl
   simp only[intOf,Int.toNat_natCast];omega
  have hil':¬(i:Int)<(nk:Int):=oM;have hin:i=nk:=oM;subst hin;go_wp2_with fail;clear lcl llt;go_roundw
  ·refine⟨k+1,Z,HK.o,rfl,HI,λj hj=>?_⟩
   by_cases e:j=k
   ·subst e
    have h1:=(HI.o.row j HK.o).1;have h2:=HP.o;rw[List.take_of_length_le (by rw[h1];have:=HNK.o.1;omega)]at h2;rw[h2,HNK.o.1]
   exact HZ.o j oM
  have:=HK.o;simp only[intOf];omega
 have hkl':¬(k:Int)<(N:Int):=oM;have hkN:k=N:=oM;subst hkN;have HG0:=hid (HM.o.gw HD.o HLT.o HY.o);go_wp2_with fail;clear hkl' hkl hk HM HY;go_loopw [5,6] (λs5 t wr=>∃(q:Nat) (u:Nat->Value) (m:Nat->Nat) (qo:Option Addr) (qc:Nat),q<=k/\s5=.slice qo q qc/\t=nI (q:Nat)/\Hi (GW w wr B k 45 2 wL V n u m)/\Hi (∀j,j<q->m j=n j+64)/\Hi (∀j,q<=j->m j=n j/\u j=V j)/\Hi (wr.ownsRow w.heap.size 26 1 (.slice qo q qc) q (vsL u q))) (λ_ t _=>k-(intOf t).toNat)
 case atStart=>exact⟨0,V,n,none,0,zL_ _,rfl,rfl,HG0,λj hj=>absurd hj (Nat.not_lt_zero _),λj _=>⟨rfl,rfl⟩,World.ownsRow_nil _ _ _ _⟩
 clear HG0;obtain⟨q,u,m,qo,qc,hq,rfl,rfl,HG,HM1,HM2,HQ⟩:=hrel;by_cases hql:q<k
 ·have HK:=hid hql
  have hql':(q:Int)<(k:Int):=za5 hql;have hqw:IntKind.i64.wrap ((q:Int)+1)=((q+1:Nat):Int):=zb3 (by have:=HNN.o;omega);have hqm:wrap64 (-1-(q:Int)) = -1-(q:Int):=by unfold wrap64;have:=HNN.o;omega
  have hq0:(0:Int)<=(q:Int):=oM;obtain⟨bl,rfl,lcl,llt⟩:=HW.o wr HG.o.bel HG.o.fr q hql;obtain⟨ao,cp,hV⟩:=HF.o q hql;have HV:=hid hV;obtain⟨nk,hnk⟩:=qq (n q);have HNK:Hi (nk=n q/\(nk+64)*16<=140737488355328):=⟨hnk,hnk ▸ HN.o q hql⟩;rw[hV,<-hnk]at lcl;clear hV hnk;go_wp2_with fail;clear lcl llt;have HST:Hi (m q=nk/\u q=.slice ao nk cp):=⟨by rw[(HM2.o q (Nat.le_refl _)).1];exact HNK.o.1.symm,by rw[(HM2.o q (Nat.le_refl _)).2,HV.o,<-HNK.o.1]⟩;go_loopw [7,8] (λs7 t wr=>∃(i:Nat) (u:Nat->Value) (m:Nat->Nat) (xo:Option Addr) (xc:Nat),i<=64/\s7=.slice xo (nk+i) xc/\t=nI (i:Nat)/\Hi (GW w wr B k 45 2 wL V n u m)/\Hi (∀j,j<q->m j=n j+64)/\Hi (∀j,q<j->m j=n j/\u j=V j)/\Hi (m q=nk+i/\u q=.slice xo (nk+i) xc)/\Hi (wr.ownsRow w.heap.size 26 1 (.slice qo q qc) q (vsL u q))) (λ_ t _=>64-(intOf t).toNat)
  case atStart=>exact⟨0,u,m,ao,cp,zL_ _,rfl,rfl,HG,HM1,λj hj=>HM2.o j (Nat.le_of_lt hj),HST,HQ⟩
  clear HG HM1 HM2 HQ HST;obtain⟨i,u,m,xo,xc,hi,rfl,rfl,HG,HM1,HM2,HS,HQ⟩:=hrel;by_cases hil:i<64
  ·have HIL:=hid hil
   have hil':(i:Int)<64:=oM;have hiw:IntKind.i64.wrap ((i:Int)+1)=((i+1:Nat):Int):=zb3 oM;have HGA:Hi (GW w (wr.alloc (Obj.cells #[nI (-1-(q:Int)),nI (-1-(q:Int))] 45)) B k 45 2 wL V n u m):=HG.o.call ((Ok.refl _).alloc _);have HQA:Hi ((wr.alloc (Obj.cells #[nI (-1-(q:Int)),nI (-1-(q:Int))] 45)).ownsRow w.heap.size 26 1 (.slice qo q qc) q (vsL u q)):=za1 HQ.o ((Ok.refl _).alloc _);have HRA:Hi ((wr.alloc (Obj.cells #[nI (-1-(q:Int)),nI (-1-(q:Int))] 45)).ownsRow B 45 2 (.slice xo (nk+i) xc) (nk+i) (rep (nk+i) (wL q))):=by have h:=HGA.o.row q HK.o;rw[HS.o.1,HS.o.2]at h;exact h
   have HBZ:=hid (Nat.le_trans HG.o.le HG.o.bel.size)
   go_wp2_with (first|(at_builtin;refine yJ1 rfl _ _ 26 45 2 16 _ rfl Tryz.underlying26 wg7 (by rfl) (by decide) (by decide) B (.slice xo (nk+i) xc) (nk+i) (rep (nk+i) (wL q)) (by rfl) HRA.o wr.heap.size (wL q) (by rfl) (by rfl) (λj v hj=>by rw[zb7,Nat.zero_add];exact(cell_of_row _ _ j _ _ _ (za3 _ _)).trans (by simpa[wL] using hj)) (by simp[wL,Value.oneCell']) (by have:=HNK.o;omega) (by have:=HBZ.o;simp;omega) ?_;intro g cg w9 k1 k2 k3 k4;have HK1:=hid k1;have HK2:=hid k2;have HK3:=hid k3;have HK4:=hid k4;clear k1 k2 k3 k4)|fail)
   have HGN:Hi (GW w w9 B k 45 2 wL V n (wd7 u q (.slice (sA g 0) (m q+1) cg)) (wd7 m q (m q+1))):=HGA.o.app (by decide) (λ_=>rfl) HK.o (by rw[HS.o.1];exact HK1.o) (by rw[HS.o.2];exact HK2.o) (by rw[HS.o.2];exact HK3.o) (by rw[HS.o.1,HS.o.2];exact HK4.o);have HQN:Hi (w9.ownsRow w.heap.size 26 1 (.slice qo q qc) q (vsL u q)):=zd6 HQA.o HRA.o dC HK2.o;clear HGA HQA HRA HK1 HK2 HK3 HK4 HG HQ;refine⟨⟨i+1,_,_,some ⟨g,0,none⟩,cg,hil,rfl,rfl,HGN,λj hj=>?_,λj hj=>?_,⟨?_,?_⟩,?_⟩,?_⟩
   ·rw[yI7 _ _ (by omega)];exact HM1.o j hj
   ·rw[yI7 _ _ (by omega),yI7 _ _ (by omega)];exact HM2.o j hj
   ·rw[yI6,HS.o.1];rfl
   ·rw[yI6,HS.o.1];rfl
   ·rw[yM1 _ _ (Nat.le_refl _)];exact HQN.o
   simp only[intOf];omega
  have hil':¬(i:Int)<64:=oM;have hi64:i=64:=oM;subst hi64;have HGA:Hi (GW w (wr.alloc (Obj.cells #[.slice xo (nk+64) xc] 26)) B k 45 2 wL V n u m):=HG.o.call ((Ok.refl _).alloc _);have HQA:Hi ((wr.alloc (Obj.cells #[.slice xo (nk+64) xc] 26)).ownsRow w.heap.size 26 1 (.slice qo q qc) q (vsL u q)):=za1 HQ.o ((Ok.refl _).alloc _);have HBZ:=hid HG.o.bel.size
  go_wp2_with (first|(at_builtin;refine ze4 rfl _ _ 43 26 1 24 _ rfl Tryz.underlying43 ws8 (by rfl) (by decide) (by decide) w.heap.size (.slice qo q qc) q (vsL u q) (by rfl) HQA.o (.slice (sA wr.heap.size 0) 1 1) 1 [.slice xo (nk+64) xc] (by rfl) (SL.one wr 26 [.slice xo (nk+64) xc] rfl (by simp[Value.oneCell'])) (by have h1:=HNN.o;have h2:=HK.o;omega) (by have:=HBZ.o;simp;omega) ?_;intro v9 w9 k1 k2;have HK1:=hid k1;have HK2:=hid k2;clear k1 k2)|fail)
  have HGN:Hi (GW w w9 B k 45 2 wL V n u m):=HGA.o.grow HQA.o dC HK2.o;obtain⟨vo,vc,rfl⟩:=za0 HK1.o;go_roundw
  ·refine⟨q+1,u,m,vo,vc,HK.o,rfl,rfl,HGN,λj hj=>?_,λj hj=>HM2.o j hj,?_⟩
   ·by_cases e:j=q
    ·subst e;rw[HS.o.1,HNK.o.1]
    exact HM1.o j oM
   rw[yL3,HS.o.2];exact HK1.o
  have:=HK.o;simp only[intOf];omega
 have hql':¬(q:Int)<(k:Int):=oM;have hqk:q=k:=oM;subst hqk;go_wp2_with fail;clear hql' hql hq HM2 HB HM0 HLT HD;obtain⟨w3,hw3⟩:=qq (wr);rw[<-hw3]at HG HQ ⊢;clear hw3
 have HCL:Hi (∀Y,Ok w3 Y->∀p,p<q->∃bq bl gx ux ao cp,qo=some ⟨bq,0,none⟩/\lo=some ⟨bl,0,none⟩/\Y.cell? (aD bq p)=some (.slice (sA gx 0) (n p+64) ux)/\bq<Y.heap.size/\Y.cell? (aD bl p)=some (.slice ao (n p) cp)/\bl<Y.heap.size/\gx<Y.heap.size/\(∀i,i<n p+64->Y.cell? ⟨gx,i*2,none⟩=some (nI (-1-(p:Int)))/\Y.cell? ⟨gx,i*2+1,none⟩=some (nI (-1-(p:Int))))/\(∀i,i<n p->∃gv,ao=some ⟨gv,0,none⟩/\gv<Y.heap.size/\Y.cell? ⟨gv,i*2,none⟩=some (nI (-1-(p:Int))))):=λY hY p hp=>by
  have hG:=HG.o.call hY;obtain⟨bl,e1,c1,l1⟩:=HW.o Y hG.bel hG.fr p hp;obtain⟨ao,cp,hV⟩:=HF.o p hp;have hQ:=za1 HQ.o hY;obtain⟨bq,cq,e2,_⟩:=hQ.form oM
  injection e2 with e2 _ _
  subst e2;have c2:=hQ.cells (g:=bq) rfl p (u p) (yK6 u hp);rw[zb7,Nat.zero_add]at c2;have hr:=hG.row p hp;obtain⟨gx,ux,e3,_⟩:=hr.form (by rw[HM1.o p hp];omega);rw[e3,HM1.o p hp]at hr;rw[e3,HM1.o p hp]at c2;refine⟨bq,bl,gx,ux,ao,cp,rfl,e1,c2,(hQ.lt bq rfl).2,hV ▸ c1,l1,(hr.lt gx rfl).2,λi hi=>?_,λi hi=>?_⟩
  ·have h:=hr.cells (g:=gx) rfl _ _ (yJ9 (c:=wL p) (t:=0) hi rfl)
   have h2:=hr.cells (g:=gx) rfl _ _ (yJ9 (c:=wL p) (t:=1) hi rfl);rw[zb7]at h h2;exact⟨by simpa[wL] using h,by simpa[wL] using h2⟩
  have ho:=hG.old p hp;obtain⟨gv,uv,e4,_⟩:=ho.form oM;rw[e4]at ho hV
  injection hV with e5 _ _
  subst e5;have h:=ho.cells (g:=gv) rfl _ _ (yJ9 (c:=wL p) (t:=0) hi rfl);rw[zb7]at h;exact⟨gv,rfl,(ho.lt gv rfl).2,by simpa[wL] using h⟩
 have HE:Hi (∀Y,Ok w3 Y->Below B w Y/\w.heap.size<=Y.heap.size/\∀b,b<w.heap.size->(∀j,j<q->(V j).ownBlock≠some b)->Y.heap[b]?=w.heap[b]?):=λY hY=>⟨(HG.o.call hY).bel,(HG.o.call hY).bel.size,(HG.o.call hY).fr⟩;clear HG HQ HM1 HW HF;go_loopw [9] (λt wr=>∃p:Nat,p<=q/\t=nI (p:Nat)/\Hi (Ok w3 wr)) (λt _=>q-(intOf t).toNat)
 case atStart=>exact⟨0,zL_ _,rfl,Ok.refl _⟩
 obtain⟨p,hp,rfl,HK3⟩:=hrel;by_cases hpl:p<q
 ·have HP:=hid hpl
  have hpl':(p:Int)<(q:Int):=za5 hpl;have hpw:IntKind.i64.wrap ((p:Int)+1)=((p+1:Nat):Int):=zb3 (by have:=HNN.o;omega);have hpm:wrap64 (-1-(p:Int)) = -1-(p:Int):=by unfold wrap64;have:=HNN.o;omega
  have hp0:(0:Int)<=(p:Int):=oM;obtain⟨np,hnp⟩:=qq (n p);have HNP:Hi (np=n p/\(np+64)*16<=140737488355328):=⟨hnp,hnp ▸ HN.o p hpl⟩;clear hnp;go_wp2_with fail;go_loopw [10] (λt wr=>∃i:Nat,i<=np+64/\t=nI (i:Nat)/\Hi (Ok w3 wr)) (λt _=>(np+64)-(intOf t).toNat)
  case atStart=>exact⟨0,zL_ _,rfl,HK3⟩
  clear HK3;obtain⟨i,hi,rfl,HK3⟩:=hrel;have hi0:(0:Int)<=(i:Int):=oM;have hiw:IntKind.i64.wrap ((i:Int)+1)=((i+1:Nat):Int):=by rw[IntKind.wrap_i64];have:=HNP.o;omega
  obtain⟨bq,bl,gx,ux,ao,cp,rfl,rfl,c1,l1,c2,l2,l3,c3,c4⟩:=HCL.o wr HK3.o p HP.o;rw[<-HNP.o.1]at c1 c2 c3 c4;by_cases hil:i<np+64
  ·have hil':(i:Int)<((np+64:Nat):Int):=oM
   obtain⟨c5,c55⟩:=c3 i hil;by_cases hin:i<np
   ·have hin':(i:Int)<(np:Int):=oM
    obtain⟨gv,rfl,l6,c6⟩:=c4 i hin;clear c3 c4;go_wp2_with fail;refine⟨⟨i+1,hil,rfl,HK3⟩,?_⟩;simp only[intOf];omega
   have hin':¬(i:Int)<(np:Int):=oM;clear c3 c4;go_wp2_with fail;refine⟨⟨i+1,hil,rfl,HK3⟩,?_⟩;simp only[intOf];omega
  have hil':¬(i:Int)<((np+64:Nat):Int):=oM;clear c3 c4;go_wp2_with fail;go_roundw
  ·exact⟨p+1,HP.o,rfl,HK3⟩
  have:=HP.o;simp only[intOf];omega
 have hpl':¬(p:Int)<(q:Int):=oM;go_wp2_with fail;go_ret;exact⟨rfl,HE.o wr HK3.o⟩
end Go.Proofs.YtpongdpnbclchaaGreatDoor
