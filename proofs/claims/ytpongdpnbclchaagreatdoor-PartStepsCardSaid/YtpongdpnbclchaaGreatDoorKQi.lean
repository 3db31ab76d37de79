import Derived.Deep.RegionLaw
import Derived.Test.YtpongdpnbclchaaGreatDoorKPm
import Derived.Test.YtpongdpnbclchaaGreatDoorKQf
import Derived.Test.YtpongdpnbclchaaGreatDoorKRc
set_option maxHeartbeats 8000000
set_option linter.all false
set_option maxRecDepth 100000
namespace Go.Proofs.YtpongdpnbclchaaGreatDoor
variable{en fol g q:Nat}{ns:List Nd}{w:World}
section
open Go.RowKit
def ptE(ns:List Nd)(f q nx:Nat):List Ed :=
 if kdA ns q=7\/kdA ns q=8 then
  chE ns q nx++(stE ns f (AB ns (q+1)+1) (AB ns (AB ns (q+1))) (if kdA ns q=8 then ptF ns q else nx)++stE ns f (AB ns (AB ns (q+1))+1) (AB ns q) nx)
 else if 2<=kdA ns q/\kdA ns q<=6 then [⟨ptF ns q,nx,kdA ns q-2,q,false,false⟩]
 else []
theorem yu6{f:Nat}(h:q<en):stE ns (f+1) q en fol=ptE ns f q (bgF ns (AB ns q) en fol)++stE ns f (AB ns q) en fol:=by rw[stE,if_pos h];rfl
def wa7(ns:List Nd)(p en fol:Nat)(l:List Ed)(q:Nat):Prop:=∀f,ns.length+2-p<=f->∃f',ns.length+2-q<=f'/\stE ns f p en fol=l++stE ns f' q en fol
theorem wa7.start(ns:List Nd)(p en fol:Nat):wa7 ns p en fol [] p:=λf hf=>⟨f,hf,rfl⟩
theorem wa7.fin{p:Nat}{l:List Ed}(h:wa7 ns p en fol l q)(hq:¬q<en):∀f,ns.length+2-p<=f->stE ns f p en fol=l:=by intro f hf;obtain⟨f',_,e⟩:=h f hf;rw[e,zk8 hq,List.append_nil]
theorem wa7.step{p:Nat}{l l2:List Ed}(h:wa7 ns p en fol l q)(hq:q<en)(hql:q<ns.length)(hp:∀f,ns.length+2-q<=f+1->ptE ns f q (bgF ns (AB ns q) en fol)=l2):wa7 ns p en fol (l++l2) (AB ns q):=by
 intro f hf;obtain⟨f',h1,e⟩:=h f hf;obtain⟨f2,rfl⟩:∃f2,f'=f2+1:=⟨f'-1,by omega⟩;have hlo:q<AB ns q:=by unfold AB;omega
 refine⟨f2,by omega,?_⟩;rw[e,yu6 hq,hp f2 (by omega),List.append_assoc]
theorem yC4{E:EP}{w3 W:World}{es:List Ed}{lv:Value}(e1:Ed)(hE:wl5 E)(H3:EB E w3 es)(hl:w3.heap[E.bl]?=some (.cells #[lv] 51 (0,0)))(ho:w3.ownsRow E.B 59 6 lv es.length (edL es))(hkW:Ok w3 W)(v9:Value)(w9:World)(k1:w9.ownsRow E.B 59 6 v9 (es.length+1) (edL es++edV e1))(k2:W.grownBy w9 lv.ownBlock) :
  EB E (w9.setCell (aD E.bl 0) v9) (es++[e1])/\Below E.B w3 (w9.setCell (aD E.bl 0) v9)/\w9.heap[E.bl]?=some (.cells #[lv] 51 (0,0)):=by
 have hBl:=hE.lo.2.2.1;have hlt:=za2 hl;have h1:=za1 ho hkW;have HW:=H3.ok hkW;have hlW:=hkW.row' hl;have hx:=EB.more (es2:=[e1]) HW hE hlW h1 k2 (by rw[yk3];exact k1);exact⟨hx.1,(Below.mono hkW oM).trans hx.2,wn2 h1 k2 hlW dC⟩
theorem yu7{k:Nat}(h:k<16):((decide (2<=k)&&decide (k<=8))=true/\opT.getD k 0=5/\(k=7\/k=8))\/((decide (2<=k)&&decide (k<=8))=true/\(opT.getD k 0==5)=false/\opT.getD k 0=(k:Int)-2/\2<=k/\k<=6)\/((decide (2<=k)&&decide (k<=8))=false/\opT.getD k 0=0/\(k<2\/8<k)):=by
 have:∀j:Fin 16,((decide (2<=(j:Nat))&&decide ((j:Nat)<=8))=true/\opT.getD j 0=5/\((j:Nat)=7\/(j:Nat)=8))\/((decide (2<=(j:Nat))&&decide ((j:Nat)<=8))=true/\(opT.getD j 0==5)=false/\opT.getD j 0=((j:Nat):Int)-2/\2<=(j:Nat)/\(j:Nat)<=6)\/((decide (2<=(j:Nat))&&decide ((j:Nat)<=8))=false/\opT.getD j 0=0/\((j:Nat)<2\/8<(j:Nat))):=by decide
 exact this ⟨k,h⟩
theorem zN6(E:EP)(hE:wl5 E)(hT:wl1 E.ns)(m:Nat):we6 E m:=by
 induction m using Nat.strongRecOn with
 | ind m ih =>
 intro w es p en fol h hen hin hp3 hf3 he3 hl hm;unfold ptr;have H:=hid h;have HE:=hid hE;have HT:=hid hT;have HS:=hid ih;have HB:Hi (p<=3000/\fol<=1000/\en<=3000/\es.length+2*(en-p)<=100000/\E.ns.length+2-p<=m/\E.ns.length<=1000):=⟨hp3,hf3,he3,hl,hm,hE.len⟩;have HEN:=hid hen;have HIN:=hid hin;obtain⟨_,vo,vc,hv,_⟩:=h.nd;have HV:=hid hv;clear h hE hT ih hen hin hp3 hf3 he3 hl hm hv;go_enter Tryz.func94,Tryz.ntmps94;go_wp2_with fail;go_loopw [11] (λt wr=>∃(q:Nat) (l:List Ed),t=nI (q:Nat)/\p<=q/\(q<=en\/q=p)/\Hi (EB E wr (es++l))/\Hi (Below E.B w wr)/\Hi (l.length<=2*(q-p))/\Hi (wa7 E.ns p en fol l q)) (λt _=>en-(intOf t).toNat)
 case atStart=>exact⟨p,[],rfl,Nat.le_refl _,.inr rfl,by rw[List.append_nil];exact H.o,Below.refl _ _,Nat.zero_le _,wa7.start _ _ _ _⟩
 obtain⟨q,l,rfl,hpq,hqe,HR,HBW,HL,HSM⟩:=hrel;by_cases hq:q<en;rotate_left
 ·have hq':¬(q:Int)<(en:Int):=zb2 hq
  go_wp2_with fail
  go_end0
  refine⟨rfl,l,HR.o,HBW.o,?_,λf hf=>HSM.o.fin hq f oM⟩;have:=HL.o;omega
 have hq':(q:Int)<(en:Int):=za5 hq;have hql:q<E.ns.length:=by have:=HEN.o oM;omega
 obtain⟨qe,hqe2⟩:=qq (AB E.ns q);have HQE:Hi (qe=AB E.ns q/\q<qe/\qe<=en):=⟨hqe2,by rw[hqe2];unfold AB;omega,by rw[hqe2];exact HIN.o q hpq hq⟩;have HQL:Hi (q<E.ns.length/\en<=E.ns.length/\p<=q/\q<en):=⟨hql,HEN.o oM,hpq,hq⟩;obtain⟨nx,hnx⟩:=qq (bgF E.ns qe en fol);have HNX:Hi (nx=bgF E.ns qe en fol/\nx<=1000):=⟨hnx,by rw[hnx];exact yE9 (by have:=HB.o;omega) (by have:=HB.o;omega)⟩;clear hqe2 hnx;obtain⟨c0,-,c2,-,-⟩:=HR.o.cs;rw[HV.o]at c0;unfold ptr at c2;have l0:=za2 HR.o.t;have l2:=za2 HR.o.b;have k0:wr.drew.cell? (aD E.bt 0)=some (.slice vo E.ns.length vc):=c0;have k2:wr.drew.cell? (aD E.bb 0)=some (.func (.func 91) #[] #[pA E.bp 0]):=c2;go_wp2_with fail
 go_region_held3 (λw'=>w'.cell? (aD E.bt 0)=some (.slice vo E.ns.length vc)/\w'.cell? (aD E.bb 0)=some (.func (.func 91) #[] #[pA E.bp 0]))
  (first|(with_reducible exact⟨k0,k2⟩) | (with_reducible exact⟨d0,d2⟩) | go_keep)
  (first
  |(go_at_call 93;refine(Calls.mono (zk7 _ E.ns q _ (by have:=(HR.o.ok ((Ok.refl _).draws 1)).nd;rw[HV.o]at this;exact this) (by have:=HB.o;omega) (by have:=HB.o;omega)) ?_);rintro e w2 ⟨rfl,hk2⟩;have H2:Hi (EB E w2 (es++l)):=HR.o.ok (Ok.step (by repeat (first | exact Ok.refl _ | refine Below.drew ?_)) hk2);have HK2:Hi (Ok wr w2):=Ok.step (by repeat (first | exact Ok.refl _ | refine Below.drew ?_)) hk2;rw[<-HQE.o.1];obtain⟨d0,-,d2,-,-⟩:=H2.o.cs;rw[HV.o]at d0;unfold ptr at d2;clear hk2)
  |(go_at_call 91;refine(Calls.mono (zm6 E _ (es++l) qe en fol H2.o (λ_=>by have:=HQL.o;have:=HQE.o;omega)) ?_);rintro e w3 ⟨rfl,hk3⟩;have H3:=hid (H2.o.ok hk3);have HK3:=hid (HK2.o.step hk3);rw[<-HNX.o.1];obtain⟨d0,-,d2,-,-⟩:=H3.o.cs;rw[HV.o]at d0;unfold ptr at d2;clear hk3)
  | fail)
 clear c0 c2 k0 k2 l0 l2 d0 d2 H2 HK2;obtain⟨c0,-,-,-,-⟩:=H3.o.cs;rw[HV.o]at c0;have l0:=za2 H3.o.t;obtain⟨np,hnp⟩:∃n,E.ns[q]?=some n:=⟨_,gG_ HQL.o.1⟩;have HNP:=hid hnp;obtain⟨hk0,hk15⟩:=HE.o.kind np (mG_ hnp);obtain⟨kd,hkd⟩:∃k:Nat,np.kind=(k:Int):=⟨np.kind.toNat,(Int.toNat_of_nonneg hk0).symm⟩;have hk16:kd<16:=oM;have hk16':(kd:Int)<16:=oM;have HKD:Hi (kdA E.ns q=(kd:Int)):=by unfold Hi kdA;rw[hnp];exact hkd
 obtain⟨_,vo',vc',e1,_,_,hN⟩:=H3.o.nd;rw[HV.o]at e1
 injection e1 with e1 e2 e3;clear e2
 subst e1 e3;obtain⟨b,o,rfl,N1⟩:=hN.resolve_left (λe=>by have:=HQL.o.1;rw[e]at this;simp at this);obtain⟨-,m1,-,-,-,-⟩:=N1.get HNP.o;rw[hkd]at m1;have lb:=N1.lt;have hqll:(q:Int)<(E.ns.length:Int):=za5 HQL.o.1;have s0:=H3.o.st.made kd hk16;have s1:=H3.o.st.op kd hk16;have lst:=H3.o.st.lt;obtain⟨mb,hmb⟩:=qq ((decide (2<=kd)&&decide (kd<=8)));obtain⟨ov,hov⟩:=qq (opT.getD kd 0);have HOP:=yu7 hk16;rw[<-hmb,<-hov]at HOP;rw[<-hmb]at s0;rw[<-hov]at s1;have HO:Hi _:=HOP;clear hN N1 hnp hkd hmb hov HOP hk0 hk15 hpq hqe hq hql;rcases HO.o with ⟨hm1,hv1,hkk⟩ | ⟨hm1,hv1,hv2,hkk⟩ | ⟨hm1,hv1,hkk⟩
 ·subst hm1 hv1
  have HKK:Hi (kdA E.ns q=7\/kdA E.ns q=8):=by unfold Hi;rw[HKD.o];omega
  clear hkk;obtain⟨-,-,-,-,c4⟩:=H3.o.cs;unfold ptr at c4;have l4:=za2 H3.o.c
  go_wp2_with (first
   |(go_at_call 92;refine(Calls.mono (zX1 E HE.o HT.o m HS.o _ (es++l) q nx (H3.o.ok ((Ok.refl _).alloc _)) HQL.o.1 HKK.o HNX.o.2 (by have h1:=HB.o;have h2:=HL.o;have h3:=HQE.o;have h4:=HQL.o;rw[List.length_append,<-HQE.o.1];omega) (by have h1:=HB.o;have h4:=HQL.o;omega)) ?_);rintro e wf ⟨rfl,L2,f1,f2,f3,f4⟩;have HF:Hi (EB E wf (es++(l++L2))/\Below E.B w wf/\L2.length<=2*(qe-q)/\wa7 E.ns p en fol (l++L2) (AB E.ns q)):=⟨by rw[<-List.append_assoc];exact f1,HBW.o.trans ((Below.mono (HK3.o.alloc _) (by have h1:=HE.o.lo.1;have h2:=za2 HR.o.t;omega)).trans f2),by rw[HQE.o.1];exact f3,HSM.o.step HQL.o.2.2.2 HQL.o.1 (λf hf=>by unfold ptE;rw[if_pos HKK.o,<-HQE.o.1,<-HNX.o.1,HQE.o.1];exact f4 f (by omega))⟩;clear f1 f2 f3 f4 c4 l4 c0 l0 s0 s1 lst lb m1;obtain⟨d0,-,-,-,-⟩:=HF.o.1.cs;rw[HV.o]at d0;have dl:=za2 HF.o.1.t)
   |(go_at_call 93;refine mq (zk7 _ E.ns q _ (by have:=HF.o.1.nd;rw[HV.o]at this;exact this) (by have:=HE.o.len;omega) (by have:=HB.o;omega)) λw9 hk9=>?_;have H9:=hid hk9;rw[<-HQE.o.1];clear hk9)
   | fail)
  go_roundw
  case rel=>exact⟨qe,l++L2,rfl,by have h1:=HQE.o;have h2:=HQL.o;omega,.inl HQE.o.2.2,HF.o.1.ok H9.o,HF.o.2.1.trans (Below.mono H9.o (by have h1:=HE.o.lo.1;have h2:=za2 HF.o.1.t;omega)),by have h1:=HF.o.2.2.1;have h2:=HQE.o;have h3:=HL.o;have h4:=HQL.o;unfold Hi;rw[List.length_append];omega,by have:=HF.o.2.2.2;rw[<-HQE.o.1]at this;exact this⟩
  case measure=>have h1:=HQE.o;have h2:=HQL.o;simp only[intOf,Int.toNat_natCast];omega
 ·subst hm1
  have HKK:Hi (¬(kdA E.ns q=7\/kdA E.ns q=8)/\(2<=kdA E.ns q/\kdA E.ns q<=6)/\ov=kdA E.ns q-2):=by unfold Hi;rw[HKD.o];exact⟨by omega,⟨by omega,by omega⟩,hv2⟩
  clear hkk hv2;go_wp2_with fail;obtain⟨gs,hgs⟩:=qq (w3.heap.size);obtain⟨w4,hw4⟩:∃x,x=w3.alloc (Obj.cells #[.bool true,nI ov] 176):=⟨_,rfl⟩;have HK4:Hi (Ok w3 w4):=by rw[hw4];exact(Ok.refl _).alloc _
  have r4:w4.heap[gs]?=some (.cells #[Value.bool true,nI ov] 176 (0,0)):=by rw[hw4,hgs];exact za3 _ _
  rw[<-hw4,<-hgs];have H4:=hid (H3.o.ok HK4.o);have HG4:Hi (w3.heap.size<=gs):=by unfold Hi;omega
  clear hw4 hgs c0 l0 s0 s1 lst lb m1;have x1:w4.cell? (aD gs 1)=some (nI ov):=(cell_of_row _ _ 1 _ _ _ r4).trans sI;have lgs:=za2 r4;obtain⟨-,c1,-,-,-⟩:=H4.o.cs;have l1:=za2 H4.o.p;obtain⟨g,pc,hpv,hgl,hpt⟩:=H4.o.point;rw[hpv]at c1;have r0:=hpt q (Nat.le_of_lt HQL.o.1);obtain⟨qp,hqp⟩:=qq (ptF E.ns q);rw[<-hqp]at r0;have HQP:Hi (qp=ptF E.ns q):=hqp;have hq1:(q:Int)<(E.ns.length:Int)+1:=oM;obtain⟨lv,hbl,hlo⟩:=H4.o.l;obtain⟨lo,lc,rfl⟩:=za0 hlo;have cl:w4.cell? (aD E.bl 0)=some (.slice lo (es++l).length lc):=(cell_of_row _ _ 0 _ _ _ hbl).trans sI;have ll:=za2 hbl;have HLO:Hi (w4.heap[E.bl]?=some (.cells #[.slice lo (es++l).length lc] 51 (0,0))/\w4.ownsRow E.B 59 6 (.slice lo (es++l).length lc) (es++l).length (edL (es++l))):=⟨hbl,hlo⟩;obtain⟨nn,hnn⟩:=qq ((es++l).length);have HNN:Hi (nn=(es++l).length/\nn<=100000):=⟨hnn,by rw[hnn,List.length_append];have h1:=HB.o;have h2:=HL.o;have h4:=HQL.o;omega⟩;obtain⟨i0,hi0,hy0,hy1,hy2⟩:=zg6 wn1;have H63:Hi (nn+1<=maxLen):=by have:=HNN.o.2;unfold Hi maxLen;omega
  have HLby:Hi ((nn+1)*40<=140737488355328):=by have:=HNN.o.2;unfold Hi;omega
  have HAP:Hi (∀W,Ok w4 W->∀v9 w9,w9.ownsRow E.B 59 6 v9 ((es++l).length+1) (edL (es++l)++edV ⟨(qp:Nat),(nx:Nat),ov,(q:Nat),false,false⟩)->W.grownBy w9 (Value.slice lo (es++l).length lc).ownBlock->EB E (w9.setCell (aD E.bl 0) v9) ((es++l)++[⟨(qp:Nat),(nx:Nat),ov,(q:Nat),false,false⟩])/\Below E.B w4 (w9.setCell (aD E.bl 0) v9)/\w9.heap[E.bl]?=some (.cells #[.slice lo (es++l).length lc] 51 (0,0))):=λW hW v9 w9 k1 k2=>yC4 _ HE.o H4.o hbl hlo hW v9 w9 k1 k2;rw[<-hnn]at cl HLO HAP;have HBS:Hi (E.B<=w4.heap.size):=by have h1:=HE.o.lo.1;have h2:=za2 H4.o.t;unfold Hi;omega
  clear hbl hlo hqp hpt hpv hnn;have HV6:Hi (∀u∈edV ⟨(qp:Nat),(nx:Nat),ov,(q:Nat),false,false⟩,u.oneCell'=true):=by unfold Hi;intro u hu;exact zC3 [_] u (by rw[yk3];exact hu)
  go_region_law (refine step_append_lies _ (by rfl) _ _ _ (by rfl) E.B 59 i0 _ 6 40 Tryz.underlying51 hi0 hy0 hy1 hy2 rfl (by decide) _ nn (edL (es++l)) (by rfl) (za1 HLO.o.2 (by repeat (first | exact Ok.refl _ | refine Ok.alloc ?_ _ | refine Below.drew ?_))) ⟨w4.heap.size,0,none⟩ 1 1 (edV ⟨(qp:Nat),(nx:Nat),ov,(q:Nat),false,false⟩) (by rfl) (by rfl) (by intro j u hj;exact zA4 (za3 _ _) j u hj) HV6.o (by decide) H63.o HLby.o (by have hb:=HBS.o;first|(simp;omega) | (simp only[heap_drew,World.alloc];simp;omega)) (w4.heap.size+1) (by simp) ?_;intro gg capg w5 hown hgrow hat hlt;obtain⟨D1,D2,D3⟩:=HAP.o _ (by repeat (first | exact Ok.refl _ | refine Ok.alloc ?_ _ | refine Below.drew ?_)) _ w5 hown hgrow;have HD:Hi (EB E (w5.setCell (aD E.bl 0) (.slice (sA gg 0) (nn+1) capg)) ((es++l)++[⟨(qp:Nat),(nx:Nat),ov,(q:Nat),false,false⟩])/\Below E.B w4 (w5.setCell (aD E.bl 0) (.slice (sA gg 0) (nn+1) capg))):=⟨D1,D2⟩;have cl5:w5.cell? (aD E.bl 0)=some (.slice lo nn lc):=(cell_of_row _ _ 0 _ _ _ D3).trans (by simp);have zl5:w5.frozen? (aD E.bl 0)=false:=frozen_of_row _ _ _ _ _ D3;have ll5:=za2 D3;clear D1 D2 D3 hown hgrow hat hlt)
  all_goals
   obtain⟨wf,hwf⟩:=qq (w5.setCell ⟨E.bl,0,none⟩ (.slice (some ⟨gg,0,none⟩) (nn+1) capg));rw[<-hwf];have HF:Hi (EB E wf (es++(l++[⟨(qp:Nat),(nx:Nat),ov,(q:Nat),false,false⟩]))/\Below E.B w wf/\([⟨(qp:Nat),(nx:Nat),ov,(q:Nat),false,false⟩]:List Ed).length<=2*(qe-q)/\wa7 E.ns p en fol (l++[⟨(qp:Nat),(nx:Nat),ov,(q:Nat),false,false⟩]) (AB E.ns q)):=⟨by rw[hwf,<-List.append_assoc];exact HD.o.1,by rw[hwf];exact HBW.o.trans ((Below.mono (HK3.o.step HK4.o) (by have h1:=HE.o.lo.1;have h2:=za2 HR.o.t;omega)).trans HD.o.2),by have:=HQE.o;simp only[List.length_cons,List.length_nil];omega,HSM.o.step HQL.o.2.2.2 HQL.o.1 (λf hf=>by unfold ptE;rw[if_neg HKK.o.1,if_pos HKK.o.2.1,<-HQE.o.1,<-HNX.o.1,HQP.o,HKK.o.2.2])⟩;clear hwf HD HAP HLO cl5 zl5 ll5 c1 r0 cl ll x1 lgs;obtain⟨d0,-,-,-,-⟩:=HF.o.1.cs;rw[HV.o]at d0;have dl:=za2 HF.o.1.t
   go_wp2_with (first
    |(go_at_call 93;refine mq (zk7 _ E.ns q _ (by have:=HF.o.1.nd;rw[HV.o]at this;exact this) (by have:=HE.o.len;omega) (by have:=HB.o;omega)) λw9 hk9=>?_;have H9:=hid hk9;rw[<-HQE.o.1];clear hk9)
    | fail)
   go_roundw
   case rel=>exact⟨qe,l++[(⟨(qp:Nat),(nx:Nat),ov,(q:Nat),false,false⟩:Ed)],rfl,by have h1:=HQE.o;have h2:=HQL.o;omega,.inl HQE.o.2.2,HF.o.1.ok H9.o,HF.o.2.1.trans (Below.mono H9.o (by have h1:=HE.o.lo.1;have h2:=za2 HF.o.1.t;omega)),by have h1:=HF.o.2.2.1;have h2:=HQE.o;have h3:=HL.o;have h4:=HQL.o;unfold Hi;rw[List.length_append];omega,by have:=HF.o.2.2.2;rw[<-HQE.o.1]at this;exact this⟩
   case measure=>have h1:=HQE.o;have h2:=HQL.o;simp only[intOf,Int.toNat_natCast];omega
 subst hm1 hv1;have HKK:Hi (¬(kdA E.ns q=7\/kdA E.ns q=8)/\¬(2<=kdA E.ns q/\kdA E.ns q<=6)):=by unfold Hi;rw[HKD.o];exact⟨by omega,by omega⟩
 clear hkk;obtain⟨wf,hwf⟩:∃x,x=w3.alloc (Obj.cells #[.bool false,nI 0] 176):=⟨_,rfl⟩;have HKF:Hi (Ok wr wf):=by rw[hwf];exact HK3.o.alloc _
 have HF:Hi (EB E wf (es++(l++[]))/\Below E.B w wf/\([]:List Ed).length<=2*(qe-q)/\wa7 E.ns p en fol (l++[]) (AB E.ns q)):=⟨by rw[List.append_nil];exact HR.o.ok HKF.o,HBW.o.trans (Below.mono HKF.o (by have h1:=HE.o.lo.1;have h2:=za2 HR.o.t;omega)),Nat.zero_le _,HSM.o.step HQL.o.2.2.2 HQL.o.1 (λf hf=>by unfold ptE;rw[if_neg HKK.o.1,if_neg HKK.o.2])⟩;go_wp2_with fail;rw[<-hwf];clear hwf;refine mq (zk7 _ E.ns q _ (by have:=HF.o.1.nd;rw[HV.o]at this;exact this) (by have:=HE.o.len;omega) (by have:=HB.o;omega)) λw9 hk9=>?_;have H9:=hid hk9;rw[<-HQE.o.1];clear hk9;go_wp2_with fail;go_roundw
 case rel=>exact⟨qe,l++[],rfl,by have h1:=HQE.o;have h2:=HQL.o;omega,.inl HQE.o.2.2,HF.o.1.ok H9.o,HF.o.2.1.trans (Below.mono H9.o (by have h1:=HE.o.lo.1;have h2:=za2 HF.o.1.t;omega)),by have h1:=HF.o.2.2.1;have h2:=HQE.o;have h3:=HL.o;have h4:=HQL.o;unfold Hi;rw[List.length_append];omega,by have:=HF.o.2.2.2;rw[<-HQE.o.1]at this;exact this⟩
 case measure=>have h1:=HQE.o;have h2:=HQL.o;simp only[intOf,Int.toNat_natCast];omega
end
section
open Go.RowKit
theorem yk7(v pv:Value)(ns:List Nd)(w:World)(h:DD w v ns)(hpt:w.ownsRow 0 3 1 pv (ns.length+1) (ptL ns))(hS:EE w)(hk:∀n∈ns,0<=n.kind/\n.kind<=15)(hl:ns.length<=1000)(hT:wl1 ns) :
  Calls Tryz.prog 54 #[v,pv] w λe w'=>∃lv,e=.returned lv/\w'.ownsRow w.heap.size 59 6 lv (elF ns).length (edL (elF ns))/\Ok w w':=by
 have HN:=hid h;have HPT:=hid hpt;have HS:=hid hS;have HKD:=hid hk;have HT:=hid hT;obtain⟨_,vo,vc,rfl,_⟩:=h;obtain⟨g,pc,rfl,_⟩:=hpt.form oM;have hgl:=(hpt.lt g rfl).2
 have hpc:w.cell? ⟨g,ns.length,none⟩=some (nI (ptF ns ns.length:Nat)):=by have:=hpt.cells (g:=g) rfl ns.length _ (zN4 ns (nR_ _));rw[zb7,Nat.zero_add]at this;exact this
 have hs1:=λa c w=>run_store Tryz.prog w a (.func (.func 91) #[] c) .plain rfl;have hs2:=λa c w=>run_store Tryz.prog w a (.func (.func 92) #[] c) .plain rfl;have hs3:=λa c w=>run_store Tryz.prog w a (.func (.func 94) #[] c) .plain rfl;clear hpt hS hk hT;go_enter Tryz.func54,Tryz.ntmps54;go_wp2_with fail;obtain⟨b5,h5⟩:=qq (w.heap.size+1+1+1+1+1);obtain⟨b4,h4⟩:=qq (w.heap.size+1+1+1+1);obtain⟨b3,h3⟩:=qq (w.heap.size+1+1+1);obtain⟨b2,h2⟩:=qq (w.heap.size+1+1);obtain⟨b1,h1⟩:=qq (w.heap.size+1);obtain⟨b0,h0⟩:=qq (w.heap.size);rw[<-h5,<-h4,<-h3,<-h2,<-h1,<-h0];obtain⟨W,hW⟩:=qq ((((((w.alloc (Obj.cells #[.slice vo ns.length vc] 120)).alloc (Obj.cells #[.slice (some ⟨g,0,none⟩) (ns.length+1) pc] 25)).alloc (Obj.cells #[sZ] 51)).alloc (Obj.cells #[Value.func (Fn.func 91) #[] #[Value.pointer (some ⟨b1,0,none⟩)]] 178)).alloc (Obj.cells #[Value.func (Fn.func 94) #[] #[Value.pointer (some ⟨b0,0,none⟩),Value.pointer (some ⟨b3,0,none⟩),Value.pointer (some ⟨b5,0,none⟩),Value.pointer (some ⟨b2,0,none⟩),Value.pointer (some ⟨b1,0,none⟩)]] 179)).alloc (Obj.cells #[Value.func (Fn.func 92) #[] #[Value.pointer (some ⟨b0,0,none⟩),Value.pointer (some ⟨b1,0,none⟩),Value.pointer (some ⟨b3,0,none⟩),Value.pointer (some ⟨b2,0,none⟩),Value.pointer (some ⟨b4,0,none⟩)]] 180));rw[<-hW];have HKW:Hi (Ok w W):=by rw[hW];exact((((((Ok.refl w).alloc _).alloc _).alloc _).alloc _).alloc _).alloc _
 have HB:Hi (b0=w.heap.size/\b1=w.heap.size+1/\b2=w.heap.size+2/\b3=w.heap.size+3/\b4=w.heap.size+4/\b5=w.heap.size+5):=⟨h0,h1,h2,h3,h4,h5⟩;obtain⟨E,hE⟩:∃E:EP,E=⟨.slice vo ns.length vc,.slice (some ⟨g,0,none⟩) (ns.length+1) pc,ns,b0,b1,b2,b3,b4,b5,w.heap.size⟩:=⟨_,rfl⟩
 have HEB:Hi (EB E W []):=by
  unfold Hi;rw[hE];refine⟨?_,?_,?_,?_,?_,⟨sZ,?_,World.ownsRow_nil _ _ _ _⟩,HN.o.below HKW.o,za1 HPT.o HKW.o,HS.o.below HKW.o⟩
  ·rw[hW,h0];exact jj
  ·rw[hW,h1];exact jj
  ·rw[hW,h3];unfold ptr;exact jj
  ·rw[hW,h4];unfold ptr;exact jj
  ·rw[hW,h5];unfold ptr;exact jj
  rw[hW,h2];exact jj
 have HEP:Hi (wl5 E):=by
  unfold Hi;rw[hE];refine⟨hl,HKD.o,⟨by dsimp only;omega,by dsimp only;omega,by dsimp only;omega,by dsimp only;omega,by dsimp only;omega,by dsimp only;omega⟩,⟨by dsimp only;omega,by dsimp only;omega,by dsimp only;omega,by dsimp only;omega,by dsimp only;omega⟩,λb o n c e hne=>?_,λb hb=>?_,HS.o.lt⟩
  ·dsimp only at e hne ⊢
   obtain⟨_,ao,cp,e2,_,_,hk⟩:=HN.o;obtain⟨b',o',rfl,N1⟩:=hk.resolve_left hne;rw[e]at e2
   injection e2 with e3
   injection e3 with e4
   injection e4 with e5
   have:=N1.lt;omega
  have e5:g=b:=Option.some.inj hb;dsimp only;omega
 have HEQ:Hi (E.v=.slice vo ns.length vc/\E.pv=.slice (sA g 0) (ns.length+1) pc/\E.ns=ns/\E.bt=b0/\E.bp=b1/\E.bl=b2/\E.bb=b3/\E.bs=b4/\E.bc=b5/\E.B=w.heap.size):=by unfold Hi;rw[hE];exact⟨rfl,rfl,rfl,rfl,rfl,rfl,rfl,rfl,rfl,rfl⟩
 obtain⟨c0,c1,-,c3,-⟩:=HEB.o.cs;have l0:=za2 HEB.o.t;have l1:=za2 HEB.o.p;have l4:=za2 HEB.o.s;obtain⟨e0,e1,e2,e3,e4,e5,e6,e7,e8,e9⟩:=HEQ.o;unfold ptr at c3;rw[e0,e3]at c0;rw[e1,e4]at c1;rw[e3,e4,e5,e6,e7,e8]at c3;rw[e3]at l0;rw[e4]at l1;rw[e7]at l4;have hpcW:W.cell? ⟨g,ns.length,none⟩=some (nI (ptF ns ns.length:Nat)):=HKW.o.cell (p:=⟨g,ns.length,none⟩) hgl hpc;have hgW:g<W.heap.size:=lL_ hgl HKW.o.le;obtain⟨pn,hpn⟩:=qq (ptF ns ns.length);have HPN:Hi (pn=ptF ns ns.length/\pn<=1000):=⟨hpn,by rw[hpn];exact Nat.le_trans (zq9 _ _) hl⟩;rw[<-hpn]at hpcW;have k0:W.drew.cell? (aD b0 0)=some (.slice vo ns.length vc):=c0;have k1:W.drew.cell? (aD b1 0)=some (.slice (sA g 0) (ns.length+1) pc):=c1;have k3:W.drew.cell? (aD b4 0)=some (.func (.func 94) #[] #[Value.pointer (sA b0 0),Value.pointer (sA b3 0),Value.pointer (sA b5 0),Value.pointer (sA b2 0),Value.pointer (sA b1 0)]):=c3;have k4:W.drew.cell? ⟨g,ns.length,none⟩=some (nI (pn:Nat)):=hpcW;have hll:(ns.length:Int)<(ns.length:Int)+1:=oM;have HLE:=hid hl
 have HST:Hi (∀_:Unit,Calls Tryz.prog 94 #[nI 0,nI (ns.length:Nat),nI (pn:Nat),pA b0 0,pA b3 0,pA b5 0,pA b2 0,pA b1 0] W.drew (λe w'=>e=.returned (.tuple #[])/\∃l,EB E w' ([]++l)/\Below E.B W.drew w'/\l.length<=2*(ns.length-0)/\∀f,ns.length+2-0<=f->stE ns f 0 ns.length pn=l)):=λ_=>by have:=zN6 E HEP.o (by rw[e2];exact HT.o) (ns.length+2) W.drew [] 0 ns.length pn (HEB.o.ok ((Ok.refl _).draws 1)) (λ_=>by rw[e2];exact Nat.le_refl _) (λq _ hq=>by rw[e2];exact(ze6 hq).2) (by omega) HPN.o.2 (by omega) (by simp only[List.length_nil];omega) (by rw[e2];omega);unfold ptr at this;rw[e2,e3,e4,e5,e6,e8]at this;exact this
 have HCS:Hi (∀(w2:World) (L:List Ed),EB E w2 L->Below E.B W.drew w2->w2.cell? (aD b0 0)=some (.slice vo ns.length vc)/\w2.cell? (aD b1 0)=some (.slice (sA g 0) (ns.length+1) pc)/\w2.cell? (aD b4 0)=some (.func (.func 94) #[] #[Value.pointer (sA b0 0),Value.pointer (sA b3 0),Value.pointer (sA b5 0),Value.pointer (sA b2 0),Value.pointer (sA b1 0)])/\w2.cell? ⟨g,ns.length,none⟩=some (nI (pn:Nat))):=λw2 L hh hb=>by obtain⟨c0,c1,-,c3,-⟩:=hh.cs;unfold ptr at c3;rw[e0,e3]at c0;rw[e1,e4]at c1;rw[e3,e4,e5,e6,e7,e8]at c3;exact⟨c0,c1,c3,(hb.cell (p:=⟨g,ns.length,none⟩) (by rw[e9];exact hgl)).trans k4⟩
 clear hpc hgl hs1 hs2 hs3 h0 h1 h2 h3 h4 h5 hW hE e0 e1 e2 e3 e4 e5 e6 e7 e8 e9 hpn hl
 go_region_held3 (λw'=>w'.cell? (aD b0 0)=some (.slice vo ns.length vc)/\w'.cell? (aD b1 0)=some (.slice (sA g 0) (ns.length+1) pc)/\w'.cell? (aD b4 0)=some (.func (.func 94) #[] #[Value.pointer (sA b0 0),Value.pointer (sA b3 0),Value.pointer (sA b5 0),Value.pointer (sA b2 0),Value.pointer (sA b1 0)])/\w'.cell? ⟨g,ns.length,none⟩=some (nI (pn:Nat)))
  (first|(with_reducible exact⟨k0,k1,k3,k4⟩) | (with_reducible exact⟨d0,d1,d3,d4⟩) | go_keep)
  (first
  |(go_at_call 94;refine(Calls.mono (HST.o ()) ?_);rintro e w2 ⟨rfl,L,f1,f2,f3,f4⟩;have HF:Hi (EB E w2 L/\Below E.B W.drew w2/\L=elF ns):=⟨by simpa using f1,f2,by unfold elF;rw[<-HPN.o.1];exact(f4 (ns.length+2) (by omega)).symm⟩;clear f1 f2 f3 f4;obtain⟨d0,d1,d3,d4⟩:=HCS.o w2 L HF.o.1 HF.o.2.1)
  | fail)
 obtain⟨lv,hbl,hlo⟩:=HF.o.1.l;have cl:w2.cell? (aD b2 0)=some lv:=by rw[HEQ.o.2.2.2.2.2.1]at hbl;exact(cell_of_row _ _ 0 _ _ _ hbl).trans (by simp)
 have ll:b2<w2.heap.size:=by rw[<-HEQ.o.2.2.2.2.2.1];exact za2 hbl
 have HLO:=hid hlo;obtain⟨lo,lc,rfl⟩:=za0 hlo;clear hbl hlo;go_wp2_with fail;go_ret;refine⟨_,rfl,?_,?_⟩
 ·have:=HLO.o
  rw[HF.o.2.2,HEQ.o.2.2.2.2.2.2.2.2.2]at this;rw[HF.o.2.2];exact this
 have h1:=HF.o.2.1;rw[HEQ.o.2.2.2.2.2.2.2.2.2]at h1;exact(HKW.o.draws 1).trans h1
end
section
open Go.RowKit
theorem zq4(h0:(AR ns rd0).1=0):(BD ns).1=0:=by
 by_cases c:(BD ns).1=0
 ·exact c
 unfold AR at h0;rw[if_neg c]at h0;exact absurd h0 c
theorem zv7{l:Ls}(h:CY ns l=true):(AR ns rd0).1=0:=by unfold CY at h;rw[Bool.and_eq_true]at h;exact of_decide_eq_true h.1
theorem zy1(h:AM ns):∀n∈ns,0<=n.kind/\n.kind<=15:=by intro n hn;obtain⟨i,hi,e⟩:=List.mem_iff_getElem.1 hn;rw[<-e];exact zi0 (h.shp.fit i hi)
theorem Tryz.infoG:(Tryz.prog.info? 53).map (·.size)=some 9:=by kernel_rfl
theorem zC4{t:TypeId}{a0 a1 a2 a3 a4 a5 a6 a7 a8:Value}(h:w.heap[g]?=some (.cells #[a0,a1,a2,a3,a4,a5,a6,a7,a8] t (0,0)))(b0 b1 b2 b3 b4 b5 b6 b7 b8:Value) :
  (((((((((w.setCell (aD g 0) b0).setCell (aD g 1) b1).setCell (aD g 2) b2).setCell (aD g 3) b3).setCell (aD g 4) b4).setCell (aD g 5) b5).setCell (aD g 6) b6).setCell (aD g 7) b7).setCell (aD g 8) b8).heap[g]?=some (.cells #[b0,b1,b2,b3,b4,b5,b6,b7,b8] t (0,0)):=by
 have h0:=heap_setCell_same w g 0 _ t b0 h;have h1:=heap_setCell_same _ g 1 _ t b1 h0;have h2:=heap_setCell_same _ g 2 _ t b2 h1;have h3:=heap_setCell_same _ g 3 _ t b3 h2;have h4:=heap_setCell_same _ g 4 _ t b4 h3;have h5:=heap_setCell_same _ g 5 _ t b5 h4;have h6:=heap_setCell_same _ g 6 _ t b6 h5;have h7:=heap_setCell_same _ g 7 _ t b7 h6;have h8:=heap_setCell_same _ g 8 _ t b8 h7;simpa using h8
theorem zq5{B:Nat}{w0:World}(h:Below B w0 w)(hg:B<=g)(b0 b1 b2 b3 b4 b5 b6 b7 b8:Value):Below B w0 (((((((((w.setCell (aD g 0) b0).setCell (aD g 1) b1).setCell (aD g 2) b2).setCell (aD g 3) b3).setCell (aD g 4) b4).setCell (aD g 5) b5).setCell (aD g 6) b6).setCell (aD g 7) b7).setCell (aD g 8) b8) :=
 ((((((((h.setCell (p:=⟨g,0,none⟩) hg b0).setCell (p:=⟨g,1,none⟩) hg b1).setCell (p:=⟨g,2,none⟩) hg b2).setCell (p:=⟨g,3,none⟩) hg b3).setCell (p:=⟨g,4,none⟩) hg b4).setCell (p:=⟨g,5,none⟩) hg b5).setCell (p:=⟨g,6,none⟩) hg b6).setCell (p:=⟨g,7,none⟩) hg b7).setCell (p:=⟨g,8,none⟩) hg b8
theorem zC5{B:Nat}{e:TypeId}{s n:Nat}{v:Value}{xs:List Value}(h:w.ownsRow B e s v n xs)(hg:∀b,v.ownBlock=some b->b≠g)(b0 b1 b2 b3 b4 b5 b6 b7 b8:Value):(((((((((w.setCell (aD g 0) b0).setCell (aD g 1) b1).setCell (aD g 2) b2).setCell (aD g 3) b3).setCell (aD g 4) b4).setCell (aD g 5) b5).setCell (aD g 6) b6).setCell (aD g 7) b7).setCell (aD g 8) b8).ownsRow B e s v n xs:=by refine zb4 h λb hb=>?_;have hne:=hg b hb;exact(Below.heap_setCell _ ⟨g,8,none⟩ _ b hne).trans ((Below.heap_setCell _ ⟨g,7,none⟩ _ b hne).trans ((Below.heap_setCell _ ⟨g,6,none⟩ _ b hne).trans ((Below.heap_setCell _ ⟨g,5,none⟩ _ b hne).trans ((Below.heap_setCell _ ⟨g,4,none⟩ _ b hne).trans ((Below.heap_setCell _ ⟨g,3,none⟩ _ b hne).trans ((Below.heap_setCell _ ⟨g,2,none⟩ _ b hne).trans ((Below.heap_setCell _ ⟨g,1,none⟩ _ b hne).trans ((Below.heap_setCell _ ⟨g,0,none⟩ _ b hne)))))))))
theorem yu8(v0 v1 v2 v3 v4 v5:Value)(ns:List Nd)(l:Ls)(w:World)(hR:BF w)(hS:EE w)(h:BO w v0 v1 v2 v3 v4 v5 ns l)(hg:CY ns l=true) :
  Calls Tryz.prog 29 #[.agg #[v0,v1,v2,v3,v4,v5]] w λe w'=>∃(u:Nat->Value) (ev:Value),e=.returned (.tuple #[.agg #[u 0,u 1,u 2,u 3,u 4,u 5,nI ((ptF ns ns.length+1:Nat):Int),nI (ptF ns ns.length:Nat),ev],nI 0])/\Ap u/\BZ w' w.heap.size u ns (BS (AR ns rd0).2.2)/\w'.ownsRow w.heap.size 59 6 ev (elF ns).length (edL (elF ns))/\Ok w w':=by
 have h0:=zv7 hg;have HT:Hi (AM ns):=zN8 (zq4 h0);have HH0:Hi ((AR ns rd0).1=0):=h0;have HLN:Hi (ns.length<=300):=(zj1 ns h0).2;have HG:=hid hg;have HP:=hid h;have HR:=hid hR;have HS:=hid hS;obtain⟨_,ao,cap,e,_⟩:=h.nodes;have HV:Hi (v0=.slice ao ns.length cap):=e;clear h0 hg h hR hS e;go_enter Tryz.func29,Tryz.ntmps29;go_wp2_with fail;obtain⟨w0,hw0⟩:=qq ((w.alloc (Obj.cells #[v0,v1,v2,v3,v4,v5] 33)).alloc (Obj.cells #[sZ,sZ,sZ,sZ,sZ,sZ,nI 0,nI 0,sZ] 53));obtain⟨b1,hb1⟩:=qq (w.heap.size+1);obtain⟨b0,hb0⟩:=qq (w.heap.size);rw[<-hw0,<-hb1,<-hb0];have HK0:Hi (Ok w w0):=by rw[hw0];exact((Ok.refl w).alloc _).alloc _
 have HX0:Hi (Six w0 b0 v0 v1 v2 v3 v4 v5):=by rw[hw0,hb0];exact(Six.new w _ _ _ _ _ _).below ((Ok.refl _).alloc _)
 have HG0:Hi (w0.heap[b1]?=some (.cells #[sZ,sZ,sZ,sZ,sZ,sZ,nI 0,nI 0,sZ] 53 (0,0))):=by rw[hw0,hb1];exact heap_at _ _ _ (by simp)
 have HB:Hi (b0=w.heap.size/\b1=w.heap.size+1):=⟨hb0,hb1⟩;have HZ0:Hi (w0.heap.size=w.heap.size+2):=by unfold Hi;rw[hw0];simp
 clear hw0 hb1 hb0;refine mq (zO9 v0 v1 v2 v3 v4 v5 ns l w0 (HR.o.below HK0.o) (HP.o.below HK0.o)) λw1 hk1=>?_;rw[HG.o];have HK1:Hi (Ok w w1):=HK0.o.step hk1;have HX1:Hi (Six w1 b0 v0 v1 v2 v3 v4 v5):=HX0.o.below hk1;have HG1:Hi (w1.heap[b1]?=some (.cells #[sZ,sZ,sZ,sZ,sZ,sZ,nI 0,nI 0,sZ] 53 (0,0))):=Ok.row' hk1 HG0.o;clear hk1 HG0 HX0;obtain⟨z1,c0,c1,c2,c3,c4,c5⟩:=HX1.o.pc;rw[HV.o]at c0;go_wp2_with fail;refine(zN3 _ ns w1 (HR.o.below HK1.o) (by have:=(HP.o.below HK1.o).nodes;rw[HV.o]at this;exact this) HH0.o).mono ?_;rintro e w2 ⟨u,er,rfl,hu,hap,hk2⟩;have HAP:Hi (Ap u):=hap;clear hap;have HK2:Hi (Ok w w2):=HK1.o.step hk2;have HX2:Hi (Six w2 b0 v0 v1 v2 v3 v4 v5):=HX1.o.below hk2;have HG2:Hi (w2.heap[b1]?=some (.cells #[sZ,sZ,sZ,sZ,sZ,sZ,nI 0,nI 0,sZ] 53 (0,0))):=Ok.row' hk2 HG1.o;have HU2:Hi (BZ w2 w1.heap.size u ns (BS (AR ns rd0).2.2)):=hu;have HZ1:Hi (w.heap.size+2<=w1.heap.size):=by have h1:=za2 HG1.o;have h2:=HB.o;unfold Hi;omega
 clear hk2 hu z1 c0 c1 c2 c3 c4 c5 HX1 HG1;obtain⟨o0,p0,e0⟩:=za0 (HU2.o 0 dC);obtain⟨o1,p1,e1⟩:=za0 (HU2.o 1 dC);obtain⟨o2,p2,e2⟩:=za0 (HU2.o 2 dC);obtain⟨o3,p3,e3⟩:=za0 (HU2.o 3 dC);obtain⟨o4,p4,e4⟩:=za0 (HU2.o 4 dC);obtain⟨o5,p5,e5⟩:=za0 (HU2.o 5 dC);obtain⟨m,hm⟩:=qq (BS (AR ns rd0).2.2);have HM:Hi (m=BS (AR ns rd0).2.2):=hm;rw[<-hm]at HU2 e0 e1 e2 e3 e4 e5;have HE:Hi (u 0=.slice o0 (nOf ns.length m 0) p0/\u 1=.slice o1 (nOf ns.length m 1) p1/\u 2=.slice o2 (nOf ns.length m 2) p2/\u 3=.slice o3 (nOf ns.length m 3) p3/\u 4=.slice o4 (nOf ns.length m 4) p4/\u 5=.slice o5 (nOf ns.length m 5) p5):=⟨e0,e1,e2,e3,e4,e5⟩;rw[e0,e1,e2,e3,e4,e5];obtain⟨n0,hn0⟩:=qq (nOf ns.length m 0);obtain⟨n1,hn1⟩:=qq (nOf ns.length m 1);obtain⟨n2,hn2⟩:=qq (nOf ns.length m 2);obtain⟨n3,hn3⟩:=qq (nOf ns.length m 3);obtain⟨n4,hn4⟩:=qq (nOf ns.length m 4);obtain⟨n5,hn5⟩:=qq (nOf ns.length m 5);rw[<-hn0,<-hn1,<-hn2,<-hn3,<-hn4,<-hn5]at HE ⊢;clear e0 e1 e2 e3 e4 e5 hm hn0 hn1 hn2 hn3 hn4 hn5;obtain⟨z1,c0,c1,c2,c3,c4,c5⟩:=HX2.o.pc;rw[HV.o]at c0;go_wp2_with fail;obtain⟨w3,hw3⟩:=qq (w2.alloc (Obj.cells #[.slice o0 n0 p0,.slice o1 n1 p1,.slice o2 n2 p2,.slice o3 n3 p3,.slice o4 n4 p4,.slice o5 n5 p5] 33));obtain⟨b4,hb4⟩:=qq (w2.heap.size);rw[<-hw3,<-hb4];have hk3:Ok w2 w3:=by rw[hw3];exact(Ok.refl _).alloc _
 have HK3:Hi (Ok w w3):=HK2.o.step hk3;have HX3:Hi (Six w3 b4 (.slice o0 n0 p0) (.slice o1 n1 p1) (.slice o2 n2 p2) (.slice o3 n3 p3) (.slice o4 n4 p4) (.slice o5 n5 p5)):=by rw[hw3,hb4];exact Six.new _ _ _ _ _ _ _
 have HG3:Hi (w3.heap[b1]?=some (.cells #[sZ,sZ,sZ,sZ,sZ,sZ,nI 0,nI 0,sZ] 53 (0,0))):=Ok.row' hk3 HG2.o;have HU3:Hi (BZ w3 w1.heap.size u ns m):=λk hk=>za1 (HU2.o k hk) hk3;have HNE:Hi (b1<b4):=by have:=za2 HG2.o;unfold Hi;omega
 clear hw3 hb4 hk3 HX2 HG2 HU2 z1 c0 c1 c2 c3 c4 c5;refine(zX0 _ ns w3 (by have:=(HP.o.below HK3.o).nodes;rw[HV.o]at this;exact this) (by have:=HLN.o;omega) (zy1 HT.o) (HS.o.below HK3.o)).mono ?_;rintro e w4 ⟨pv,rfl,hpv,hk4⟩;have HK4:Hi (Ok w w4):=HK3.o.step hk4;have HX4:Hi (Six w4 b4 (.slice o0 n0 p0) (.slice o1 n1 p1) (.slice o2 n2 p2) (.slice o3 n3 p3) (.slice o4 n4 p4) (.slice o5 n5 p5)):=HX3.o.below hk4;have HG4:Hi (w4.heap[b1]?=some (.cells #[sZ,sZ,sZ,sZ,sZ,sZ,nI 0,nI 0,sZ] 53 (0,0))):=Ok.row' hk4 HG3.o;have HU4:Hi (BZ w4 w1.heap.size u ns m):=λk hk=>za1 (HU3.o k hk) hk4;have HPV:Hi (w4.ownsRow 0 3 1 pv (ns.length+1) (ptL ns)):=za7 hpv (zL_ _);obtain⟨g,pc,rfl,_⟩:=hpv.form oM;have hgl:=(hpv.lt g rfl).2;obtain⟨pn,hpn⟩:=qq (ptF ns ns.length)
 have hpc:w4.cell? ⟨g,ns.length,none⟩=some (nI (pn:Nat)):=by have:=hpv.cells (g:=g) rfl ns.length _ (zN4 ns (nR_ _));rw[zb7,Nat.zero_add]at this;rw[hpn];exact this
 have HPN:Hi (pn=ptF ns ns.length/\pn<=300):=⟨hpn,by rw[hpn];exact Nat.le_trans (zq9 _ _) HLN.o⟩;have hpw:IntKind.i64.wrap ((pn:Int)+1)=((pn+1:Nat):Int):=zb3 (by have:=HPN.o;omega);have hll:(ns.length:Int)<(ns.length:Int)+1:=oM;clear hk4 hpv HX3 HG3 HU3 hpn;go_wp2_with fail;obtain⟨y1,y0,y2,y3,y4,y5,y6⟩:=HX4.o.pc;have nb1:¬b4=b1:=by have:=HNE.o;omega
 have nb2:¬b1=b4:=by have:=HNE.o;omega
 have k0:w4.drew.cell? (aD b4 0)=some (.slice o0 n0 p0):=y0;have k1:w4.drew.cell? (aD b4 1)=some (.slice o1 n1 p1):=y2;have k2:w4.drew.cell? (aD b4 2)=some (.slice o2 n2 p2):=y3;have k3:w4.drew.cell? (aD b4 3)=some (.slice o3 n3 p3):=y4;have k4:w4.drew.cell? (aD b4 4)=some (.slice o4 n4 p4):=y5;have k5:w4.drew.cell? (aD b4 5)=some (.slice o5 n5 p5):=y6
 go_region_held3 (λw'=>w'.cell? (aD b4 0)=some (.slice o0 n0 p0)/\w'.cell? (aD b4 1)=some (.slice o1 n1 p1)/\w'.cell? (aD b4 2)=some (.slice o2 n2 p2)/\w'.cell? (aD b4 3)=some (.slice o3 n3 p3)/\w'.cell? (aD b4 4)=some (.slice o4 n4 p4)/\w'.cell? (aD b4 5)=some (.slice o5 n5 p5))
  (first|(with_reducible exact⟨k0,k1,k2,k3,k4,k5⟩) | (with_reducible exact⟨d0,d1,d2,d3,d4,d5⟩) | go_keep)
  (first
  |(go_at_call 54;refine(Calls.mono (yk7 _ _ ns _ (by have:=(HP.o.below (HK4.o.draws 1)).nodes;rw[HV.o]at this;exact this) (za1 HPV.o ((Ok.refl _).draws 1)) (HS.o.below (HK4.o.draws 1)) (zy1 HT.o) (by have:=HLN.o;omega) HT.o.twoIn) ?_);rintro e w5 ⟨ev,rfl,hev,hk5'⟩;have hk5:Ok w4 w5:=Ok.step ((Ok.refl _).draws 1) hk5';have HK5:Hi (Ok w w5):=HK4.o.step hk5;have HX5:Hi (Six w5 b4 (.slice o0 n0 p0) (.slice o1 n1 p1) (.slice o2 n2 p2) (.slice o3 n3 p3) (.slice o4 n4 p4) (.slice o5 n5 p5)):=HX4.o.below hk5;have HG5:Hi (w5.heap[b1]?=some (.cells #[sZ,sZ,sZ,sZ,sZ,sZ,nI 0,nI 0,sZ] 53 (0,0))):=Ok.row' hk5 HG4.o;have HU5:Hi (BZ w5 w1.heap.size u ns m):=λk hk=>za1 (HU4.o k hk) hk5;have HEV:Hi (w5.ownsRow w4.heap.size 59 6 ev (elF ns).length (edL (elF ns))):=hev;obtain⟨lo,lc,rfl⟩:=za0 hev;obtain⟨-,d0,d1,d2,d3,d4,d5⟩:=HX5.o.pc;have r0:w5.cell? (aD b1 0)=some (sZ):=(cell_of_row _ _ 0 _ _ _ HG5.o).trans (by simp);have r1:w5.cell? (aD b1 1)=some (sZ):=(cell_of_row _ _ 1 _ _ _ HG5.o).trans (by simp);have r2:w5.cell? (aD b1 2)=some (sZ):=(cell_of_row _ _ 2 _ _ _ HG5.o).trans (by simp);have r3:w5.cell? (aD b1 3)=some (sZ):=(cell_of_row _ _ 3 _ _ _ HG5.o).trans (by simp);have r4:w5.cell? (aD b1 4)=some (sZ):=(cell_of_row _ _ 4 _ _ _ HG5.o).trans (by simp);have r5:w5.cell? (aD b1 5)=some (sZ):=(cell_of_row _ _ 5 _ _ _ HG5.o).trans (by simp);have r6:w5.cell? (aD b1 6)=some (nI 0):=(cell_of_row _ _ 6 _ _ _ HG5.o).trans (by simp);have r7:w5.cell? (aD b1 7)=some (nI 0):=(cell_of_row _ _ 7 _ _ _ HG5.o).trans (by simp);have r8:w5.cell? (aD b1 8)=some (sZ):=(cell_of_row _ _ 8 _ _ _ HG5.o).trans (by simp);have wf:∀i,w5.frozen? (aD b1 i)=false:=λi=>frozen_of_row _ _ _ _ _ HG5.o;have lg5:=za2 HG5.o;clear hk5 hk5' hev)
  | fail)
 have HNE4:Hi (b1<w4.heap.size):=za2 HG4.o;go_wp2_with fail
 try simp only[Exit.inBlock,Exit.then]
 refine bodyPost_ret (zc0 rfl _ _ b1 53 _ (0,0) _ rfl (zC4 HG5.o _ _ _ _ _ _ _ _ _) Tryz.underlying53 rfl Tryz.infoG) rfl ?_;refine⟨u,.slice lo (elF ns).length lc,?_,HAP.o,?_,?_,?_⟩
 ·obtain⟨e0,e1,e2,e3,e4,e5⟩:=HE.o
  rw[e0,e1,e2,e3,e4,e5,<-HPN.o.1];rfl
 ·intro k hk
  rw[<-HM.o];have hz:=HZ1.o;have hb:=HB.o;exact za7 (zC5 (HU5.o k hk) (λb hbb=>by have:=((HU5.o k hk).lt b hbb).1;omega) _ _ _ _ _ _ _ _ _) oM
 ·have hz:=HNE4.o
  have hb:=HB.o;exact za7 (zC5 HEV.o (λb hbb=>by have:=(HEV.o.lt b hbb).1;omega) _ _ _ _ _ _ _ _ _) oM
 exact zq5 HK5.o (by have:=HB.o;omega) _ _ _ _ _ _ _ _ _
theorem yk8(v0 v1 v2 v3 v4 v5:Value)(ns:List Nd)(l:Ls)(w:World)(hR:BF w)(h:BO w v0 v1 v2 v3 v4 v5 ns l)(hg:CY ns l=false) :
  Calls Tryz.prog 29 #[.agg #[v0,v1,v2,v3,v4,v5]] w λe w'=>e=.returned (.tuple #[.agg #[sZ,sZ,sZ,sZ,sZ,sZ,nI 0,nI 0,sZ],nI 2])/\Ok w w':=by
 have HG:=hid hg;have HP:=hid h;have HR:=hid hR;clear hg h hR;go_enter Tryz.func29,Tryz.ntmps29;go_wp2_with fail;obtain⟨w0,hw0⟩:=qq ((w.alloc (Obj.cells #[v0,v1,v2,v3,v4,v5] 33)).alloc (Obj.cells #[sZ,sZ,sZ,sZ,sZ,sZ,nI 0,nI 0,sZ] 53));obtain⟨b1,hb1⟩:=qq (w.heap.size+1);rw[<-hw0,<-hb1];have HK0:Hi (Ok w w0):=by rw[hw0];exact((Ok.refl w).alloc _).alloc _
 have HG0:Hi (w0.heap[b1]?=some (.cells #[sZ,sZ,sZ,sZ,sZ,sZ,nI 0,nI 0,sZ] 53 (0,0))):=by rw[hw0,hb1];exact heap_at _ _ _ (by simp)
 have HB:Hi (b1=w.heap.size+1):=hb1;clear hw0 hb1;refine mq (zO9 v0 v1 v2 v3 v4 v5 ns l w0 (HR.o.below HK0.o) (HP.o.below HK0.o)) λw1 hk1=>?_;rw[HG.o];have HK1:=hid (HK0.o.step hk1);have HG1:=hid (Ok.row' hk1 HG0.o);clear hk1 HG0;have r0:w1.cell? (aD b1 0)=some (sZ):=(cell_of_row _ _ 0 _ _ _ HG1.o).trans sI;have r1:w1.cell? (aD b1 1)=some (sZ):=(cell_of_row _ _ 1 _ _ _ HG1.o).trans sI;have r2:w1.cell? (aD b1 2)=some (sZ):=(cell_of_row _ _ 2 _ _ _ HG1.o).trans sI;have r3:w1.cell? (aD b1 3)=some (sZ):=(cell_of_row _ _ 3 _ _ _ HG1.o).trans sI;have r4:w1.cell? (aD b1 4)=some (sZ):=(cell_of_row _ _ 4 _ _ _ HG1.o).trans sI;have r5:w1.cell? (aD b1 5)=some (sZ):=(cell_of_row _ _ 5 _ _ _ HG1.o).trans sI;have r6:w1.cell? (aD b1 6)=some (nI 0):=(cell_of_row _ _ 6 _ _ _ HG1.o).trans sI;have r7:w1.cell? (aD b1 7)=some (nI 0):=(cell_of_row _ _ 7 _ _ _ HG1.o).trans sI;have r8:w1.cell? (aD b1 8)=some (sZ):=(cell_of_row _ _ 8 _ _ _ HG1.o).trans sI;have wf:∀i,w1.frozen? (aD b1 i)=false:=λi=>frozen_of_row _ _ _ _ _ HG1.o;have lg1:=za2 HG1.o;go_wp2_with fail
 try simp only[Exit.inBlock,Exit.then]
 refine bodyPost_ret (zc0 rfl _ _ b1 53 _ (0,0) _ rfl (zC4 HG1.o _ _ _ _ _ _ _ _ _) Tryz.underlying53 rfl Tryz.infoG) rfl ?_;exact⟨rfl,zq5 HK1.o (by have:=HB.o;omega) _ _ _ _ _ _ _ _ _⟩
end
end Go.Proofs.YtpongdpnbclchaaGreatDoor
