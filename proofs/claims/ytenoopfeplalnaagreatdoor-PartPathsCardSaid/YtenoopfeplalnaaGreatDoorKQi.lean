import Derived.Deep.RegionLaw
import Derived.Test.YtenoopfeplalnaaGreatDoorKPm
import Derived.Test.YtenoopfeplalnaaGreatDoorKQf
import Derived.Test.YtenoopfeplalnaaGreatDoorKRc
set_option maxHeartbeats 8000000
set_option linter.all false
namespace Go.Proofs.YtenoopfeplalnaaGreatDoor
section
open Go.RowKit
def ptE (ns:List Nd) (f q nx:Nat):List Ed :=
 if kdA ns q=7\/kdA ns q=8 then
  chE ns q nx++(stE ns f (endF ns (q+1)+1) (endF ns (endF ns (q+1))) (if kdA ns q=8 then ptF ns q else nx)++stE ns f (endF ns (endF ns (q+1))+1) (endF ns q) nx)
 else if 2<=kdA ns q/\kdA ns q<=6 then [⟨ptF ns q,nx,kdA ns q-2,q,false,false⟩]
 else []
theorem yt2 {ns:List Nd} {f q en fol:Nat} (h:q<en):stE ns (f+1) q en fol=ptE ns f q (bgF ns (endF ns q) en fol)++stE ns f (endF ns q) en fol:=by
 rw [stE,if_pos h];rfl
def StSem (ns:List Nd) (p en fol:Nat) (l:List Ed) (q:Nat):Prop:=∀ f,ns.length+2-p<=f->∃ f',ns.length+2-q<=f'/\stE ns f p en fol=l++stE ns f' q en fol
theorem StSem.start (ns:List Nd) (p en fol:Nat):StSem ns p en fol [] p:=fun f hf=>⟨f,hf,rfl⟩
theorem StSem.fin {ns:List Nd} {p en fol q:Nat} {l:List Ed} (h:StSem ns p en fol l q) (hq:¬q<en):∀ f,ns.length+2-p<=f->stE ns f p en fol=l:=by
 intro f hf;obtain ⟨f',_,e⟩:=h f hf;rw [e,zk5 hq,List.append_nil]
theorem StSem.step {ns:List Nd} {p en fol q:Nat} {l l2:List Ed} (h:StSem ns p en fol l q) (hq:q<en) (hql:q<ns.length) (hp:∀ f,ns.length+2-q<=f+1->ptE ns f q (bgF ns (endF ns q) en fol)=l2):StSem ns p en fol (l++l2) (endF ns q):=by
 intro f hf
 obtain ⟨f',h1,e⟩:=h f hf
 obtain ⟨f2,rfl⟩:∃ f2,f'=f2+1:=⟨f'-1,by omega⟩
 have hlo:q<endF ns q:=by unfold endF;omega
 refine ⟨f2,by omega,?_⟩
 rw [e,yt2 hq,hp f2 (by omega),List.append_assoc]
theorem yA6 {E:EP} {w3 W:World} {es:List Ed} {lv:Value} (e1:Ed) (hE:EPok E) (H3:EB E w3 es) (hl:w3.heap[E.bl]?=some (.cells #[lv] 44 (0,0))) (ho:w3.ownsRow E.B 51 6 lv es.length (edL es)) (hkW:Ok w3 W) (v9:Value) (w9:World) (k1:w9.ownsRow E.B 51 6 v9 (es.length+1) (edL es++edV e1)) (k2:W.grownBy w9 lv.ownBlock) :
  EB E (w9.setCell ⟨E.bl,0,none⟩ v9) (es++[e1])/\Below E.B w3 (w9.setCell ⟨E.bl,0,none⟩ v9)/\w9.heap[E.bl]?=some (.cells #[lv] 44 (0,0)):=by
 have hBl:=hE.lo.2.2.1
 have hlt:=za2 hl
 have h1:=za1 ho hkW
 have HW:=H3.ok hkW
 have hlW:=hkW.row' hl
 have hx:=EB.more (es2:=[e1]) HW hE hlW h1 k2 (by rw [yi7];exact k1)
 exact ⟨hx.1,(Below.mono hkW (by omega)).trans hx.2,keepT h1 k2 hlW (by decide)⟩
theorem yt3 {k:Nat} (h:k<16):((decide (2<=k)&&decide (k<=8))=true/\opT.getD k 0=5/\(k=7\/k=8))\/((decide (2<=k)&&decide (k<=8))=true/\(opT.getD k 0==5)=false/\opT.getD k 0=(k:Int)-2/\2<=k/\k<=6)\/((decide (2<=k)&&decide (k<=8))=false/\opT.getD k 0=0/\(k<2\/8<k)):=by
 have:∀ j:Fin 16,((decide (2<=(j:Nat))&&decide ((j:Nat)<=8))=true/\opT.getD j 0=5/\((j:Nat)=7\/(j:Nat)=8))\/((decide (2<=(j:Nat))&&decide ((j:Nat)<=8))=true/\(opT.getD j 0==5)=false/\opT.getD j 0=((j:Nat):Int)-2/\2<=(j:Nat)/\(j:Nat)<=6)\/((decide (2<=(j:Nat))&&decide ((j:Nat)<=8))=false/\opT.getD j 0=0/\((j:Nat)<2\/8<(j:Nat))):=by decide
 exact this ⟨k,h⟩
set_option maxRecDepth 100000 in
theorem zM2 (E:EP) (hE:EPok E) (hT:TwoIn E.ns) (m:Nat):StretchOK E m:=by
 induction m using Nat.strongRecOn with
 | ind m ih =>
 intro w es p en fol h hen hin hp3 hf3 he3 hl hm
 unfold ptr
 have H:Hid (EB E w es):=h
 have HE:=hid hE
 have HT:=hid hT
 have HS:Hid (∀ k,k<m->StretchOK E k):=ih
 have HB:Hid (p<=3000/\fol<=1000/\en<=3000/\es.length+2*(en-p)<=100000/\E.ns.length+2-p<=m/\E.ns.length<=1000):=⟨hp3,hf3,he3,hl,hm,hE.len⟩
 have HEN:Hid (p<en->en<=E.ns.length):=hen
 have HIN:Hid (∀ q,p<=q->q<en->endF E.ns q<=en):=hin
 obtain ⟨_,vo,vc,hv,_⟩:=h.nd
 have HV:Hid (E.v=.slice vo E.ns.length vc):=hv
 clear h hE hT ih hen hin hp3 hf3 he3 hl hm hv
 go_enter Tryz.func77,Tryz.ntmps77
 go_wp2_with fail
 go_loopw [11] (fun t wr=>∃ (q:Nat) (l:List Ed),t=.int .i64 (q:Nat)/\p<=q/\(q<=en\/q=p)/\Hid (EB E wr (es++l))/\Hid (Below E.B w wr)/\Hid (l.length<=2*(q-p))/\Hid (StSem E.ns p en fol l q)) (fun t _=>en-(intOf t).toNat)
 case atStart=>exact ⟨p,[],rfl,Nat.le_refl _,.inr rfl,by rw [List.append_nil];exact H.out,Below.refl _ _,Nat.zero_le _,StSem.start _ _ _ _⟩
 case round =>
  obtain ⟨q,l,rfl,hpq,hqe,HR,HBW,HL,HSM⟩:=hrel
  by_cases hq:q<en
  rotate_left
  ·have hq':¬(q:Int)<(en:Int):=zb3 hq
   go_wp2_with fail
   go_end0
   refine ⟨rfl,l,HR.out,HBW.out,?_,fun f hf=>HSM.out.fin hq f (by omega)⟩
   have:=HL.out;omega
  have hq':(q:Int)<(en:Int):=za6 hq
  have hql:q<E.ns.length:=by have:=HEN.out (by omega);omega
  obtain ⟨qe,hqe2⟩:∃ x,x=endF E.ns q:=⟨_,rfl⟩
  have HQE:Hid (qe=endF E.ns q/\q<qe/\qe<=en):=⟨hqe2,by rw [hqe2];unfold endF;omega,by rw [hqe2];exact HIN.out q hpq hq⟩
  have HQL:Hid (q<E.ns.length/\en<=E.ns.length/\p<=q/\q<en):=⟨hql,HEN.out (by omega),hpq,hq⟩
  obtain ⟨nx,hnx⟩:∃ x,x=bgF E.ns qe en fol:=⟨_,rfl⟩
  have HNX:Hid (nx=bgF E.ns qe en fol/\nx<=1000):=⟨hnx,by rw [hnx];exact yD5 (by have:=HB.out;omega) (by have:=HB.out;omega)⟩
  clear hqe2 hnx
  obtain ⟨c0,-,c2,-,-⟩:=HR.out.cs
  rw [HV.out] at c0
  unfold ptr at c2
  have l0:=za2 HR.out.t
  have l2:=za2 HR.out.b
  have k0:wr.drew.cell? ⟨E.bt,0,none⟩=some (.slice vo E.ns.length vc):=c0
  have k2:wr.drew.cell? ⟨E.bb,0,none⟩=some (.func (.func 74) #[] #[.pointer (some ⟨E.bp,0,none⟩)]):=c2
  go_wp2_with fail
  go_region_held3 (fun w'=>w'.cell? ⟨E.bt,0,none⟩=some (.slice vo E.ns.length vc)/\w'.cell? ⟨E.bb,0,none⟩=some (.func (.func 74) #[] #[.pointer (some ⟨E.bp,0,none⟩)]))
   (first | (with_reducible exact ⟨k0,k2⟩) | (with_reducible exact ⟨d0,d2⟩) | go_keep)
   (first
   | (go_at_call 76;refine (Calls.mono (zk4 _ E.ns q _ (by have:=(HR.out.ok ((Ok.refl _).draws 1)).nd;rw [HV.out] at this;exact this) (by have:=HB.out;omega) (by have:=HB.out;omega)) ?_);rintro e w2 ⟨rfl,hk2⟩;have H2:Hid (EB E w2 (es++l)):=HR.out.ok (Ok.step (by repeat (first | exact Ok.refl _ | refine Below.drew ?_)) hk2);have HK2:Hid (Ok wr w2):=Ok.step (by repeat (first | exact Ok.refl _ | refine Below.drew ?_)) hk2;rw [<-HQE.out.1];obtain ⟨d0,-,d2,-,-⟩:=H2.out.cs;rw [HV.out] at d0;unfold ptr at d2;clear hk2)
   | (go_at_call 74;refine (Calls.mono (zm0 E _ (es++l) qe en fol H2.out (fun _=>by have:=HQL.out;have:=HQE.out;omega)) ?_);rintro e w3 ⟨rfl,hk3⟩;have H3:Hid (EB E w3 (es++l)):=H2.out.ok hk3;have HK3:Hid (Ok wr w3):=HK2.out.step hk3;rw [<-HNX.out.1];obtain ⟨d0,-,d2,-,-⟩:=H3.out.cs;rw [HV.out] at d0;unfold ptr at d2;clear hk3)
   | fail)
  clear c0 c2 k0 k2 l0 l2 d0 d2 H2 HK2
  obtain ⟨c0,-,-,-,-⟩:=H3.out.cs
  rw [HV.out] at c0
  have l0:=za2 H3.out.t
  obtain ⟨np,hnp⟩:∃ n,E.ns[q]?=some n:=⟨_,List.getElem?_eq_getElem HQL.out.1⟩
  have HNP:Hid (E.ns[q]?=some np):=hnp
  obtain ⟨hk0,hk15⟩:=HE.out.kind np (List.mem_of_getElem? hnp)
  obtain ⟨kd,hkd⟩:∃ k:Nat,np.kind=(k:Int):=⟨np.kind.toNat,(Int.toNat_of_nonneg hk0).symm⟩
  have hk16:kd<16:=by omega
  have hk16':(kd:Int)<16:=by omega
  have HKD:Hid (kdA E.ns q=(kd:Int)):=by unfold Hid kdA;rw [hnp];exact hkd
  obtain ⟨_,vo',vc',e1,_,_,hN⟩:=H3.out.nd
  rw [HV.out] at e1
  injection e1 with e1 e2 e3;clear e2
  subst e1 e3
  obtain ⟨b,o,rfl,N1⟩:=hN.resolve_left (fun e=>by have:=HQL.out.1;rw [e] at this;simp at this)
  obtain ⟨-,m1,-,-,-,-⟩:=N1.get HNP.out
  rw [hkd] at m1
  have lb:=N1.lt
  have hqll:(q:Int)<(E.ns.length:Int):=za6 HQL.out.1
  have s0:=H3.out.st.made kd hk16
  have s1:=H3.out.st.op kd hk16
  have lst:=H3.out.st.lt
  obtain ⟨mb,hmb⟩:∃ x,x=(decide (2<=kd)&&decide (kd<=8)):=⟨_,rfl⟩
  obtain ⟨ov,hov⟩:∃ x,x=opT.getD kd 0:=⟨_,rfl⟩
  have HOP:=yt3 hk16
  rw [<-hmb,<-hov] at HOP
  rw [<-hmb] at s0
  rw [<-hov] at s1
  have HO:Hid _:=HOP
  clear hN N1 hnp hkd hmb hov HOP hk0 hk15 hpq hqe hq hql
  rcases HO.out with ⟨hm1,hv1,hkk⟩ | ⟨hm1,hv1,hv2,hkk⟩ | ⟨hm1,hv1,hkk⟩
  ·subst hm1 hv1
   have HKK:Hid (kdA E.ns q=7\/kdA E.ns q=8):=by unfold Hid;rw [HKD.out];omega
   clear hkk
   obtain ⟨-,-,-,-,c4⟩:=H3.out.cs
   unfold ptr at c4
   have l4:=za2 H3.out.c
   go_wp2_with (first
    | (go_at_call 75;refine (Calls.mono (zU9 E HE.out HT.out m HS.out _ (es++l) q nx (H3.out.ok ((Ok.refl _).alloc _)) HQL.out.1 HKK.out HNX.out.2 (by have h1:=HB.out;have h2:=HL.out;have h3:=HQE.out;have h4:=HQL.out;rw [List.length_append,<-HQE.out.1];omega) (by have h1:=HB.out;have h4:=HQL.out;omega)) ?_);rintro e wf ⟨rfl,L2,f1,f2,f3,f4⟩;have HF:Hid (EB E wf (es++(l++L2))/\Below E.B w wf/\L2.length<=2*(qe-q)/\StSem E.ns p en fol (l++L2) (endF E.ns q)):=⟨by rw [<-List.append_assoc];exact f1,HBW.out.trans ((Below.mono (HK3.out.alloc _) (by have h1:=HE.out.lo.1;have h2:=za2 HR.out.t;omega)).trans f2),by rw [HQE.out.1];exact f3,HSM.out.step HQL.out.2.2.2 HQL.out.1 (fun f hf=>by unfold ptE;rw [if_pos HKK.out,<-HQE.out.1,<-HNX.out.1,HQE.out.1];exact f4 f (by omega))⟩;clear f1 f2 f3 f4 c4 l4 c0 l0 s0 s1 lst lb m1;obtain ⟨d0,-,-,-,-⟩:=HF.out.1.cs;rw [HV.out] at d0;have dl:=za2 HF.out.1.t)
    | (go_at_call 76;refine (zk4 _ E.ns q _ (by have:=HF.out.1.nd;rw [HV.out] at this;exact this) (by have:=HE.out.len;omega) (by have:=HB.out;omega)).mono ?_;rintro e w9 ⟨rfl,hk9⟩;have H9:Hid (Ok wf w9):=hk9;rw [<-HQE.out.1];clear hk9)
    | fail)
   go_roundw
   case rel=>exact ⟨qe,l++L2,rfl,by have h1:=HQE.out;have h2:=HQL.out;omega,.inl HQE.out.2.2,HF.out.1.ok H9.out,HF.out.2.1.trans (Below.mono H9.out (by have h1:=HE.out.lo.1;have h2:=za2 HF.out.1.t;omega)),by have h1:=HF.out.2.2.1;have h2:=HQE.out;have h3:=HL.out;have h4:=HQL.out;unfold Hid;rw [List.length_append];omega,by have:=HF.out.2.2.2;rw [<-HQE.out.1] at this;exact this⟩
   case measure=>have h1:=HQE.out;have h2:=HQL.out;simp only [intOf,Int.toNat_natCast];omega
  ·subst hm1
   have HKK:Hid (¬(kdA E.ns q=7\/kdA E.ns q=8)/\(2<=kdA E.ns q/\kdA E.ns q<=6)/\ov=kdA E.ns q-2):=by unfold Hid;rw [HKD.out];exact ⟨by omega,⟨by omega,by omega⟩,hv2⟩
   clear hkk hv2
   go_wp2_with fail
   obtain ⟨gs,hgs⟩:∃ x,x=w3.heap.size:=⟨_,rfl⟩
   obtain ⟨w4,hw4⟩:∃ x,x=w3.alloc (Obj.cells #[.bool true,.int .i64 ov] 168):=⟨_,rfl⟩
   have HK4:Hid (Ok w3 w4):=by unfold Hid;rw [hw4];exact (Ok.refl _).alloc _
   have r4:w4.heap[gs]?=some (.cells #[Value.bool true,Value.int IntKind.i64 ov] 168 (0,0)):=by rw [hw4,hgs];exact za4 _ _
   rw [<-hw4,<-hgs]
   have H4:Hid (EB E w4 (es++l)):=H3.out.ok HK4.out
   have HG4:Hid (w3.heap.size<=gs):=by unfold Hid;omega
   clear hw4 hgs c0 l0 s0 s1 lst lb m1
   have x1:w4.cell? ⟨gs,1,none⟩=some (.int .i64 ov):=(cell_of_row _ _ 1 _ _ _ r4).trans (by simp)
   have lgs:=za2 r4
   obtain ⟨-,c1,-,-,-⟩:=H4.out.cs
   have l1:=za2 H4.out.p
   obtain ⟨g,pc,hpv,hgl,hpt⟩:=H4.out.point
   rw [hpv] at c1
   have r0:=hpt q (Nat.le_of_lt HQL.out.1)
   obtain ⟨qp,hqp⟩:∃ x,x=ptF E.ns q:=⟨_,rfl⟩
   rw [<-hqp] at r0
   have HQP:Hid (qp=ptF E.ns q):=hqp
   have hq1:(q:Int)<(E.ns.length:Int)+1:=by omega
   obtain ⟨lv,hbl,hlo⟩:=H4.out.l
   obtain ⟨lo,lc,rfl⟩:=za0 hlo
   have cl:w4.cell? ⟨E.bl,0,none⟩=some (.slice lo (es++l).length lc):=(cell_of_row _ _ 0 _ _ _ hbl).trans (by simp)
   have ll:=za2 hbl
   have HLO:Hid (w4.heap[E.bl]?=some (.cells #[.slice lo (es++l).length lc] 44 (0,0))/\w4.ownsRow E.B 51 6 (.slice lo (es++l).length lc) (es++l).length (edL (es++l))):=⟨hbl,hlo⟩
   obtain ⟨nn,hnn⟩:∃ x,x=(es++l).length:=⟨_,rfl⟩
   have HNN:Hid (nn=(es++l).length/\nn<=100000):=⟨hnn,by rw [hnn,List.length_append];have h1:=HB.out;have h2:=HL.out;have h4:=HQL.out;omega⟩
   obtain ⟨i0,hi0,hy0,hy1,hy2⟩:=zg8 infEd
   have H63:Hid (nn+1<=maxLen):=by have:=HNN.out.2;unfold Hid maxLen;omega
   have HLby:Hid ((nn+1)*40<=140737488355328):=by have:=HNN.out.2;unfold Hid;omega
   have HAP:Hid (∀ W,Ok w4 W->∀ v9 w9,w9.ownsRow E.B 51 6 v9 ((es++l).length+1) (edL (es++l)++edV ⟨(qp:Nat),(nx:Nat),ov,(q:Nat),false,false⟩)->W.grownBy w9 (Value.slice lo (es++l).length lc).ownBlock->EB E (w9.setCell ⟨E.bl,0,none⟩ v9) ((es++l)++[⟨(qp:Nat),(nx:Nat),ov,(q:Nat),false,false⟩])/\Below E.B w4 (w9.setCell ⟨E.bl,0,none⟩ v9)/\w9.heap[E.bl]?=some (.cells #[.slice lo (es++l).length lc] 44 (0,0))):=fun W hW v9 w9 k1 k2=>yA6 _ HE.out H4.out hbl hlo hW v9 w9 k1 k2
   rw [<-hnn] at cl HLO HAP
   have HBS:Hid (E.B<=w4.heap.size):=by have h1:=HE.out.lo.1;have h2:=za2 H4.out.t;unfold Hid;omega
   clear hbl hlo hqp hpt hpv hnn
   have HV6:Hid (∀ u∈edV ⟨(qp:Nat),(nx:Nat),ov,(q:Nat),false,false⟩,u.oneCell'=true):=by unfold Hid;intro u hu;exact zB6 [_] u (by rw [yi7];exact hu)
   go_region_law (refine step_append_lies _ (by rfl) _ _ _ (by rfl) E.B 51 i0 _ 6 40 Tryz.underlying44 hi0 hy0 hy1 hy2 rfl (by decide) _ nn (edL (es++l)) (by rfl) (za1 HLO.out.2 (by repeat (first | exact Ok.refl _ | refine Ok.alloc ?_ _ | refine Below.drew ?_))) ⟨w4.heap.size,0,none⟩ 1 1 (edV ⟨(qp:Nat),(nx:Nat),ov,(q:Nat),false,false⟩) (by rfl) (by rfl) (by intro j u hj;exact zA1 (za4 _ _) j u hj) HV6.out (by decide) H63.out HLby.out (by have hb:=HBS.out;first | (simp;omega) | (simp only [heap_drew,World.alloc];simp;omega)) (w4.heap.size+1) (by simp) ?_;intro gg capg w5 hown hgrow hat hlt;obtain ⟨D1,D2,D3⟩:=HAP.out _ (by repeat (first | exact Ok.refl _ | refine Ok.alloc ?_ _ | refine Below.drew ?_)) _ w5 hown hgrow;have HD:Hid (EB E (w5.setCell ⟨E.bl,0,none⟩ (.slice (some ⟨gg,0,none⟩) (nn+1) capg)) ((es++l)++[⟨(qp:Nat),(nx:Nat),ov,(q:Nat),false,false⟩])/\Below E.B w4 (w5.setCell ⟨E.bl,0,none⟩ (.slice (some ⟨gg,0,none⟩) (nn+1) capg))):=⟨D1,D2⟩;have cl5:w5.cell? ⟨E.bl,0,none⟩=some (.slice lo nn lc):=(cell_of_row _ _ 0 _ _ _ D3).trans (by simp);have zl5:w5.frozen? ⟨E.bl,0,none⟩=false:=frozen_of_row _ _ _ _ _ D3;have ll5:=za2 D3;clear D1 D2 D3 hown hgrow hat hlt)
   all_goals
    obtain ⟨wf,hwf⟩:∃ x,x=w5.setCell ⟨E.bl,0,none⟩ (.slice (some ⟨gg,0,none⟩) (nn+1) capg):=⟨_,rfl⟩
    rw [<-hwf]
    have HF:Hid (EB E wf (es++(l++[⟨(qp:Nat),(nx:Nat),ov,(q:Nat),false,false⟩]))/\Below E.B w wf/\([⟨(qp:Nat),(nx:Nat),ov,(q:Nat),false,false⟩]:List Ed).length<=2*(qe-q)/\StSem E.ns p en fol (l++[⟨(qp:Nat),(nx:Nat),ov,(q:Nat),false,false⟩]) (endF E.ns q)):=⟨by rw [hwf,<-List.append_assoc];exact HD.out.1,by rw [hwf];exact HBW.out.trans ((Below.mono (HK3.out.step HK4.out) (by have h1:=HE.out.lo.1;have h2:=za2 HR.out.t;omega)).trans HD.out.2),by have:=HQE.out;simp only [List.length_cons,List.length_nil];omega,HSM.out.step HQL.out.2.2.2 HQL.out.1 (fun f hf=>by unfold ptE;rw [if_neg HKK.out.1,if_pos HKK.out.2.1,<-HQE.out.1,<-HNX.out.1,HQP.out,HKK.out.2.2])⟩
    clear hwf HD HAP HLO cl5 zl5 ll5 c1 r0 cl ll x1 lgs
    obtain ⟨d0,-,-,-,-⟩:=HF.out.1.cs;rw [HV.out] at d0;have dl:=za2 HF.out.1.t
    go_wp2_with (first
     | (go_at_call 76;refine (zk4 _ E.ns q _ (by have:=HF.out.1.nd;rw [HV.out] at this;exact this) (by have:=HE.out.len;omega) (by have:=HB.out;omega)).mono ?_;rintro e w9 ⟨rfl,hk9⟩;have H9:Hid (Ok wf w9):=hk9;rw [<-HQE.out.1];clear hk9)
     | fail)
    go_roundw
    case rel=>exact ⟨qe,l++[(⟨(qp:Nat),(nx:Nat),ov,(q:Nat),false,false⟩:Ed)],rfl,by have h1:=HQE.out;have h2:=HQL.out;omega,.inl HQE.out.2.2,HF.out.1.ok H9.out,HF.out.2.1.trans (Below.mono H9.out (by have h1:=HE.out.lo.1;have h2:=za2 HF.out.1.t;omega)),by have h1:=HF.out.2.2.1;have h2:=HQE.out;have h3:=HL.out;have h4:=HQL.out;unfold Hid;rw [List.length_append];omega,by have:=HF.out.2.2.2;rw [<-HQE.out.1] at this;exact this⟩
    case measure=>have h1:=HQE.out;have h2:=HQL.out;simp only [intOf,Int.toNat_natCast];omega
  ·subst hm1 hv1
   have HKK:Hid (¬(kdA E.ns q=7\/kdA E.ns q=8)/\¬(2<=kdA E.ns q/\kdA E.ns q<=6)):=by unfold Hid;rw [HKD.out];exact ⟨by omega,by omega⟩
   clear hkk
   obtain ⟨wf,hwf⟩:∃ x,x=w3.alloc (Obj.cells #[.bool false,.int .i64 0] 168):=⟨_,rfl⟩
   have HKF:Hid (Ok wr wf):=by unfold Hid;rw [hwf];exact HK3.out.alloc _
   have HF:Hid (EB E wf (es++(l++[]))/\Below E.B w wf/\([]:List Ed).length<=2*(qe-q)/\StSem E.ns p en fol (l++[]) (endF E.ns q)):=⟨by rw [List.append_nil];exact HR.out.ok HKF.out,HBW.out.trans (Below.mono HKF.out (by have h1:=HE.out.lo.1;have h2:=za2 HR.out.t;omega)),Nat.zero_le _,HSM.out.step HQL.out.2.2.2 HQL.out.1 (fun f hf=>by unfold ptE;rw [if_neg HKK.out.1,if_neg HKK.out.2])⟩
   go_wp2_with fail
   rw [<-hwf]
   clear hwf
   refine (zk4 _ E.ns q _ (by have:=HF.out.1.nd;rw [HV.out] at this;exact this) (by have:=HE.out.len;omega) (by have:=HB.out;omega)).mono ?_;rintro e w9 ⟨rfl,hk9⟩;have H9:Hid (Ok wf w9):=hk9;rw [<-HQE.out.1];clear hk9
   go_wp2_with fail
   go_roundw
   case rel=>exact ⟨qe,l++[],rfl,by have h1:=HQE.out;have h2:=HQL.out;omega,.inl HQE.out.2.2,HF.out.1.ok H9.out,HF.out.2.1.trans (Below.mono H9.out (by have h1:=HE.out.lo.1;have h2:=za2 HF.out.1.t;omega)),by have h1:=HF.out.2.2.1;have h2:=HQE.out;have h3:=HL.out;have h4:=HQL.out;unfold Hid;rw [List.length_append];omega,by have:=HF.out.2.2.2;rw [<-HQE.out.1] at this;exact this⟩
   case measure=>have h1:=HQE.out;have h2:=HQL.out;simp only [intOf,Int.toNat_natCast];omega
end
section
open Go.RowKit
set_option maxRecDepth 100000 in
theorem yj1 (v pv:Value) (ns:List Nd) (w:World) (h:SNds w v ns) (hpt:w.ownsRow 0 3 1 pv (ns.length+1) (ptL ns)) (hS:StepsIs w) (hk:∀ n∈ns,0<=n.kind/\n.kind<=15) (hl:ns.length<=1000) (hT:TwoIn ns) :
  Calls Tryz.prog 41 #[v,pv] w fun e w'=>∃ lv,e=.returned lv/\w'.ownsRow w.heap.size 51 6 lv (elF ns).length (edL (elF ns))/\Ok w w':=by
 have HN:=hid h
 have HPT:=hid hpt
 have HS:=hid hS
 have HKD:=hid hk
 have HT:=hid hT
 obtain ⟨_,vo,vc,rfl,_⟩:=h
 obtain ⟨g,pc,rfl,_⟩:=hpt.form (by omega)
 have hgl:=(hpt.lt g rfl).2
 have hpc:w.cell? ⟨g,ns.length,none⟩=some (.int .i64 (ptF ns ns.length:Nat)):=by
  have:=hpt.cells (g:=g) rfl ns.length _ (zM0 ns (Nat.le_refl _))
  rw [zc0,Nat.zero_add] at this
  exact this
 have hs1:=fun a c w=>run_store Tryz.prog w a (.func (.func 74) #[] c) .plain rfl
 have hs2:=fun a c w=>run_store Tryz.prog w a (.func (.func 75) #[] c) .plain rfl
 have hs3:=fun a c w=>run_store Tryz.prog w a (.func (.func 77) #[] c) .plain rfl
 clear hpt hS hk hT
 go_enter Tryz.func41,Tryz.ntmps41
 go_wp2_with fail
 obtain ⟨b5,h5⟩:∃ x,x=w.heap.size+1+1+1+1+1:=⟨_,rfl⟩
 obtain ⟨b4,h4⟩:∃ x,x=w.heap.size+1+1+1+1:=⟨_,rfl⟩
 obtain ⟨b3,h3⟩:∃ x,x=w.heap.size+1+1+1:=⟨_,rfl⟩
 obtain ⟨b2,h2⟩:∃ x,x=w.heap.size+1+1:=⟨_,rfl⟩
 obtain ⟨b1,h1⟩:∃ x,x=w.heap.size+1:=⟨_,rfl⟩
 obtain ⟨b0,h0⟩:∃ x,x=w.heap.size:=⟨_,rfl⟩
 rw [<-h5,<-h4,<-h3,<-h2,<-h1,<-h0]
 obtain ⟨W,hW⟩:∃ x,x=(((((w.alloc (Obj.cells #[.slice vo ns.length vc] 115)).alloc (Obj.cells #[.slice (some ⟨g,0,none⟩) (ns.length+1) pc] 25)).alloc (Obj.cells #[.slice none 0 0] 44)).alloc (Obj.cells #[Value.func (Fn.func 74) #[] #[Value.pointer (some ⟨b1,0,none⟩)]] 170)).alloc (Obj.cells #[Value.func (Fn.func 77) #[] #[Value.pointer (some ⟨b0,0,none⟩),Value.pointer (some ⟨b3,0,none⟩),Value.pointer (some ⟨b5,0,none⟩),Value.pointer (some ⟨b2,0,none⟩),Value.pointer (some ⟨b1,0,none⟩)]] 171)).alloc (Obj.cells #[Value.func (Fn.func 75) #[] #[Value.pointer (some ⟨b0,0,none⟩),Value.pointer (some ⟨b1,0,none⟩),Value.pointer (some ⟨b3,0,none⟩),Value.pointer (some ⟨b2,0,none⟩),Value.pointer (some ⟨b4,0,none⟩)]] 172):=⟨_,rfl⟩
 rw [<-hW]
 have HKW:Hid (Ok w W):=by unfold Hid;rw [hW];exact ((((((Ok.refl w).alloc _).alloc _).alloc _).alloc _).alloc _).alloc _
 have HB:Hid (b0=w.heap.size/\b1=w.heap.size+1/\b2=w.heap.size+2/\b3=w.heap.size+3/\b4=w.heap.size+4/\b5=w.heap.size+5):=⟨h0,h1,h2,h3,h4,h5⟩
 obtain ⟨E,hE⟩:∃ E:EP,E=⟨.slice vo ns.length vc,.slice (some ⟨g,0,none⟩) (ns.length+1) pc,ns,b0,b1,b2,b3,b4,b5,w.heap.size⟩:=⟨_,rfl⟩
 have HEB:Hid (EB E W []):=by
  unfold Hid
  rw [hE]
  refine ⟨?_,?_,?_,?_,?_,⟨.slice none 0 0,?_,World.ownsRow_nil _ _ _ _⟩,HN.out.below HKW.out,za1 HPT.out HKW.out,HS.out.below HKW.out⟩
  ·rw [hW,h0];exact (by repeat (first | (refine heap_at _ _ _ ?hx; case hx => (first | (simp; done) | (simp; omega))) | (refine heap_past _ _ _ ?hy ?_; case hy => (first | (simp; done) | (simp; omega))) | fail))
  ·rw [hW,h1];exact (by repeat (first | (refine heap_at _ _ _ ?hx; case hx => (first | (simp; done) | (simp; omega))) | (refine heap_past _ _ _ ?hy ?_; case hy => (first | (simp; done) | (simp; omega))) | fail))
  ·rw [hW,h3];unfold ptr;exact (by repeat (first | (refine heap_at _ _ _ ?hx; case hx => (first | (simp; done) | (simp; omega))) | (refine heap_past _ _ _ ?hy ?_; case hy => (first | (simp; done) | (simp; omega))) | fail))
  ·rw [hW,h4];unfold ptr;exact (by repeat (first | (refine heap_at _ _ _ ?hx; case hx => (first | (simp; done) | (simp; omega))) | (refine heap_past _ _ _ ?hy ?_; case hy => (first | (simp; done) | (simp; omega))) | fail))
  ·rw [hW,h5];unfold ptr;exact (by repeat (first | (refine heap_at _ _ _ ?hx; case hx => (first | (simp; done) | (simp; omega))) | (refine heap_past _ _ _ ?hy ?_; case hy => (first | (simp; done) | (simp; omega))) | fail))
  ·rw [hW,h2];exact (by repeat (first | (refine heap_at _ _ _ ?hx; case hx => (first | (simp; done) | (simp; omega))) | (refine heap_past _ _ _ ?hy ?_; case hy => (first | (simp; done) | (simp; omega))) | fail))
 have HEP:Hid (EPok E):=by
  unfold Hid
  rw [hE]
  refine ⟨hl,HKD.out,⟨by dsimp only;omega,by dsimp only;omega,by dsimp only;omega,by dsimp only;omega,by dsimp only;omega,by dsimp only;omega⟩,⟨by dsimp only;omega,by dsimp only;omega,by dsimp only;omega,by dsimp only;omega,by dsimp only;omega⟩,fun b o n c e hne=>?_,fun b hb=>?_,HS.out.lt⟩
  ·dsimp only at e hne ⊢
   obtain ⟨_,ao,cp,e2,_,_,hk⟩:=HN.out
   obtain ⟨b',o',rfl,N1⟩:=hk.resolve_left hne
   rw [e] at e2
   injection e2 with e3
   injection e3 with e4
   injection e4 with e5
   have:=N1.lt
   omega
  ·have e5:g=b:=Option.some.inj hb
   dsimp only;omega
 have HEQ:Hid (E.v=.slice vo ns.length vc/\E.pv=.slice (some ⟨g,0,none⟩) (ns.length+1) pc/\E.ns=ns/\E.bt=b0/\E.bp=b1/\E.bl=b2/\E.bb=b3/\E.bs=b4/\E.bc=b5/\E.B=w.heap.size):=by unfold Hid;rw [hE];exact ⟨rfl,rfl,rfl,rfl,rfl,rfl,rfl,rfl,rfl,rfl⟩
 obtain ⟨c0,c1,-,c3,-⟩:=HEB.out.cs
 have l0:=za2 HEB.out.t
 have l1:=za2 HEB.out.p
 have l4:=za2 HEB.out.s
 obtain ⟨e0,e1,e2,e3,e4,e5,e6,e7,e8,e9⟩:=HEQ.out
 unfold ptr at c3
 rw [e0,e3] at c0
 rw [e1,e4] at c1
 rw [e3,e4,e5,e6,e7,e8] at c3
 rw [e3] at l0
 rw [e4] at l1
 rw [e7] at l4
 have hpcW:W.cell? ⟨g,ns.length,none⟩=some (.int .i64 (ptF ns ns.length:Nat)):=HKW.out.cell (p:=⟨g,ns.length,none⟩) hgl hpc
 have hgW:g<W.heap.size:=Nat.lt_of_lt_of_le hgl HKW.out.le
 obtain ⟨pn,hpn⟩:∃ x,x=ptF ns ns.length:=⟨_,rfl⟩
 have HPN:Hid (pn=ptF ns ns.length/\pn<=1000):=⟨hpn,by rw [hpn];exact Nat.le_trans (zq5 _ _) hl⟩
 rw [<-hpn] at hpcW
 have k0:W.drew.cell? ⟨b0,0,none⟩=some (.slice vo ns.length vc):=c0
 have k1:W.drew.cell? ⟨b1,0,none⟩=some (.slice (some ⟨g,0,none⟩) (ns.length+1) pc):=c1
 have k3:W.drew.cell? ⟨b4,0,none⟩=some (.func (.func 77) #[] #[Value.pointer (some ⟨b0,0,none⟩),Value.pointer (some ⟨b3,0,none⟩),Value.pointer (some ⟨b5,0,none⟩),Value.pointer (some ⟨b2,0,none⟩),Value.pointer (some ⟨b1,0,none⟩)]):=c3
 have k4:W.drew.cell? ⟨g,ns.length,none⟩=some (.int .i64 (pn:Nat)):=hpcW
 have hll:(ns.length:Int)<(ns.length:Int)+1:=by omega
 have HLE:=hid hl
 have HST:Hid (∀ _:Unit,Calls Tryz.prog 77 #[.int .i64 0,.int .i64 (ns.length:Nat),.int .i64 (pn:Nat),.pointer (some ⟨b0,0,none⟩),.pointer (some ⟨b3,0,none⟩),.pointer (some ⟨b5,0,none⟩),.pointer (some ⟨b2,0,none⟩),.pointer (some ⟨b1,0,none⟩)] W.drew (fun e w'=>e=.returned (.tuple #[])/\∃ l,EB E w' ([]++l)/\Below E.B W.drew w'/\l.length<=2*(ns.length-0)/\∀ f,ns.length+2-0<=f->stE ns f 0 ns.length pn=l)):=fun _=>by
  have:=zM2 E HEP.out (by rw [e2];exact HT.out) (ns.length+2) W.drew [] 0 ns.length pn (HEB.out.ok ((Ok.refl _).draws 1)) (fun _=>by rw [e2];exact Nat.le_refl _) (fun q _ hq=>by rw [e2];exact (ze6 hq).2) (by omega) HPN.out.2 (by omega) (by simp only [List.length_nil];omega) (by rw [e2];omega)
  unfold ptr at this
  rw [e2,e3,e4,e5,e6,e8] at this
  exact this
 have HCS:Hid (∀ (w2:World) (L:List Ed),EB E w2 L->Below E.B W.drew w2->w2.cell? ⟨b0,0,none⟩=some (.slice vo ns.length vc)/\w2.cell? ⟨b1,0,none⟩=some (.slice (some ⟨g,0,none⟩) (ns.length+1) pc)/\w2.cell? ⟨b4,0,none⟩=some (.func (.func 77) #[] #[Value.pointer (some ⟨b0,0,none⟩),Value.pointer (some ⟨b3,0,none⟩),Value.pointer (some ⟨b5,0,none⟩),Value.pointer (some ⟨b2,0,none⟩),Value.pointer (some ⟨b1,0,none⟩)])/\w2.cell? ⟨g,ns.length,none⟩=some (.int .i64 (pn:Nat))):=fun w2 L hh hb=>by
  obtain ⟨c0,c1,-,c3,-⟩:=hh.cs
  unfold ptr at c3
  rw [e0,e3] at c0
  rw [e1,e4] at c1
  rw [e3,e4,e5,e6,e7,e8] at c3
  exact ⟨c0,c1,c3,(hb.cell (p:=⟨g,ns.length,none⟩) (by rw [e9];exact hgl)).trans k4⟩
 clear hpc hgl hs1 hs2 hs3 h0 h1 h2 h3 h4 h5 hW hE e0 e1 e2 e3 e4 e5 e6 e7 e8 e9 hpn hl
 go_region_held3 (fun w'=>w'.cell? ⟨b0,0,none⟩=some (.slice vo ns.length vc)/\w'.cell? ⟨b1,0,none⟩=some (.slice (some ⟨g,0,none⟩) (ns.length+1) pc)/\w'.cell? ⟨b4,0,none⟩=some (.func (.func 77) #[] #[Value.pointer (some ⟨b0,0,none⟩),Value.pointer (some ⟨b3,0,none⟩),Value.pointer (some ⟨b5,0,none⟩),Value.pointer (some ⟨b2,0,none⟩),Value.pointer (some ⟨b1,0,none⟩)])/\w'.cell? ⟨g,ns.length,none⟩=some (.int .i64 (pn:Nat)))
  (first | (with_reducible exact ⟨k0,k1,k3,k4⟩) | (with_reducible exact ⟨d0,d1,d3,d4⟩) | go_keep)
  (first
  | (go_at_call 77;refine (Calls.mono (HST.out ()) ?_);rintro e w2 ⟨rfl,L,f1,f2,f3,f4⟩;have HF:Hid (EB E w2 L/\Below E.B W.drew w2/\L=elF ns):=⟨by simpa using f1,f2,by unfold elF;rw [<-HPN.out.1];exact (f4 (ns.length+2) (by omega)).symm⟩;clear f1 f2 f3 f4;obtain ⟨d0,d1,d3,d4⟩:=HCS.out w2 L HF.out.1 HF.out.2.1)
  | fail)
 obtain ⟨lv,hbl,hlo⟩:=HF.out.1.l
 have cl:w2.cell? ⟨b2,0,none⟩=some lv:=by rw [HEQ.out.2.2.2.2.2.1] at hbl;exact (cell_of_row _ _ 0 _ _ _ hbl).trans (by simp)
 have ll:b2<w2.heap.size:=by rw [<-HEQ.out.2.2.2.2.2.1];exact za2 hbl
 have HLO:Hid (w2.ownsRow E.B 51 6 lv L.length (edL L)):=hlo
 obtain ⟨lo,lc,rfl⟩:=za0 hlo
 clear hbl hlo
 go_wp2_with fail
 go_ret
 refine ⟨_,rfl,?_,?_⟩
 ·have:=HLO.out
  rw [HF.out.2.2,HEQ.out.2.2.2.2.2.2.2.2.2] at this
  rw [HF.out.2.2]
  exact this
 ·have h1:=HF.out.2.1
  rw [HEQ.out.2.2.2.2.2.2.2.2.2] at h1
  exact (HKW.out.draws 1).trans h1
end
section
open Go.RowKit
theorem zq0 {ns:List Nd} (h0:(readD ns rd0).1=0):(shapeD ns).1=0:=by
 by_cases c:(shapeD ns).1=0
 ·exact c
 ·unfold readD at h0;rw [if_neg c] at h0;exact absurd h0 c
theorem zv1 {ns:List Nd} {l:Ls} (h:goodD ns l=true):(readD ns rd0).1=0:=by
 unfold goodD at h
 rw [Bool.and_eq_true] at h
 exact of_decide_eq_true h.1
theorem zx6 {ns:List Nd} (h:TreeOK ns):∀ n∈ns,0<=n.kind/\n.kind<=15:=by
 intro n hn
 obtain ⟨i,hi,e⟩:=List.mem_iff_getElem.1 hn
 rw [<-e];exact zi1 (h.shp.fit i hi)
theorem Tryz.infoG:(Tryz.prog.info? 46).map (·.size)=some 9:=by kernel_rfl
theorem zB7 {w:World} {g:Nat} {t:TypeId} {a0 a1 a2 a3 a4 a5 a6 a7 a8:Value} (h:w.heap[g]?=some (.cells #[a0,a1,a2,a3,a4,a5,a6,a7,a8] t (0,0))) (b0 b1 b2 b3 b4 b5 b6 b7 b8:Value) :
  (((((((((w.setCell ⟨g,0,none⟩ b0).setCell ⟨g,1,none⟩ b1).setCell ⟨g,2,none⟩ b2).setCell ⟨g,3,none⟩ b3).setCell ⟨g,4,none⟩ b4).setCell ⟨g,5,none⟩ b5).setCell ⟨g,6,none⟩ b6).setCell ⟨g,7,none⟩ b7).setCell ⟨g,8,none⟩ b8).heap[g]?=some (.cells #[b0,b1,b2,b3,b4,b5,b6,b7,b8] t (0,0)):=by
 have h0:=heap_setCell_same w g 0 _ t b0 h
 have h1:=heap_setCell_same _ g 1 _ t b1 h0
 have h2:=heap_setCell_same _ g 2 _ t b2 h1
 have h3:=heap_setCell_same _ g 3 _ t b3 h2
 have h4:=heap_setCell_same _ g 4 _ t b4 h3
 have h5:=heap_setCell_same _ g 5 _ t b5 h4
 have h6:=heap_setCell_same _ g 6 _ t b6 h5
 have h7:=heap_setCell_same _ g 7 _ t b7 h6
 have h8:=heap_setCell_same _ g 8 _ t b8 h7
 simpa using h8
theorem zq1 {B:Nat} {w0 w:World} {g:Nat} (h:Below B w0 w) (hg:B<=g) (b0 b1 b2 b3 b4 b5 b6 b7 b8:Value):Below B w0 (((((((((w.setCell ⟨g,0,none⟩ b0).setCell ⟨g,1,none⟩ b1).setCell ⟨g,2,none⟩ b2).setCell ⟨g,3,none⟩ b3).setCell ⟨g,4,none⟩ b4).setCell ⟨g,5,none⟩ b5).setCell ⟨g,6,none⟩ b6).setCell ⟨g,7,none⟩ b7).setCell ⟨g,8,none⟩ b8) :=
 ((((((((h.setCell (p:=⟨g,0,none⟩) hg b0).setCell (p:=⟨g,1,none⟩) hg b1).setCell (p:=⟨g,2,none⟩) hg b2).setCell (p:=⟨g,3,none⟩) hg b3).setCell (p:=⟨g,4,none⟩) hg b4).setCell (p:=⟨g,5,none⟩) hg b5).setCell (p:=⟨g,6,none⟩) hg b6).setCell (p:=⟨g,7,none⟩) hg b7).setCell (p:=⟨g,8,none⟩) hg b8
theorem zB8 {w:World} {B g:Nat} {e:TypeId} {s n:Nat} {v:Value} {xs:List Value} (h:w.ownsRow B e s v n xs) (hg:∀ b,v.ownBlock=some b->b≠g) (b0 b1 b2 b3 b4 b5 b6 b7 b8:Value):(((((((((w.setCell ⟨g,0,none⟩ b0).setCell ⟨g,1,none⟩ b1).setCell ⟨g,2,none⟩ b2).setCell ⟨g,3,none⟩ b3).setCell ⟨g,4,none⟩ b4).setCell ⟨g,5,none⟩ b5).setCell ⟨g,6,none⟩ b6).setCell ⟨g,7,none⟩ b7).setCell ⟨g,8,none⟩ b8).ownsRow B e s v n xs:=by
 refine zb4 h fun b hb=>?_
 have hne:=hg b hb
 exact (Below.heap_setCell _ ⟨g,8,none⟩ _ b hne).trans ((Below.heap_setCell _ ⟨g,7,none⟩ _ b hne).trans ((Below.heap_setCell _ ⟨g,6,none⟩ _ b hne).trans ((Below.heap_setCell _ ⟨g,5,none⟩ _ b hne).trans ((Below.heap_setCell _ ⟨g,4,none⟩ _ b hne).trans ((Below.heap_setCell _ ⟨g,3,none⟩ _ b hne).trans ((Below.heap_setCell _ ⟨g,2,none⟩ _ b hne).trans ((Below.heap_setCell _ ⟨g,1,none⟩ _ b hne).trans ((Below.heap_setCell _ ⟨g,0,none⟩ _ b hne)))))))))
set_option maxRecDepth 100000 in
theorem yt4 (v0 v1 v2 v3 v4 v5:Value) (ns:List Nd) (l:Ls) (w:World) (hR:RulesIs w) (hS:StepsIs w) (h:ProgIs w v0 v1 v2 v3 v4 v5 ns l) (hg:goodD ns l=true) :
  Calls Tryz.prog 19 #[.agg #[v0,v1,v2,v3,v4,v5]] w fun e w'=>∃ (u:Nat->Value) (ev:Value),e=.returned (.tuple #[.agg #[u 0,u 1,u 2,u 3,u 4,u 5,.int .i64 ((ptF ns ns.length+1:Nat):Int),.int .i64 (ptF ns ns.length:Nat),ev],.int .i64 0])/\Ap u/\PrIs w' w.heap.size u ns (lsOf (readD ns rd0).2.2)/\w'.ownsRow w.heap.size 51 6 ev (elF ns).length (edL (elF ns))/\Ok w w':=by
 have h0:=zv1 hg
 have HT:Hid (TreeOK ns):=zM4 (zq0 h0)
 have HH0:Hid ((readD ns rd0).1=0):=h0
 have HLN:Hid (ns.length<=300):=(zj0 ns h0).2
 have HG:=hid hg
 have HP:=hid h
 have HR:=hid hR
 have HS:=hid hS
 obtain ⟨_,ao,cap,e,_⟩:=h.nodes
 have HV:Hid (v0=.slice ao ns.length cap):=e
 clear h0 hg h hR hS e
 go_enter Tryz.func19,Tryz.ntmps19
 go_wp2_with fail
 obtain ⟨w0,hw0⟩:∃ x,x=(w.alloc (Obj.cells #[v0,v1,v2,v3,v4,v5] 30)).alloc (Obj.cells #[.slice none 0 0,.slice none 0 0,.slice none 0 0,.slice none 0 0,.slice none 0 0,.slice none 0 0,.int .i64 0,.int .i64 0,.slice none 0 0] 46):=⟨_,rfl⟩
 obtain ⟨b1,hb1⟩:∃ x,x=w.heap.size+1:=⟨_,rfl⟩
 obtain ⟨b0,hb0⟩:∃ x,x=w.heap.size:=⟨_,rfl⟩
 rw [<-hw0,<-hb1,<-hb0]
 have HK0:Hid (Ok w w0):=by unfold Hid;rw [hw0];exact ((Ok.refl w).alloc _).alloc _
 have HX0:Hid (Six w0 b0 v0 v1 v2 v3 v4 v5):=by unfold Hid;rw [hw0,hb0];exact (Six.new w _ _ _ _ _ _).below ((Ok.refl _).alloc _)
 have HG0:Hid (w0.heap[b1]?=some (.cells #[.slice none 0 0,.slice none 0 0,.slice none 0 0,.slice none 0 0,.slice none 0 0,.slice none 0 0,.int .i64 0,.int .i64 0,.slice none 0 0] 46 (0,0))):=by unfold Hid;rw [hw0,hb1];exact heap_at _ _ _ (by simp)
 have HB:Hid (b0=w.heap.size/\b1=w.heap.size+1):=⟨hb0,hb1⟩
 have HZ0:Hid (w0.heap.size=w.heap.size+2):=by unfold Hid;rw [hw0];simp
 clear hw0 hb1 hb0
 refine (zN3 v0 v1 v2 v3 v4 v5 ns l w0 (HR.out.below HK0.out) (HP.out.below HK0.out)).mono ?_
 rintro e w1 ⟨rfl,hk1⟩
 rw [HG.out]
 have HK1:Hid (Ok w w1):=HK0.out.step hk1
 have HX1:Hid (Six w1 b0 v0 v1 v2 v3 v4 v5):=HX0.out.below hk1
 have HG1:Hid (w1.heap[b1]?=some (.cells #[.slice none 0 0,.slice none 0 0,.slice none 0 0,.slice none 0 0,.slice none 0 0,.slice none 0 0,.int .i64 0,.int .i64 0,.slice none 0 0] 46 (0,0))):=Ok.row' hk1 HG0.out
 clear hk1 HG0 HX0
 obtain ⟨z1,c0,c1,c2,c3,c4,c5⟩:=HX1.out.pc
 rw [HV.out] at c0
 go_wp2_with fail
 refine (zL8 _ ns w1 (HR.out.below HK1.out) (by have:=(HP.out.below HK1.out).nodes;rw [HV.out] at this;exact this) HH0.out).mono ?_
 rintro e w2 ⟨u,er,rfl,hu,hap,hk2⟩
 have HAP:Hid (Ap u):=hap
 clear hap
 have HK2:Hid (Ok w w2):=HK1.out.step hk2
 have HX2:Hid (Six w2 b0 v0 v1 v2 v3 v4 v5):=HX1.out.below hk2
 have HG2:Hid (w2.heap[b1]?=some (.cells #[.slice none 0 0,.slice none 0 0,.slice none 0 0,.slice none 0 0,.slice none 0 0,.slice none 0 0,.int .i64 0,.int .i64 0,.slice none 0 0] 46 (0,0))):=Ok.row' hk2 HG1.out
 have HU2:Hid (PrIs w2 w1.heap.size u ns (lsOf (readD ns rd0).2.2)):=hu
 have HZ1:Hid (w.heap.size+2<=w1.heap.size):=by have h1:=za2 HG1.out;have h2:=HB.out;unfold Hid;omega
 clear hk2 hu z1 c0 c1 c2 c3 c4 c5 HX1 HG1
 obtain ⟨o0,p0,e0⟩:=za0 (HU2.out 0 (by decide))
 obtain ⟨o1,p1,e1⟩:=za0 (HU2.out 1 (by decide))
 obtain ⟨o2,p2,e2⟩:=za0 (HU2.out 2 (by decide))
 obtain ⟨o3,p3,e3⟩:=za0 (HU2.out 3 (by decide))
 obtain ⟨o4,p4,e4⟩:=za0 (HU2.out 4 (by decide))
 obtain ⟨o5,p5,e5⟩:=za0 (HU2.out 5 (by decide))
 obtain ⟨m,hm⟩:∃ x,x=lsOf (readD ns rd0).2.2:=⟨_,rfl⟩
 have HM:Hid (m=lsOf (readD ns rd0).2.2):=hm
 rw [<-hm] at HU2 e0 e1 e2 e3 e4 e5
 have HE:Hid (u 0=.slice o0 (nOf ns.length m 0) p0/\u 1=.slice o1 (nOf ns.length m 1) p1/\u 2=.slice o2 (nOf ns.length m 2) p2/\u 3=.slice o3 (nOf ns.length m 3) p3/\u 4=.slice o4 (nOf ns.length m 4) p4/\u 5=.slice o5 (nOf ns.length m 5) p5):=⟨e0,e1,e2,e3,e4,e5⟩
 rw [e0,e1,e2,e3,e4,e5]
 obtain ⟨n0,hn0⟩:∃ x,x=nOf ns.length m 0:=⟨_,rfl⟩
 obtain ⟨n1,hn1⟩:∃ x,x=nOf ns.length m 1:=⟨_,rfl⟩
 obtain ⟨n2,hn2⟩:∃ x,x=nOf ns.length m 2:=⟨_,rfl⟩
 obtain ⟨n3,hn3⟩:∃ x,x=nOf ns.length m 3:=⟨_,rfl⟩
 obtain ⟨n4,hn4⟩:∃ x,x=nOf ns.length m 4:=⟨_,rfl⟩
 obtain ⟨n5,hn5⟩:∃ x,x=nOf ns.length m 5:=⟨_,rfl⟩
 rw [<-hn0,<-hn1,<-hn2,<-hn3,<-hn4,<-hn5] at HE ⊢
 clear e0 e1 e2 e3 e4 e5 hm hn0 hn1 hn2 hn3 hn4 hn5
 obtain ⟨z1,c0,c1,c2,c3,c4,c5⟩:=HX2.out.pc
 rw [HV.out] at c0
 go_wp2_with fail
 obtain ⟨w3,hw3⟩:∃ x,x=w2.alloc (Obj.cells #[.slice o0 n0 p0,.slice o1 n1 p1,.slice o2 n2 p2,.slice o3 n3 p3,.slice o4 n4 p4,.slice o5 n5 p5] 30):=⟨_,rfl⟩
 obtain ⟨b4,hb4⟩:∃ x,x=w2.heap.size:=⟨_,rfl⟩
 rw [<-hw3,<-hb4]
 have hk3:Ok w2 w3:=by rw [hw3];exact (Ok.refl _).alloc _
 have HK3:Hid (Ok w w3):=HK2.out.step hk3
 have HX3:Hid (Six w3 b4 (.slice o0 n0 p0) (.slice o1 n1 p1) (.slice o2 n2 p2) (.slice o3 n3 p3) (.slice o4 n4 p4) (.slice o5 n5 p5)):=by unfold Hid;rw [hw3,hb4];exact Six.new _ _ _ _ _ _ _
 have HG3:Hid (w3.heap[b1]?=some (.cells #[.slice none 0 0,.slice none 0 0,.slice none 0 0,.slice none 0 0,.slice none 0 0,.slice none 0 0,.int .i64 0,.int .i64 0,.slice none 0 0] 46 (0,0))):=Ok.row' hk3 HG2.out
 have HU3:Hid (PrIs w3 w1.heap.size u ns m):=fun k hk=>za1 (HU2.out k hk) hk3
 have HNE:Hid (b1<b4):=by have:=za2 HG2.out;unfold Hid;omega
 clear hw3 hb4 hk3 HX2 HG2 HU2 z1 c0 c1 c2 c3 c4 c5
 refine (zU8 _ ns w3 (by have:=(HP.out.below HK3.out).nodes;rw [HV.out] at this;exact this) (by have:=HLN.out;omega) (zx6 HT.out) (HS.out.below HK3.out)).mono ?_
 rintro e w4 ⟨pv,rfl,hpv,hk4⟩
 have HK4:Hid (Ok w w4):=HK3.out.step hk4
 have HX4:Hid (Six w4 b4 (.slice o0 n0 p0) (.slice o1 n1 p1) (.slice o2 n2 p2) (.slice o3 n3 p3) (.slice o4 n4 p4) (.slice o5 n5 p5)):=HX3.out.below hk4
 have HG4:Hid (w4.heap[b1]?=some (.cells #[.slice none 0 0,.slice none 0 0,.slice none 0 0,.slice none 0 0,.slice none 0 0,.slice none 0 0,.int .i64 0,.int .i64 0,.slice none 0 0] 46 (0,0))):=Ok.row' hk4 HG3.out
 have HU4:Hid (PrIs w4 w1.heap.size u ns m):=fun k hk=>za1 (HU3.out k hk) hk4
 have HPV:Hid (w4.ownsRow 0 3 1 pv (ns.length+1) (ptL ns)):=za8 hpv (Nat.zero_le _)
 obtain ⟨g,pc,rfl,_⟩:=hpv.form (by omega)
 have hgl:=(hpv.lt g rfl).2
 obtain ⟨pn,hpn⟩:∃ x,x=ptF ns ns.length:=⟨_,rfl⟩
 have hpc:w4.cell? ⟨g,ns.length,none⟩=some (.int .i64 (pn:Nat)):=by
  have:=hpv.cells (g:=g) rfl ns.length _ (zM0 ns (Nat.le_refl _))
  rw [zc0,Nat.zero_add] at this
  rw [hpn];exact this
 have HPN:Hid (pn=ptF ns ns.length/\pn<=300):=⟨hpn,by rw [hpn];exact Nat.le_trans (zq5 _ _) HLN.out⟩
 have hpw:IntKind.i64.wrap ((pn:Int)+1)=((pn+1:Nat):Int):=zb6 (by have:=HPN.out;omega)
 have hll:(ns.length:Int)<(ns.length:Int)+1:=by omega
 clear hk4 hpv HX3 HG3 HU3 hpn
 go_wp2_with fail
 obtain ⟨y1,y0,y2,y3,y4,y5,y6⟩:=HX4.out.pc
 have nb1:¬b4=b1:=by have:=HNE.out;omega
 have nb2:¬b1=b4:=by have:=HNE.out;omega
 have k0:w4.drew.cell? ⟨b4,0,none⟩=some (.slice o0 n0 p0):=y0
 have k1:w4.drew.cell? ⟨b4,1,none⟩=some (.slice o1 n1 p1):=y2
 have k2:w4.drew.cell? ⟨b4,2,none⟩=some (.slice o2 n2 p2):=y3
 have k3:w4.drew.cell? ⟨b4,3,none⟩=some (.slice o3 n3 p3):=y4
 have k4:w4.drew.cell? ⟨b4,4,none⟩=some (.slice o4 n4 p4):=y5
 have k5:w4.drew.cell? ⟨b4,5,none⟩=some (.slice o5 n5 p5):=y6
 go_region_held3 (fun w'=>w'.cell? ⟨b4,0,none⟩=some (.slice o0 n0 p0)/\w'.cell? ⟨b4,1,none⟩=some (.slice o1 n1 p1)/\w'.cell? ⟨b4,2,none⟩=some (.slice o2 n2 p2)/\w'.cell? ⟨b4,3,none⟩=some (.slice o3 n3 p3)/\w'.cell? ⟨b4,4,none⟩=some (.slice o4 n4 p4)/\w'.cell? ⟨b4,5,none⟩=some (.slice o5 n5 p5))
  (first | (with_reducible exact ⟨k0,k1,k2,k3,k4,k5⟩) | (with_reducible exact ⟨d0,d1,d2,d3,d4,d5⟩) | go_keep)
  (first
  | (go_at_call 41;refine (Calls.mono (yj1 _ _ ns _ (by have:=(HP.out.below (HK4.out.draws 1)).nodes;rw [HV.out] at this;exact this) (za1 HPV.out ((Ok.refl _).draws 1)) (HS.out.below (HK4.out.draws 1)) (zx6 HT.out) (by have:=HLN.out;omega) HT.out.twoIn) ?_);rintro e w5 ⟨ev,rfl,hev,hk5'⟩;have hk5:Ok w4 w5:=Ok.step ((Ok.refl _).draws 1) hk5';have HK5:Hid (Ok w w5):=HK4.out.step hk5;have HX5:Hid (Six w5 b4 (.slice o0 n0 p0) (.slice o1 n1 p1) (.slice o2 n2 p2) (.slice o3 n3 p3) (.slice o4 n4 p4) (.slice o5 n5 p5)):=HX4.out.below hk5;have HG5:Hid (w5.heap[b1]?=some (.cells #[.slice none 0 0,.slice none 0 0,.slice none 0 0,.slice none 0 0,.slice none 0 0,.slice none 0 0,.int .i64 0,.int .i64 0,.slice none 0 0] 46 (0,0))):=Ok.row' hk5 HG4.out;have HU5:Hid (PrIs w5 w1.heap.size u ns m):=fun k hk=>za1 (HU4.out k hk) hk5;have HEV:Hid (w5.ownsRow w4.heap.size 51 6 ev (elF ns).length (edL (elF ns))):=hev;obtain ⟨lo,lc,rfl⟩:=za0 hev;obtain ⟨-,d0,d1,d2,d3,d4,d5⟩:=HX5.out.pc;have r0:w5.cell? ⟨b1,0,none⟩=some (.slice none 0 0):=(cell_of_row _ _ 0 _ _ _ HG5.out).trans (by simp);have r1:w5.cell? ⟨b1,1,none⟩=some (.slice none 0 0):=(cell_of_row _ _ 1 _ _ _ HG5.out).trans (by simp);have r2:w5.cell? ⟨b1,2,none⟩=some (.slice none 0 0):=(cell_of_row _ _ 2 _ _ _ HG5.out).trans (by simp);have r3:w5.cell? ⟨b1,3,none⟩=some (.slice none 0 0):=(cell_of_row _ _ 3 _ _ _ HG5.out).trans (by simp);have r4:w5.cell? ⟨b1,4,none⟩=some (.slice none 0 0):=(cell_of_row _ _ 4 _ _ _ HG5.out).trans (by simp);have r5:w5.cell? ⟨b1,5,none⟩=some (.slice none 0 0):=(cell_of_row _ _ 5 _ _ _ HG5.out).trans (by simp);have r6:w5.cell? ⟨b1,6,none⟩=some (.int .i64 0):=(cell_of_row _ _ 6 _ _ _ HG5.out).trans (by simp);have r7:w5.cell? ⟨b1,7,none⟩=some (.int .i64 0):=(cell_of_row _ _ 7 _ _ _ HG5.out).trans (by simp);have r8:w5.cell? ⟨b1,8,none⟩=some (.slice none 0 0):=(cell_of_row _ _ 8 _ _ _ HG5.out).trans (by simp);have wf:∀ i,w5.frozen? ⟨b1,i,none⟩=false:=fun i=>frozen_of_row _ _ _ _ _ HG5.out;have lg5:=za2 HG5.out;clear hk5 hk5' hev)
  | fail)
 have HNE4:Hid (b1<w4.heap.size):=za2 HG4.out
 go_wp2_with fail
 try simp only [Exit.inBlock,Exit.then]
 refine bodyPost_ret (zc1 rfl _ _ b1 46 _ (0,0) _ rfl (zB7 HG5.out _ _ _ _ _ _ _ _ _) Tryz.underlying46 rfl Tryz.infoG) rfl ?_
 refine ⟨u,.slice lo (elF ns).length lc,?_,HAP.out,?_,?_,?_⟩
 ·obtain ⟨e0,e1,e2,e3,e4,e5⟩:=HE.out
  rw [e0,e1,e2,e3,e4,e5,<-HPN.out.1];rfl
 ·intro k hk
  rw [<-HM.out]
  have hz:=HZ1.out
  have hb:=HB.out
  exact za8 (zB8 (HU5.out k hk) (fun b hbb=>by have:=((HU5.out k hk).lt b hbb).1;omega) _ _ _ _ _ _ _ _ _) (by omega)
 ·have hz:=HNE4.out
  have hb:=HB.out
  exact za8 (zB8 HEV.out (fun b hbb=>by have:=(HEV.out.lt b hbb).1;omega) _ _ _ _ _ _ _ _ _) (by omega)
 ·exact zq1 HK5.out (by have:=HB.out;omega) _ _ _ _ _ _ _ _ _
set_option maxRecDepth 100000 in
theorem yj2 (v0 v1 v2 v3 v4 v5:Value) (ns:List Nd) (l:Ls) (w:World) (hR:RulesIs w) (h:ProgIs w v0 v1 v2 v3 v4 v5 ns l) (hg:goodD ns l=false) :
  Calls Tryz.prog 19 #[.agg #[v0,v1,v2,v3,v4,v5]] w fun e w'=>e=.returned (.tuple #[.agg #[.slice none 0 0,.slice none 0 0,.slice none 0 0,.slice none 0 0,.slice none 0 0,.slice none 0 0,.int .i64 0,.int .i64 0,.slice none 0 0],.int .i64 2])/\Ok w w':=by
 have HG:=hid hg
 have HP:=hid h
 have HR:=hid hR
 clear hg h hR
 go_enter Tryz.func19,Tryz.ntmps19
 go_wp2_with fail
 obtain ⟨w0,hw0⟩:∃ x,x=(w.alloc (Obj.cells #[v0,v1,v2,v3,v4,v5] 30)).alloc (Obj.cells #[.slice none 0 0,.slice none 0 0,.slice none 0 0,.slice none 0 0,.slice none 0 0,.slice none 0 0,.int .i64 0,.int .i64 0,.slice none 0 0] 46):=⟨_,rfl⟩
 obtain ⟨b1,hb1⟩:∃ x,x=w.heap.size+1:=⟨_,rfl⟩
 rw [<-hw0,<-hb1]
 have HK0:Hid (Ok w w0):=by unfold Hid;rw [hw0];exact ((Ok.refl w).alloc _).alloc _
 have HG0:Hid (w0.heap[b1]?=some (.cells #[.slice none 0 0,.slice none 0 0,.slice none 0 0,.slice none 0 0,.slice none 0 0,.slice none 0 0,.int .i64 0,.int .i64 0,.slice none 0 0] 46 (0,0))):=by unfold Hid;rw [hw0,hb1];exact heap_at _ _ _ (by simp)
 have HB:Hid (b1=w.heap.size+1):=hb1
 clear hw0 hb1
 refine (zN3 v0 v1 v2 v3 v4 v5 ns l w0 (HR.out.below HK0.out) (HP.out.below HK0.out)).mono ?_
 rintro e w1 ⟨rfl,hk1⟩
 rw [HG.out]
 have HK1:Hid (Ok w w1):=HK0.out.step hk1
 have HG1:Hid (w1.heap[b1]?=some (.cells #[.slice none 0 0,.slice none 0 0,.slice none 0 0,.slice none 0 0,.slice none 0 0,.slice none 0 0,.int .i64 0,.int .i64 0,.slice none 0 0] 46 (0,0))):=Ok.row' hk1 HG0.out
 clear hk1 HG0
 have r0:w1.cell? ⟨b1,0,none⟩=some (.slice none 0 0):=(cell_of_row _ _ 0 _ _ _ HG1.out).trans (by simp)
 have r1:w1.cell? ⟨b1,1,none⟩=some (.slice none 0 0):=(cell_of_row _ _ 1 _ _ _ HG1.out).trans (by simp)
 have r2:w1.cell? ⟨b1,2,none⟩=some (.slice none 0 0):=(cell_of_row _ _ 2 _ _ _ HG1.out).trans (by simp)
 have r3:w1.cell? ⟨b1,3,none⟩=some (.slice none 0 0):=(cell_of_row _ _ 3 _ _ _ HG1.out).trans (by simp)
 have r4:w1.cell? ⟨b1,4,none⟩=some (.slice none 0 0):=(cell_of_row _ _ 4 _ _ _ HG1.out).trans (by simp)
 have r5:w1.cell? ⟨b1,5,none⟩=some (.slice none 0 0):=(cell_of_row _ _ 5 _ _ _ HG1.out).trans (by simp)
 have r6:w1.cell? ⟨b1,6,none⟩=some (.int .i64 0):=(cell_of_row _ _ 6 _ _ _ HG1.out).trans (by simp)
 have r7:w1.cell? ⟨b1,7,none⟩=some (.int .i64 0):=(cell_of_row _ _ 7 _ _ _ HG1.out).trans (by simp)
 have r8:w1.cell? ⟨b1,8,none⟩=some (.slice none 0 0):=(cell_of_row _ _ 8 _ _ _ HG1.out).trans (by simp)
 have wf:∀ i,w1.frozen? ⟨b1,i,none⟩=false:=fun i=>frozen_of_row _ _ _ _ _ HG1.out
 have lg1:=za2 HG1.out
 go_wp2_with fail
 try simp only [Exit.inBlock,Exit.then]
 refine bodyPost_ret (zc1 rfl _ _ b1 46 _ (0,0) _ rfl (zB7 HG1.out _ _ _ _ _ _ _ _ _) Tryz.underlying46 rfl Tryz.infoG) rfl ?_
 exact ⟨rfl,zq1 HK1.out (by have:=HB.out;omega) _ _ _ _ _ _ _ _ _⟩
end
end Go.Proofs.YtenoopfeplalnaaGreatDoor
