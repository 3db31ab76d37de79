import Derived.Deep.RegionLaw
import Derived.Test.YtgobgdljckamkaaGreatDoorKQf
import Derived.Test.YtgobgdljckamkaaGreatDoorKRc
set_option linter.unusedVariables false
set_option linter.unusedSimpArgs false
set_option linter.unnecessarySimpa false
namespace Go.Proofs.YtgobgdljckamkaaGreatDoor
section
open Go.RowKit
def ptE (ns:List Nd) (f q nx:Nat):List Ed :=
 if kdA ns q=7∨kdA ns q=8 then
  chE ns q nx++(stE ns f (endF ns (q+1)+1) (endF ns (endF ns (q+1))) (if kdA ns q=8 then ptF ns q else nx)++stE ns f (endF ns (endF ns (q+1))+1) (endF ns q) nx)
 else if 2≤kdA ns q∧kdA ns q≤6 then [⟨ptF ns q,nx,kdA ns q-2,q,false,false⟩]
 else []
theorem yc3 {ns:List Nd} {f q en fol:Nat} (h:q<en):stE ns (f+1) q en fol=ptE ns f q (bgF ns (endF ns q) en fol)++stE ns f (endF ns q) en fol:=by
 rw [stE,if_pos h];rfl
def StSem (ns:List Nd) (p en fol:Nat) (l:List Ed) (q:Nat):Prop:=∀ f,ns.length+2-p≤f→∃ f',ns.length+2-q≤f'∧stE ns f p en fol=l++stE ns f' q en fol
theorem StSem.start (ns:List Nd) (p en fol:Nat):StSem ns p en fol [] p:=fun f hf=>⟨f,hf,rfl⟩
theorem StSem.fin {ns:List Nd} {p en fol q:Nat} {l:List Ed} (h:StSem ns p en fol l q) (hq:¬q<en):∀ f,ns.length+2-p≤f→stE ns f p en fol=l:=by
 intro f hf;obtain ⟨f',_,e⟩:=h f hf;rw [e,zj8 hq,List.append_nil]
theorem StSem.step {ns:List Nd} {p en fol q:Nat} {l l2:List Ed} (h:StSem ns p en fol l q) (hq:q<en) (hql:q<ns.length) (hp:∀ f,ns.length+2-q≤f+1→ptE ns f q (bgF ns (endF ns q) en fol)=l2):StSem ns p en fol (l++l2) (endF ns q):=by
 intro f hf
 obtain ⟨f',h1,e⟩:=h f hf
 obtain ⟨f2,rfl⟩:∃ f2,f'=f2+1:=⟨f'-1,by omega⟩
 have hlo:q<endF ns q:=by unfold endF;omega
 refine ⟨f2,by omega,?_⟩
 rw [e,yc3 hq,hp f2 (by omega),List.append_assoc]
theorem yh5 {E:EP} {w3 W:World} {es:List Ed} {lv:Value} (e1:Ed) (hE:EPok E) (H3:EB E w3 es) (hl:w3.heap[E.bl]?=some (.cells #[lv] 40 (0,0))) (ho:w3.ownsRow E.B 53 6 lv es.length (edL es)) (hkW:Ok w3 W) (v9:Value) (w9:World) (k1:w9.ownsRow E.B 53 6 v9 (es.length+1) (edL es++edV e1)) (k2:W.grownBy w9 lv.ownBlock) :
  EB E (w9.setCell ⟨E.bl,0,none⟩ v9) (es++[e1])∧Below E.B w3 (w9.setCell ⟨E.bl,0,none⟩ v9)∧w9.heap[E.bl]?=some (.cells #[lv] 40 (0,0)):=by
 have hBl:=hE.lo.2.2.1
 have hlt:=za3 hl
 have h1:=za1 ho hkW
 have HW:=H3.ok hkW
 have hlW:=hkW.row' hl
 have hx:=EB.more (es2:=[e1]) HW hE hlW h1 k2 (by rw [zU6];exact k1)
 exact ⟨hx.1,(Below.mono hkW (by omega)).trans hx.2,keepT h1 k2 hlW (by decide)⟩
theorem yc4 {k:Nat} (h:k<16):((decide (2≤k)&&decide (k≤8))=true∧opT.getD k 0=5∧(k=7∨k=8))∨((decide (2≤k)&&decide (k≤8))=true∧(opT.getD k 0==5)=false∧opT.getD k 0=(k:Int)-2∧2≤k∧k≤6)∨((decide (2≤k)&&decide (k≤8))=false∧opT.getD k 0=0∧(k<2∨8<k)):=by
 have:∀ j:Fin 16,((decide (2≤(j:Nat))&&decide ((j:Nat)≤8))=true∧opT.getD j 0=5∧((j:Nat)=7∨(j:Nat)=8))∨((decide (2≤(j:Nat))&&decide ((j:Nat)≤8))=true∧(opT.getD j 0==5)=false∧opT.getD j 0=((j:Nat):Int)-2∧2≤(j:Nat)∧(j:Nat)≤6)∨((decide (2≤(j:Nat))&&decide ((j:Nat)≤8))=false∧opT.getD j 0=0∧((j:Nat)<2∨8<(j:Nat))):=by decide
 exact this ⟨k,h⟩
set_option maxRecDepth 100000 in
set_option maxHeartbeats 4000000 in
theorem zE6 (E:EP) (hE:EPok E) (hT:TwoIn E.ns) (m:Nat):StretchOK E m:=by
 induction m using Nat.strongRecOn with
 | ind m ih =>
 intro w es p en fol h hen hin hp3 hf3 he3 hl hm
 unfold ptr
 have H:Hid (EB E w es):=h
 have HE:=hid hE
 have HT:=hid hT
 have HS:Hid (∀ k,k<m→StretchOK E k):=ih
 have HB:Hid (p≤3000∧fol≤1000∧en≤3000∧es.length+2*(en-p)≤100000∧E.ns.length+2-p≤m∧E.ns.length≤1000):=⟨hp3,hf3,he3,hl,hm,hE.len⟩
 have HEN:Hid (p<en→en≤E.ns.length):=hen
 have HIN:Hid (∀ q,p≤q→q<en→endF E.ns q≤en):=hin
 obtain ⟨_,vo,vc,hv,_⟩:=h.nd
 have HV:Hid (E.v=.slice vo E.ns.length vc):=hv
 clear h hE hT ih hen hin hp3 hf3 he3 hl hm hv
 go_enter Tryz.func41,Tryz.ntmps41
 go_wp2_with fail
 go_loopw [11] (fun t wr=>∃ (q:Nat) (l:List Ed),t=.int .i64 (q:Nat)∧p≤q∧(q≤en∨q=p)∧Hid (EB E wr (es++l))∧Hid (Below E.B w wr)∧Hid (l.length≤2*(q-p))∧Hid (StSem E.ns p en fol l q)) (fun t _=>en-(intOf t).toNat)
 case atStart=>exact ⟨p,[],rfl,Nat.le_refl _,.inr rfl,by rw [List.append_nil];exact H.out,Below.refl _ _,Nat.zero_le _,StSem.start _ _ _ _⟩
 case round =>
  obtain ⟨q,l,rfl,hpq,hqe,HR,HBW,HL,HSM⟩:=hrel
  by_cases hq:q<en
  rotate_left
  ·have hq':¬(q:Int)<(en:Int):=za9 hq
   go_wp2_with fail
   go_end0
   refine ⟨rfl,l,HR.out,HBW.out,?_,fun f hf=>HSM.out.fin hq f (by omega)⟩
   have:=HL.out;omega
  have hq':(q:Int)<(en:Int):=za4 hq
  have hql:q<E.ns.length:=by have:=HEN.out (by omega);omega
  obtain ⟨qe,hqe2⟩:∃ x,x=endF E.ns q:=⟨_,rfl⟩
  have HQE:Hid (qe=endF E.ns q∧q<qe∧qe≤en):=⟨hqe2,by rw [hqe2];unfold endF;omega,by rw [hqe2];exact HIN.out q hpq hq⟩
  have HQL:Hid (q<E.ns.length∧en≤E.ns.length∧p≤q∧q<en):=⟨hql,HEN.out (by omega),hpq,hq⟩
  obtain ⟨nx,hnx⟩:∃ x,x=bgF E.ns qe en fol:=⟨_,rfl⟩
  have HNX:Hid (nx=bgF E.ns qe en fol∧nx≤1000):=⟨hnx,by rw [hnx];exact yk1 (by have:=HB.out;omega) (by have:=HB.out;omega)⟩
  clear hqe2 hnx
  obtain ⟨c0,-,c2,-,-⟩:=HR.out.cs
  rw [HV.out] at c0
  unfold ptr at c2
  have l0:=za3 HR.out.t
  have l2:=za3 HR.out.b
  have k0:wr.drew.cell? ⟨E.bt,0,none⟩=some (.slice vo E.ns.length vc):=c0
  have k2:wr.drew.cell? ⟨E.bb,0,none⟩=some (.func (.func 38) #[] #[.pointer (some ⟨E.bp,0,none⟩)]):=c2
  go_wp2_with fail
  go_region_held3 (fun w'=>w'.cell? ⟨E.bt,0,none⟩=some (.slice vo E.ns.length vc)∧w'.cell? ⟨E.bb,0,none⟩=some (.func (.func 38) #[] #[.pointer (some ⟨E.bp,0,none⟩)]))
   (first | (with_reducible exact ⟨k0,k2⟩) | (with_reducible exact ⟨d0,d2⟩) | go_keep)
   (first
   | (go_at_call 40;refine (Calls.mono (zj7 _ E.ns q _ (by have:=(HR.out.ok ((Ok.refl _).draws 1)).nd;rw [HV.out] at this;exact this) (by have:=HB.out;omega) (by have:=HB.out;omega)) ?_);rintro e w2 ⟨rfl,hk2⟩;have H2:Hid (EB E w2 (es++l)):=HR.out.ok (Ok.step (by repeat (first | exact Ok.refl _ | refine Below.drew ?_)) hk2);have HK2:Hid (Ok wr w2):=Ok.step (by repeat (first | exact Ok.refl _ | refine Below.drew ?_)) hk2;rw [←HQE.out.1];obtain ⟨d0,-,d2,-,-⟩:=H2.out.cs;rw [HV.out] at d0;unfold ptr at d2;clear hk2)
   | (go_at_call 38;refine (Calls.mono (zk8 E _ (es++l) qe en fol H2.out (fun _=>by have:=HQL.out;have:=HQE.out;omega)) ?_);rintro e w3 ⟨rfl,hk3⟩;have H3:Hid (EB E w3 (es++l)):=H2.out.ok hk3;have HK3:Hid (Ok wr w3):=HK2.out.step hk3;rw [←HNX.out.1];obtain ⟨d0,-,d2,-,-⟩:=H3.out.cs;rw [HV.out] at d0;unfold ptr at d2;clear hk3)
   | fail)
  clear c0 c2 k0 k2 l0 l2 d0 d2 H2 HK2
  obtain ⟨c0,-,-,-,-⟩:=H3.out.cs
  rw [HV.out] at c0
  have l0:=za3 H3.out.t
  obtain ⟨np,hnp⟩:∃ n,E.ns[q]?=some n:=⟨_,List.getElem?_eq_getElem HQL.out.1⟩
  have HNP:Hid (E.ns[q]?=some np):=hnp
  obtain ⟨hk0,hk15⟩:=HE.out.kind np (List.mem_of_getElem? hnp)
  obtain ⟨kd,hkd⟩:∃ k:Nat,np.kind=(k:Int):=⟨np.kind.toNat,(Int.toNat_of_nonneg hk0).symm⟩
  have hk16:kd<16:=by omega
  have hk16':(kd:Int)<16:=by omega
  have HKD:Hid (kdA E.ns q=(kd:Int)):=by unfold Hid kdA;rw [hnp];exact hkd
  obtain ⟨_,vo',vc',e1,_,_,hN⟩:=H3.out.nd
  rw [HV.out] at e1
  injection e1 with e1 e2 e3;clear e2
  subst e1 e3
  obtain ⟨b,o,rfl,N1⟩:=hN.resolve_left (fun e=>by have:=HQL.out.1;rw [e] at this;simp at this)
  obtain ⟨-,m1,-,-,-,-⟩:=N1.get HNP.out
  rw [hkd] at m1
  have lb:=N1.lt
  have hqll:(q:Int)<(E.ns.length:Int):=za4 HQL.out.1
  have s0:=H3.out.st.made kd hk16
  have s1:=H3.out.st.op kd hk16
  have lst:=H3.out.st.lt
  obtain ⟨mb,hmb⟩:∃ x,x=(decide (2≤kd)&&decide (kd≤8)):=⟨_,rfl⟩
  obtain ⟨ov,hov⟩:∃ x,x=opT.getD kd 0:=⟨_,rfl⟩
  have HOP:=yc4 hk16
  rw [←hmb,←hov] at HOP
  rw [←hmb] at s0
  rw [←hov] at s1
  have HO:Hid _:=HOP
  clear hN N1 hnp hkd hmb hov HOP hk0 hk15 hpq hqe hq hql
  rcases HO.out with ⟨hm1,hv1,hkk⟩ | ⟨hm1,hv1,hv2,hkk⟩ | ⟨hm1,hv1,hkk⟩
  ·subst hm1 hv1
   have HKK:Hid (kdA E.ns q=7∨kdA E.ns q=8):=by unfold Hid;rw [HKD.out];omega
   clear hkk
   obtain ⟨-,-,-,-,c4⟩:=H3.out.cs
   unfold ptr at c4
   have l4:=za3 H3.out.c
   go_wp2_with (first
    | (go_at_call 39;refine (Calls.mono (zM0 E HE.out HT.out m HS.out _ (es++l) q nx (H3.out.ok ((Ok.refl _).alloc _)) HQL.out.1 HKK.out HNX.out.2 (by have h1:=HB.out;have h2:=HL.out;have h3:=HQE.out;have h4:=HQL.out;rw [List.length_append,←HQE.out.1];omega) (by have h1:=HB.out;have h4:=HQL.out;omega)) ?_);rintro e wf ⟨rfl,L2,f1,f2,f3,f4⟩;have HF:Hid (EB E wf (es++(l++L2))∧Below E.B w wf∧L2.length≤2*(qe-q)∧StSem E.ns p en fol (l++L2) (endF E.ns q)):=⟨by rw [←List.append_assoc];exact f1,HBW.out.trans ((Below.mono (HK3.out.alloc _) (by have h1:=HE.out.lo.1;have h2:=za3 HR.out.t;omega)).trans f2),by rw [HQE.out.1];exact f3,HSM.out.step HQL.out.2.2.2 HQL.out.1 (fun f hf=>by unfold ptE;rw [if_pos HKK.out,←HQE.out.1,←HNX.out.1,HQE.out.1];exact f4 f (by omega))⟩;clear f1 f2 f3 f4 c4 l4 c0 l0 s0 s1 lst lb m1;obtain ⟨d0,-,-,-,-⟩:=HF.out.1.cs;rw [HV.out] at d0;have dl:=za3 HF.out.1.t)
    | (go_at_call 40;refine (zj7 _ E.ns q _ (by have:=HF.out.1.nd;rw [HV.out] at this;exact this) (by have:=HE.out.len;omega) (by have:=HB.out;omega)).mono ?_;rintro e w9 ⟨rfl,hk9⟩;have H9:Hid (Ok wf w9):=hk9;rw [←HQE.out.1];clear hk9)
    | fail)
   go_roundw
   case rel=>exact ⟨qe,l++L2,rfl,by have h1:=HQE.out;have h2:=HQL.out;omega,.inl HQE.out.2.2,HF.out.1.ok H9.out,HF.out.2.1.trans (Below.mono H9.out (by have h1:=HE.out.lo.1;have h2:=za3 HF.out.1.t;omega)),by have h1:=HF.out.2.2.1;have h2:=HQE.out;have h3:=HL.out;have h4:=HQL.out;unfold Hid;rw [List.length_append];omega,by have:=HF.out.2.2.2;rw [←HQE.out.1] at this;exact this⟩
   case measure=>have h1:=HQE.out;have h2:=HQL.out;simp only [intOf,Int.toNat_natCast];omega
  ·subst hm1
   have HKK:Hid (¬(kdA E.ns q=7∨kdA E.ns q=8)∧(2≤kdA E.ns q∧kdA E.ns q≤6)∧ov=kdA E.ns q-2):=by unfold Hid;rw [HKD.out];exact ⟨by omega,⟨by omega,by omega⟩,hv2⟩
   clear hkk hv2
   go_wp2_with fail
   obtain ⟨gs,hgs⟩:∃ x,x=w3.heap.size:=⟨_,rfl⟩
   obtain ⟨w4,hw4⟩:∃ x,x=w3.alloc (Obj.cells #[Value.bool true,Value.int IntKind.i64 ov] 75):=⟨_,rfl⟩
   have HK4:Hid (Ok w3 w4):=by unfold Hid;rw [hw4];exact (Ok.refl _).alloc _
   have r4:w4.heap[gs]?=some (.cells #[Value.bool true,Value.int IntKind.i64 ov] 75 (0,0)):=by rw [hw4,hgs];exact za6 _ _
   rw [←hw4,←hgs]
   have H4:Hid (EB E w4 (es++l)):=H3.out.ok HK4.out
   have HG4:Hid (w3.heap.size≤gs):=by unfold Hid;omega
   clear hw4 hgs c0 l0 s0 s1 lst lb m1
   have x1:w4.cell? ⟨gs,1,none⟩=some (.int .i64 ov):=(cell_of_row _ _ 1 _ _ _ r4).trans (by simp)
   have lgs:=za3 r4
   obtain ⟨-,c1,-,-,-⟩:=H4.out.cs
   have l1:=za3 H4.out.p
   obtain ⟨g,pc,hpv,hgl,hpt⟩:=H4.out.point
   rw [hpv] at c1
   have r0:=hpt q (Nat.le_of_lt HQL.out.1)
   obtain ⟨qp,hqp⟩:∃ x,x=ptF E.ns q:=⟨_,rfl⟩
   rw [←hqp] at r0
   have HQP:Hid (qp=ptF E.ns q):=hqp
   have hq1:(q:Int)<(E.ns.length:Int)+1:=by omega
   obtain ⟨lv,hbl,hlo⟩:=H4.out.l
   obtain ⟨lo,lc,rfl⟩:=za0 hlo
   have cl:w4.cell? ⟨E.bl,0,none⟩=some (.slice lo (es++l).length lc):=(cell_of_row _ _ 0 _ _ _ hbl).trans (by simp)
   have ll:=za3 hbl
   have HLO:Hid (w4.heap[E.bl]?=some (.cells #[.slice lo (es++l).length lc] 40 (0,0))∧w4.ownsRow E.B 53 6 (.slice lo (es++l).length lc) (es++l).length (edL (es++l))):=⟨hbl,hlo⟩
   obtain ⟨nn,hnn⟩:∃ x,x=(es++l).length:=⟨_,rfl⟩
   have HNN:Hid (nn=(es++l).length∧nn≤100000):=⟨hnn,by rw [hnn,List.length_append];have h1:=HB.out;have h2:=HL.out;have h4:=HQL.out;omega⟩
   obtain ⟨i0,hi0,hy0,hy1,hy2⟩:=ze5 infEd
   have H63:Hid (nn+1≤maxLen):=by have:=HNN.out.2;unfold Hid maxLen;omega
   have HLby:Hid ((nn+1)*40≤140737488355328):=by have:=HNN.out.2;unfold Hid;omega
   have HAP:Hid (∀ W,Ok w4 W→∀ v9 w9,w9.ownsRow E.B 53 6 v9 ((es++l).length+1) (edL (es++l)++edV ⟨(qp:Nat),(nx:Nat),ov,(q:Nat),false,false⟩)→W.grownBy w9 (Value.slice lo (es++l).length lc).ownBlock→EB E (w9.setCell ⟨E.bl,0,none⟩ v9) ((es++l)++[⟨(qp:Nat),(nx:Nat),ov,(q:Nat),false,false⟩])∧Below E.B w4 (w9.setCell ⟨E.bl,0,none⟩ v9)∧w9.heap[E.bl]?=some (.cells #[.slice lo (es++l).length lc] 40 (0,0))):=fun W hW v9 w9 k1 k2=>yh5 _ HE.out H4.out hbl hlo hW v9 w9 k1 k2
   rw [←hnn] at cl HLO HAP
   have HBS:Hid (E.B≤w4.heap.size):=by have h1:=HE.out.lo.1;have h2:=za3 H4.out.t;unfold Hid;omega
   clear hbl hlo hqp hpt hpv hnn
   have HV6:Hid (∀ u∈edV ⟨(qp:Nat),(nx:Nat),ov,(q:Nat),false,false⟩,u.oneCell'=true):=by unfold Hid;intro u hu;exact zq0 [_] u (by rw [zU6];exact hu)
   go_region_law (refine step_append_lies _ (by rfl) _ _ _ (by rfl) E.B 53 i0 _ 6 40 Tryz.underlying40 hi0 hy0 hy1 hy2 rfl (by decide) _ nn (edL (es++l)) (by rfl) (za1 HLO.out.2 (by repeat (first | exact Ok.refl _ | refine Ok.alloc ?_ _ | refine Below.drew ?_))) ⟨w4.heap.size,0,none⟩ 1 1 (edV ⟨(qp:Nat),(nx:Nat),ov,(q:Nat),false,false⟩) (by rfl) (by rfl) (by intro j u hj;exact zw1 (za6 _ _) j u hj) HV6.out (by decide) H63.out HLby.out (by have hb:=HBS.out;first | (simp;omega) | (simp only [heap_drew,World.alloc];simp;omega)) (w4.heap.size+1) (by simp) ?_;intro gg capg w5 hown hgrow hat hlt;obtain ⟨D1,D2,D3⟩:=HAP.out _ (by repeat (first | exact Ok.refl _ | refine Ok.alloc ?_ _ | refine Below.drew ?_)) _ w5 hown hgrow;have HD:Hid (EB E (w5.setCell ⟨E.bl,0,none⟩ (.slice (some ⟨gg,0,none⟩) (nn+1) capg)) ((es++l)++[⟨(qp:Nat),(nx:Nat),ov,(q:Nat),false,false⟩])∧Below E.B w4 (w5.setCell ⟨E.bl,0,none⟩ (.slice (some ⟨gg,0,none⟩) (nn+1) capg))):=⟨D1,D2⟩;have cl5:w5.cell? ⟨E.bl,0,none⟩=some (.slice lo nn lc):=(cell_of_row _ _ 0 _ _ _ D3).trans (by simp);have zl5:w5.frozen? ⟨E.bl,0,none⟩=false:=frozen_of_row _ _ _ _ _ D3;have ll5:=za3 D3;clear D1 D2 D3 hown hgrow hat hlt)
   all_goals
    obtain ⟨wf,hwf⟩:∃ x,x=w5.setCell ⟨E.bl,0,none⟩ (.slice (some ⟨gg,0,none⟩) (nn+1) capg):=⟨_,rfl⟩
    rw [←hwf]
    have HF:Hid (EB E wf (es++(l++[⟨(qp:Nat),(nx:Nat),ov,(q:Nat),false,false⟩]))∧Below E.B w wf∧([⟨(qp:Nat),(nx:Nat),ov,(q:Nat),false,false⟩]:List Ed).length≤2*(qe-q)∧StSem E.ns p en fol (l++[⟨(qp:Nat),(nx:Nat),ov,(q:Nat),false,false⟩]) (endF E.ns q)):=⟨by rw [hwf,←List.append_assoc];exact HD.out.1,by rw [hwf];exact HBW.out.trans ((Below.mono (HK3.out.step HK4.out) (by have h1:=HE.out.lo.1;have h2:=za3 HR.out.t;omega)).trans HD.out.2),by have:=HQE.out;simp only [List.length_cons,List.length_nil];omega,HSM.out.step HQL.out.2.2.2 HQL.out.1 (fun f hf=>by unfold ptE;rw [if_neg HKK.out.1,if_pos HKK.out.2.1,←HQE.out.1,←HNX.out.1,HQP.out,HKK.out.2.2])⟩
    clear hwf HD HAP HLO cl5 zl5 ll5 c1 r0 cl ll x1 lgs
    obtain ⟨d0,-,-,-,-⟩:=HF.out.1.cs;rw [HV.out] at d0;have dl:=za3 HF.out.1.t
    go_wp2_with (first
     | (go_at_call 40;refine (zj7 _ E.ns q _ (by have:=HF.out.1.nd;rw [HV.out] at this;exact this) (by have:=HE.out.len;omega) (by have:=HB.out;omega)).mono ?_;rintro e w9 ⟨rfl,hk9⟩;have H9:Hid (Ok wf w9):=hk9;rw [←HQE.out.1];clear hk9)
     | fail)
    go_roundw
    case rel=>exact ⟨qe,l++[(⟨(qp:Nat),(nx:Nat),ov,(q:Nat),false,false⟩:Ed)],rfl,by have h1:=HQE.out;have h2:=HQL.out;omega,.inl HQE.out.2.2,HF.out.1.ok H9.out,HF.out.2.1.trans (Below.mono H9.out (by have h1:=HE.out.lo.1;have h2:=za3 HF.out.1.t;omega)),by have h1:=HF.out.2.2.1;have h2:=HQE.out;have h3:=HL.out;have h4:=HQL.out;unfold Hid;rw [List.length_append];omega,by have:=HF.out.2.2.2;rw [←HQE.out.1] at this;exact this⟩
    case measure=>have h1:=HQE.out;have h2:=HQL.out;simp only [intOf,Int.toNat_natCast];omega
  ·subst hm1 hv1
   have HKK:Hid (¬(kdA E.ns q=7∨kdA E.ns q=8)∧¬(2≤kdA E.ns q∧kdA E.ns q≤6)):=by unfold Hid;rw [HKD.out];exact ⟨by omega,by omega⟩
   clear hkk
   obtain ⟨wf,hwf⟩:∃ x,x=w3.alloc (Obj.cells #[Value.bool false,Value.int IntKind.i64 0] 75):=⟨_,rfl⟩
   have HKF:Hid (Ok wr wf):=by unfold Hid;rw [hwf];exact HK3.out.alloc _
   have HF:Hid (EB E wf (es++(l++[]))∧Below E.B w wf∧([]:List Ed).length≤2*(qe-q)∧StSem E.ns p en fol (l++[]) (endF E.ns q)):=⟨by rw [List.append_nil];exact HR.out.ok HKF.out,HBW.out.trans (Below.mono HKF.out (by have h1:=HE.out.lo.1;have h2:=za3 HR.out.t;omega)),Nat.zero_le _,HSM.out.step HQL.out.2.2.2 HQL.out.1 (fun f hf=>by unfold ptE;rw [if_neg HKK.out.1,if_neg HKK.out.2])⟩
   go_wp2_with fail
   rw [←hwf]
   clear hwf
   refine (zj7 _ E.ns q _ (by have:=HF.out.1.nd;rw [HV.out] at this;exact this) (by have:=HE.out.len;omega) (by have:=HB.out;omega)).mono ?_;rintro e w9 ⟨rfl,hk9⟩;have H9:Hid (Ok wf w9):=hk9;rw [←HQE.out.1];clear hk9
   go_wp2_with fail
   go_roundw
   case rel=>exact ⟨qe,l++[],rfl,by have h1:=HQE.out;have h2:=HQL.out;omega,.inl HQE.out.2.2,HF.out.1.ok H9.out,HF.out.2.1.trans (Below.mono H9.out (by have h1:=HE.out.lo.1;have h2:=za3 HF.out.1.t;omega)),by have h1:=HF.out.2.2.1;have h2:=HQE.out;have h3:=HL.out;have h4:=HQL.out;unfold Hid;rw [List.length_append];omega,by have:=HF.out.2.2.2;rw [←HQE.out.1] at this;exact this⟩
   case measure=>have h1:=HQE.out;have h2:=HQL.out;simp only [intOf,Int.toNat_natCast];omega
end
section
open Go.RowKit
set_option maxRecDepth 100000 in
set_option maxHeartbeats 4000000 in
theorem zV0 (v pv:Value) (ns:List Nd) (w:World) (h:SNds w v ns) (hpt:w.ownsRow 0 3 1 pv (ns.length+1) (ptL ns)) (hS:StepsIs w) (hk:∀ n∈ns,0≤n.kind∧n.kind≤15) (hl:ns.length≤1000) (hT:TwoIn ns) :
  Calls Tryz.prog 22 #[v,pv] w fun e w'=>∃ lv,e=.returned lv∧w'.ownsRow w.heap.size 53 6 lv (elF ns).length (edL (elF ns))∧Ok w w':=by
 have HN:=hid h
 have HPT:=hid hpt
 have HS:=hid hS
 have HKD:=hid hk
 have HT:=hid hT
 obtain ⟨_,vo,vc,rfl,_⟩:=h
 obtain ⟨g,pc,rfl,_⟩:=hpt.form (by omega)
 have hgl:=(hpt.lt g rfl).2
 have hpc:w.cell? ⟨g,ns.length,none⟩=some (.int .i64 (ptF ns ns.length:Nat)):=by
  have:=hpt.cells (g:=g) rfl ns.length _ (zx5 ns (Nat.le_refl _))
  rw [zc0,Nat.zero_add] at this
  exact this
 have hs1:=fun a c w=>run_store Tryz.prog w a (.func (.func 38) #[] c) .plain rfl
 have hs2:=fun a c w=>run_store Tryz.prog w a (.func (.func 39) #[] c) .plain rfl
 have hs3:=fun a c w=>run_store Tryz.prog w a (.func (.func 41) #[] c) .plain rfl
 clear hpt hS hk hT
 go_enter Tryz.func22,Tryz.ntmps22
 go_wp2_with fail
 obtain ⟨b5,h5⟩:∃ x,x=w.heap.size+1+1+1+1+1:=⟨_,rfl⟩
 obtain ⟨b4,h4⟩:∃ x,x=w.heap.size+1+1+1+1:=⟨_,rfl⟩
 obtain ⟨b3,h3⟩:∃ x,x=w.heap.size+1+1+1:=⟨_,rfl⟩
 obtain ⟨b2,h2⟩:∃ x,x=w.heap.size+1+1:=⟨_,rfl⟩
 obtain ⟨b1,h1⟩:∃ x,x=w.heap.size+1:=⟨_,rfl⟩
 obtain ⟨b0,h0⟩:∃ x,x=w.heap.size:=⟨_,rfl⟩
 rw [←h5,←h4,←h3,←h2,←h1,←h0]
 obtain ⟨W,hW⟩:∃ x,x=(((((w.alloc (Obj.cells #[Value.slice vo ns.length vc] 64)).alloc (Obj.cells #[Value.slice (some ⟨g,0,none⟩) (ns.length+1) pc] 25)).alloc (Obj.cells #[Value.slice none 0 0] 40)).alloc (Obj.cells #[Value.func (Fn.func 38) #[] #[Value.pointer (some ⟨b1,0,none⟩)]] 95)).alloc (Obj.cells #[Value.func (Fn.func 41) #[] #[Value.pointer (some ⟨b0,0,none⟩),Value.pointer (some ⟨b3,0,none⟩),Value.pointer (some ⟨b5,0,none⟩),Value.pointer (some ⟨b2,0,none⟩),Value.pointer (some ⟨b1,0,none⟩)]] 96)).alloc (Obj.cells #[Value.func (Fn.func 39) #[] #[Value.pointer (some ⟨b0,0,none⟩),Value.pointer (some ⟨b1,0,none⟩),Value.pointer (some ⟨b3,0,none⟩),Value.pointer (some ⟨b2,0,none⟩),Value.pointer (some ⟨b4,0,none⟩)]] 98):=⟨_,rfl⟩
 rw [←hW]
 have HKW:Hid (Ok w W):=by unfold Hid;rw [hW];exact ((((((Ok.refl w).alloc _).alloc _).alloc _).alloc _).alloc _).alloc _
 have HB:Hid (b0=w.heap.size∧b1=w.heap.size+1∧b2=w.heap.size+2∧b3=w.heap.size+3∧b4=w.heap.size+4∧b5=w.heap.size+5):=⟨h0,h1,h2,h3,h4,h5⟩
 obtain ⟨E,hE⟩:∃ E:EP,E=⟨.slice vo ns.length vc,.slice (some ⟨g,0,none⟩) (ns.length+1) pc,ns,b0,b1,b2,b3,b4,b5,w.heap.size⟩:=⟨_,rfl⟩
 have HEB:Hid (EB E W []):=by
  unfold Hid
  rw [hE]
  refine ⟨?_,?_,?_,?_,?_,⟨.slice none 0 0,?_,World.ownsRow_nil _ _ _ _⟩,HN.out.below HKW.out,za1 HPT.out HKW.out,HS.out.below HKW.out⟩
  ·rw [hW,h0];exact (by repeat (first|(refine zd0 _ _ _ ?hx;case hx=>(first|(simp;done)|(simp;omega)))|(refine zd3 _ _ _ ?hy ?_;case hy=>(first|(simp;done)|(simp;omega)))|fail))
  ·rw [hW,h1];exact (by repeat (first|(refine zd0 _ _ _ ?hx;case hx=>(first|(simp;done)|(simp;omega)))|(refine zd3 _ _ _ ?hy ?_;case hy=>(first|(simp;done)|(simp;omega)))|fail))
  ·rw [hW,h3];unfold ptr;exact (by repeat (first|(refine zd0 _ _ _ ?hx;case hx=>(first|(simp;done)|(simp;omega)))|(refine zd3 _ _ _ ?hy ?_;case hy=>(first|(simp;done)|(simp;omega)))|fail))
  ·rw [hW,h4];unfold ptr;exact (by repeat (first|(refine zd0 _ _ _ ?hx;case hx=>(first|(simp;done)|(simp;omega)))|(refine zd3 _ _ _ ?hy ?_;case hy=>(first|(simp;done)|(simp;omega)))|fail))
  ·rw [hW,h5];unfold ptr;exact (by repeat (first|(refine zd0 _ _ _ ?hx;case hx=>(first|(simp;done)|(simp;omega)))|(refine zd3 _ _ _ ?hy ?_;case hy=>(first|(simp;done)|(simp;omega)))|fail))
  ·rw [hW,h2];exact (by repeat (first|(refine zd0 _ _ _ ?hx;case hx=>(first|(simp;done)|(simp;omega)))|(refine zd3 _ _ _ ?hy ?_;case hy=>(first|(simp;done)|(simp;omega)))|fail))
 have HEP:Hid (EPok E):=by
  unfold Hid
  rw [hE]
  refine ⟨hl,HKD.out,⟨by dsimp only;omega,by dsimp only;omega,by dsimp only;omega,by dsimp only;omega,by dsimp only;omega,by dsimp only;omega⟩,⟨by dsimp only;omega,by dsimp only;omega,by dsimp only;omega,by dsimp only;omega,by dsimp only;omega⟩,fun b o n c e hne=>?_,fun b hb=>?_,HS.out.lt⟩
  ·dsimp only at e hne ⊢
   obtain ⟨_,ao,cp,e2,_,_,hk⟩:=HN.out
   obtain ⟨b',o',rfl,N1⟩:=hk.resolve_left hne
   rw [e] at e2
   injection e2 with e3
   injection e3 with e4
   injection e4 with e5
   have:=N1.lt
   omega
  ·have e5:g=b:=Option.some.inj hb
   dsimp only;omega
 have HEQ:Hid (E.v=.slice vo ns.length vc∧E.pv=.slice (some ⟨g,0,none⟩) (ns.length+1) pc∧E.ns=ns∧E.bt=b0∧E.bp=b1∧E.bl=b2∧E.bb=b3∧E.bs=b4∧E.bc=b5∧E.B=w.heap.size):=by unfold Hid;rw [hE];exact ⟨rfl,rfl,rfl,rfl,rfl,rfl,rfl,rfl,rfl,rfl⟩
 obtain ⟨c0,c1,-,c3,-⟩:=HEB.out.cs
 have l0:=za3 HEB.out.t
 have l1:=za3 HEB.out.p
 have l4:=za3 HEB.out.s
 obtain ⟨e0,e1,e2,e3,e4,e5,e6,e7,e8,e9⟩:=HEQ.out
 unfold ptr at c3
 rw [e0,e3] at c0
 rw [e1,e4] at c1
 rw [e3,e4,e5,e6,e7,e8] at c3
 rw [e3] at l0
 rw [e4] at l1
 rw [e7] at l4
 have hpcW:W.cell? ⟨g,ns.length,none⟩=some (.int .i64 (ptF ns ns.length:Nat)):=HKW.out.cell (p:=⟨g,ns.length,none⟩) hgl hpc
 have hgW:g<W.heap.size:=Nat.lt_of_lt_of_le hgl HKW.out.le
 obtain ⟨pn,hpn⟩:∃ x,x=ptF ns ns.length:=⟨_,rfl⟩
 have HPN:Hid (pn=ptF ns ns.length∧pn≤1000):=⟨hpn,by rw [hpn];exact Nat.le_trans (zn3 _ _) hl⟩
 rw [←hpn] at hpcW
 have k0:W.drew.cell? ⟨b0,0,none⟩=some (.slice vo ns.length vc):=c0
 have k1:W.drew.cell? ⟨b1,0,none⟩=some (.slice (some ⟨g,0,none⟩) (ns.length+1) pc):=c1
 have k3:W.drew.cell? ⟨b4,0,none⟩=some (.func (.func 41) #[] #[Value.pointer (some ⟨b0,0,none⟩),Value.pointer (some ⟨b3,0,none⟩),Value.pointer (some ⟨b5,0,none⟩),Value.pointer (some ⟨b2,0,none⟩),Value.pointer (some ⟨b1,0,none⟩)]):=c3
 have k4:W.drew.cell? ⟨g,ns.length,none⟩=some (.int .i64 (pn:Nat)):=hpcW
 have hll:(ns.length:Int)<(ns.length:Int)+1:=by omega
 have HLE:=hid hl
 have HST:Hid (∀ _:Unit,Calls Tryz.prog 41 #[.int .i64 0,.int .i64 (ns.length:Nat),.int .i64 (pn:Nat),.pointer (some ⟨b0,0,none⟩),.pointer (some ⟨b3,0,none⟩),.pointer (some ⟨b5,0,none⟩),.pointer (some ⟨b2,0,none⟩),.pointer (some ⟨b1,0,none⟩)] W.drew (fun e w'=>e=.returned (.tuple #[])∧∃ l,EB E w' ([]++l)∧Below E.B W.drew w'∧l.length≤2*(ns.length-0)∧∀ f,ns.length+2-0≤f→stE ns f 0 ns.length pn=l)):=fun _=>by
  have:=zE6 E HEP.out (by rw [e2];exact HT.out) (ns.length+2) W.drew [] 0 ns.length pn (HEB.out.ok ((Ok.refl _).draws 1)) (fun _=>by rw [e2];exact Nat.le_refl _) (fun q _ hq=>by rw [e2];exact (ze4 hq).2) (by omega) HPN.out.2 (by omega) (by simp only [List.length_nil];omega) (by rw [e2];omega)
  unfold ptr at this
  rw [e2,e3,e4,e5,e6,e8] at this
  exact this
 have HCS:Hid (∀ (w2:World) (L:List Ed),EB E w2 L→Below E.B W.drew w2→w2.cell? ⟨b0,0,none⟩=some (.slice vo ns.length vc)∧w2.cell? ⟨b1,0,none⟩=some (.slice (some ⟨g,0,none⟩) (ns.length+1) pc)∧w2.cell? ⟨b4,0,none⟩=some (.func (.func 41) #[] #[Value.pointer (some ⟨b0,0,none⟩),Value.pointer (some ⟨b3,0,none⟩),Value.pointer (some ⟨b5,0,none⟩),Value.pointer (some ⟨b2,0,none⟩),Value.pointer (some ⟨b1,0,none⟩)])∧w2.cell? ⟨g,ns.length,none⟩=some (.int .i64 (pn:Nat))):=fun w2 L hh hb=>by
  obtain ⟨c0,c1,-,c3,-⟩:=hh.cs
  unfold ptr at c3
  rw [e0,e3] at c0
  rw [e1,e4] at c1
  rw [e3,e4,e5,e6,e7,e8] at c3
  exact ⟨c0,c1,c3,(hb.cell (p:=⟨g,ns.length,none⟩) (by rw [e9];exact hgl)).trans k4⟩
 clear hpc hgl hs1 hs2 hs3 h0 h1 h2 h3 h4 h5 hW hE e0 e1 e2 e3 e4 e5 e6 e7 e8 e9 hpn hl
 go_region_held3 (fun w'=>w'.cell? ⟨b0,0,none⟩=some (.slice vo ns.length vc)∧w'.cell? ⟨b1,0,none⟩=some (.slice (some ⟨g,0,none⟩) (ns.length+1) pc)∧w'.cell? ⟨b4,0,none⟩=some (.func (.func 41) #[] #[Value.pointer (some ⟨b0,0,none⟩),Value.pointer (some ⟨b3,0,none⟩),Value.pointer (some ⟨b5,0,none⟩),Value.pointer (some ⟨b2,0,none⟩),Value.pointer (some ⟨b1,0,none⟩)])∧w'.cell? ⟨g,ns.length,none⟩=some (.int .i64 (pn:Nat)))
  (first | (with_reducible exact ⟨k0,k1,k3,k4⟩) | (with_reducible exact ⟨d0,d1,d3,d4⟩) | go_keep)
  (first
  | (go_at_call 41;refine (Calls.mono (HST.out ()) ?_);rintro e w2 ⟨rfl,L,f1,f2,f3,f4⟩;have HF:Hid (EB E w2 L∧Below E.B W.drew w2∧L=elF ns):=⟨by simpa using f1,f2,by unfold elF;rw [←HPN.out.1];exact (f4 (ns.length+2) (by omega)).symm⟩;clear f1 f2 f3 f4;obtain ⟨d0,d1,d3,d4⟩:=HCS.out w2 L HF.out.1 HF.out.2.1)
  | fail)
 obtain ⟨lv,hbl,hlo⟩:=HF.out.1.l
 have cl:w2.cell? ⟨b2,0,none⟩=some lv:=by rw [HEQ.out.2.2.2.2.2.1] at hbl;exact (cell_of_row _ _ 0 _ _ _ hbl).trans (by simp)
 have ll:b2<w2.heap.size:=by rw [←HEQ.out.2.2.2.2.2.1];exact za3 hbl
 have HLO:Hid (w2.ownsRow E.B 53 6 lv L.length (edL L)):=hlo
 obtain ⟨lo,lc,rfl⟩:=za0 hlo
 clear hbl hlo
 go_wp2_with fail
 go_ret
 refine ⟨_,rfl,?_,?_⟩
 ·have:=HLO.out
  rw [HF.out.2.2,HEQ.out.2.2.2.2.2.2.2.2.2] at this
  rw [HF.out.2.2]
  exact this
 ·have h1:=HF.out.2.1
  rw [HEQ.out.2.2.2.2.2.2.2.2.2] at h1
  exact (HKW.out.draws 1).trans h1
end
end Go.Proofs.YtgobgdljckamkaaGreatDoor
