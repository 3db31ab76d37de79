import Derived.Test.YtgobgdljckamkaaGreatDoorKPm
import Derived.Test.YtgobgdljckamkaaGreatDoorKQh
set_option linter.unusedVariables false
set_option linter.unusedSimpArgs false
set_option linter.unnecessarySimpa false
namespace Go.Proofs.YtgobgdljckamkaaGreatDoor
section
open Go.RowKit
theorem zj2 {ns:List Nd} (h0:(readD ns rd0).1=0):(shapeD ns).1=0:=by
 by_cases c:(shapeD ns).1=0
 ·exact c
 ·unfold readD at h0;rw [if_neg c] at h0;exact absurd h0 c
theorem zn4 {ns:List Nd} {l:Ls} (h:goodD ns l=true):(readD ns rd0).1=0:=by
 unfold goodD at h
 rw [Bool.and_eq_true] at h
 exact of_decide_eq_true h.1
theorem zl6 {ns:List Nd} (h:TreeOK ns):∀ n∈ns,0≤n.kind∧n.kind≤15:=by
 intro n hn
 obtain ⟨i,hi,e⟩:=List.mem_iff_getElem.1 hn
 rw [←e];exact zh8 (h.shp.fit i hi)
theorem Tryz.infoG:(Tryz.prog.info? 42).map (·.size)=some 9:=by kernel_rfl
theorem zn5 {w:World} {g:Nat} {t:TypeId} {a0 a1 a2 a3 a4 a5 a6 a7 a8:Value} (h:w.heap[g]?=some (.cells #[a0,a1,a2,a3,a4,a5,a6,a7,a8] t (0,0))) (b0 b1 b2 b3 b4 b5 b6 b7 b8:Value) :
  (((((((((w.setCell ⟨g,0,none⟩ b0).setCell ⟨g,1,none⟩ b1).setCell ⟨g,2,none⟩ b2).setCell ⟨g,3,none⟩ b3).setCell ⟨g,4,none⟩ b4).setCell ⟨g,5,none⟩ b5).setCell ⟨g,6,none⟩ b6).setCell ⟨g,7,none⟩ b7).setCell ⟨g,8,none⟩ b8).heap[g]?=some (.cells #[b0,b1,b2,b3,b4,b5,b6,b7,b8] t (0,0)):=by
 have h0:=heap_setCell_same w g 0 _ t b0 h
 have h1:=heap_setCell_same _ g 1 _ t b1 h0
 have h2:=heap_setCell_same _ g 2 _ t b2 h1
 have h3:=heap_setCell_same _ g 3 _ t b3 h2
 have h4:=heap_setCell_same _ g 4 _ t b4 h3
 have h5:=heap_setCell_same _ g 5 _ t b5 h4
 have h6:=heap_setCell_same _ g 6 _ t b6 h5
 have h7:=heap_setCell_same _ g 7 _ t b7 h6
 have h8:=heap_setCell_same _ g 8 _ t b8 h7
 simpa using h8
theorem zl7 {B:Nat} {w0 w:World} {g:Nat} (h:Below B w0 w) (hg:B≤g) (b0 b1 b2 b3 b4 b5 b6 b7 b8:Value):Below B w0 (((((((((w.setCell ⟨g,0,none⟩ b0).setCell ⟨g,1,none⟩ b1).setCell ⟨g,2,none⟩ b2).setCell ⟨g,3,none⟩ b3).setCell ⟨g,4,none⟩ b4).setCell ⟨g,5,none⟩ b5).setCell ⟨g,6,none⟩ b6).setCell ⟨g,7,none⟩ b7).setCell ⟨g,8,none⟩ b8) :=
 ((((((((h.setCell (p:=⟨g,0,none⟩) hg b0).setCell (p:=⟨g,1,none⟩) hg b1).setCell (p:=⟨g,2,none⟩) hg b2).setCell (p:=⟨g,3,none⟩) hg b3).setCell (p:=⟨g,4,none⟩) hg b4).setCell (p:=⟨g,5,none⟩) hg b5).setCell (p:=⟨g,6,none⟩) hg b6).setCell (p:=⟨g,7,none⟩) hg b7).setCell (p:=⟨g,8,none⟩) hg b8
theorem zx6 {w:World} {B g:Nat} {e:TypeId} {s n:Nat} {v:Value} {xs:List Value} (h:w.ownsRow B e s v n xs) (hg:∀ b,v.ownBlock=some b→b≠g) (b0 b1 b2 b3 b4 b5 b6 b7 b8:Value):(((((((((w.setCell ⟨g,0,none⟩ b0).setCell ⟨g,1,none⟩ b1).setCell ⟨g,2,none⟩ b2).setCell ⟨g,3,none⟩ b3).setCell ⟨g,4,none⟩ b4).setCell ⟨g,5,none⟩ b5).setCell ⟨g,6,none⟩ b6).setCell ⟨g,7,none⟩ b7).setCell ⟨g,8,none⟩ b8).ownsRow B e s v n xs:=by
 refine zd2 h fun b hb=>?_
 have hne:=hg b hb
 exact (Below.heap_setCell _ ⟨g,8,none⟩ _ b hne).trans ((Below.heap_setCell _ ⟨g,7,none⟩ _ b hne).trans ((Below.heap_setCell _ ⟨g,6,none⟩ _ b hne).trans ((Below.heap_setCell _ ⟨g,5,none⟩ _ b hne).trans ((Below.heap_setCell _ ⟨g,4,none⟩ _ b hne).trans ((Below.heap_setCell _ ⟨g,3,none⟩ _ b hne).trans ((Below.heap_setCell _ ⟨g,2,none⟩ _ b hne).trans ((Below.heap_setCell _ ⟨g,1,none⟩ _ b hne).trans ((Below.heap_setCell _ ⟨g,0,none⟩ _ b hne)))))))))
set_option maxRecDepth 100000 in
set_option maxHeartbeats 4000000 in
theorem yc5 (v0 v1 v2 v3 v4 v5:Value) (ns:List Nd) (l:Ls) (w:World) (hR:RulesIs w) (hS:StepsIs w) (h:ProgIs w v0 v1 v2 v3 v4 v5 ns l) (hg:goodD ns l=true) :
  Calls Tryz.prog 9 #[.agg #[v0,v1,v2,v3,v4,v5]] w fun e w'=>∃ (u:Nat→Value) (ev:Value),e=.returned (.tuple #[.agg #[u 0,u 1,u 2,u 3,u 4,u 5,.int .i64 ((ptF ns ns.length+1:Nat):Int),.int .i64 (ptF ns ns.length:Nat),ev],.int .i64 0])∧Ap u∧PrIs w' w.heap.size u ns (lsOf (readD ns rd0).2.2)∧w'.ownsRow w.heap.size 53 6 ev (elF ns).length (edL (elF ns))∧Ok w w':=by
 have h0:=zn4 hg
 have HT:Hid (TreeOK ns):=zs8 (zj2 h0)
 have HH0:Hid ((readD ns rd0).1=0):=h0
 have HLN:Hid (ns.length≤300):=(zg4 ns h0).2
 have HG:=hid hg
 have HP:=hid h
 have HR:=hid hR
 have HS:=hid hS
 obtain ⟨_,ao,cap,e,_⟩:=h.nodes
 have HV:Hid (v0=.slice ao ns.length cap):=e
 clear h0 hg h hR hS e
 go_enter Tryz.func9,Tryz.ntmps9
 go_wp2_with fail
 obtain ⟨w0,hw0⟩:∃ x,x=(w.alloc (Obj.cells #[v0,v1,v2,v3,v4,v5] 27)).alloc (Obj.cells #[.slice none 0 0,.slice none 0 0,.slice none 0 0,.slice none 0 0,.slice none 0 0,.slice none 0 0,.int .i64 0,.int .i64 0,.slice none 0 0] 42):=⟨_,rfl⟩
 obtain ⟨b1,hb1⟩:∃ x,x=w.heap.size+1:=⟨_,rfl⟩
 obtain ⟨b0,hb0⟩:∃ x,x=w.heap.size:=⟨_,rfl⟩
 rw [←hw0,←hb1,←hb0]
 have HK0:Hid (Ok w w0):=by unfold Hid;rw [hw0];exact ((Ok.refl w).alloc _).alloc _
 have HX0:Hid (Six w0 b0 v0 v1 v2 v3 v4 v5):=by unfold Hid;rw [hw0,hb0];exact (Six.new w _ _ _ _ _ _).below ((Ok.refl _).alloc _)
 have HG0:Hid (w0.heap[b1]?=some (.cells #[.slice none 0 0,.slice none 0 0,.slice none 0 0,.slice none 0 0,.slice none 0 0,.slice none 0 0,.int .i64 0,.int .i64 0,.slice none 0 0] 42 (0,0))):=by unfold Hid;rw [hw0,hb1];exact zd0 _ _ _ (by simp)
 have HB:Hid (b0=w.heap.size∧b1=w.heap.size+1):=⟨hb0,hb1⟩
 have HZ0:Hid (w0.heap.size=w.heap.size+2):=by unfold Hid;rw [hw0];simp
 clear hw0 hb1 hb0
 refine (zv1 v0 v1 v2 v3 v4 v5 ns l w0 (HR.out.below HK0.out) (HP.out.below HK0.out)).mono ?_
 rintro e w1 ⟨rfl,hk1⟩
 rw [HG.out]
 have HK1:Hid (Ok w w1):=HK0.out.step hk1
 have HX1:Hid (Six w1 b0 v0 v1 v2 v3 v4 v5):=HX0.out.below hk1
 have HG1:Hid (w1.heap[b1]?=some (.cells #[.slice none 0 0,.slice none 0 0,.slice none 0 0,.slice none 0 0,.slice none 0 0,.slice none 0 0,.int .i64 0,.int .i64 0,.slice none 0 0] 42 (0,0))):=Ok.row' hk1 HG0.out
 clear hk1 HG0 HX0
 obtain ⟨z1,c0,c1,c2,c3,c4,c5⟩:=HX1.out.pc
 rw [HV.out] at c0
 go_wp2_with fail
 refine (zE3 _ ns w1 (HR.out.below HK1.out) (by have:=(HP.out.below HK1.out).nodes;rw [HV.out] at this;exact this) HH0.out).mono ?_
 rintro e w2 ⟨u,er,rfl,hu,hap,hk2⟩
 have HAP:Hid (Ap u):=hap
 clear hap
 have HK2:Hid (Ok w w2):=HK1.out.step hk2
 have HX2:Hid (Six w2 b0 v0 v1 v2 v3 v4 v5):=HX1.out.below hk2
 have HG2:Hid (w2.heap[b1]?=some (.cells #[.slice none 0 0,.slice none 0 0,.slice none 0 0,.slice none 0 0,.slice none 0 0,.slice none 0 0,.int .i64 0,.int .i64 0,.slice none 0 0] 42 (0,0))):=Ok.row' hk2 HG1.out
 have HU2:Hid (PrIs w2 w1.heap.size u ns (lsOf (readD ns rd0).2.2)):=hu
 have HZ1:Hid (w.heap.size+2≤w1.heap.size):=by have h1:=za3 HG1.out;have h2:=HB.out;unfold Hid;omega
 clear hk2 hu z1 c0 c1 c2 c3 c4 c5 HX1 HG1
 obtain ⟨o0,p0,e0⟩:=za0 (HU2.out 0 (by decide))
 obtain ⟨o1,p1,e1⟩:=za0 (HU2.out 1 (by decide))
 obtain ⟨o2,p2,e2⟩:=za0 (HU2.out 2 (by decide))
 obtain ⟨o3,p3,e3⟩:=za0 (HU2.out 3 (by decide))
 obtain ⟨o4,p4,e4⟩:=za0 (HU2.out 4 (by decide))
 obtain ⟨o5,p5,e5⟩:=za0 (HU2.out 5 (by decide))
 obtain ⟨m,hm⟩:∃ x,x=lsOf (readD ns rd0).2.2:=⟨_,rfl⟩
 have HM:Hid (m=lsOf (readD ns rd0).2.2):=hm
 rw [←hm] at HU2 e0 e1 e2 e3 e4 e5
 have HE:Hid (u 0=.slice o0 (nOf ns.length m 0) p0∧u 1=.slice o1 (nOf ns.length m 1) p1∧u 2=.slice o2 (nOf ns.length m 2) p2∧u 3=.slice o3 (nOf ns.length m 3) p3∧u 4=.slice o4 (nOf ns.length m 4) p4∧u 5=.slice o5 (nOf ns.length m 5) p5):=⟨e0,e1,e2,e3,e4,e5⟩
 rw [e0,e1,e2,e3,e4,e5]
 obtain ⟨n0,hn0⟩:∃ x,x=nOf ns.length m 0:=⟨_,rfl⟩
 obtain ⟨n1,hn1⟩:∃ x,x=nOf ns.length m 1:=⟨_,rfl⟩
 obtain ⟨n2,hn2⟩:∃ x,x=nOf ns.length m 2:=⟨_,rfl⟩
 obtain ⟨n3,hn3⟩:∃ x,x=nOf ns.length m 3:=⟨_,rfl⟩
 obtain ⟨n4,hn4⟩:∃ x,x=nOf ns.length m 4:=⟨_,rfl⟩
 obtain ⟨n5,hn5⟩:∃ x,x=nOf ns.length m 5:=⟨_,rfl⟩
 rw [←hn0,←hn1,←hn2,←hn3,←hn4,←hn5] at HE ⊢
 clear e0 e1 e2 e3 e4 e5 hm hn0 hn1 hn2 hn3 hn4 hn5
 obtain ⟨z1,c0,c1,c2,c3,c4,c5⟩:=HX2.out.pc
 rw [HV.out] at c0
 go_wp2_with fail
 obtain ⟨w3,hw3⟩:∃ x,x=w2.alloc (Obj.cells #[Value.slice o0 n0 p0,Value.slice o1 n1 p1,Value.slice o2 n2 p2,Value.slice o3 n3 p3,Value.slice o4 n4 p4,Value.slice o5 n5 p5] 27):=⟨_,rfl⟩
 obtain ⟨b4,hb4⟩:∃ x,x=w2.heap.size:=⟨_,rfl⟩
 rw [←hw3,←hb4]
 have hk3:Ok w2 w3:=by rw [hw3];exact (Ok.refl _).alloc _
 have HK3:Hid (Ok w w3):=HK2.out.step hk3
 have HX3:Hid (Six w3 b4 (.slice o0 n0 p0) (.slice o1 n1 p1) (.slice o2 n2 p2) (.slice o3 n3 p3) (.slice o4 n4 p4) (.slice o5 n5 p5)):=by unfold Hid;rw [hw3,hb4];exact Six.new _ _ _ _ _ _ _
 have HG3:Hid (w3.heap[b1]?=some (.cells #[.slice none 0 0,.slice none 0 0,.slice none 0 0,.slice none 0 0,.slice none 0 0,.slice none 0 0,.int .i64 0,.int .i64 0,.slice none 0 0] 42 (0,0))):=Ok.row' hk3 HG2.out
 have HU3:Hid (PrIs w3 w1.heap.size u ns m):=fun k hk=>za1 (HU2.out k hk) hk3
 have HNE:Hid (b1<b4):=by have:=za3 HG2.out;unfold Hid;omega
 clear hw3 hb4 hk3 HX2 HG2 HU2 z1 c0 c1 c2 c3 c4 c5
 refine (zu1 _ ns w3 (by have:=(HP.out.below HK3.out).nodes;rw [HV.out] at this;exact this) (by have:=HLN.out;omega) (zl6 HT.out) (HS.out.below HK3.out)).mono ?_
 rintro e w4 ⟨pv,rfl,hpv,hk4⟩
 have HK4:Hid (Ok w w4):=HK3.out.step hk4
 have HX4:Hid (Six w4 b4 (.slice o0 n0 p0) (.slice o1 n1 p1) (.slice o2 n2 p2) (.slice o3 n3 p3) (.slice o4 n4 p4) (.slice o5 n5 p5)):=HX3.out.below hk4
 have HG4:Hid (w4.heap[b1]?=some (.cells #[.slice none 0 0,.slice none 0 0,.slice none 0 0,.slice none 0 0,.slice none 0 0,.slice none 0 0,.int .i64 0,.int .i64 0,.slice none 0 0] 42 (0,0))):=Ok.row' hk4 HG3.out
 have HU4:Hid (PrIs w4 w1.heap.size u ns m):=fun k hk=>za1 (HU3.out k hk) hk4
 have HPV:Hid (w4.ownsRow 0 3 1 pv (ns.length+1) (ptL ns)):=za7 hpv (Nat.zero_le _)
 obtain ⟨g,pc,rfl,_⟩:=hpv.form (by omega)
 have hgl:=(hpv.lt g rfl).2
 obtain ⟨pn,hpn⟩:∃ x,x=ptF ns ns.length:=⟨_,rfl⟩
 have hpc:w4.cell? ⟨g,ns.length,none⟩=some (.int .i64 (pn:Nat)):=by
  have:=hpv.cells (g:=g) rfl ns.length _ (zx5 ns (Nat.le_refl _))
  rw [zc0,Nat.zero_add] at this
  rw [hpn];exact this
 have HPN:Hid (pn=ptF ns ns.length∧pn≤300):=⟨hpn,by rw [hpn];exact Nat.le_trans (zn3 _ _) HLN.out⟩
 have hpw:IntKind.i64.wrap ((pn:Int)+1)=((pn+1:Nat):Int):=zb0 (by have:=HPN.out;omega)
 have hll:(ns.length:Int)<(ns.length:Int)+1:=by omega
 clear hk4 hpv HX3 HG3 HU3 hpn
 go_wp2_with fail
 obtain ⟨y1,y0,y2,y3,y4,y5,y6⟩:=HX4.out.pc
 have nb1:¬b4=b1:=by have:=HNE.out;omega
 have nb2:¬b1=b4:=by have:=HNE.out;omega
 have k0:w4.drew.cell? ⟨b4,0,none⟩=some (.slice o0 n0 p0):=y0
 have k1:w4.drew.cell? ⟨b4,1,none⟩=some (.slice o1 n1 p1):=y2
 have k2:w4.drew.cell? ⟨b4,2,none⟩=some (.slice o2 n2 p2):=y3
 have k3:w4.drew.cell? ⟨b4,3,none⟩=some (.slice o3 n3 p3):=y4
 have k4:w4.drew.cell? ⟨b4,4,none⟩=some (.slice o4 n4 p4):=y5
 have k5:w4.drew.cell? ⟨b4,5,none⟩=some (.slice o5 n5 p5):=y6
 go_region_held3 (fun w'=>w'.cell? ⟨b4,0,none⟩=some (.slice o0 n0 p0)∧w'.cell? ⟨b4,1,none⟩=some (.slice o1 n1 p1)∧w'.cell? ⟨b4,2,none⟩=some (.slice o2 n2 p2)∧w'.cell? ⟨b4,3,none⟩=some (.slice o3 n3 p3)∧w'.cell? ⟨b4,4,none⟩=some (.slice o4 n4 p4)∧w'.cell? ⟨b4,5,none⟩=some (.slice o5 n5 p5))
  (first | (with_reducible exact ⟨k0,k1,k2,k3,k4,k5⟩) | (with_reducible exact ⟨d0,d1,d2,d3,d4,d5⟩) | go_keep)
  (first
  | (go_at_call 22;refine (Calls.mono (zV0 _ _ ns _ (by have:=(HP.out.below (HK4.out.draws 1)).nodes;rw [HV.out] at this;exact this) (za1 HPV.out ((Ok.refl _).draws 1)) (HS.out.below (HK4.out.draws 1)) (zl6 HT.out) (by have:=HLN.out;omega) HT.out.twoIn) ?_);rintro e w5 ⟨ev,rfl,hev,hk5'⟩;have hk5:Ok w4 w5:=Ok.step ((Ok.refl _).draws 1) hk5';have HK5:Hid (Ok w w5):=HK4.out.step hk5;have HX5:Hid (Six w5 b4 (.slice o0 n0 p0) (.slice o1 n1 p1) (.slice o2 n2 p2) (.slice o3 n3 p3) (.slice o4 n4 p4) (.slice o5 n5 p5)):=HX4.out.below hk5;have HG5:Hid (w5.heap[b1]?=some (.cells #[.slice none 0 0,.slice none 0 0,.slice none 0 0,.slice none 0 0,.slice none 0 0,.slice none 0 0,.int .i64 0,.int .i64 0,.slice none 0 0] 42 (0,0))):=Ok.row' hk5 HG4.out;have HU5:Hid (PrIs w5 w1.heap.size u ns m):=fun k hk=>za1 (HU4.out k hk) hk5;have HEV:Hid (w5.ownsRow w4.heap.size 53 6 ev (elF ns).length (edL (elF ns))):=hev;obtain ⟨lo,lc,rfl⟩:=za0 hev;obtain ⟨-,d0,d1,d2,d3,d4,d5⟩:=HX5.out.pc;have r0:w5.cell? ⟨b1,0,none⟩=some (.slice none 0 0):=(cell_of_row _ _ 0 _ _ _ HG5.out).trans (by simp);have r1:w5.cell? ⟨b1,1,none⟩=some (.slice none 0 0):=(cell_of_row _ _ 1 _ _ _ HG5.out).trans (by simp);have r2:w5.cell? ⟨b1,2,none⟩=some (.slice none 0 0):=(cell_of_row _ _ 2 _ _ _ HG5.out).trans (by simp);have r3:w5.cell? ⟨b1,3,none⟩=some (.slice none 0 0):=(cell_of_row _ _ 3 _ _ _ HG5.out).trans (by simp);have r4:w5.cell? ⟨b1,4,none⟩=some (.slice none 0 0):=(cell_of_row _ _ 4 _ _ _ HG5.out).trans (by simp);have r5:w5.cell? ⟨b1,5,none⟩=some (.slice none 0 0):=(cell_of_row _ _ 5 _ _ _ HG5.out).trans (by simp);have r6:w5.cell? ⟨b1,6,none⟩=some (.int .i64 0):=(cell_of_row _ _ 6 _ _ _ HG5.out).trans (by simp);have r7:w5.cell? ⟨b1,7,none⟩=some (.int .i64 0):=(cell_of_row _ _ 7 _ _ _ HG5.out).trans (by simp);have r8:w5.cell? ⟨b1,8,none⟩=some (.slice none 0 0):=(cell_of_row _ _ 8 _ _ _ HG5.out).trans (by simp);have wf:∀ i,w5.frozen? ⟨b1,i,none⟩=false:=fun i=>frozen_of_row _ _ _ _ _ HG5.out;have lg5:=za3 HG5.out;clear hk5 hk5' hev)
  | fail)
 have HNE4:Hid (b1<w4.heap.size):=za3 HG4.out
 go_wp2_with fail
 try simp only [Exit.inBlock,Exit.then]
 refine bodyPost_ret (zc6 rfl _ _ b1 42 _ (0,0) _ rfl (zn5 HG5.out _ _ _ _ _ _ _ _ _) Tryz.underlying42 rfl Tryz.infoG) rfl ?_
 refine ⟨u,.slice lo (elF ns).length lc,?_,HAP.out,?_,?_,?_⟩
 ·obtain ⟨e0,e1,e2,e3,e4,e5⟩:=HE.out
  rw [e0,e1,e2,e3,e4,e5,←HPN.out.1];rfl
 ·intro k hk
  rw [←HM.out]
  have hz:=HZ1.out
  have hb:=HB.out
  exact za7 (zx6 (HU5.out k hk) (fun b hbb=>by have:=((HU5.out k hk).lt b hbb).1;omega) _ _ _ _ _ _ _ _ _) (by omega)
 ·have hz:=HNE4.out
  have hb:=HB.out
  exact za7 (zx6 HEV.out (fun b hbb=>by have:=(HEV.out.lt b hbb).1;omega) _ _ _ _ _ _ _ _ _) (by omega)
 ·exact zl7 HK5.out (by have:=HB.out;omega) _ _ _ _ _ _ _ _ _
theorem zM1 (v0 v1 v2 v3 v4 v5:Value) (ns:List Nd) (l:Ls) (w:World) (hR:RulesIs w) (hS:StepsIs w) (h:ProgIs w v0 v1 v2 v3 v4 v5 ns l) (hg:goodD ns l=true) :
  Calls Tryz.prog 9 #[.agg #[v0,v1,v2,v3,v4,v5]] w fun e w'=>∃ (u:Nat→Value) (ev:Value),e=.returned (.tuple #[.agg #[u 0,u 1,u 2,u 3,u 4,u 5,.int .i64 ((ptF ns ns.length+1:Nat):Int),.int .i64 (ptF ns ns.length:Nat),ev],.int .i64 0])∧PrIs w' w.heap.size u ns (lsOf (readD ns rd0).2.2)∧w'.ownsRow w.heap.size 53 6 ev (elF ns).length (edL (elF ns))∧Ok w w' :=
 (yc5 v0 v1 v2 v3 v4 v5 ns l w hR hS h hg).mono fun e w' ⟨u,ev,h1,_,h2,h3,h4⟩=>⟨u,ev,h1,h2,h3,h4⟩
set_option maxRecDepth 100000 in
set_option maxHeartbeats 4000000 in
theorem zV1 (v0 v1 v2 v3 v4 v5:Value) (ns:List Nd) (l:Ls) (w:World) (hR:RulesIs w) (h:ProgIs w v0 v1 v2 v3 v4 v5 ns l) (hg:goodD ns l=false) :
  Calls Tryz.prog 9 #[.agg #[v0,v1,v2,v3,v4,v5]] w fun e w'=>e=.returned (.tuple #[.agg #[.slice none 0 0,.slice none 0 0,.slice none 0 0,.slice none 0 0,.slice none 0 0,.slice none 0 0,.int .i64 0,.int .i64 0,.slice none 0 0],.int .i64 2])∧Ok w w':=by
 have HG:=hid hg
 have HP:=hid h
 have HR:=hid hR
 clear hg h hR
 go_enter Tryz.func9,Tryz.ntmps9
 go_wp2_with fail
 obtain ⟨w0,hw0⟩:∃ x,x=(w.alloc (Obj.cells #[v0,v1,v2,v3,v4,v5] 27)).alloc (Obj.cells #[.slice none 0 0,.slice none 0 0,.slice none 0 0,.slice none 0 0,.slice none 0 0,.slice none 0 0,.int .i64 0,.int .i64 0,.slice none 0 0] 42):=⟨_,rfl⟩
 obtain ⟨b1,hb1⟩:∃ x,x=w.heap.size+1:=⟨_,rfl⟩
 rw [←hw0,←hb1]
 have HK0:Hid (Ok w w0):=by unfold Hid;rw [hw0];exact ((Ok.refl w).alloc _).alloc _
 have HG0:Hid (w0.heap[b1]?=some (.cells #[.slice none 0 0,.slice none 0 0,.slice none 0 0,.slice none 0 0,.slice none 0 0,.slice none 0 0,.int .i64 0,.int .i64 0,.slice none 0 0] 42 (0,0))):=by unfold Hid;rw [hw0,hb1];exact zd0 _ _ _ (by simp)
 have HB:Hid (b1=w.heap.size+1):=hb1
 clear hw0 hb1
 refine (zv1 v0 v1 v2 v3 v4 v5 ns l w0 (HR.out.below HK0.out) (HP.out.below HK0.out)).mono ?_
 rintro e w1 ⟨rfl,hk1⟩
 rw [HG.out]
 have HK1:Hid (Ok w w1):=HK0.out.step hk1
 have HG1:Hid (w1.heap[b1]?=some (.cells #[.slice none 0 0,.slice none 0 0,.slice none 0 0,.slice none 0 0,.slice none 0 0,.slice none 0 0,.int .i64 0,.int .i64 0,.slice none 0 0] 42 (0,0))):=Ok.row' hk1 HG0.out
 clear hk1 HG0
 have r0:w1.cell? ⟨b1,0,none⟩=some (.slice none 0 0):=(cell_of_row _ _ 0 _ _ _ HG1.out).trans (by simp)
 have r1:w1.cell? ⟨b1,1,none⟩=some (.slice none 0 0):=(cell_of_row _ _ 1 _ _ _ HG1.out).trans (by simp)
 have r2:w1.cell? ⟨b1,2,none⟩=some (.slice none 0 0):=(cell_of_row _ _ 2 _ _ _ HG1.out).trans (by simp)
 have r3:w1.cell? ⟨b1,3,none⟩=some (.slice none 0 0):=(cell_of_row _ _ 3 _ _ _ HG1.out).trans (by simp)
 have r4:w1.cell? ⟨b1,4,none⟩=some (.slice none 0 0):=(cell_of_row _ _ 4 _ _ _ HG1.out).trans (by simp)
 have r5:w1.cell? ⟨b1,5,none⟩=some (.slice none 0 0):=(cell_of_row _ _ 5 _ _ _ HG1.out).trans (by simp)
 have r6:w1.cell? ⟨b1,6,none⟩=some (.int .i64 0):=(cell_of_row _ _ 6 _ _ _ HG1.out).trans (by simp)
 have r7:w1.cell? ⟨b1,7,none⟩=some (.int .i64 0):=(cell_of_row _ _ 7 _ _ _ HG1.out).trans (by simp)
 have r8:w1.cell? ⟨b1,8,none⟩=some (.slice none 0 0):=(cell_of_row _ _ 8 _ _ _ HG1.out).trans (by simp)
 have wf:∀ i,w1.frozen? ⟨b1,i,none⟩=false:=fun i=>frozen_of_row _ _ _ _ _ HG1.out
 have lg1:=za3 HG1.out
 go_wp2_with fail
 try simp only [Exit.inBlock,Exit.then]
 refine bodyPost_ret (zc6 rfl _ _ b1 42 _ (0,0) _ rfl (zn5 HG1.out _ _ _ _ _ _ _ _ _) Tryz.underlying42 rfl Tryz.infoG) rfl ?_
 exact ⟨rfl,zl7 HK1.out (by have:=HB.out;omega) _ _ _ _ _ _ _ _ _⟩
end
section
open Go.RowKit
def cAt (ns:List Nd) (l:Ls) (x:Int):Int:=if 0≤x∧x<ns.length∧goodD ns l=true∧(2≤kdA ns x.toNat∧kdA ns x.toNat≤8) then (ptF ns x.toNat:Nat) else -1
set_option maxRecDepth 100000 in
set_option maxHeartbeats 4000000 in
theorem yk2 (v0 v1 v2 v3 v4 v5:Value) (ns:List Nd) (l:Ls) (x:Int) (w:World) (hR:RulesIs w) (hS:StepsIs w) (h:ProgIs w v0 v1 v2 v3 v4 v5 ns l) :
  Calls Tryz.prog 16 #[.agg #[v0,v1,v2,v3,v4,v5],.int .i64 x] w fun e w'=>e=.returned (.int .i64 (cAt ns l x))∧Ok w w':=by
 have HP:=hid h
 have HR:=hid hR
 have HS:=hid hS
 obtain ⟨_,ao,cap,e,_⟩:=h.nodes
 have HV:Hid (v0=.slice ao ns.length cap):=e
 subst e
 obtain ⟨ax,hax⟩:∃ y,y=cAt ns l x:=⟨_,rfl⟩
 have HAX:Hid (ax=cAt ns l x):=hax
 rw [←hax]
 clear h hR hS hax
 by_cases h1:x<0
 ·have HA:Hid (ax = -1):=by unfold Hid;rw [HAX.out];unfold cAt;rw [if_neg (by omega)]
  have h1d:decide (x<0)=true:=decide_eq_true h1
  go_enter Tryz.func16,Tryz.ntmps16
  go_wp2_with fail
  go_ret
  exact ⟨by rw [HA.out];rfl,(Ok.refl w).alloc _⟩
 have h1d:decide (x<0)=false:=decide_eq_false h1
 by_cases h2:x<(ns.length:Int)
 rotate_left
 ·have HA:Hid (ax = -1):=by unfold Hid;rw [HAX.out];unfold cAt;rw [if_neg (by omega)]
  have h2d:decide ((ns.length:Int)≤x)=true:=decide_eq_true (by omega)
  have h2':(ns.length:Int)≤x:=by omega
  go_enter Tryz.func16,Tryz.ntmps16
  go_wp2_with fail
  go_ret
  exact ⟨by rw [HA.out];rfl,(Ok.refl w).alloc _⟩
 have h2d:decide ((ns.length:Int)≤x)=false:=decide_eq_false (by omega)
 have h2':¬(ns.length:Int)≤x:=by omega
 obtain ⟨p,rfl⟩:∃ p:Nat,x=(p:Int):=⟨x.toNat,by omega⟩
 have hpl:p<ns.length:=by omega
 have HK0:Hid (Ok w (w.alloc (Obj.cells #[.slice ao ns.length cap,v1,v2,v3,v4,v5] 27))):=(Ok.refl w).alloc _
 have HGC:Hid (∀ _:Unit,Calls Tryz.prog 19 #[.agg #[.slice ao ns.length cap,v1,v2,v3,v4,v5]] (w.alloc (Obj.cells #[.slice ao ns.length cap,v1,v2,v3,v4,v5] 27)) fun e w'=>e=.returned (.bool (goodD ns l))∧Ok (w.alloc (Obj.cells #[.slice ao ns.length cap,v1,v2,v3,v4,v5] 27)) w'):=fun _=>zv1 _ v1 v2 v3 v4 v5 ns l _ (HR.out.below HK0.out) (HP.out.below HK0.out)
 have HX0:Hid (Six (w.alloc (Obj.cells #[.slice ao ns.length cap,v1,v2,v3,v4,v5] 27)) w.heap.size (.slice ao ns.length cap) v1 v2 v3 v4 v5):=Six.new w _ _ _ _ _ _
 cases hg:goodD ns l with
 | false =>
  have HA:Hid (ax = -1):=by unfold Hid;rw [HAX.out];unfold cAt;rw [hg,if_neg (by simp)]
  rw [hg] at HGC
  go_enter Tryz.func16,Tryz.ntmps16
  go_wp2_with (first
   | (go_at_call 19;refine (HGC.out ()).mono ?_;rintro e w1 ⟨rfl,hk1⟩;have HK1:Hid (Ok w w1):=HK0.out.step hk1;clear hk1)
   | fail)
  go_ret
  exact ⟨by rw [HA.out];rfl,HK1.out⟩
 | true =>
  rw [hg] at HGC
  have h0:=zn4 hg
  have HT:Hid (TreeOK ns):=zs8 (zj2 h0)
  have HLN:Hid (ns.length≤300):=(zg4 ns h0).2
  have HG:Hid (goodD ns l=true):=hg
  have hpl':(p:Int)<(ns.length:Int):=by omega
  obtain ⟨np,hnp⟩:∃ n,ns[p]?=some n:=⟨_,List.getElem?_eq_getElem hpl⟩
  have HNP:Hid (ns[p]?=some np):=hnp
  obtain ⟨hk0,hk15⟩:=zl6 HT.out np (List.mem_of_getElem? hnp)
  obtain ⟨kd,hkd⟩:∃ k:Nat,np.kind=(k:Int):=⟨np.kind.toNat,(Int.toNat_of_nonneg hk0).symm⟩
  have hk16:kd<16:=by omega
  have hk16':(kd:Int)<16:=by omega
  have HKD:Hid (kdA ns p=(kd:Int)∧np.kind=kd):=⟨by unfold kdA;rw [hnp];exact hkd,hkd⟩
  have HPL:Hid (p<ns.length):=hpl
  clear hg h0 hnp hkd hk0 hk15 h1 h2 hpl
  have HCS:Hid (∀ w1,Ok w w1→∃ b o,ao=some ⟨b,o,none⟩∧b<w1.heap.size∧w1.cell? ⟨b,o+p*6+1,none⟩=some (.int .i64 (kd:Int))∧0<w1.heap.size∧w1.cell? ⟨0,kd*2,none⟩=some (.bool (decide (2≤kd)&&decide (kd≤8)))):=fun w1 hk=>by
   obtain ⟨_,ao',cap',e1,_,_,hN⟩:=(HP.out.below hk).nodes
   injection e1 with e1 e2 e3;clear e2
   subst e1 e3
   obtain ⟨b,o,rfl,N1⟩:=hN.resolve_left (fun e=>by have:=HPL.out;rw [e] at this;simp at this)
   obtain ⟨-,m1,-,-,-,-⟩:=N1.get HNP.out
   rw [HKD.out.2] at m1
   exact ⟨b,o,rfl,N1.lt,m1,(HS.out.below hk).lt,(HS.out.below hk).made kd hk16⟩
  obtain ⟨b,o,rfl,-⟩:=HCS.out w (Ok.refl _)
  obtain ⟨mb,hmb⟩:∃ x,x=(decide (2≤kd)&&decide (kd≤8)):=⟨_,rfl⟩
  have HMB:Hid (mb=(decide (2≤kd)&&decide (kd≤8))):=hmb
  rw [←hmb] at HCS
  clear hmb
  cases mb with
  | false =>
   have HA:Hid (ax = -1):=by
    unfold Hid;rw [HAX.out];unfold cAt;rw [if_neg]
    rintro ⟨_,_,_,h3⟩
    rw [Int.toNat_natCast,HKD.out.1] at h3
    have:=HMB.out.symm
    simp at this
    omega
   go_enter Tryz.func16,Tryz.ntmps16
   go_wp2_with (first
    | (go_at_call 19;refine (HGC.out ()).mono ?_;rintro e w1 ⟨rfl,hk1⟩;have HK1:Hid (Ok w w1):=HK0.out.step hk1;obtain ⟨z1,c0,-,-,-,-,-⟩:=(HX0.out.below hk1).pc;obtain ⟨b',o',e',lb,m1,lst,s0⟩:=HCS.out w1 HK1.out;injection e' with e';injection e' with e1 e2;subst e1 e2;clear hk1)
    | fail)
   go_ret
   exact ⟨by rw [HA.out];rfl,HK1.out⟩
  | true =>
   have HA:Hid (ax=(ptF ns p:Nat)):=by
    unfold Hid;rw [HAX.out];unfold cAt;rw [if_pos,Int.toNat_natCast]
    have:=HMB.out.symm
    simp at this
    refine ⟨by omega,by omega,HG.out,?_⟩
    rw [Int.toNat_natCast,HKD.out.1];omega
   go_enter Tryz.func16,Tryz.ntmps16
   go_wp2_with (first
    | (go_at_call 19;refine (HGC.out ()).mono ?_;rintro e w1 ⟨rfl,hk1⟩;have HK1:Hid (Ok w w1):=HK0.out.step hk1;have HX1:=HX0.out.below hk1;obtain ⟨z1,c0,-,-,-,-,-⟩:=HX1.pc;obtain ⟨b',o',e',lb,m1,lst,s0⟩:=HCS.out w1 HK1.out;injection e' with e';injection e' with e1 e2;subst e1 e2;clear hk1 HX1)
    | (go_at_call 21;refine (zu1 _ ns w1 (HP.out.below HK1.out).nodes (by have:=HLN.out;omega) (zl6 HT.out) (HS.out.below HK1.out)).mono ?_;rintro e w4 ⟨pv,rfl,hpv,hk4⟩;have HK4:Hid (Ok w w4):=HK1.out.step hk4;obtain ⟨g,pc,rfl,_⟩:=hpv.form (by omega);have hgl:=(hpv.lt g rfl).2;have hpc:w4.cell? ⟨g,p,none⟩=some (.int .i64 (ptF ns p:Nat)):=(by have:=hpv.cells (g:=g) rfl p _ (zx5 ns (Nat.le_of_lt HPL.out));rw [zc0,Nat.zero_add] at this;exact this);have hll:(p:Int)<(ns.length:Int)+1:=(by omega);rw [←HA.out] at hpc;clear hk4 hpv)
    | fail)
   go_ret
   exact ⟨rfl,HK4.out⟩
end
end Go.Proofs.YtgobgdljckamkaaGreatDoor
