import Derived.Test.YtgkbegmaffknbabGreatKVn
import Derived.Deep.Cut
import Derived.Deep.CutRange
set_option linter.unusedVariables false
set_option linter.unusedSimpArgs false
set_option linter.unnecessarySimpa false
/- InvHolds: the law's walk. -/
namespace Go.Proofs.YtgkbegmaffknbabGreat
open Go.RowKit Go.Shelf

set_option maxRecDepth 100000 in
set_option maxHeartbeats 40000000 in
theorem iholds_any (op : Int) (a b c : Int × Int × Nat × Nat × Bool) (kx ky : Int) (ha : RawN a) (hb : RawN b) (hx : In64 kx) (hy : In64 ky) (w0 w : World) (hok : Ok w0 w) :
    Calls Tryz.prog 3 #[.int .i64 op, .agg #[.bool a.2.2.2.2, .int .i64 a.1, .int .i64 a.2.1, .int .u64 (a.2.2.1 : Int), .int .u64 (a.2.2.2.1 : Int), .bool b.2.2.2.2, .int .i64 b.1, .int .i64 b.2.1, .int .u64 (b.2.2.1 : Int), .int .u64 (b.2.2.2.1 : Int), .bool c.2.2.2.2, .int .i64 c.1, .int .i64 c.2.1, .int .u64 (c.2.2.1 : Int), .int .u64 (c.2.2.2.1 : Int), .int .i64 kx, .int .i64 ky]] w fun e w' => e = .returned (.bool true) ∧ Ok w0 w' := by
  have hle := hok.le
  have HU : Hid (RawN a ∧ RawN b ∧ In64 kx ∧ In64 ky) := ⟨ha, hb, hx, hy⟩
  clear ha hb hx hy
  go_enter Tryz.func3, Tryz.ntmps3
  go_wp2_with fail
  obtain ⟨W0, hW0⟩ : ∃ W, W = (w).alloc (.cells #[.bool a.2.2.2.2, .int .i64 a.1, .int .i64 a.2.1, .int .u64 (a.2.2.1 : Int), .int .u64 (a.2.2.2.1 : Int), .bool b.2.2.2.2, .int .i64 b.1, .int .i64 b.2.1, .int .u64 (b.2.2.1 : Int), .int .u64 (b.2.2.2.1 : Int), .bool c.2.2.2.2, .int .i64 c.1, .int .i64 c.2.1, .int .u64 (c.2.2.1 : Int), .int .u64 (c.2.2.2.1 : Int), .int .i64 kx, .int .i64 ky] 31) := ⟨_, rfl⟩
  have rk : Hid (W0.heap[w.heap.size]? = some (.cells #[.bool a.2.2.2.2, .int .i64 a.1, .int .i64 a.2.1, .int .u64 (a.2.2.1 : Int), .int .u64 (a.2.2.2.1 : Int), .bool b.2.2.2.2, .int .i64 b.1, .int .i64 b.2.1, .int .u64 (b.2.2.1 : Int), .int .u64 (b.2.2.2.1 : Int), .bool c.2.2.2.2, .int .i64 c.1, .int .i64 c.2.1, .int .u64 (c.2.2.1 : Int), .int .u64 (c.2.2.2.1 : Int), .int .i64 kx, .int .i64 ky] 31)) := by unfold Hid; rw [hW0]; exact (by repeat (first | (refine heap_at _ _ _ ?hx; case hx => (first | (simp; done) | (simp; omega))) | (refine heap_past _ _ _ ?hy ?_; case hy => (first | (simp; done) | (simp; omega))) | fail))
  have HW0 : Hid (Ok w0 W0) := by unfold Hid; rw [hW0]; exact (by repeat (first | exact hok | refine Ok.alloc ?_ _ | refine Ok.draws ?_ _ | fail))
  rw [← hW0]
  clear hW0
  obtain ⟨gk, egk⟩ : ∃ g, g = w.heap.size := ⟨_, rfl⟩
  rw [← egk] at rk ⊢
  have lgk : w0.heap.size ≤ gk := by omega
  clear egk
  by_cases ho : OpC op
  · have HO : Hid (OpC op ∧ OpC (negF op)) := ⟨ho, opc_neg ho⟩
    clear ho
    obtain ⟨nt, hnt⟩ : ∃ t, t = negF op := ⟨_, rfl⟩
    have HNT : Hid _ := hnt
    obtain ⟨L, hL⟩ : ∃ t, t = (cmpA op (normN a) (normN b)).1 := ⟨_, rfl⟩
    have HL : Hid _ := hL
    obtain ⟨R, hR⟩ : ∃ t, t = (cmpA op (normN a) (normN b)).2 := ⟨_, rfl⟩
    have HR : Hid _ := hR
    obtain ⟨V, hV⟩ : ∃ t, t = (cmpA (negF op) (normN a) (normN b)).1 := ⟨_, rfl⟩
    have HV : Hid _ := hV
    obtain ⟨X, hX⟩ : ∃ t, t = (cmpA (negF op) (normN a) (normN b)).2 := ⟨_, rfl⟩
    have HX : Hid _ := hX
    obtain ⟨pa, hpa⟩ : ∃ t, t = insN a kx := ⟨_, rfl⟩
    have HPA : Hid _ := hpa
    obtain ⟨pb, hpb⟩ : ∃ t, t = insN b ky := ⟨_, rfl⟩
    have HPB : Hid _ := hpb
    obtain ⟨hv, hhv⟩ : ∃ t, t = holdsV op kx ky := ⟨_, rfl⟩
    have HHV : Hid _ := hhv
    have QL : Hid (lqN L a = true ∧ lqN R b = true) := by rw [hL, hR]; exact hold_leq HO.out.1 HU.out.1 HU.out.2.1
    have QV : Hid (lqN V a = true ∧ lqN X b = true) := by rw [hV, hX]; exact hold_leq HO.out.2 HU.out.1 HU.out.2.1
    have RL : Hid (RawN L ∧ RawN R) := by rw [hL, hR]; exact cmpA_raw (normN_raw HU.out.1) (normN_raw HU.out.2.1)
    have RV : Hid (RawN V ∧ RawN X) := by rw [hV, hX]; exact cmpA_raw (normN_raw HU.out.1) (normN_raw HU.out.2.1)
    have KT : Hid (pa = true → pb = true → hv = true → insN L kx = true ∧ insN R ky = true) := fun h1 h2 h3 => by rw [hL, hR]; exact hold_has HO.out.1 HU.out.1 HU.out.2.1 HU.out.2.2.1 HU.out.2.2.2 (hpa ▸ h1) (hpb ▸ h2) (hhv ▸ h3)
    have KF : Hid (pa = true → pb = true → hv = false → insN V kx = true ∧ insN X ky = true) := fun h1 h2 h3 => by rw [hV, hX]; exact hold_has HO.out.2 HU.out.1 HU.out.2.1 HU.out.2.2.1 HU.out.2.2.2 (hpa ▸ h1) (hpb ▸ h2) (holds_neg HO.out.1 (hhv ▸ h3))
    clear hnt hL hR hV hX hpa hpb hhv
    refine (vNegate_any op HO.out.1 W0 _ (Ok.refl _)).mono ?_
    rintro e v1 ⟨rfl, hb⟩
    rw [← HNT.out]
    replace rk : Hid _ := Ok.row' hb rk.out
    have Hv1 : Hid (Ok w0 v1) := HW0.out.step hb
    clear hb HW0
    have zz := row17_facts (rk.out)
    have kk0 := zz.1
    have kk1 := zz.2.1
    have kk2 := zz.2.2.1
    have kk3 := zz.2.2.2.1
    have kk4 := zz.2.2.2.2.1
    have kk5 := zz.2.2.2.2.2.1
    have kk6 := zz.2.2.2.2.2.2.1
    have kk7 := zz.2.2.2.2.2.2.2.1
    have kk8 := zz.2.2.2.2.2.2.2.2.1
    have kk9 := zz.2.2.2.2.2.2.2.2.2.1
    have kk10 := zz.2.2.2.2.2.2.2.2.2.2.1
    have kk11 := zz.2.2.2.2.2.2.2.2.2.2.2.1
    have kk12 := zz.2.2.2.2.2.2.2.2.2.2.2.2.1
    have kk13 := zz.2.2.2.2.2.2.2.2.2.2.2.2.2.1
    have kk14 := zz.2.2.2.2.2.2.2.2.2.2.2.2.2.2.1
    have kk15 := zz.2.2.2.2.2.2.2.2.2.2.2.2.2.2.2.1
    have kk16 := zz.2.2.2.2.2.2.2.2.2.2.2.2.2.2.2.2
    clear zz
    go_wp2_with fail
    clear kk0 kk1 kk2 kk3 kk4 kk5 kk6 kk7 kk8 kk9 kk10 kk11 kk12 kk13 kk14 kk15 kk16
    refine (vCompare_any op HO.out.1 a b HU.out.1 HU.out.2.1 v1 _ (Ok.refl _)).mono ?_
    rintro e v2 ⟨rfl, hb⟩
    rw [← HL.out, ← HR.out]
    unfold nv
    replace rk : Hid _ := Ok.row' hb rk.out
    have Hv2 : Hid (Ok w0 v2) := Hv1.out.step hb
    clear hb Hv1
    go_upto_region 3 with (fail)
    obtain ⟨v3, hv3⟩ : ∃ W, W = (v2.alloc (.cells #[.bool L.2.2.2.2, .int .i64 L.1, .int .i64 L.2.1, .int .u64 (L.2.2.1 : Int), .int .u64 (L.2.2.2.1 : Int)] 29)).alloc (.cells #[.bool R.2.2.2.2, .int .i64 R.1, .int .i64 R.2.1, .int .u64 (R.2.2.1 : Int), .int .u64 (R.2.2.2.1 : Int)] 29) := ⟨_, rfl⟩
    have rg7 : Hid (v3.heap[v2.heap.size]? = some (.cells #[.bool L.2.2.2.2, .int .i64 L.1, .int .i64 L.2.1, .int .u64 (L.2.2.1 : Int), .int .u64 (L.2.2.2.1 : Int)] 29)) := by unfold Hid; rw [hv3]; exact (by repeat (first | (refine heap_at _ _ _ ?hx; case hx => (first | (simp; done) | (simp; omega))) | (refine heap_past _ _ _ ?hy ?_; case hy => (first | (simp; done) | (simp; omega))) | fail))
    have rg8 : Hid (v3.heap[v2.heap.size + 1]? = some (.cells #[.bool R.2.2.2.2, .int .i64 R.1, .int .i64 R.2.1, .int .u64 (R.2.2.1 : Int), .int .u64 (R.2.2.2.1 : Int)] 29)) := by unfold Hid; rw [hv3]; exact (by repeat (first | (refine heap_at _ _ _ ?hx; case hx => (first | (simp; done) | (simp; omega))) | (refine heap_past _ _ _ ?hy ?_; case hy => (first | (simp; done) | (simp; omega))) | fail))
    have hO : Ok v2 v3 := by rw [hv3]; exact ((Ok.refl _).alloc _).alloc _
    rw [← hv3]
    obtain ⟨g8, eg8⟩ : ∃ g, g = v2.heap.size + 1 := ⟨_, rfl⟩
    rw [← eg8] at rg8 ⊢
    obtain ⟨g7, eg7⟩ : ∃ g, g = v2.heap.size := ⟨_, rfl⟩
    rw [← eg7] at rg7 ⊢
    clear hv3 eg7 eg8
    replace rk : Hid _ := Ok.row' hO rk.out
    have Hv3 : Hid (Ok w0 v3) := Hv2.out.step hO
    clear hO Hv2
    have zz := row17_facts (rk.out)
    have kk0 := zz.1
    have kk1 := zz.2.1
    have kk2 := zz.2.2.1
    have kk3 := zz.2.2.2.1
    have kk4 := zz.2.2.2.2.1
    have kk5 := zz.2.2.2.2.2.1
    have kk6 := zz.2.2.2.2.2.2.1
    have kk7 := zz.2.2.2.2.2.2.2.1
    have kk8 := zz.2.2.2.2.2.2.2.2.1
    have kk9 := zz.2.2.2.2.2.2.2.2.2.1
    have kk10 := zz.2.2.2.2.2.2.2.2.2.2.1
    have kk11 := zz.2.2.2.2.2.2.2.2.2.2.2.1
    have kk12 := zz.2.2.2.2.2.2.2.2.2.2.2.2.1
    have kk13 := zz.2.2.2.2.2.2.2.2.2.2.2.2.2.1
    have kk14 := zz.2.2.2.2.2.2.2.2.2.2.2.2.2.2.1
    have kk15 := zz.2.2.2.2.2.2.2.2.2.2.2.2.2.2.2.1
    have kk16 := zz.2.2.2.2.2.2.2.2.2.2.2.2.2.2.2.2
    clear zz
    go_wp2_with fail
    clear kk0 kk1 kk2 kk3 kk4 kk5 kk6 kk7 kk8 kk9 kk10 kk11 kk12 kk13 kk14 kk15 kk16
    refine (vCompare_any nt (by rw [HNT.out]; exact HO.out.2) a b HU.out.1 HU.out.2.1 v3 _ (Ok.refl _)).mono ?_
    rintro e v4 ⟨rfl, hb⟩
    rw [show cmpA nt (normN a) (normN b) = (V, X) by rw [HNT.out, HV.out, HX.out]]
    unfold nv
    replace rk : Hid _ := Ok.row' hb rk.out
    replace rg7 : Hid _ := Ok.row' hb rg7.out
    replace rg8 : Hid _ := Ok.row' hb rg8.out
    have Hv4 : Hid (Ok w0 v4) := Hv3.out.step hb
    clear hb Hv3
    go_upto_region 6 with (fail)
    obtain ⟨v5, hv5⟩ : ∃ W, W = (v4.alloc (.cells #[.bool V.2.2.2.2, .int .i64 V.1, .int .i64 V.2.1, .int .u64 (V.2.2.1 : Int), .int .u64 (V.2.2.2.1 : Int)] 29)).alloc (.cells #[.bool X.2.2.2.2, .int .i64 X.1, .int .i64 X.2.1, .int .u64 (X.2.2.1 : Int), .int .u64 (X.2.2.2.1 : Int)] 29) := ⟨_, rfl⟩
    have rg10 : Hid (v5.heap[v4.heap.size]? = some (.cells #[.bool V.2.2.2.2, .int .i64 V.1, .int .i64 V.2.1, .int .u64 (V.2.2.1 : Int), .int .u64 (V.2.2.2.1 : Int)] 29)) := by unfold Hid; rw [hv5]; exact (by repeat (first | (refine heap_at _ _ _ ?hx; case hx => (first | (simp; done) | (simp; omega))) | (refine heap_past _ _ _ ?hy ?_; case hy => (first | (simp; done) | (simp; omega))) | fail))
    have rg11 : Hid (v5.heap[v4.heap.size + 1]? = some (.cells #[.bool X.2.2.2.2, .int .i64 X.1, .int .i64 X.2.1, .int .u64 (X.2.2.1 : Int), .int .u64 (X.2.2.2.1 : Int)] 29)) := by unfold Hid; rw [hv5]; exact (by repeat (first | (refine heap_at _ _ _ ?hx; case hx => (first | (simp; done) | (simp; omega))) | (refine heap_past _ _ _ ?hy ?_; case hy => (first | (simp; done) | (simp; omega))) | fail))
    have hO : Ok v4 v5 := by rw [hv5]; exact ((Ok.refl _).alloc _).alloc _
    rw [← hv5]
    obtain ⟨g11, eg11⟩ : ∃ g, g = v4.heap.size + 1 := ⟨_, rfl⟩
    rw [← eg11] at rg11 ⊢
    obtain ⟨g10, eg10⟩ : ∃ g, g = v4.heap.size := ⟨_, rfl⟩
    rw [← eg10] at rg10 ⊢
    clear hv5 eg10 eg11
    replace rk : Hid _ := Ok.row' hO rk.out
    replace rg7 : Hid _ := Ok.row' hO rg7.out
    replace rg8 : Hid _ := Ok.row' hO rg8.out
    have Hv5 : Hid (Ok w0 v5) := Hv4.out.step hO
    clear hO Hv4
    have zz := row5_facts (rg7.out)
    have fa0 := zz.1
    have fa1 := zz.2.1
    have fa2 := zz.2.2.1
    have fa3 := zz.2.2.2.1
    have fa4 := zz.2.2.2.2.1
    have fa5 := zz.2.2.2.2.2.1
    have fa6 := zz.2.2.2.2.2.2.1
    have fa7 := zz.2.2.2.2.2.2.2.1
    have fa8 := zz.2.2.2.2.2.2.2.2.1
    have fa9 := zz.2.2.2.2.2.2.2.2.2
    clear zz
    have zz := row17_facts (rk.out)
    have kk0 := zz.1
    have kk1 := zz.2.1
    have kk2 := zz.2.2.1
    have kk3 := zz.2.2.2.1
    have kk4 := zz.2.2.2.2.1
    have kk5 := zz.2.2.2.2.2.1
    have kk6 := zz.2.2.2.2.2.2.1
    have kk7 := zz.2.2.2.2.2.2.2.1
    have kk8 := zz.2.2.2.2.2.2.2.2.1
    have kk9 := zz.2.2.2.2.2.2.2.2.2.1
    have kk10 := zz.2.2.2.2.2.2.2.2.2.2.1
    have kk11 := zz.2.2.2.2.2.2.2.2.2.2.2.1
    have kk12 := zz.2.2.2.2.2.2.2.2.2.2.2.2.1
    have kk13 := zz.2.2.2.2.2.2.2.2.2.2.2.2.2.1
    have kk14 := zz.2.2.2.2.2.2.2.2.2.2.2.2.2.2.1
    have kk15 := zz.2.2.2.2.2.2.2.2.2.2.2.2.2.2.2.1
    have kk16 := zz.2.2.2.2.2.2.2.2.2.2.2.2.2.2.2.2
    clear zz
    go_wp2_with fail
    clear fa0 fa1 fa2 fa3 fa4 fa5 fa6 fa7 fa8 fa9
    clear kk0 kk1 kk2 kk3 kk4 kk5 kk6 kk7 kk8 kk9 kk10 kk11 kk12 kk13 kk14 kk15 kk16
    refine (rnleq_any L a RL.out.1 HU.out.1 v5 _ (Ok.refl _)).mono ?_
    rintro e x0 ⟨rfl, hb⟩
    rw [QL.out.1]
    replace rk : Hid _ := Ok.row' hb rk.out
    replace rg7 : Hid _ := Ok.row' hb rg7.out
    replace rg8 : Hid _ := Ok.row' hb rg8.out
    replace rg10 : Hid _ := Ok.row' hb rg10.out
    replace rg11 : Hid _ := Ok.row' hb rg11.out
    have Hx0 : Hid (Ok w0 x0) := Hv5.out.step hb
    clear hb Hv5
    have zz := row5_facts (rg8.out)
    have fa0 := zz.1
    have fa1 := zz.2.1
    have fa2 := zz.2.2.1
    have fa3 := zz.2.2.2.1
    have fa4 := zz.2.2.2.2.1
    have fa5 := zz.2.2.2.2.2.1
    have fa6 := zz.2.2.2.2.2.2.1
    have fa7 := zz.2.2.2.2.2.2.2.1
    have fa8 := zz.2.2.2.2.2.2.2.2.1
    have fa9 := zz.2.2.2.2.2.2.2.2.2
    clear zz
    have zz := row17_facts (rk.out)
    have kk0 := zz.1
    have kk1 := zz.2.1
    have kk2 := zz.2.2.1
    have kk3 := zz.2.2.2.1
    have kk4 := zz.2.2.2.2.1
    have kk5 := zz.2.2.2.2.2.1
    have kk6 := zz.2.2.2.2.2.2.1
    have kk7 := zz.2.2.2.2.2.2.2.1
    have kk8 := zz.2.2.2.2.2.2.2.2.1
    have kk9 := zz.2.2.2.2.2.2.2.2.2.1
    have kk10 := zz.2.2.2.2.2.2.2.2.2.2.1
    have kk11 := zz.2.2.2.2.2.2.2.2.2.2.2.1
    have kk12 := zz.2.2.2.2.2.2.2.2.2.2.2.2.1
    have kk13 := zz.2.2.2.2.2.2.2.2.2.2.2.2.2.1
    have kk14 := zz.2.2.2.2.2.2.2.2.2.2.2.2.2.2.1
    have kk15 := zz.2.2.2.2.2.2.2.2.2.2.2.2.2.2.2.1
    have kk16 := zz.2.2.2.2.2.2.2.2.2.2.2.2.2.2.2.2
    clear zz
    go_wp2_with fail
    clear fa0 fa1 fa2 fa3 fa4 fa5 fa6 fa7 fa8 fa9
    clear kk0 kk1 kk2 kk3 kk4 kk5 kk6 kk7 kk8 kk9 kk10 kk11 kk12 kk13 kk14 kk15 kk16
    refine (rnleq_any R b RL.out.2 HU.out.2.1 x0 _ (Ok.refl _)).mono ?_
    rintro e x1 ⟨rfl, hb⟩
    rw [QL.out.2]
    replace rk : Hid _ := Ok.row' hb rk.out
    replace rg7 : Hid _ := Ok.row' hb rg7.out
    replace rg8 : Hid _ := Ok.row' hb rg8.out
    replace rg10 : Hid _ := Ok.row' hb rg10.out
    replace rg11 : Hid _ := Ok.row' hb rg11.out
    have Hx1 : Hid (Ok w0 x1) := Hx0.out.step hb
    clear hb Hx0
    have zz := row5_facts (rg10.out)
    have fa0 := zz.1
    have fa1 := zz.2.1
    have fa2 := zz.2.2.1
    have fa3 := zz.2.2.2.1
    have fa4 := zz.2.2.2.2.1
    have fa5 := zz.2.2.2.2.2.1
    have fa6 := zz.2.2.2.2.2.2.1
    have fa7 := zz.2.2.2.2.2.2.2.1
    have fa8 := zz.2.2.2.2.2.2.2.2.1
    have fa9 := zz.2.2.2.2.2.2.2.2.2
    clear zz
    have zz := row17_facts (rk.out)
    have kk0 := zz.1
    have kk1 := zz.2.1
    have kk2 := zz.2.2.1
    have kk3 := zz.2.2.2.1
    have kk4 := zz.2.2.2.2.1
    have kk5 := zz.2.2.2.2.2.1
    have kk6 := zz.2.2.2.2.2.2.1
    have kk7 := zz.2.2.2.2.2.2.2.1
    have kk8 := zz.2.2.2.2.2.2.2.2.1
    have kk9 := zz.2.2.2.2.2.2.2.2.2.1
    have kk10 := zz.2.2.2.2.2.2.2.2.2.2.1
    have kk11 := zz.2.2.2.2.2.2.2.2.2.2.2.1
    have kk12 := zz.2.2.2.2.2.2.2.2.2.2.2.2.1
    have kk13 := zz.2.2.2.2.2.2.2.2.2.2.2.2.2.1
    have kk14 := zz.2.2.2.2.2.2.2.2.2.2.2.2.2.2.1
    have kk15 := zz.2.2.2.2.2.2.2.2.2.2.2.2.2.2.2.1
    have kk16 := zz.2.2.2.2.2.2.2.2.2.2.2.2.2.2.2.2
    clear zz
    go_wp2_with fail
    clear fa0 fa1 fa2 fa3 fa4 fa5 fa6 fa7 fa8 fa9
    clear kk0 kk1 kk2 kk3 kk4 kk5 kk6 kk7 kk8 kk9 kk10 kk11 kk12 kk13 kk14 kk15 kk16
    refine (rnleq_any V a RV.out.1 HU.out.1 x1 _ (Ok.refl _)).mono ?_
    rintro e x2 ⟨rfl, hb⟩
    rw [QV.out.1]
    replace rk : Hid _ := Ok.row' hb rk.out
    replace rg7 : Hid _ := Ok.row' hb rg7.out
    replace rg8 : Hid _ := Ok.row' hb rg8.out
    replace rg10 : Hid _ := Ok.row' hb rg10.out
    replace rg11 : Hid _ := Ok.row' hb rg11.out
    have Hx2 : Hid (Ok w0 x2) := Hx1.out.step hb
    clear hb Hx1
    have zz := row5_facts (rg11.out)
    have fa0 := zz.1
    have fa1 := zz.2.1
    have fa2 := zz.2.2.1
    have fa3 := zz.2.2.2.1
    have fa4 := zz.2.2.2.2.1
    have fa5 := zz.2.2.2.2.2.1
    have fa6 := zz.2.2.2.2.2.2.1
    have fa7 := zz.2.2.2.2.2.2.2.1
    have fa8 := zz.2.2.2.2.2.2.2.2.1
    have fa9 := zz.2.2.2.2.2.2.2.2.2
    clear zz
    have zz := row17_facts (rk.out)
    have kk0 := zz.1
    have kk1 := zz.2.1
    have kk2 := zz.2.2.1
    have kk3 := zz.2.2.2.1
    have kk4 := zz.2.2.2.2.1
    have kk5 := zz.2.2.2.2.2.1
    have kk6 := zz.2.2.2.2.2.2.1
    have kk7 := zz.2.2.2.2.2.2.2.1
    have kk8 := zz.2.2.2.2.2.2.2.2.1
    have kk9 := zz.2.2.2.2.2.2.2.2.2.1
    have kk10 := zz.2.2.2.2.2.2.2.2.2.2.1
    have kk11 := zz.2.2.2.2.2.2.2.2.2.2.2.1
    have kk12 := zz.2.2.2.2.2.2.2.2.2.2.2.2.1
    have kk13 := zz.2.2.2.2.2.2.2.2.2.2.2.2.2.1
    have kk14 := zz.2.2.2.2.2.2.2.2.2.2.2.2.2.2.1
    have kk15 := zz.2.2.2.2.2.2.2.2.2.2.2.2.2.2.2.1
    have kk16 := zz.2.2.2.2.2.2.2.2.2.2.2.2.2.2.2.2
    clear zz
    go_wp2_with fail
    clear fa0 fa1 fa2 fa3 fa4 fa5 fa6 fa7 fa8 fa9
    clear kk0 kk1 kk2 kk3 kk4 kk5 kk6 kk7 kk8 kk9 kk10 kk11 kk12 kk13 kk14 kk15 kk16
    refine (rnleq_any X b RV.out.2 HU.out.2.1 x2 _ (Ok.refl _)).mono ?_
    rintro e x3 ⟨rfl, hb⟩
    rw [QV.out.2]
    replace rk : Hid _ := Ok.row' hb rk.out
    replace rg7 : Hid _ := Ok.row' hb rg7.out
    replace rg8 : Hid _ := Ok.row' hb rg8.out
    replace rg10 : Hid _ := Ok.row' hb rg10.out
    replace rg11 : Hid _ := Ok.row' hb rg11.out
    have Hx3 : Hid (Ok w0 x3) := Hx2.out.step hb
    clear hb Hx2
    have zz := row17_facts (rk.out)
    have kk0 := zz.1
    have kk1 := zz.2.1
    have kk2 := zz.2.2.1
    have kk3 := zz.2.2.2.1
    have kk4 := zz.2.2.2.2.1
    have kk5 := zz.2.2.2.2.2.1
    have kk6 := zz.2.2.2.2.2.2.1
    have kk7 := zz.2.2.2.2.2.2.2.1
    have kk8 := zz.2.2.2.2.2.2.2.2.1
    have kk9 := zz.2.2.2.2.2.2.2.2.2.1
    have kk10 := zz.2.2.2.2.2.2.2.2.2.2.1
    have kk11 := zz.2.2.2.2.2.2.2.2.2.2.2.1
    have kk12 := zz.2.2.2.2.2.2.2.2.2.2.2.2.1
    have kk13 := zz.2.2.2.2.2.2.2.2.2.2.2.2.2.1
    have kk14 := zz.2.2.2.2.2.2.2.2.2.2.2.2.2.2.1
    have kk15 := zz.2.2.2.2.2.2.2.2.2.2.2.2.2.2.2.1
    have kk16 := zz.2.2.2.2.2.2.2.2.2.2.2.2.2.2.2.2
    clear zz
    go_wp2_with fail
    clear kk0 kk1 kk2 kk3 kk4 kk5 kk6 kk7 kk8 kk9 kk10 kk11 kk12 kk13 kk14 kk15 kk16
    refine (rnhas_any a kx HU.out.1 x3 _ (Ok.refl _)).mono ?_
    rintro e y1 ⟨rfl, hb⟩
    rw [← HPA.out]
    replace rk : Hid _ := Ok.row' hb rk.out
    replace rg7 : Hid _ := Ok.row' hb rg7.out
    replace rg8 : Hid _ := Ok.row' hb rg8.out
    replace rg10 : Hid _ := Ok.row' hb rg10.out
    replace rg11 : Hid _ := Ok.row' hb rg11.out
    have Hy1 : Hid (Ok w0 y1) := Hx3.out.step hb
    clear hb Hx3
    cases pa
    · skip
      have zz := row17_facts (rk.out)
      have kk0 := zz.1
      have kk1 := zz.2.1
      have kk2 := zz.2.2.1
      have kk3 := zz.2.2.2.1
      have kk4 := zz.2.2.2.2.1
      have kk5 := zz.2.2.2.2.2.1
      have kk6 := zz.2.2.2.2.2.2.1
      have kk7 := zz.2.2.2.2.2.2.2.1
      have kk8 := zz.2.2.2.2.2.2.2.2.1
      have kk9 := zz.2.2.2.2.2.2.2.2.2.1
      have kk10 := zz.2.2.2.2.2.2.2.2.2.2.1
      have kk11 := zz.2.2.2.2.2.2.2.2.2.2.2.1
      have kk12 := zz.2.2.2.2.2.2.2.2.2.2.2.2.1
      have kk13 := zz.2.2.2.2.2.2.2.2.2.2.2.2.2.1
      have kk14 := zz.2.2.2.2.2.2.2.2.2.2.2.2.2.2.1
      have kk15 := zz.2.2.2.2.2.2.2.2.2.2.2.2.2.2.2.1
      have kk16 := zz.2.2.2.2.2.2.2.2.2.2.2.2.2.2.2.2
      clear zz
      go_wp2_with fail
      clear kk0 kk1 kk2 kk3 kk4 kk5 kk6 kk7 kk8 kk9 kk10 kk11 kk12 kk13 kk14 kk15 kk16
      refine (taken14 y1 _ (Ok.refl _)).mono ?_
      rintro e y2 ⟨rfl, hb⟩
      replace rk : Hid _ := Ok.row' hb rk.out
      replace rg7 : Hid _ := Ok.row' hb rg7.out
      replace rg8 : Hid _ := Ok.row' hb rg8.out
      replace rg10 : Hid _ := Ok.row' hb rg10.out
      replace rg11 : Hid _ := Ok.row' hb rg11.out
      have Hy2 : Hid (Ok w0 y2) := Hy1.out.step hb
      clear hb Hy1
      go_wp2_with fail
      go_ret
      exact ⟨rfl, Hy2.out⟩
    · have KT1 : Hid _ := KT.out rfl
      have KF1 : Hid _ := KF.out rfl
      clear KT KF
      have zz := row17_facts (rk.out)
      have kk0 := zz.1
      have kk1 := zz.2.1
      have kk2 := zz.2.2.1
      have kk3 := zz.2.2.2.1
      have kk4 := zz.2.2.2.2.1
      have kk5 := zz.2.2.2.2.2.1
      have kk6 := zz.2.2.2.2.2.2.1
      have kk7 := zz.2.2.2.2.2.2.2.1
      have kk8 := zz.2.2.2.2.2.2.2.2.1
      have kk9 := zz.2.2.2.2.2.2.2.2.2.1
      have kk10 := zz.2.2.2.2.2.2.2.2.2.2.1
      have kk11 := zz.2.2.2.2.2.2.2.2.2.2.2.1
      have kk12 := zz.2.2.2.2.2.2.2.2.2.2.2.2.1
      have kk13 := zz.2.2.2.2.2.2.2.2.2.2.2.2.2.1
      have kk14 := zz.2.2.2.2.2.2.2.2.2.2.2.2.2.2.1
      have kk15 := zz.2.2.2.2.2.2.2.2.2.2.2.2.2.2.2.1
      have kk16 := zz.2.2.2.2.2.2.2.2.2.2.2.2.2.2.2.2
      clear zz
      go_wp2_with fail
      clear kk0 kk1 kk2 kk3 kk4 kk5 kk6 kk7 kk8 kk9 kk10 kk11 kk12 kk13 kk14 kk15 kk16
      refine (rnhas_any b ky HU.out.2.1 y1 _ (Ok.refl _)).mono ?_
      rintro e y2 ⟨rfl, hb⟩
      rw [← HPB.out]
      replace rk : Hid _ := Ok.row' hb rk.out
      replace rg7 : Hid _ := Ok.row' hb rg7.out
      replace rg8 : Hid _ := Ok.row' hb rg8.out
      replace rg10 : Hid _ := Ok.row' hb rg10.out
      replace rg11 : Hid _ := Ok.row' hb rg11.out
      have Hy2 : Hid (Ok w0 y2) := Hy1.out.step hb
      clear hb Hy1
      cases pb
      · skip
        have zz := row17_facts (rk.out)
        have kk0 := zz.1
        have kk1 := zz.2.1
        have kk2 := zz.2.2.1
        have kk3 := zz.2.2.2.1
        have kk4 := zz.2.2.2.2.1
        have kk5 := zz.2.2.2.2.2.1
        have kk6 := zz.2.2.2.2.2.2.1
        have kk7 := zz.2.2.2.2.2.2.2.1
        have kk8 := zz.2.2.2.2.2.2.2.2.1
        have kk9 := zz.2.2.2.2.2.2.2.2.2.1
        have kk10 := zz.2.2.2.2.2.2.2.2.2.2.1
        have kk11 := zz.2.2.2.2.2.2.2.2.2.2.2.1
        have kk12 := zz.2.2.2.2.2.2.2.2.2.2.2.2.1
        have kk13 := zz.2.2.2.2.2.2.2.2.2.2.2.2.2.1
        have kk14 := zz.2.2.2.2.2.2.2.2.2.2.2.2.2.2.1
        have kk15 := zz.2.2.2.2.2.2.2.2.2.2.2.2.2.2.2.1
        have kk16 := zz.2.2.2.2.2.2.2.2.2.2.2.2.2.2.2.2
        clear zz
        go_wp2_with fail
        clear kk0 kk1 kk2 kk3 kk4 kk5 kk6 kk7 kk8 kk9 kk10 kk11 kk12 kk13 kk14 kk15 kk16
        refine (taken14 y2 _ (Ok.refl _)).mono ?_
        rintro e y3 ⟨rfl, hb⟩
        replace rk : Hid _ := Ok.row' hb rk.out
        replace rg7 : Hid _ := Ok.row' hb rg7.out
        replace rg8 : Hid _ := Ok.row' hb rg8.out
        replace rg10 : Hid _ := Ok.row' hb rg10.out
        replace rg11 : Hid _ := Ok.row' hb rg11.out
        have Hy3 : Hid (Ok w0 y3) := Hy2.out.step hb
        clear hb Hy2
        go_wp2_with fail
        go_ret
        exact ⟨rfl, Hy3.out⟩
      · have KT2 : Hid _ := KT1.out rfl
        have KF2 : Hid _ := KF1.out rfl
        clear KT1 KF1
        have zz := row17_facts (rk.out)
        have kk0 := zz.1
        have kk1 := zz.2.1
        have kk2 := zz.2.2.1
        have kk3 := zz.2.2.2.1
        have kk4 := zz.2.2.2.2.1
        have kk5 := zz.2.2.2.2.2.1
        have kk6 := zz.2.2.2.2.2.2.1
        have kk7 := zz.2.2.2.2.2.2.2.1
        have kk8 := zz.2.2.2.2.2.2.2.2.1
        have kk9 := zz.2.2.2.2.2.2.2.2.2.1
        have kk10 := zz.2.2.2.2.2.2.2.2.2.2.1
        have kk11 := zz.2.2.2.2.2.2.2.2.2.2.2.1
        have kk12 := zz.2.2.2.2.2.2.2.2.2.2.2.2.1
        have kk13 := zz.2.2.2.2.2.2.2.2.2.2.2.2.2.1
        have kk14 := zz.2.2.2.2.2.2.2.2.2.2.2.2.2.2.1
        have kk15 := zz.2.2.2.2.2.2.2.2.2.2.2.2.2.2.2.1
        have kk16 := zz.2.2.2.2.2.2.2.2.2.2.2.2.2.2.2.2
        clear zz
        go_wp2_with fail
        clear kk0 kk1 kk2 kk3 kk4 kk5 kk6 kk7 kk8 kk9 kk10 kk11 kk12 kk13 kk14 kk15 kk16
        refine (vholds_any op kx ky HO.out.1 y2 _ (Ok.refl _)).mono ?_
        rintro e y3 ⟨rfl, hb⟩
        rw [← HHV.out]
        replace rk : Hid _ := Ok.row' hb rk.out
        replace rg7 : Hid _ := Ok.row' hb rg7.out
        replace rg8 : Hid _ := Ok.row' hb rg8.out
        replace rg10 : Hid _ := Ok.row' hb rg10.out
        replace rg11 : Hid _ := Ok.row' hb rg11.out
        have Hy3 : Hid (Ok w0 y3) := Hy2.out.step hb
        clear hb Hy2
        cases hv
        · have KK : Hid _ := KF2.out rfl
          clear KT2 KF2
          have zz := row5_facts (rg10.out)
          have fa0 := zz.1
          have fa1 := zz.2.1
          have fa2 := zz.2.2.1
          have fa3 := zz.2.2.2.1
          have fa4 := zz.2.2.2.2.1
          have fa5 := zz.2.2.2.2.2.1
          have fa6 := zz.2.2.2.2.2.2.1
          have fa7 := zz.2.2.2.2.2.2.2.1
          have fa8 := zz.2.2.2.2.2.2.2.2.1
          have fa9 := zz.2.2.2.2.2.2.2.2.2
          clear zz
          have zz := row17_facts (rk.out)
          have kk0 := zz.1
          have kk1 := zz.2.1
          have kk2 := zz.2.2.1
          have kk3 := zz.2.2.2.1
          have kk4 := zz.2.2.2.2.1
          have kk5 := zz.2.2.2.2.2.1
          have kk6 := zz.2.2.2.2.2.2.1
          have kk7 := zz.2.2.2.2.2.2.2.1
          have kk8 := zz.2.2.2.2.2.2.2.2.1
          have kk9 := zz.2.2.2.2.2.2.2.2.2.1
          have kk10 := zz.2.2.2.2.2.2.2.2.2.2.1
          have kk11 := zz.2.2.2.2.2.2.2.2.2.2.2.1
          have kk12 := zz.2.2.2.2.2.2.2.2.2.2.2.2.1
          have kk13 := zz.2.2.2.2.2.2.2.2.2.2.2.2.2.1
          have kk14 := zz.2.2.2.2.2.2.2.2.2.2.2.2.2.2.1
          have kk15 := zz.2.2.2.2.2.2.2.2.2.2.2.2.2.2.2.1
          have kk16 := zz.2.2.2.2.2.2.2.2.2.2.2.2.2.2.2.2
          clear zz
          go_wp2_with fail
          clear fa0 fa1 fa2 fa3 fa4 fa5 fa6 fa7 fa8 fa9
          clear kk0 kk1 kk2 kk3 kk4 kk5 kk6 kk7 kk8 kk9 kk10 kk11 kk12 kk13 kk14 kk15 kk16
          refine (rnhas_any V kx RV.out.1 y3 _ (Ok.refl _)).mono ?_
          rintro e z1 ⟨rfl, hb⟩
          rw [KK.out.1]
          replace rk : Hid _ := Ok.row' hb rk.out
          replace rg7 : Hid _ := Ok.row' hb rg7.out
          replace rg8 : Hid _ := Ok.row' hb rg8.out
          replace rg10 : Hid _ := Ok.row' hb rg10.out
          replace rg11 : Hid _ := Ok.row' hb rg11.out
          have Hz1 : Hid (Ok w0 z1) := Hy3.out.step hb
          clear hb Hy3
          have zz := row5_facts (rg11.out)
          have fa0 := zz.1
          have fa1 := zz.2.1
          have fa2 := zz.2.2.1
          have fa3 := zz.2.2.2.1
          have fa4 := zz.2.2.2.2.1
          have fa5 := zz.2.2.2.2.2.1
          have fa6 := zz.2.2.2.2.2.2.1
          have fa7 := zz.2.2.2.2.2.2.2.1
          have fa8 := zz.2.2.2.2.2.2.2.2.1
          have fa9 := zz.2.2.2.2.2.2.2.2.2
          clear zz
          have zz := row17_facts (rk.out)
          have kk0 := zz.1
          have kk1 := zz.2.1
          have kk2 := zz.2.2.1
          have kk3 := zz.2.2.2.1
          have kk4 := zz.2.2.2.2.1
          have kk5 := zz.2.2.2.2.2.1
          have kk6 := zz.2.2.2.2.2.2.1
          have kk7 := zz.2.2.2.2.2.2.2.1
          have kk8 := zz.2.2.2.2.2.2.2.2.1
          have kk9 := zz.2.2.2.2.2.2.2.2.2.1
          have kk10 := zz.2.2.2.2.2.2.2.2.2.2.1
          have kk11 := zz.2.2.2.2.2.2.2.2.2.2.2.1
          have kk12 := zz.2.2.2.2.2.2.2.2.2.2.2.2.1
          have kk13 := zz.2.2.2.2.2.2.2.2.2.2.2.2.2.1
          have kk14 := zz.2.2.2.2.2.2.2.2.2.2.2.2.2.2.1
          have kk15 := zz.2.2.2.2.2.2.2.2.2.2.2.2.2.2.2.1
          have kk16 := zz.2.2.2.2.2.2.2.2.2.2.2.2.2.2.2.2
          clear zz
          go_wp2_with fail
          clear fa0 fa1 fa2 fa3 fa4 fa5 fa6 fa7 fa8 fa9
          clear kk0 kk1 kk2 kk3 kk4 kk5 kk6 kk7 kk8 kk9 kk10 kk11 kk12 kk13 kk14 kk15 kk16
          refine (rnhas_any X ky RV.out.2 z1 _ (Ok.refl _)).mono ?_
          rintro e z2 ⟨rfl, hb⟩
          rw [KK.out.2]
          replace rk : Hid _ := Ok.row' hb rk.out
          replace rg7 : Hid _ := Ok.row' hb rg7.out
          replace rg8 : Hid _ := Ok.row' hb rg8.out
          replace rg10 : Hid _ := Ok.row' hb rg10.out
          replace rg11 : Hid _ := Ok.row' hb rg11.out
          have Hz2 : Hid (Ok w0 z2) := Hz1.out.step hb
          clear hb Hz1
          go_wp2_with fail
          refine (taken14 z2 _ (Ok.refl _)).mono ?_
          rintro e z3 ⟨rfl, hb⟩
          replace rk : Hid _ := Ok.row' hb rk.out
          replace rg7 : Hid _ := Ok.row' hb rg7.out
          replace rg8 : Hid _ := Ok.row' hb rg8.out
          replace rg10 : Hid _ := Ok.row' hb rg10.out
          replace rg11 : Hid _ := Ok.row' hb rg11.out
          have Hz3 : Hid (Ok w0 z3) := Hz2.out.step hb
          clear hb Hz2
          go_wp2_with fail
          go_ret
          exact ⟨rfl, Hz3.out⟩
        · have KK : Hid _ := KT2.out rfl
          clear KT2 KF2
          have zz := row5_facts (rg7.out)
          have fa0 := zz.1
          have fa1 := zz.2.1
          have fa2 := zz.2.2.1
          have fa3 := zz.2.2.2.1
          have fa4 := zz.2.2.2.2.1
          have fa5 := zz.2.2.2.2.2.1
          have fa6 := zz.2.2.2.2.2.2.1
          have fa7 := zz.2.2.2.2.2.2.2.1
          have fa8 := zz.2.2.2.2.2.2.2.2.1
          have fa9 := zz.2.2.2.2.2.2.2.2.2
          clear zz
          have zz := row17_facts (rk.out)
          have kk0 := zz.1
          have kk1 := zz.2.1
          have kk2 := zz.2.2.1
          have kk3 := zz.2.2.2.1
          have kk4 := zz.2.2.2.2.1
          have kk5 := zz.2.2.2.2.2.1
          have kk6 := zz.2.2.2.2.2.2.1
          have kk7 := zz.2.2.2.2.2.2.2.1
          have kk8 := zz.2.2.2.2.2.2.2.2.1
          have kk9 := zz.2.2.2.2.2.2.2.2.2.1
          have kk10 := zz.2.2.2.2.2.2.2.2.2.2.1
          have kk11 := zz.2.2.2.2.2.2.2.2.2.2.2.1
          have kk12 := zz.2.2.2.2.2.2.2.2.2.2.2.2.1
          have kk13 := zz.2.2.2.2.2.2.2.2.2.2.2.2.2.1
          have kk14 := zz.2.2.2.2.2.2.2.2.2.2.2.2.2.2.1
          have kk15 := zz.2.2.2.2.2.2.2.2.2.2.2.2.2.2.2.1
          have kk16 := zz.2.2.2.2.2.2.2.2.2.2.2.2.2.2.2.2
          clear zz
          go_wp2_with fail
          clear fa0 fa1 fa2 fa3 fa4 fa5 fa6 fa7 fa8 fa9
          clear kk0 kk1 kk2 kk3 kk4 kk5 kk6 kk7 kk8 kk9 kk10 kk11 kk12 kk13 kk14 kk15 kk16
          refine (rnhas_any L kx RL.out.1 y3 _ (Ok.refl _)).mono ?_
          rintro e z1 ⟨rfl, hb⟩
          rw [KK.out.1]
          replace rk : Hid _ := Ok.row' hb rk.out
          replace rg7 : Hid _ := Ok.row' hb rg7.out
          replace rg8 : Hid _ := Ok.row' hb rg8.out
          replace rg10 : Hid _ := Ok.row' hb rg10.out
          replace rg11 : Hid _ := Ok.row' hb rg11.out
          have Hz1 : Hid (Ok w0 z1) := Hy3.out.step hb
          clear hb Hy3
          have zz := row5_facts (rg8.out)
          have fa0 := zz.1
          have fa1 := zz.2.1
          have fa2 := zz.2.2.1
          have fa3 := zz.2.2.2.1
          have fa4 := zz.2.2.2.2.1
          have fa5 := zz.2.2.2.2.2.1
          have fa6 := zz.2.2.2.2.2.2.1
          have fa7 := zz.2.2.2.2.2.2.2.1
          have fa8 := zz.2.2.2.2.2.2.2.2.1
          have fa9 := zz.2.2.2.2.2.2.2.2.2
          clear zz
          have zz := row17_facts (rk.out)
          have kk0 := zz.1
          have kk1 := zz.2.1
          have kk2 := zz.2.2.1
          have kk3 := zz.2.2.2.1
          have kk4 := zz.2.2.2.2.1
          have kk5 := zz.2.2.2.2.2.1
          have kk6 := zz.2.2.2.2.2.2.1
          have kk7 := zz.2.2.2.2.2.2.2.1
          have kk8 := zz.2.2.2.2.2.2.2.2.1
          have kk9 := zz.2.2.2.2.2.2.2.2.2.1
          have kk10 := zz.2.2.2.2.2.2.2.2.2.2.1
          have kk11 := zz.2.2.2.2.2.2.2.2.2.2.2.1
          have kk12 := zz.2.2.2.2.2.2.2.2.2.2.2.2.1
          have kk13 := zz.2.2.2.2.2.2.2.2.2.2.2.2.2.1
          have kk14 := zz.2.2.2.2.2.2.2.2.2.2.2.2.2.2.1
          have kk15 := zz.2.2.2.2.2.2.2.2.2.2.2.2.2.2.2.1
          have kk16 := zz.2.2.2.2.2.2.2.2.2.2.2.2.2.2.2.2
          clear zz
          go_wp2_with fail
          clear fa0 fa1 fa2 fa3 fa4 fa5 fa6 fa7 fa8 fa9
          clear kk0 kk1 kk2 kk3 kk4 kk5 kk6 kk7 kk8 kk9 kk10 kk11 kk12 kk13 kk14 kk15 kk16
          refine (rnhas_any R ky RL.out.2 z1 _ (Ok.refl _)).mono ?_
          rintro e z2 ⟨rfl, hb⟩
          rw [KK.out.2]
          replace rk : Hid _ := Ok.row' hb rk.out
          replace rg7 : Hid _ := Ok.row' hb rg7.out
          replace rg8 : Hid _ := Ok.row' hb rg8.out
          replace rg10 : Hid _ := Ok.row' hb rg10.out
          replace rg11 : Hid _ := Ok.row' hb rg11.out
          have Hz2 : Hid (Ok w0 z2) := Hz1.out.step hb
          clear hb Hz1
          go_wp2_with fail
          refine (taken14 z2 _ (Ok.refl _)).mono ?_
          rintro e z3 ⟨rfl, hb⟩
          replace rk : Hid _ := Ok.row' hb rk.out
          replace rg7 : Hid _ := Ok.row' hb rg7.out
          replace rg8 : Hid _ := Ok.row' hb rg8.out
          replace rg10 : Hid _ := Ok.row' hb rg10.out
          replace rg11 : Hid _ := Ok.row' hb rg11.out
          have Hz3 : Hid (Ok w0 z3) := Hz2.out.step hb
          clear hb Hz2
          go_wp2_with fail
          go_ret
          exact ⟨rfl, Hz3.out⟩
  · have HO : Hid (¬ OpC op) := ho
    clear ho
    obtain ⟨bo, hbo⟩ : ∃ t, t = botN := ⟨_, rfl⟩
    have HBO : Hid _ := hbo
    clear hbo
    refine (vNegate_no op HO.out W0 _ (Ok.refl _)).mono ?_
    rintro e v1 ⟨rfl, hb⟩
    replace rk : Hid _ := Ok.row' hb rk.out
    have Hv1 : Hid (Ok w0 v1) := HW0.out.step hb
    clear hb HW0
    have zz := row17_facts (rk.out)
    have kk0 := zz.1
    have kk1 := zz.2.1
    have kk2 := zz.2.2.1
    have kk3 := zz.2.2.2.1
    have kk4 := zz.2.2.2.2.1
    have kk5 := zz.2.2.2.2.2.1
    have kk6 := zz.2.2.2.2.2.2.1
    have kk7 := zz.2.2.2.2.2.2.2.1
    have kk8 := zz.2.2.2.2.2.2.2.2.1
    have kk9 := zz.2.2.2.2.2.2.2.2.2.1
    have kk10 := zz.2.2.2.2.2.2.2.2.2.2.1
    have kk11 := zz.2.2.2.2.2.2.2.2.2.2.2.1
    have kk12 := zz.2.2.2.2.2.2.2.2.2.2.2.2.1
    have kk13 := zz.2.2.2.2.2.2.2.2.2.2.2.2.2.1
    have kk14 := zz.2.2.2.2.2.2.2.2.2.2.2.2.2.2.1
    have kk15 := zz.2.2.2.2.2.2.2.2.2.2.2.2.2.2.2.1
    have kk16 := zz.2.2.2.2.2.2.2.2.2.2.2.2.2.2.2.2
    clear zz
    go_wp2_with fail
    clear kk0 kk1 kk2 kk3 kk4 kk5 kk6 kk7 kk8 kk9 kk10 kk11 kk12 kk13 kk14 kk15 kk16
    refine (vCompare_no op HO.out a b HU.out.1 HU.out.2.1 v1 _ (Ok.refl _)).mono ?_
    rintro e v2 ⟨rfl, hb⟩
    rw [← HBO.out]
    unfold nv
    replace rk : Hid _ := Ok.row' hb rk.out
    have Hv2 : Hid (Ok w0 v2) := Hv1.out.step hb
    clear hb Hv1
    go_upto_region 3 with (fail)
    obtain ⟨v3, hv3⟩ : ∃ W, W = (v2.alloc (.cells #[.bool bo.2.2.2.2, .int .i64 bo.1, .int .i64 bo.2.1, .int .u64 (bo.2.2.1 : Int), .int .u64 (bo.2.2.2.1 : Int)] 29)).alloc (.cells #[.bool bo.2.2.2.2, .int .i64 bo.1, .int .i64 bo.2.1, .int .u64 (bo.2.2.1 : Int), .int .u64 (bo.2.2.2.1 : Int)] 29) := ⟨_, rfl⟩
    have rg7 : Hid (v3.heap[v2.heap.size]? = some (.cells #[.bool bo.2.2.2.2, .int .i64 bo.1, .int .i64 bo.2.1, .int .u64 (bo.2.2.1 : Int), .int .u64 (bo.2.2.2.1 : Int)] 29)) := by unfold Hid; rw [hv3]; exact (by repeat (first | (refine heap_at _ _ _ ?hx; case hx => (first | (simp; done) | (simp; omega))) | (refine heap_past _ _ _ ?hy ?_; case hy => (first | (simp; done) | (simp; omega))) | fail))
    have rg8 : Hid (v3.heap[v2.heap.size + 1]? = some (.cells #[.bool bo.2.2.2.2, .int .i64 bo.1, .int .i64 bo.2.1, .int .u64 (bo.2.2.1 : Int), .int .u64 (bo.2.2.2.1 : Int)] 29)) := by unfold Hid; rw [hv3]; exact (by repeat (first | (refine heap_at _ _ _ ?hx; case hx => (first | (simp; done) | (simp; omega))) | (refine heap_past _ _ _ ?hy ?_; case hy => (first | (simp; done) | (simp; omega))) | fail))
    have hO : Ok v2 v3 := by rw [hv3]; exact ((Ok.refl _).alloc _).alloc _
    rw [← hv3]
    obtain ⟨g8, eg8⟩ : ∃ g, g = v2.heap.size + 1 := ⟨_, rfl⟩
    rw [← eg8] at rg8 ⊢
    obtain ⟨g7, eg7⟩ : ∃ g, g = v2.heap.size := ⟨_, rfl⟩
    rw [← eg7] at rg7 ⊢
    clear hv3 eg7 eg8
    replace rk : Hid _ := Ok.row' hO rk.out
    have Hv3 : Hid (Ok w0 v3) := Hv2.out.step hO
    clear hO Hv2
    have zz := row17_facts (rk.out)
    have kk0 := zz.1
    have kk1 := zz.2.1
    have kk2 := zz.2.2.1
    have kk3 := zz.2.2.2.1
    have kk4 := zz.2.2.2.2.1
    have kk5 := zz.2.2.2.2.2.1
    have kk6 := zz.2.2.2.2.2.2.1
    have kk7 := zz.2.2.2.2.2.2.2.1
    have kk8 := zz.2.2.2.2.2.2.2.2.1
    have kk9 := zz.2.2.2.2.2.2.2.2.2.1
    have kk10 := zz.2.2.2.2.2.2.2.2.2.2.1
    have kk11 := zz.2.2.2.2.2.2.2.2.2.2.2.1
    have kk12 := zz.2.2.2.2.2.2.2.2.2.2.2.2.1
    have kk13 := zz.2.2.2.2.2.2.2.2.2.2.2.2.2.1
    have kk14 := zz.2.2.2.2.2.2.2.2.2.2.2.2.2.2.1
    have kk15 := zz.2.2.2.2.2.2.2.2.2.2.2.2.2.2.2.1
    have kk16 := zz.2.2.2.2.2.2.2.2.2.2.2.2.2.2.2.2
    clear zz
    go_wp2_with fail
    clear kk0 kk1 kk2 kk3 kk4 kk5 kk6 kk7 kk8 kk9 kk10 kk11 kk12 kk13 kk14 kk15 kk16
    refine (taken14 v3 _ (Ok.refl _)).mono ?_
    rintro e v4 ⟨rfl, hb⟩
    replace rk : Hid _ := Ok.row' hb rk.out
    replace rg7 : Hid _ := Ok.row' hb rg7.out
    replace rg8 : Hid _ := Ok.row' hb rg8.out
    have Hv4 : Hid (Ok w0 v4) := Hv3.out.step hb
    clear hb Hv3
    go_wp2_with fail
    go_ret
    exact ⟨rfl, Hv4.out⟩
end Go.Proofs.YtgkbegmaffknbabGreat
