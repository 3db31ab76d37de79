import Derived.Deep.Cut
import Derived.Deep.CutRange
import Derived.Test.YtgkbegmaffknbaaGreatTVt
set_option linter.unusedVariables false
set_option linter.unusedSimpArgs false
set_option linter.unnecessarySimpa false
/- Vu -/
namespace Go.Proofs.YtgkbegmaffknbaaGreat
open Go.RowKit Go.Shelf Go.Maps
theorem row17_facts {w : World} {g : Nat} {c0 c1 c2 c3 c4 c5 c6 c7 c8 c9 c10 c11 c12 c13 c14 c15 c16 : Value} {t : TypeId} (h : w.heap[g]? = some (.cells #[c0, c1, c2, c3, c4, c5, c6, c7, c8, c9, c10, c11, c12, c13, c14, c15, c16] t (0, 0))) :
    w.cell? ⟨g, 0, none⟩ = some c0 ∧ w.cell? ⟨g, 1, none⟩ = some c1 ∧ w.cell? ⟨g, 2, none⟩ = some c2 ∧ w.cell? ⟨g, 3, none⟩ = some c3 ∧ w.cell? ⟨g, 4, none⟩ = some c4 ∧ w.cell? ⟨g, 5, none⟩ = some c5 ∧ w.cell? ⟨g, 6, none⟩ = some c6 ∧ w.cell? ⟨g, 7, none⟩ = some c7 ∧ w.cell? ⟨g, 8, none⟩ = some c8 ∧ w.cell? ⟨g, 9, none⟩ = some c9 ∧ w.cell? ⟨g, 10, none⟩ = some c10 ∧ w.cell? ⟨g, 11, none⟩ = some c11 ∧ w.cell? ⟨g, 12, none⟩ = some c12 ∧ w.cell? ⟨g, 13, none⟩ = some c13 ∧ w.cell? ⟨g, 14, none⟩ = some c14 ∧ w.cell? ⟨g, 15, none⟩ = some c15 ∧ w.cell? ⟨g, 16, none⟩ = some c16 := by
  refine ⟨?_, ?_, ?_, ?_, ?_, ?_, ?_, ?_, ?_, ?_, ?_, ?_, ?_, ?_, ?_, ?_, ?_⟩
  · exact (cell_of_row _ _ 0 _ _ _ h).trans (by simp)
  · exact (cell_of_row _ _ 1 _ _ _ h).trans (by simp)
  · exact (cell_of_row _ _ 2 _ _ _ h).trans (by simp)
  · exact (cell_of_row _ _ 3 _ _ _ h).trans (by simp)
  · exact (cell_of_row _ _ 4 _ _ _ h).trans (by simp)
  · exact (cell_of_row _ _ 5 _ _ _ h).trans (by simp)
  · exact (cell_of_row _ _ 6 _ _ _ h).trans (by simp)
  · exact (cell_of_row _ _ 7 _ _ _ h).trans (by simp)
  · exact (cell_of_row _ _ 8 _ _ _ h).trans (by simp)
  · exact (cell_of_row _ _ 9 _ _ _ h).trans (by simp)
  · exact (cell_of_row _ _ 10 _ _ _ h).trans (by simp)
  · exact (cell_of_row _ _ 11 _ _ _ h).trans (by simp)
  · exact (cell_of_row _ _ 12 _ _ _ h).trans (by simp)
  · exact (cell_of_row _ _ 13 _ _ _ h).trans (by simp)
  · exact (cell_of_row _ _ 14 _ _ _ h).trans (by simp)
  · exact (cell_of_row _ _ 15 _ _ _ h).trans (by simp)
  · exact (cell_of_row _ _ 16 _ _ _ h).trans (by simp)
set_option maxHeartbeats 4000000 in
theorem vholds_any (op x y : Int) (ho : OpC op) (w0 w : World) (hok : Ok w0 w) :
    Calls Tryz.prog 42 #[.int .i64 op, .int .i64 x, .int .i64 y] w fun e w' => e = .returned (.bool (holdsV op x y)) ∧ Ok w0 w' := by
  rcases ho with rfl | rfl | rfl | rfl | rfl | rfl
  · go_enter Tryz.func42, Tryz.ntmps42
    go_wp2_with fail
    go_ret
    exact ⟨by first | rfl | (simp [holdsV]; done) | (simp [holdsV, bne]; done), hok⟩
  · go_enter Tryz.func42, Tryz.ntmps42
    go_wp2_with fail
    go_ret
    exact ⟨by first | rfl | (simp [holdsV]; done) | (simp [holdsV, bne]; done), hok⟩
  · go_enter Tryz.func42, Tryz.ntmps42
    go_wp2_with fail
    go_ret
    exact ⟨by first | rfl | (simp [holdsV]; done) | (simp [holdsV, bne]; done), hok⟩
  · go_enter Tryz.func42, Tryz.ntmps42
    go_wp2_with fail
    go_ret
    exact ⟨by first | rfl | (simp [holdsV]; done) | (simp [holdsV, bne]; done), hok⟩
  · go_enter Tryz.func42, Tryz.ntmps42
    go_wp2_with fail
    go_ret
    exact ⟨by first | rfl | (simp [holdsV]; done) | (simp [holdsV, bne]; done), hok⟩
  · go_enter Tryz.func42, Tryz.ntmps42
    go_wp2_with fail
    go_ret
    exact ⟨by first | rfl | (simp [holdsV]; done) | (simp [holdsV, bne]; done), hok⟩
set_option maxRecDepth 100000 in
set_option maxHeartbeats 40000000 in
theorem turned_any (op : Int) (a b c : Int × Int × Nat × Nat × Bool) (kx ky : Int) (hop : In64 op) (ha : RawN a) (hb : RawN b) (hx : In64 kx) (hy : In64 ky) (w0 w : World) (hok : Ok w0 w) :
    Calls Tryz.prog 8 #[.int .i64 op, .agg #[.bool a.2.2.2.2, .int .i64 a.1, .int .i64 a.2.1, .int .u64 (a.2.2.1 : Int), .int .u64 (a.2.2.2.1 : Int), .bool b.2.2.2.2, .int .i64 b.1, .int .i64 b.2.1, .int .u64 (b.2.2.1 : Int), .int .u64 (b.2.2.2.1 : Int), .bool c.2.2.2.2, .int .i64 c.1, .int .i64 c.2.1, .int .u64 (c.2.2.1 : Int), .int .u64 (c.2.2.2.1 : Int), .int .i64 kx, .int .i64 ky]] w fun e w' => e = .returned (.bool true) ∧ Ok w0 w' := by
  have hle := hok.le
  have HU : Hid (RawN a ∧ RawN b ∧ In64 kx ∧ In64 ky ∧ In64 op) := ⟨ha, hb, hx, hy, hop⟩
  clear ha hb hx hy hop
  have hmm := @run_makeMap Tryz.prog
  go_enter Tryz.func8, Tryz.ntmps8
  go_upto_region 1 with (fail)
  obtain ⟨W0, hW0⟩ : ∃ W, W = (w).alloc (.cells #[.bool a.2.2.2.2, .int .i64 a.1, .int .i64 a.2.1, .int .u64 (a.2.2.1 : Int), .int .u64 (a.2.2.2.1 : Int), .bool b.2.2.2.2, .int .i64 b.1, .int .i64 b.2.1, .int .u64 (b.2.2.1 : Int), .int .u64 (b.2.2.2.1 : Int), .bool c.2.2.2.2, .int .i64 c.1, .int .i64 c.2.1, .int .u64 (c.2.2.1 : Int), .int .u64 (c.2.2.2.1 : Int), .int .i64 kx, .int .i64 ky] 58) := ⟨_, rfl⟩
  have rk : Hid (W0.heap[w.heap.size]? = some (.cells #[.bool a.2.2.2.2, .int .i64 a.1, .int .i64 a.2.1, .int .u64 (a.2.2.1 : Int), .int .u64 (a.2.2.2.1 : Int), .bool b.2.2.2.2, .int .i64 b.1, .int .i64 b.2.1, .int .u64 (b.2.2.1 : Int), .int .u64 (b.2.2.2.1 : Int), .bool c.2.2.2.2, .int .i64 c.1, .int .i64 c.2.1, .int .u64 (c.2.2.1 : Int), .int .u64 (c.2.2.2.1 : Int), .int .i64 kx, .int .i64 ky] 58)) := by unfold Hid; rw [hW0]; exact (by repeat (first | (refine heap_at _ _ _ ?hx; case hx => (first | (simp; done) | (simp; omega))) | (refine heap_past _ _ _ ?hy ?_; case hy => (first | (simp; done) | (simp; omega))) | fail))
  have HW0 : Hid (Ok w0 W0) := by unfold Hid; rw [hW0]; exact (by repeat (first | exact hok | refine Ok.alloc ?_ _ | refine Ok.draws ?_ _ | fail))
  rw [← hW0]
  clear hW0
  obtain ⟨gk, egk⟩ : ∃ g, g = w.heap.size := ⟨_, rfl⟩
  rw [← egk] at rk ⊢
  have lgk : w0.heap.size ≤ gk := by omega
  clear egk
  obtain ⟨m1, m2, m3, m4, m5, m6, r1, r2, r3, r4, r5, r6, t6, o6⟩ := back_map W0
  have hlk := t6.look (v := op) HU.out.2.2.2.2
  replace rk : Hid _ := Ok.row' o6 rk.out
  have Hm6 : Hid (Ok w0 m6) := HW0.out.step o6
  clear t6 o6 HW0
  obtain ⟨bk, hbk⟩ : ∃ t, t = backF op := ⟨_, rfl⟩
  rw [← hbk] at hlk
  have HBK : Hid _ := hbk
  clear hbk
  have zz := row17_facts (rk.out)
  have kk0 := zz.1
  have kk1 := zz.2.1
  have kk2 := zz.2.2.1
  have kk3 := zz.2.2.2.1
  have kk4 := zz.2.2.2.2.1
  have kk5 := zz.2.2.2.2.2.1
  have kk6 := zz.2.2.2.2.2.2.1
  have kk7 := zz.2.2.2.2.2.2.2.1
  have kk8 := zz.2.2.2.2.2.2.2.2.1
  have kk9 := zz.2.2.2.2.2.2.2.2.2.1
  have kk10 := zz.2.2.2.2.2.2.2.2.2.2.1
  have kk11 := zz.2.2.2.2.2.2.2.2.2.2.2.1
  have kk12 := zz.2.2.2.2.2.2.2.2.2.2.2.2.1
  have kk13 := zz.2.2.2.2.2.2.2.2.2.2.2.2.2.1
  have kk14 := zz.2.2.2.2.2.2.2.2.2.2.2.2.2.2.1
  have kk15 := zz.2.2.2.2.2.2.2.2.2.2.2.2.2.2.2.1
  have kk16 := zz.2.2.2.2.2.2.2.2.2.2.2.2.2.2.2.2
  clear zz
  go_wp2_with fail
  clear r1 r2 r3 r4 r5 r6 hlk hmm
  clear kk0 kk1 kk2 kk3 kk4 kk5 kk6 kk7 kk8 kk9 kk10 kk11 kk12 kk13 kk14 kk15 kk16
  by_cases ho : OpC op
  · have HO : Hid (OpC op ∧ OpC bk) := ⟨ho, by rw [HBK.out]; exact opc_back ho⟩
    clear ho
    obtain ⟨L, hL⟩ : ∃ t, t = (cmpA op (normN a) (normN b)).1 := ⟨_, rfl⟩
    obtain ⟨R, hR⟩ : ∃ t, t = (cmpA op (normN a) (normN b)).2 := ⟨_, rfl⟩
    have EB : Hid (cmpA bk (normN b) (normN a) = (R, L)) := by unfold Hid; rw [HBK.out, cmp_back HO.out.1 (normN_raw HU.out.1) (normN_raw HU.out.2.1), hL, hR]
    have HL : Hid _ := hL
    have HR : Hid _ := hR
    clear hL hR
    refine (vCompare_any op HO.out.1 a b HU.out.1 HU.out.2.1 m6 _ (Ok.refl _)).mono ?_
    rintro e v1 ⟨rfl, hb⟩
    rw [← HL.out, ← HR.out]
    unfold nv
    replace rk : Hid _ := Ok.row' hb rk.out
    have Hv1 : Hid (Ok w0 v1) := Hm6.out.step hb
    clear hb Hm6
    go_upto_region 3 with (fail)
    obtain ⟨v2, hv2⟩ : ∃ W, W = (v1.alloc (.cells #[.bool L.2.2.2.2, .int .i64 L.1, .int .i64 L.2.1, .int .u64 (L.2.2.1 : Int), .int .u64 (L.2.2.2.1 : Int)] 28)).alloc (.cells #[.bool R.2.2.2.2, .int .i64 R.1, .int .i64 R.2.1, .int .u64 (R.2.2.1 : Int), .int .u64 (R.2.2.2.1 : Int)] 28) := ⟨_, rfl⟩
    have rg6 : Hid (v2.heap[v1.heap.size]? = some (.cells #[.bool L.2.2.2.2, .int .i64 L.1, .int .i64 L.2.1, .int .u64 (L.2.2.1 : Int), .int .u64 (L.2.2.2.1 : Int)] 28)) := by unfold Hid; rw [hv2]; exact (by repeat (first | (refine heap_at _ _ _ ?hx; case hx => (first | (simp; done) | (simp; omega))) | (refine heap_past _ _ _ ?hy ?_; case hy => (first | (simp; done) | (simp; omega))) | fail))
    have rg7 : Hid (v2.heap[v1.heap.size + 1]? = some (.cells #[.bool R.2.2.2.2, .int .i64 R.1, .int .i64 R.2.1, .int .u64 (R.2.2.1 : Int), .int .u64 (R.2.2.2.1 : Int)] 28)) := by unfold Hid; rw [hv2]; exact (by repeat (first | (refine heap_at _ _ _ ?hx; case hx => (first | (simp; done) | (simp; omega))) | (refine heap_past _ _ _ ?hy ?_; case hy => (first | (simp; done) | (simp; omega))) | fail))
    have hO : Ok v1 v2 := by rw [hv2]; exact ((Ok.refl _).alloc _).alloc _
    rw [← hv2]
    obtain ⟨g7, eg7⟩ : ∃ g, g = v1.heap.size + 1 := ⟨_, rfl⟩
    rw [← eg7] at rg7 ⊢
    obtain ⟨g6, eg6⟩ : ∃ g, g = v1.heap.size := ⟨_, rfl⟩
    rw [← eg6] at rg6 ⊢
    have qh := Hv1.out.le
    have lg6 : w0.heap.size ≤ g6 := by omega
    have lg7 : w0.heap.size ≤ g7 := by omega
    have ng6g7 : ¬ g6 = g7 := by omega
    have q_rk := lt_row rk.out
    have ngkg6 : ¬ gk = g6 := by omega
    have ngkg7 : ¬ gk = g7 := by omega
    have ng6gk : ¬ g6 = gk := by omega
    have ng7gk : ¬ g7 = gk := by omega
    have ng7g6 : ¬ g7 = g6 := by omega
    clear hv2 eg6 eg7 qh q_rk
    replace rk : Hid _ := Ok.row' hO rk.out
    have Hv2 : Hid (Ok w0 v2) := Hv1.out.step hO
    clear hO Hv1
    have zz := row17_facts (rk.out)
    have kk0 := zz.1
    have kk1 := zz.2.1
    have kk2 := zz.2.2.1
    have kk3 := zz.2.2.2.1
    have kk4 := zz.2.2.2.2.1
    have kk5 := zz.2.2.2.2.2.1
    have kk6 := zz.2.2.2.2.2.2.1
    have kk7 := zz.2.2.2.2.2.2.2.1
    have kk8 := zz.2.2.2.2.2.2.2.2.1
    have kk9 := zz.2.2.2.2.2.2.2.2.2.1
    have kk10 := zz.2.2.2.2.2.2.2.2.2.2.1
    have kk11 := zz.2.2.2.2.2.2.2.2.2.2.2.1
    have kk12 := zz.2.2.2.2.2.2.2.2.2.2.2.2.1
    have kk13 := zz.2.2.2.2.2.2.2.2.2.2.2.2.2.1
    have kk14 := zz.2.2.2.2.2.2.2.2.2.2.2.2.2.2.1
    have kk15 := zz.2.2.2.2.2.2.2.2.2.2.2.2.2.2.2.1
    have kk16 := zz.2.2.2.2.2.2.2.2.2.2.2.2.2.2.2.2
    clear zz
    go_wp2_with fail
    clear kk0 kk1 kk2 kk3 kk4 kk5 kk6 kk7 kk8 kk9 kk10 kk11 kk12 kk13 kk14 kk15 kk16
    refine (vCompare_any bk HO.out.2 b a HU.out.2.1 HU.out.1 v2 _ (Ok.refl _)).mono ?_
    rintro e v3 ⟨rfl, hb⟩
    rw [EB.out]
    unfold nv
    replace rk : Hid _ := Ok.row' hb rk.out
    replace rg6 : Hid _ := Ok.row' hb rg6.out
    replace rg7 : Hid _ := Ok.row' hb rg7.out
    have Hv3 : Hid (Ok w0 v3) := Hv2.out.step hb
    clear hb Hv2
    go_upto_region 4 with (fail)
    obtain ⟨v4, hv4⟩ : ∃ W, W = (v3.alloc (.cells #[.bool R.2.2.2.2, .int .i64 R.1, .int .i64 R.2.1, .int .u64 (R.2.2.1 : Int), .int .u64 (R.2.2.2.1 : Int)] 28)).alloc (.cells #[.bool L.2.2.2.2, .int .i64 L.1, .int .i64 L.2.1, .int .u64 (L.2.2.1 : Int), .int .u64 (L.2.2.2.1 : Int)] 28) := ⟨_, rfl⟩
    have rg9 : Hid (v4.heap[v3.heap.size]? = some (.cells #[.bool R.2.2.2.2, .int .i64 R.1, .int .i64 R.2.1, .int .u64 (R.2.2.1 : Int), .int .u64 (R.2.2.2.1 : Int)] 28)) := by unfold Hid; rw [hv4]; exact (by repeat (first | (refine heap_at _ _ _ ?hx; case hx => (first | (simp; done) | (simp; omega))) | (refine heap_past _ _ _ ?hy ?_; case hy => (first | (simp; done) | (simp; omega))) | fail))
    have rg10 : Hid (v4.heap[v3.heap.size + 1]? = some (.cells #[.bool L.2.2.2.2, .int .i64 L.1, .int .i64 L.2.1, .int .u64 (L.2.2.1 : Int), .int .u64 (L.2.2.2.1 : Int)] 28)) := by unfold Hid; rw [hv4]; exact (by repeat (first | (refine heap_at _ _ _ ?hx; case hx => (first | (simp; done) | (simp; omega))) | (refine heap_past _ _ _ ?hy ?_; case hy => (first | (simp; done) | (simp; omega))) | fail))
    have hO : Ok v3 v4 := by rw [hv4]; exact ((Ok.refl _).alloc _).alloc _
    rw [← hv4]
    obtain ⟨g10, eg10⟩ : ∃ g, g = v3.heap.size + 1 := ⟨_, rfl⟩
    rw [← eg10] at rg10 ⊢
    obtain ⟨g9, eg9⟩ : ∃ g, g = v3.heap.size := ⟨_, rfl⟩
    rw [← eg9] at rg9 ⊢
    have qh := Hv3.out.le
    have lg9 : w0.heap.size ≤ g9 := by omega
    have lg10 : w0.heap.size ≤ g10 := by omega
    have ng9g10 : ¬ g9 = g10 := by omega
    have q_rk := lt_row rk.out
    have ngkg9 : ¬ gk = g9 := by omega
    have ngkg10 : ¬ gk = g10 := by omega
    have q_rg6 := lt_row rg6.out
    have ng6g9 : ¬ g6 = g9 := by omega
    have ng6g10 : ¬ g6 = g10 := by omega
    have q_rg7 := lt_row rg7.out
    have ng7g9 : ¬ g7 = g9 := by omega
    have ng7g10 : ¬ g7 = g10 := by omega
    have ng9gk : ¬ g9 = gk := by omega
    have ng10gk : ¬ g10 = gk := by omega
    have ng9g6 : ¬ g9 = g6 := by omega
    have ng10g6 : ¬ g10 = g6 := by omega
    have ng9g7 : ¬ g9 = g7 := by omega
    have ng10g7 : ¬ g10 = g7 := by omega
    have ng10g9 : ¬ g10 = g9 := by omega
    clear hv4 eg9 eg10 qh q_rk q_rg6 q_rg7
    replace rk : Hid _ := Ok.row' hO rk.out
    replace rg6 : Hid _ := Ok.row' hO rg6.out
    replace rg7 : Hid _ := Ok.row' hO rg7.out
    have Hv4 : Hid (Ok w0 v4) := Hv3.out.step hO
    clear hO Hv3
    have zz := row5_facts (rg6.out)
    have fa0 := zz.1
    have fa1 := zz.2.1
    have fa2 := zz.2.2.1
    have fa3 := zz.2.2.2.1
    have fa4 := zz.2.2.2.2.1
    have fa5 := zz.2.2.2.2.2.1
    have fa6 := zz.2.2.2.2.2.2.1
    have fa7 := zz.2.2.2.2.2.2.2.1
    have fa8 := zz.2.2.2.2.2.2.2.2.1
    have fa9 := zz.2.2.2.2.2.2.2.2.2
    clear zz
    have zz := row5_facts (rg7.out)
    have fb0 := zz.1
    have fb1 := zz.2.1
    have fb2 := zz.2.2.1
    have fb3 := zz.2.2.2.1
    have fb4 := zz.2.2.2.2.1
    have fb5 := zz.2.2.2.2.2.1
    have fb6 := zz.2.2.2.2.2.2.1
    have fb7 := zz.2.2.2.2.2.2.2.1
    have fb8 := zz.2.2.2.2.2.2.2.2.1
    have fb9 := zz.2.2.2.2.2.2.2.2.2
    clear zz
    have zz := row5_facts (rg9.out)
    have fc0 := zz.1
    have fc1 := zz.2.1
    have fc2 := zz.2.2.1
    have fc3 := zz.2.2.2.1
    have fc4 := zz.2.2.2.2.1
    have fc5 := zz.2.2.2.2.2.1
    have fc6 := zz.2.2.2.2.2.2.1
    have fc7 := zz.2.2.2.2.2.2.2.1
    have fc8 := zz.2.2.2.2.2.2.2.2.1
    have fc9 := zz.2.2.2.2.2.2.2.2.2
    clear zz
    have zz := row5_facts (rg10.out)
    have fd0 := zz.1
    have fd1 := zz.2.1
    have fd2 := zz.2.2.1
    have fd3 := zz.2.2.2.1
    have fd4 := zz.2.2.2.2.1
    have fd5 := zz.2.2.2.2.2.1
    have fd6 := zz.2.2.2.2.2.2.1
    have fd7 := zz.2.2.2.2.2.2.2.1
    have fd8 := zz.2.2.2.2.2.2.2.2.1
    have fd9 := zz.2.2.2.2.2.2.2.2.2
    clear zz
    go_upto_region 8 with (fail)
    clear fa0 fa1 fa2 fa3 fa4 fa5 fa6 fa7 fa8 fa9 fb0 fb1 fb2 fb3 fb4 fb5 fb6 fb7 fb8 fb9 fc0 fc1 fc2 fc3 fc4 fc5 fc6 fc7 fc8 fc9 fd0 fd1 fd2 fd3 fd4 fd5 fd6 fd7 fd8 fd9
    obtain ⟨cx, hcx⟩ : ∃ t, t = constN kx := ⟨_, rfl⟩
    obtain ⟨cy, hcy⟩ : ∃ t, t = constN ky := ⟨_, rfl⟩
    obtain ⟨bo, hbo⟩ : ∃ t, t = botN := ⟨_, rfl⟩
    obtain ⟨hv, hhv⟩ : ∃ t, t = holdsV op kx ky := ⟨_, rfl⟩
    obtain ⟨P, hP⟩ : ∃ t, t = (cmpA op (normN cx) (normN cy)).1 := ⟨_, rfl⟩
    obtain ⟨Q, hQ⟩ : ∃ t, t = (cmpA op (normN cx) (normN cy)).2 := ⟨_, rfl⟩
    have EC : Hid (cmpA op (normN cx) (normN cy) = if hv = true then (cx, cy) else (bo, bo)) := by unfold Hid; rw [hcx, hcy, hbo, hhv]; exact cmp_const HO.out.1 HU.out.2.2.1 HU.out.2.2.2.1
    have ET : Hid (hv = true → P = cx ∧ Q = cy) := fun h => by rw [hP, hQ, EC.out, if_pos h]; exact ⟨rfl, rfl⟩
    have EF : Hid (hv = false → P = bo ∧ Q = bo) := fun h => by rw [hP, hQ, EC.out, if_neg (by rw [h]; simp)]; exact ⟨rfl, rfl⟩
    have RC : Hid (RawN cx ∧ RawN cy) := by rw [hcx, hcy]; exact ⟨const_raw HU.out.2.2.1, const_raw HU.out.2.2.2.1⟩
    have HCX : Hid _ := hcx
    have HCY : Hid _ := hcy
    have HBO : Hid _ := hbo
    have HHV : Hid _ := hhv
    have HP : Hid _ := hP
    have HQ : Hid _ := hQ
    clear hcx hcy hbo hhv hP hQ EC
    have zz := row17_facts (rk.out)
    have kk0 := zz.1
    have kk1 := zz.2.1
    have kk2 := zz.2.2.1
    have kk3 := zz.2.2.2.1
    have kk4 := zz.2.2.2.2.1
    have kk5 := zz.2.2.2.2.2.1
    have kk6 := zz.2.2.2.2.2.2.1
    have kk7 := zz.2.2.2.2.2.2.2.1
    have kk8 := zz.2.2.2.2.2.2.2.2.1
    have kk9 := zz.2.2.2.2.2.2.2.2.2.1
    have kk10 := zz.2.2.2.2.2.2.2.2.2.2.1
    have kk11 := zz.2.2.2.2.2.2.2.2.2.2.2.1
    have kk12 := zz.2.2.2.2.2.2.2.2.2.2.2.2.1
    have kk13 := zz.2.2.2.2.2.2.2.2.2.2.2.2.2.1
    have kk14 := zz.2.2.2.2.2.2.2.2.2.2.2.2.2.2.1
    have kk15 := zz.2.2.2.2.2.2.2.2.2.2.2.2.2.2.2.1
    have kk16 := zz.2.2.2.2.2.2.2.2.2.2.2.2.2.2.2.2
    clear zz
    have zz := row5_facts (rg6.out)
    have k0 := zz.1
    have k1 := zz.2.1
    have k2 := zz.2.2.1
    have k3 := zz.2.2.2.1
    have k4 := zz.2.2.2.2.1
    have k5 := zz.2.2.2.2.2.1
    have k6 := zz.2.2.2.2.2.2.1
    have k7 := zz.2.2.2.2.2.2.2.1
    have k8 := zz.2.2.2.2.2.2.2.2.1
    have k9 := zz.2.2.2.2.2.2.2.2.2
    clear zz
    have zz := row5_facts (rg7.out)
    have j0 := zz.1
    have j1 := zz.2.1
    have j2 := zz.2.2.1
    have j3 := zz.2.2.2.1
    have j4 := zz.2.2.2.2.1
    have j5 := zz.2.2.2.2.2.1
    have j6 := zz.2.2.2.2.2.2.1
    have j7 := zz.2.2.2.2.2.2.2.1
    have j8 := zz.2.2.2.2.2.2.2.2.1
    have j9 := zz.2.2.2.2.2.2.2.2.2
    clear zz
    have zk := lt_row rk.out
    have bz : Ok v4 v4 := Ok.refl _
    go_region_held3 (fun w' => w'.cell? ⟨gk, 15, none⟩ = some (.int .i64 kx) ∧ w'.cell? ⟨gk, 16, none⟩ = some (.int .i64 ky)) (go_keep)
      (first
      | (go_at_call 30; refine (rconst_any _ v4 _ (by repeat (first | assumption | refine Ok.alloc ?_ _ | refine Below.drew ?_))).mono ?_; rintro e w' ⟨rfl, hb⟩; (first | rw [← HCX.out] | rw [← HCY.out]); unfold nv; have q0 := Ok.cell hb zk kk15; have q1 := Ok.cell hb zk kk16; obtain ⟨k0, k1, k2, k3, k4, k5, k6, k7, k8, k9⟩ := row5_facts (Ok.row' hb rg6.out); obtain ⟨j0, j1, j2, j3, j4, j5, j6, j7, j8, j9⟩ := row5_facts (Ok.row' hb rg7.out))
      | (go_at_call 40; refine (vCompare_any op HO.out.1 cx cy RC.out.1 RC.out.2 v4 _ (by repeat (first | assumption | refine Ok.alloc ?_ _ | refine Below.drew ?_))).mono ?_; rintro e w' ⟨rfl, hb⟩; rw [← HP.out, ← HQ.out]; unfold nv; have q0 := Ok.cell hb zk kk15; have q1 := Ok.cell hb zk kk16; obtain ⟨k0, k1, k2, k3, k4, k5, k6, k7, k8, k9⟩ := row5_facts (Ok.row' hb rg6.out); obtain ⟨j0, j1, j2, j3, j4, j5, j6, j7, j8, j9⟩ := row5_facts (Ok.row' hb rg7.out))
      | fail)
    obtain ⟨v5, hv5⟩ : ∃ V, V = ((((((((((w'.setCell ⟨g6, 0, none⟩ (.bool P.2.2.2.2)).setCell ⟨g6, 1, none⟩ (.int .i64 P.1)).setCell ⟨g6, 2, none⟩ (.int .i64 P.2.1)).setCell ⟨g6, 3, none⟩ (.int .u64 (P.2.2.1 : Int))).setCell ⟨g6, 4, none⟩ (.int .u64 (P.2.2.2.1 : Int))).setCell ⟨g7, 0, none⟩ (.bool Q.2.2.2.2)).setCell ⟨g7, 1, none⟩ (.int .i64 Q.1)).setCell ⟨g7, 2, none⟩ (.int .i64 Q.2.1)).setCell ⟨g7, 3, none⟩ (.int .u64 (Q.2.2.1 : Int))).setCell ⟨g7, 4, none⟩ (.int .u64 (Q.2.2.2.1 : Int))) := ⟨_, rfl⟩
    have hp := (rows_put2 ng6g7 rg6.out rg7.out hb Hv4.out lg6 lg7 (.bool P.2.2.2.2) (.int .i64 P.1) (.int .i64 P.2.1) (.int .u64 (P.2.2.1 : Int)) (.int .u64 (P.2.2.2.1 : Int)) (.bool Q.2.2.2.2) (.int .i64 Q.1) (.int .i64 Q.2.1) (.int .u64 (Q.2.2.1 : Int)) (.int .u64 (Q.2.2.2.1 : Int))).out
    rw [← hv5] at hp
    have Hv5 : Hid (Ok w0 v5) := hp.1
    replace rk : Hid _ := hp.2.2.2 _ _ ngkg6 ngkg7 rk.out
    replace rg6 : Hid _ := hp.2.1
    replace rg7 : Hid _ := hp.2.2.1
    rw [← hv5]
    clear hp hv5 hb bz zk Hv4 rg9 rg10
    clear kk0 kk1 kk2 kk3 kk4 kk5 kk6 kk7 kk8 kk9 kk10 kk11 kk12 kk13 kk14 kk15 kk16
    clear k0 k1 k2 k3 k4 k5 k6 k7 k8 k9 j0 j1 j2 j3 j4 j5 j6 j7 j8 j9
    have zz := row17_facts (rk.out)
    have kk0 := zz.1
    have kk1 := zz.2.1
    have kk2 := zz.2.2.1
    have kk3 := zz.2.2.2.1
    have kk4 := zz.2.2.2.2.1
    have kk5 := zz.2.2.2.2.2.1
    have kk6 := zz.2.2.2.2.2.2.1
    have kk7 := zz.2.2.2.2.2.2.2.1
    have kk8 := zz.2.2.2.2.2.2.2.2.1
    have kk9 := zz.2.2.2.2.2.2.2.2.2.1
    have kk10 := zz.2.2.2.2.2.2.2.2.2.2.1
    have kk11 := zz.2.2.2.2.2.2.2.2.2.2.2.1
    have kk12 := zz.2.2.2.2.2.2.2.2.2.2.2.2.1
    have kk13 := zz.2.2.2.2.2.2.2.2.2.2.2.2.2.1
    have kk14 := zz.2.2.2.2.2.2.2.2.2.2.2.2.2.2.1
    have kk15 := zz.2.2.2.2.2.2.2.2.2.2.2.2.2.2.2.1
    have kk16 := zz.2.2.2.2.2.2.2.2.2.2.2.2.2.2.2.2
    clear zz
    go_wp2_with fail
    clear kk0 kk1 kk2 kk3 kk4 kk5 kk6 kk7 kk8 kk9 kk10 kk11 kk12 kk13 kk14 kk15 kk16
    refine (vholds_any op kx ky HO.out.1 v5 _ (Ok.refl _)).mono ?_
    rintro e v6 ⟨rfl, hb⟩
    rw [← HHV.out]
    replace rk : Hid _ := Ok.row' hb rk.out
    replace rg6 : Hid _ := Ok.row' hb rg6.out
    replace rg7 : Hid _ := Ok.row' hb rg7.out
    have Hv6 : Hid (Ok w0 v6) := Hv5.out.step hb
    clear hb Hv5
    cases hv
    · have e := EF.out rfl
      obtain ⟨eP, eQ⟩ := e
      clear ET EF
      rw [eP] at rg6
      rw [eQ] at rg7
      clear eP eQ HP HQ
      have zz := row5_facts (rg6.out)
      have fa0 := zz.1
      have fa1 := zz.2.1
      have fa2 := zz.2.2.1
      have fa3 := zz.2.2.2.1
      have fa4 := zz.2.2.2.2.1
      have fa5 := zz.2.2.2.2.2.1
      have fa6 := zz.2.2.2.2.2.2.1
      have fa7 := zz.2.2.2.2.2.2.2.1
      have fa8 := zz.2.2.2.2.2.2.2.2.1
      have fa9 := zz.2.2.2.2.2.2.2.2.2
      clear zz
      have zz := row5_facts (rg7.out)
      have fb0 := zz.1
      have fb1 := zz.2.1
      have fb2 := zz.2.2.1
      have fb3 := zz.2.2.2.1
      have fb4 := zz.2.2.2.2.1
      have fb5 := zz.2.2.2.2.2.1
      have fb6 := zz.2.2.2.2.2.2.1
      have fb7 := zz.2.2.2.2.2.2.2.1
      have fb8 := zz.2.2.2.2.2.2.2.2.1
      have fb9 := zz.2.2.2.2.2.2.2.2.2
      clear zz
      have zz := row17_facts (rk.out)
      have kk0 := zz.1
      have kk1 := zz.2.1
      have kk2 := zz.2.2.1
      have kk3 := zz.2.2.2.1
      have kk4 := zz.2.2.2.2.1
      have kk5 := zz.2.2.2.2.2.1
      have kk6 := zz.2.2.2.2.2.2.1
      have kk7 := zz.2.2.2.2.2.2.2.1
      have kk8 := zz.2.2.2.2.2.2.2.2.1
      have kk9 := zz.2.2.2.2.2.2.2.2.2.1
      have kk10 := zz.2.2.2.2.2.2.2.2.2.2.1
      have kk11 := zz.2.2.2.2.2.2.2.2.2.2.2.1
      have kk12 := zz.2.2.2.2.2.2.2.2.2.2.2.2.1
      have kk13 := zz.2.2.2.2.2.2.2.2.2.2.2.2.2.1
      have kk14 := zz.2.2.2.2.2.2.2.2.2.2.2.2.2.2.1
      have kk15 := zz.2.2.2.2.2.2.2.2.2.2.2.2.2.2.2.1
      have kk16 := zz.2.2.2.2.2.2.2.2.2.2.2.2.2.2.2.2
      clear zz
      have za := lt_row rg6.out
      have zb := lt_row rg7.out
      have zk := lt_row rk.out
      have bz : Ok v6 v6 := Ok.refl _
      go_upto_region 11 with (fail)
      go_region_held3 (fun w' => w'.cell? ⟨g6, 0, none⟩ = some (.bool bo.2.2.2.2) ∧ w'.cell? ⟨g6, 1, none⟩ = some (.int .i64 bo.1) ∧ w'.cell? ⟨g6, 2, none⟩ = some (.int .i64 bo.2.1) ∧ w'.cell? ⟨g6, 3, none⟩ = some (.int .u64 (bo.2.2.1 : Int)) ∧ w'.cell? ⟨g6, 4, none⟩ = some (.int .u64 (bo.2.2.2.1 : Int)) ∧ w'.cell? ⟨g7, 0, none⟩ = some (.bool bo.2.2.2.2) ∧ w'.cell? ⟨g7, 1, none⟩ = some (.int .i64 bo.1) ∧ w'.cell? ⟨g7, 2, none⟩ = some (.int .i64 bo.2.1) ∧ w'.cell? ⟨g7, 3, none⟩ = some (.int .u64 (bo.2.2.1 : Int)) ∧ w'.cell? ⟨g7, 4, none⟩ = some (.int .u64 (bo.2.2.2.1 : Int))) (go_keep)
        (first
        | (go_at_call 26; refine (rbot_any v6 _ (by repeat (first | assumption | refine Ok.alloc ?_ _ | refine Below.drew ?_))).mono ?_; rintro e w' ⟨rfl, hb⟩; rw [← HBO.out]; unfold nv; have q0 := Ok.cell hb za fa0; have q1 := Ok.cell hb za fa1; have q2 := Ok.cell hb za fa2; have q3 := Ok.cell hb za fa3; have q4 := Ok.cell hb za fa4; have q5 := Ok.cell hb zb fb0; have q6 := Ok.cell hb zb fb1; have q7 := Ok.cell hb zb fb2; have q8 := Ok.cell hb zb fb3; have q9 := Ok.cell hb zb fb4)
        | (go_at_call 41; refine (taken14 v6 _ (by repeat (first | assumption | refine Ok.alloc ?_ _ | refine Below.drew ?_))).mono ?_; rintro e w' ⟨rfl, hb⟩; have q0 := Ok.cell hb za fa0; have q1 := Ok.cell hb za fa1; have q2 := Ok.cell hb za fa2; have q3 := Ok.cell hb za fa3; have q4 := Ok.cell hb za fa4; have q5 := Ok.cell hb zb fb0; have q6 := Ok.cell hb zb fb1; have q7 := Ok.cell hb zb fb2; have q8 := Ok.cell hb zb fb3; have q9 := Ok.cell hb zb fb4)
        | fail)
      go_wp2_with fail
      go_ret
      exact ⟨rfl, Hv6.out.step hb⟩
    · have e := ET.out rfl
      obtain ⟨eP, eQ⟩ := e
      clear ET EF
      rw [eP] at rg6
      rw [eQ] at rg7
      clear eP eQ HP HQ
      have zz := row5_facts (rg6.out)
      have fa0 := zz.1
      have fa1 := zz.2.1
      have fa2 := zz.2.2.1
      have fa3 := zz.2.2.2.1
      have fa4 := zz.2.2.2.2.1
      have fa5 := zz.2.2.2.2.2.1
      have fa6 := zz.2.2.2.2.2.2.1
      have fa7 := zz.2.2.2.2.2.2.2.1
      have fa8 := zz.2.2.2.2.2.2.2.2.1
      have fa9 := zz.2.2.2.2.2.2.2.2.2
      clear zz
      have zz := row5_facts (rg7.out)
      have fb0 := zz.1
      have fb1 := zz.2.1
      have fb2 := zz.2.2.1
      have fb3 := zz.2.2.2.1
      have fb4 := zz.2.2.2.2.1
      have fb5 := zz.2.2.2.2.2.1
      have fb6 := zz.2.2.2.2.2.2.1
      have fb7 := zz.2.2.2.2.2.2.2.1
      have fb8 := zz.2.2.2.2.2.2.2.2.1
      have fb9 := zz.2.2.2.2.2.2.2.2.2
      clear zz
      have zz := row17_facts (rk.out)
      have kk0 := zz.1
      have kk1 := zz.2.1
      have kk2 := zz.2.2.1
      have kk3 := zz.2.2.2.1
      have kk4 := zz.2.2.2.2.1
      have kk5 := zz.2.2.2.2.2.1
      have kk6 := zz.2.2.2.2.2.2.1
      have kk7 := zz.2.2.2.2.2.2.2.1
      have kk8 := zz.2.2.2.2.2.2.2.2.1
      have kk9 := zz.2.2.2.2.2.2.2.2.2.1
      have kk10 := zz.2.2.2.2.2.2.2.2.2.2.1
      have kk11 := zz.2.2.2.2.2.2.2.2.2.2.2.1
      have kk12 := zz.2.2.2.2.2.2.2.2.2.2.2.2.1
      have kk13 := zz.2.2.2.2.2.2.2.2.2.2.2.2.2.1
      have kk14 := zz.2.2.2.2.2.2.2.2.2.2.2.2.2.2.1
      have kk15 := zz.2.2.2.2.2.2.2.2.2.2.2.2.2.2.2.1
      have kk16 := zz.2.2.2.2.2.2.2.2.2.2.2.2.2.2.2.2
      clear zz
      have za := lt_row rg6.out
      have zb := lt_row rg7.out
      have zk := lt_row rk.out
      have bz : Ok v6 v6 := Ok.refl _
      go_upto_region 10 with (fail)
      go_region_held3 (fun w' => w'.cell? ⟨g6, 0, none⟩ = some (.bool cx.2.2.2.2) ∧ w'.cell? ⟨g6, 1, none⟩ = some (.int .i64 cx.1) ∧ w'.cell? ⟨g6, 2, none⟩ = some (.int .i64 cx.2.1) ∧ w'.cell? ⟨g6, 3, none⟩ = some (.int .u64 (cx.2.2.1 : Int)) ∧ w'.cell? ⟨g6, 4, none⟩ = some (.int .u64 (cx.2.2.2.1 : Int)) ∧ w'.cell? ⟨g7, 0, none⟩ = some (.bool cy.2.2.2.2) ∧ w'.cell? ⟨g7, 1, none⟩ = some (.int .i64 cy.1) ∧ w'.cell? ⟨g7, 2, none⟩ = some (.int .i64 cy.2.1) ∧ w'.cell? ⟨g7, 3, none⟩ = some (.int .u64 (cy.2.2.1 : Int)) ∧ w'.cell? ⟨g7, 4, none⟩ = some (.int .u64 (cy.2.2.2.1 : Int)) ∧ w'.cell? ⟨gk, 15, none⟩ = some (.int .i64 kx) ∧ w'.cell? ⟨gk, 16, none⟩ = some (.int .i64 ky)) (go_keep)
        (first
        | (go_at_call 30; refine (rconst_any _ v6 _ (by repeat (first | assumption | refine Ok.alloc ?_ _ | refine Below.drew ?_))).mono ?_; rintro e w' ⟨rfl, hb⟩; (first | rw [← HCX.out] | rw [← HCY.out]); unfold nv; have q0 := Ok.cell hb za fa0; have q1 := Ok.cell hb za fa1; have q2 := Ok.cell hb za fa2; have q3 := Ok.cell hb za fa3; have q4 := Ok.cell hb za fa4; have q5 := Ok.cell hb zb fb0; have q6 := Ok.cell hb zb fb1; have q7 := Ok.cell hb zb fb2; have q8 := Ok.cell hb zb fb3; have q9 := Ok.cell hb zb fb4; have q10 := Ok.cell hb zk kk15; have q11 := Ok.cell hb zk kk16)
        | (go_at_call 41; refine (taken14 v6 _ (by repeat (first | assumption | refine Ok.alloc ?_ _ | refine Below.drew ?_))).mono ?_; rintro e w' ⟨rfl, hb⟩; have q0 := Ok.cell hb za fa0; have q1 := Ok.cell hb za fa1; have q2 := Ok.cell hb za fa2; have q3 := Ok.cell hb za fa3; have q4 := Ok.cell hb za fa4; have q5 := Ok.cell hb zb fb0; have q6 := Ok.cell hb zb fb1; have q7 := Ok.cell hb zb fb2; have q8 := Ok.cell hb zb fb3; have q9 := Ok.cell hb zb fb4; have q10 := Ok.cell hb zk kk15; have q11 := Ok.cell hb zk kk16)
        | fail)
      go_wp2_with fail
      go_ret
      exact ⟨rfl, Hv6.out.step hb⟩
  · have HO : Hid (¬ OpC op ∧ ¬ OpC bk) := ⟨ho, by rw [HBK.out]; exact opc_none ho⟩
    clear ho
    obtain ⟨bo, hbo⟩ : ∃ t, t = botN := ⟨_, rfl⟩
    have HBO : Hid _ := hbo
    clear hbo
    refine (vCompare_no op HO.out.1 a b HU.out.1 HU.out.2.1 m6 _ (Ok.refl _)).mono ?_
    rintro e v1 ⟨rfl, hb⟩
    rw [← HBO.out]
    unfold nv
    replace rk : Hid _ := Ok.row' hb rk.out
    have Hv1 : Hid (Ok w0 v1) := Hm6.out.step hb
    clear hb Hm6
    go_upto_region 3 with (fail)
    obtain ⟨v2, hv2⟩ : ∃ W, W = (v1.alloc (.cells #[.bool bo.2.2.2.2, .int .i64 bo.1, .int .i64 bo.2.1, .int .u64 (bo.2.2.1 : Int), .int .u64 (bo.2.2.2.1 : Int)] 28)).alloc (.cells #[.bool bo.2.2.2.2, .int .i64 bo.1, .int .i64 bo.2.1, .int .u64 (bo.2.2.1 : Int), .int .u64 (bo.2.2.2.1 : Int)] 28) := ⟨_, rfl⟩
    have rg6 : Hid (v2.heap[v1.heap.size]? = some (.cells #[.bool bo.2.2.2.2, .int .i64 bo.1, .int .i64 bo.2.1, .int .u64 (bo.2.2.1 : Int), .int .u64 (bo.2.2.2.1 : Int)] 28)) := by unfold Hid; rw [hv2]; exact (by repeat (first | (refine heap_at _ _ _ ?hx; case hx => (first | (simp; done) | (simp; omega))) | (refine heap_past _ _ _ ?hy ?_; case hy => (first | (simp; done) | (simp; omega))) | fail))
    have rg7 : Hid (v2.heap[v1.heap.size + 1]? = some (.cells #[.bool bo.2.2.2.2, .int .i64 bo.1, .int .i64 bo.2.1, .int .u64 (bo.2.2.1 : Int), .int .u64 (bo.2.2.2.1 : Int)] 28)) := by unfold Hid; rw [hv2]; exact (by repeat (first | (refine heap_at _ _ _ ?hx; case hx => (first | (simp; done) | (simp; omega))) | (refine heap_past _ _ _ ?hy ?_; case hy => (first | (simp; done) | (simp; omega))) | fail))
    have hO : Ok v1 v2 := by rw [hv2]; exact ((Ok.refl _).alloc _).alloc _
    rw [← hv2]
    obtain ⟨g7, eg7⟩ : ∃ g, g = v1.heap.size + 1 := ⟨_, rfl⟩
    rw [← eg7] at rg7 ⊢
    obtain ⟨g6, eg6⟩ : ∃ g, g = v1.heap.size := ⟨_, rfl⟩
    rw [← eg6] at rg6 ⊢
    have qh := Hv1.out.le
    have lg6 : w0.heap.size ≤ g6 := by omega
    have lg7 : w0.heap.size ≤ g7 := by omega
    have ng6g7 : ¬ g6 = g7 := by omega
    have q_rk := lt_row rk.out
    have ngkg6 : ¬ gk = g6 := by omega
    have ngkg7 : ¬ gk = g7 := by omega
    have ng6gk : ¬ g6 = gk := by omega
    have ng7gk : ¬ g7 = gk := by omega
    have ng7g6 : ¬ g7 = g6 := by omega
    clear hv2 eg6 eg7 qh q_rk
    replace rk : Hid _ := Ok.row' hO rk.out
    have Hv2 : Hid (Ok w0 v2) := Hv1.out.step hO
    clear hO Hv1
    have zz := row17_facts (rk.out)
    have kk0 := zz.1
    have kk1 := zz.2.1
    have kk2 := zz.2.2.1
    have kk3 := zz.2.2.2.1
    have kk4 := zz.2.2.2.2.1
    have kk5 := zz.2.2.2.2.2.1
    have kk6 := zz.2.2.2.2.2.2.1
    have kk7 := zz.2.2.2.2.2.2.2.1
    have kk8 := zz.2.2.2.2.2.2.2.2.1
    have kk9 := zz.2.2.2.2.2.2.2.2.2.1
    have kk10 := zz.2.2.2.2.2.2.2.2.2.2.1
    have kk11 := zz.2.2.2.2.2.2.2.2.2.2.2.1
    have kk12 := zz.2.2.2.2.2.2.2.2.2.2.2.2.1
    have kk13 := zz.2.2.2.2.2.2.2.2.2.2.2.2.2.1
    have kk14 := zz.2.2.2.2.2.2.2.2.2.2.2.2.2.2.1
    have kk15 := zz.2.2.2.2.2.2.2.2.2.2.2.2.2.2.2.1
    have kk16 := zz.2.2.2.2.2.2.2.2.2.2.2.2.2.2.2.2
    clear zz
    go_wp2_with fail
    clear kk0 kk1 kk2 kk3 kk4 kk5 kk6 kk7 kk8 kk9 kk10 kk11 kk12 kk13 kk14 kk15 kk16
    refine (vCompare_no bk HO.out.2 b a HU.out.2.1 HU.out.1 v2 _ (Ok.refl _)).mono ?_
    rintro e v3 ⟨rfl, hb⟩
    rw [← HBO.out]
    unfold nv
    replace rk : Hid _ := Ok.row' hb rk.out
    replace rg6 : Hid _ := Ok.row' hb rg6.out
    replace rg7 : Hid _ := Ok.row' hb rg7.out
    have Hv3 : Hid (Ok w0 v3) := Hv2.out.step hb
    clear hb Hv2
    go_upto_region 4 with (fail)
    obtain ⟨v4, hv4⟩ : ∃ W, W = (v3.alloc (.cells #[.bool bo.2.2.2.2, .int .i64 bo.1, .int .i64 bo.2.1, .int .u64 (bo.2.2.1 : Int), .int .u64 (bo.2.2.2.1 : Int)] 28)).alloc (.cells #[.bool bo.2.2.2.2, .int .i64 bo.1, .int .i64 bo.2.1, .int .u64 (bo.2.2.1 : Int), .int .u64 (bo.2.2.2.1 : Int)] 28) := ⟨_, rfl⟩
    have rg9 : Hid (v4.heap[v3.heap.size]? = some (.cells #[.bool bo.2.2.2.2, .int .i64 bo.1, .int .i64 bo.2.1, .int .u64 (bo.2.2.1 : Int), .int .u64 (bo.2.2.2.1 : Int)] 28)) := by unfold Hid; rw [hv4]; exact (by repeat (first | (refine heap_at _ _ _ ?hx; case hx => (first | (simp; done) | (simp; omega))) | (refine heap_past _ _ _ ?hy ?_; case hy => (first | (simp; done) | (simp; omega))) | fail))
    have rg10 : Hid (v4.heap[v3.heap.size + 1]? = some (.cells #[.bool bo.2.2.2.2, .int .i64 bo.1, .int .i64 bo.2.1, .int .u64 (bo.2.2.1 : Int), .int .u64 (bo.2.2.2.1 : Int)] 28)) := by unfold Hid; rw [hv4]; exact (by repeat (first | (refine heap_at _ _ _ ?hx; case hx => (first | (simp; done) | (simp; omega))) | (refine heap_past _ _ _ ?hy ?_; case hy => (first | (simp; done) | (simp; omega))) | fail))
    have hO : Ok v3 v4 := by rw [hv4]; exact ((Ok.refl _).alloc _).alloc _
    rw [← hv4]
    obtain ⟨g10, eg10⟩ : ∃ g, g = v3.heap.size + 1 := ⟨_, rfl⟩
    rw [← eg10] at rg10 ⊢
    obtain ⟨g9, eg9⟩ : ∃ g, g = v3.heap.size := ⟨_, rfl⟩
    rw [← eg9] at rg9 ⊢
    have qh := Hv3.out.le
    have lg9 : w0.heap.size ≤ g9 := by omega
    have lg10 : w0.heap.size ≤ g10 := by omega
    have ng9g10 : ¬ g9 = g10 := by omega
    have q_rk := lt_row rk.out
    have ngkg9 : ¬ gk = g9 := by omega
    have ngkg10 : ¬ gk = g10 := by omega
    have q_rg6 := lt_row rg6.out
    have ng6g9 : ¬ g6 = g9 := by omega
    have ng6g10 : ¬ g6 = g10 := by omega
    have q_rg7 := lt_row rg7.out
    have ng7g9 : ¬ g7 = g9 := by omega
    have ng7g10 : ¬ g7 = g10 := by omega
    have ng9gk : ¬ g9 = gk := by omega
    have ng10gk : ¬ g10 = gk := by omega
    have ng9g6 : ¬ g9 = g6 := by omega
    have ng10g6 : ¬ g10 = g6 := by omega
    have ng9g7 : ¬ g9 = g7 := by omega
    have ng10g7 : ¬ g10 = g7 := by omega
    have ng10g9 : ¬ g10 = g9 := by omega
    clear hv4 eg9 eg10 qh q_rk q_rg6 q_rg7
    replace rk : Hid _ := Ok.row' hO rk.out
    replace rg6 : Hid _ := Ok.row' hO rg6.out
    replace rg7 : Hid _ := Ok.row' hO rg7.out
    have Hv4 : Hid (Ok w0 v4) := Hv3.out.step hO
    clear hO Hv3
    have zz := row5_facts (rg6.out)
    have fa0 := zz.1
    have fa1 := zz.2.1
    have fa2 := zz.2.2.1
    have fa3 := zz.2.2.2.1
    have fa4 := zz.2.2.2.2.1
    have fa5 := zz.2.2.2.2.2.1
    have fa6 := zz.2.2.2.2.2.2.1
    have fa7 := zz.2.2.2.2.2.2.2.1
    have fa8 := zz.2.2.2.2.2.2.2.2.1
    have fa9 := zz.2.2.2.2.2.2.2.2.2
    clear zz
    have zz := row5_facts (rg7.out)
    have fb0 := zz.1
    have fb1 := zz.2.1
    have fb2 := zz.2.2.1
    have fb3 := zz.2.2.2.1
    have fb4 := zz.2.2.2.2.1
    have fb5 := zz.2.2.2.2.2.1
    have fb6 := zz.2.2.2.2.2.2.1
    have fb7 := zz.2.2.2.2.2.2.2.1
    have fb8 := zz.2.2.2.2.2.2.2.2.1
    have fb9 := zz.2.2.2.2.2.2.2.2.2
    clear zz
    have zz := row5_facts (rg9.out)
    have fc0 := zz.1
    have fc1 := zz.2.1
    have fc2 := zz.2.2.1
    have fc3 := zz.2.2.2.1
    have fc4 := zz.2.2.2.2.1
    have fc5 := zz.2.2.2.2.2.1
    have fc6 := zz.2.2.2.2.2.2.1
    have fc7 := zz.2.2.2.2.2.2.2.1
    have fc8 := zz.2.2.2.2.2.2.2.2.1
    have fc9 := zz.2.2.2.2.2.2.2.2.2
    clear zz
    have zz := row5_facts (rg10.out)
    have fd0 := zz.1
    have fd1 := zz.2.1
    have fd2 := zz.2.2.1
    have fd3 := zz.2.2.2.1
    have fd4 := zz.2.2.2.2.1
    have fd5 := zz.2.2.2.2.2.1
    have fd6 := zz.2.2.2.2.2.2.1
    have fd7 := zz.2.2.2.2.2.2.2.1
    have fd8 := zz.2.2.2.2.2.2.2.2.1
    have fd9 := zz.2.2.2.2.2.2.2.2.2
    clear zz
    go_wp2_with fail
    clear fa0 fa1 fa2 fa3 fa4 fa5 fa6 fa7 fa8 fa9 fb0 fb1 fb2 fb3 fb4 fb5 fb6 fb7 fb8 fb9 fc0 fc1 fc2 fc3 fc4 fc5 fc6 fc7 fc8 fc9 fd0 fd1 fd2 fd3 fd4 fd5 fd6 fd7 fd8 fd9
    refine (taken14 v4 _ (Ok.refl _)).mono ?_
    rintro e v5 ⟨rfl, hb⟩
    replace rk : Hid _ := Ok.row' hb rk.out
    replace rg6 : Hid _ := Ok.row' hb rg6.out
    replace rg7 : Hid _ := Ok.row' hb rg7.out
    replace rg9 : Hid _ := Ok.row' hb rg9.out
    replace rg10 : Hid _ := Ok.row' hb rg10.out
    have Hv5 : Hid (Ok w0 v5) := Hv4.out.step hb
    clear hb Hv4
    go_wp2_with fail
    go_ret
    exact ⟨rfl, Hv5.out⟩
end Go.Proofs.YtgkbegmaffknbaaGreat
