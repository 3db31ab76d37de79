import Derived.Test.YtgkbegmaffknbabGreatKCpartb
set_option linter.unusedVariables false
set_option linter.unusedSimpArgs false
set_option linter.unnecessarySimpa false
/- Cgcd Ctim Cint -/
namespace Go.Proofs.YtgkbegmaffknbabGreat
section
open Go.RowKit
def GcdInv (w0 w wr : World) (x y : Nat) : Prop :=
  Ok w0 wr ∧ wr.heap[w.heap.size]? = some (cB x) ∧ wr.heap[w.heap.size + 1]? = some (cB y) ∧ wr.heap[w.heap.size + 2]? = some (cB 0)
theorem GcdInv.next {w0 w X : World} {x y : Nat} (h : GcdInv w0 w X x y) (hw : w0.heap.size ≤ w.heap.size) (n : Nat) :
    GcdInv w0 w ((((X.setCell ⟨w.heap.size, 0, none⟩ (.int .u64 (hiB y))).setCell ⟨w.heap.size, 1, none⟩ (.int .u64 (loB y))).setCell ⟨w.heap.size + 1, 0, none⟩ (.int .u64 (hiB n))).setCell ⟨w.heap.size + 1, 1, none⟩ (.int .u64 (loB n))) y n := by
  have hs := row_set4 h.2.1 h.2.2.1 (show w.heap.size ≠ w.heap.size + 1 by omega) (.int .u64 (hiB y)) (.int .u64 (loB y)) (.int .u64 (hiB n)) (.int .u64 (loB n))
  refine ⟨(((h.1.set hw _).set hw _).set (show w0.heap.size ≤ w.heap.size + 1 by omega) _).set (show w0.heap.size ≤ w.heap.size + 1 by omega) _, hs.1, hs.2, ?_⟩
  rw [heap_setCell_other _ _ _ _ (by simp), heap_setCell_other _ _ _ _ (by simp), heap_setCell_other _ _ _ _ (by simp), heap_setCell_other _ _ _ _ (by simp)]
  exact h.2.2.2
theorem GcdInv.below {w0 w wr w1 : World} {x y : Nat} (h : GcdInv w0 w wr x y) (hb : Ok wr w1) : GcdInv w0 w w1 x y := ⟨h.1.step hb, hb.row' h.2.1, hb.row' h.2.2.1, hb.row' h.2.2.2⟩
/-- The greatest power of two that divides g, at most 2^63. -/
def twoN (g : Nat) : Nat :=
  match (List.range 63).find? (fun i => g / 2 ^ i % 2 == 1) with
  | some i => 2 ^ i
  | none => 9223372036854775808
theorem twoN_at {g i : Nat} (hi : i < 63) (h1 : g / 2 ^ i % 2 = 1) (h0 : ∀ j, j < i → g / 2 ^ j % 2 = 0) : twoN g = 2 ^ i := by
  have : (List.range 63).find? (fun i => g / 2 ^ i % 2 == 1) = some i := by
    rw [List.find?_range_eq_some]
    refine ⟨by simp [h1], by simpa using hi, fun j hj => by simp [h0 j hj]⟩
  unfold twoN; rw [this]
theorem twoN_none {g : Nat} (h0 : ∀ j, j < 63 → g / 2 ^ j % 2 = 0) : twoN g = 9223372036854775808 := by
  have : (List.range 63).find? (fun i => g / 2 ^ i % 2 == 1) = none := by
    rw [List.find?_eq_none]
    intro j hj
    have := h0 j (by simpa using hj)
    simp [this]
  unfold twoN; rw [this]
end
section
open Go.RowKit
def TimInv (w0 w wr : World) (S : Nat) : Prop := Ok w0 wr ∧ wr.heap[w.heap.size]? = some (cB 0) ∧ wr.heap[w.heap.size + 1]? = some (cB S)
theorem TimInv.below {w0 w wr w1 : World} {S : Nat} (h : TimInv w0 w wr S) (hb : Ok wr w1) : TimInv w0 w w1 S := ⟨h.1.step hb, hb.row' h.2.1, hb.row' h.2.2⟩
theorem TimInv.lo {w0 w wr : World} {S : Nat} (h : TimInv w0 w wr S) (x : Int) : (wr.setCell ⟨w.heap.size + 1, 1, none⟩ (.int .u64 x)).heap[w.heap.size + 1]? = some (.cells #[.int .u64 (hiB S), .int .u64 x] 80) := by
  rw [heap_setCell_same _ _ 1 _ _ _ h.2.2]; rfl
end
section
open Go.RowKit
theorem infoCg : (Tryz.prog.info? 27).map (·.size) = some 2 := by kernel_rfl
theorem infoIn : (Tryz.prog.info? 83).map (·.size) = some 3 := by kernel_rfl
/-- A class, and a whole number, as values. -/
def cv (M R : Nat) : Value := .agg #[.int .u64 (M : Int), .int .u64 (R : Int)]
def iv (f : Nat) (s : Bool) : Value := .agg #[.int .u64 (hiB f), .int .u64 (loB f), .bool s]
theorem row3_facts {w : World} {g : Nat} {x y z : Value} {t : TypeId} (h : w.heap[g]? = some (.cells #[x, y, z] t (0, 0))) :
    w.cell? ⟨g, 0, none⟩ = some x ∧ w.cell? ⟨g, 1, none⟩ = some y ∧ w.cell? ⟨g, 2, none⟩ = some z ∧ w.frozen? ⟨g, 0, none⟩ = false ∧ w.frozen? ⟨g, 1, none⟩ = false ∧ w.frozen? ⟨g, 2, none⟩ = false := by
  refine ⟨?_, ?_, ?_, frozen_of_row _ _ _ _ _ h, frozen_of_row _ _ _ _ _ h, frozen_of_row _ _ _ _ _ h⟩
  · exact (cell_of_row _ _ 0 _ _ _ h).trans (by simp)
  · exact (cell_of_row _ _ 1 _ _ _ h).trans (by simp)
  · exact (cell_of_row _ _ 2 _ _ _ h).trans (by simp)
theorem row_set3 {w : World} {g : Nat} {x y z : Value} {t : TypeId} (hg : w.heap[g]? = some (.cells #[x, y, z] t (0, 0))) (x' y' z' : Value) :
    (((w.setCell ⟨g, 0, none⟩ x').setCell ⟨g, 1, none⟩ y').setCell ⟨g, 2, none⟩ z').heap[g]? = some (.cells #[x', y', z'] t (0, 0)) := by
  have h1 := heap_setCell_same w g 0 _ t x' hg
  have h2 := heap_setCell_same _ g 1 _ t y' h1
  have h3 := heap_setCell_same _ g 2 _ t z' h2
  simpa using h3
theorem reti1 {a b : Int} (h : a = b) : Ending.returned (.int .i64 a) = .returned (.int .i64 b) := by rw [h]
set_option maxHeartbeats 400000 in
theorem cnumber_any (M R : Nat) (hR : U64 R) (w0 w : World) (hok : Ok w0 w) :
    Calls Tryz.prog 112 #[cv M R] w fun e w' => e = .returned (.int .i64 (wrap64 (R : Int))) ∧ Ok w0 w' := by
  unfold cv
  go_enter Tryz.func112, Tryz.ntmps112
  go_wp2
  go_ret
  exact ⟨reti1 rfl, (by repeat (first | exact hok | refine Ok.alloc ?_ _ | refine Ok.draws ?_ _ | fail))⟩
set_option maxHeartbeats 400000 in
theorem cfar_any (v : Int) (hv : In64 v) (w : World) :
    Calls Tryz.prog 111 #[.int .i64 v] w fun e w' => e = .returned (.int .u64 (v.natAbs : Int)) ∧ w' = w := by
  have HV : Hid _ := hv
  clear hv
  by_cases h : v < 0
  · go_enter Tryz.func111, Tryz.ntmps111
    go_wp2
    go_ret
    refine ⟨retu ?_, rfl⟩
    have := HV.out; unfold In64 at this; simp only [u64w]; omega
  · go_enter Tryz.func111, Tryz.ntmps111
    go_wp2
    go_ret
    refine ⟨retu ?_, rfl⟩
    have := HV.out; unfold In64 at this; simp only [u64w]; omega
theorem retI {a b : Int} {c : Bool} {f : Nat} {s : Bool} (e1 : hiB f = a) (e2 : loB f = b) (e3 : s = c) : Ending.returned (.agg #[.int .u64 a, .int .u64 b, .bool c]) = .returned (iv f s) := by unfold iv; rw [e1, e2, e3]
set_option maxHeartbeats 2000000 in
theorem cr_any (M R : Nat) (hM : U64 M) (hR : U64 R) (w0 w : World) (hok : Ok w0 w) :
    Calls Tryz.prog 67 #[cv M R] w fun e w' => e = .returned (iv (rF M R) (rS M R)) ∧ Ok w0 w' := by
  have hle := hok.le
  have HU : Hid _ := And.intro hM hR
  have HB : Hid _ := big_small (rF_rng hM hR)
  have HI : Hid _ := wrap64_in (R : Int)
  by_cases h0 : M = 0
  · have EF : Hid (rF M R = (wrap64 (R : Int)).natAbs ∧ rS M R = decide (wrap64 (R : Int) < 0)) := by unfold Hid rF rS; rw [if_pos h0, if_pos h0]; exact ⟨rfl, rfl⟩
    obtain ⟨V, hV⟩ : ∃ V, V = wrap64 (R : Int) := ⟨_, rfl⟩
    rw [← hV] at EF HI
    have HV : Hid _ := hV
    clear hV hM hR
    subst h0
    unfold cv
    go_enter Tryz.func67, Tryz.ntmps67
    go_wp2_with fail
    obtain ⟨W, hW⟩ : ∃ W, W = (w.alloc (.cells #[.int .u64 0, .int .u64 (R : Int)] 27)).alloc (.cells #[.int .u64 0, .int .u64 0, .bool false] 83) := ⟨_, rfl⟩
    have ra : W.heap[w.heap.size]? = some (.cells #[.int .u64 0, .int .u64 (R : Int)] 27) := by rw [hW]; exact (by repeat (first | (refine heap_at _ _ _ ?hx; case hx => (first | (simp; done) | (simp; omega))) | (refine heap_past _ _ _ ?hy ?_; case hy => (first | (simp; done) | (simp; omega))) | fail))
    have rr : W.heap[w.heap.size + 1]? = some (.cells #[.int .u64 0, .int .u64 0, .bool false] 83) := by rw [hW]; exact (by repeat (first | (refine heap_at _ _ _ ?hx; case hx => (first | (simp; done) | (simp; omega))) | (refine heap_past _ _ _ ?hy ?_; case hy => (first | (simp; done) | (simp; omega))) | fail))
    have HW : Hid (Ok w0 W) := by rw [hW]; exact (by repeat (first | exact hok | refine Ok.alloc ?_ _ | refine Ok.draws ?_ _ | fail))
    rw [← hW]
    clear hW hok
    obtain ⟨f0, f1, _, _⟩ := row_facts ra
    have z0 := lt_row ra
    have HR : Hid _ := rr
    clear ra rr
    have bz : Ok W W := Ok.refl _
    have n1 : ¬ w.heap.size + 1 = w.heap.size := by omega
    go_region_held3 (fun w' => w'.cell? ⟨w.heap.size, 0, none⟩ = some (.int .u64 0) ∧ w'.cell? ⟨w.heap.size, 1, none⟩ = some (.int .u64 (R : Int))) (go_keep)
      (first
      | (go_at_call 112; refine (cnumber_any 0 R HU.out.2 W _ (by repeat (first | assumption | refine Ok.alloc ?_ _ | refine Below.drew ?_))).mono ?_; rintro e w' ⟨rfl, hb⟩; rw [← HV.out]; have q0 := Ok.cell hb z0 f0; have q1 := Ok.cell hb z0 f1; obtain ⟨k0, k1, k2, k3, k4, k5⟩ := row3_facts (Ok.row' hb HR.out))
      | (go_at_call 111; refine (cfar_any V HI.out _).mono ?_; rintro e w' ⟨rfl, rfl⟩)
      | (go_at_call 68; refine (bof_raw _ W _ (by repeat (first | assumption | refine Ok.alloc ?_ _ | refine Below.drew ?_))).mono ?_; rintro e w' ⟨rfl, hb⟩; have q0 := Ok.cell hb z0 f0; have q1 := Ok.cell hb z0 f1; obtain ⟨k0, k1, k2, k3, k4, k5⟩ := row3_facts (Ok.row' hb HR.out))
      | fail)
    have HS : Hid _ := row_set3 (Ok.row' hb HR.out) (.int .u64 0) (.int .u64 (V.natAbs : Int)) (.bool (decide (V < 0)))
    have HB2 : Hid (Ok w0 w') := HW.out.step hb
    go_wp2_with fail
    (try simp only [Exit.inBlock, Exit.then])
    refine bodyPost_ret (results_cell_row rfl _ _ (w.heap.size + 1) 83 #[_, _, _] (0, 0) _ rfl HS.out Tryz.underlying83 rfl infoIn) rfl ?_
    refine ⟨retI HB.out.1 (by rw [HB.out.2, EF.out.1]) EF.out.2, ?_⟩
    exact ((HB2.out.set (show w0.heap.size ≤ w.heap.size + 1 by omega) _).set (show w0.heap.size ≤ w.heap.size + 1 by omega) _).set (show w0.heap.size ≤ w.heap.size + 1 by omega) _
  · have EF : Hid (rF M R = R % M ∧ rS M R = false) := by unfold Hid rF rS; rw [if_neg h0, if_neg h0]; exact ⟨rfl, rfl⟩
    have h1 : ((M : Int) == 0) = false := by simp; omega
    have h2 : ¬ (M : Int) = 0 := by omega
    clear hM hR h0
    unfold cv
    go_enter Tryz.func67, Tryz.ntmps67
    go_wp2_with fail
    have rr : ((w.alloc (.cells #[.int .u64 (M : Int), .int .u64 (R : Int)] 27)).alloc (.cells #[.int .u64 0, .int .u64 0, .bool false] 83)).heap[w.heap.size + 1]? = some (.cells #[.int .u64 0, .int .u64 0, .bool false] 83) := (by repeat (first | (refine heap_at _ _ _ ?hx; case hx => (first | (simp; done) | (simp; omega))) | (refine heap_past _ _ _ ?hy ?_; case hy => (first | (simp; done) | (simp; omega))) | fail))
    refine (bof_raw _ _ _ (Ok.refl _)).mono ?_
    rintro e w' ⟨rfl, hb⟩
    have HR : Hid _ := Ok.row' hb rr
    have HB2 : Hid (Ok w0 w') := Ok.step (by repeat (first | exact hok | refine Ok.alloc ?_ _ | refine Ok.draws ?_ _ | fail)) hb
    obtain ⟨k0, k1, k2, k3, k4, k5⟩ := row3_facts HR.out
    clear rr hb
    go_wp2_with fail
    (try simp only [Exit.inBlock, Exit.then])
    refine bodyPost_ret (results_cell_row rfl _ _ (w.heap.size + 1) 83 #[_, _, _] (0, 0) _ rfl (row_set3 HR.out _ _ _) Tryz.underlying83 rfl infoIn) rfl ?_
    refine ⟨retI HB.out.1 (by rw [HB.out.2, EF.out.1, Int.natCast_emod]) EF.out.2, ?_⟩
    exact ((HB2.out.set (show w0.heap.size ≤ w.heap.size + 1 by omega) _).set (show w0.heap.size ≤ w.heap.size + 1 by omega) _).set (show w0.heap.size ≤ w.heap.size + 1 by omega) _
theorem rest_a {f : Nat} {s : Bool} {m : Nat} (h : ¬ (s = true ∧ f % m ≠ 0)) : restN f s m = f % m := by unfold restN; rw [if_neg h]
theorem rest_b {f m : Nat} (h : f % m ≠ 0) : restN f true m = m - f % m := by unfold restN; rw [if_pos ⟨rfl, h⟩]
set_option maxRecDepth 100000 in
set_option maxHeartbeats 2000000 in
theorem crest_any (f : Nat) (s : Bool) (m : Nat) (hf : Big f) (hm : Big m) (hm0 : 0 < m) (w0 w : World) (hok : Ok w0 w) :
    Calls Tryz.prog 66 #[iv f s, bv m] w fun e w' => e = .returned (bv (restN f s m)) ∧ Ok w0 w' := by
  have hle := hok.le
  have HP : Hid _ := And.intro hf (And.intro hm hm0)
  clear hf hm hm0
  unfold iv bv
  go_enter Tryz.func66, Tryz.ntmps66
  go_wp2_with fail
  obtain ⟨W, hW⟩ : ∃ W, W = ((w.alloc (.cells #[.int .u64 (hiB f), .int .u64 (loB f), .bool s] 83)).alloc (.cells #[.int .u64 (hiB m), .int .u64 (loB m)] 80)).alloc (.cells #[.int .u64 0, .int .u64 0] 80) := ⟨_, rfl⟩
  have ra : W.heap[w.heap.size]? = some (.cells #[.int .u64 (hiB f), .int .u64 (loB f), .bool s] 83) := by rw [hW]; exact (by repeat (first | (refine heap_at _ _ _ ?hx; case hx => (first | (simp; done) | (simp; omega))) | (refine heap_past _ _ _ ?hy ?_; case hy => (first | (simp; done) | (simp; omega))) | fail))
  have rm : W.heap[w.heap.size + 1]? = some (cB m) := by rw [hW]; exact (by repeat (first | (refine heap_at _ _ _ ?hx; case hx => (first | (simp; done) | (simp; omega))) | (refine heap_past _ _ _ ?hy ?_; case hy => (first | (simp; done) | (simp; omega))) | fail))
  have rr : W.heap[w.heap.size + 2]? = some (cB 0) := by rw [hW, cB_zero]; exact (by repeat (first | (refine heap_at _ _ _ ?hx; case hx => (first | (simp; done) | (simp; omega))) | (refine heap_past _ _ _ ?hy ?_; case hy => (first | (simp; done) | (simp; omega))) | fail))
  have HW : Hid (Ok w0 W) := by rw [hW]; exact (by repeat (first | exact hok | refine Ok.alloc ?_ _ | refine Ok.draws ?_ _ | fail))
  rw [← hW]
  clear hW hok
  refine (bparted_any f m HP.out.2.2 HP.out.1 HP.out.2.1 W W (Ok.refl _)).mono ?_
  rintro e w' ⟨rfl, hb⟩
  obtain ⟨V, hV⟩ : ∃ V, V = f % m := ⟨_, rfl⟩
  rw [← hV]
  have HV : Hid _ := hV
  have hVB : Big V := by have := Nat.mod_lt f HP.out.2.2; have := HP.out.2.1; rw [hV]; unfold Big at *; omega
  have HR1 : Hid _ := Ok.row' hb rm
  have HR2 : Hid _ := Ok.row' hb rr
  obtain ⟨a0, a1, a2, _⟩ := row3_facts (Ok.row' hb ra)
  obtain ⟨m0, m1, _, _⟩ := cB_facts HR1.out
  obtain ⟨r0, r1, r2, r3⟩ := cB_facts HR2.out
  have z0 := lt_row (Ok.row' hb ra)
  have z1 := lt_row HR1.out
  have z2 := lt_row HR2.out
  have HB2 : Hid (Ok w0 w') := HW.out.step hb
  have y0 : w.heap.size < w'.heap.size + 1 := by omega
  have y1 : w.heap.size + 1 < w'.heap.size + 1 := by omega
  have y2 : w.heap.size + 2 < w'.heap.size + 1 := by omega
  have x0 : ¬ w.heap.size = w'.heap.size := by omega
  have x1 : ¬ w.heap.size + 1 = w'.heap.size := by omega
  have x2 : ¬ w.heap.size + 2 = w'.heap.size := by omega
  have x3 : ¬ w.heap.size = w'.heap.size + 1 := by omega
  have x4 : ¬ w.heap.size + 1 = w'.heap.size + 1 := by omega
  have x5 : ¬ w.heap.size + 2 = w'.heap.size + 1 := by omega
  clear ra rm rr hb hV
  unfold bv
  by_cases h : s = true ∧ V ≠ 0
  · obtain ⟨rfl, h2⟩ := h
    have E : Hid (restN f true m = subB m V) := by
      have h3 := Nat.mod_lt f HP.out.2.2
      rw [← HV.out] at h3
      unfold Hid; rw [rest_b (by rw [← HV.out]; exact h2), ← HV.out, subB_le HP.out.2.1 (by omega)]
    have e3 : ¬ (hiB V = 0 ∧ loB V = 0) := by unfold hiB loB; omega
    by_cases e1 : hiB V = 0
    · have e2 : (loB V == 0) = false := by simp; exact fun h => e3 ⟨e1, h⟩
      have HM : Hid (∀ X, Calls Tryz.prog 110 #[bv m, .agg #[.int .u64 0, .int .u64 (loB V)]] X fun e w'' => e = .returned (bv (subB m V)) ∧ Ok X w'') := by
        intro X
        have := bminus_any m V HP.out.2.1 hVB X X (Ok.refl _)
        rw [show bv V = .agg #[.int .u64 0, .int .u64 (loB V)] by unfold bv; rw [e1]] at this
        exact this
      rw [e1]
      clear e1 e3
      go_wp2_with fail
      refine Calls.mono (HM.out _) ?_
      rintro e w5 ⟨rfl, hb5⟩
      have HR5 : Hid _ := Ok.row' hb5 (heap_past _ _ _ (by simp; omega) (heap_past _ _ _ z2 HR2.out))
      have HB5 : Hid (Ok w0 w5) := Ok.step ((HB2.out.alloc _).alloc _) hb5
      obtain ⟨s0, s1, s2, s3⟩ := cB_facts HR5.out
      unfold bv
      go_wp2_with fail
      (try simp only [Exit.inBlock, Exit.then])
      refine bodyPost_ret (results_cell_row rfl _ _ (w.heap.size + 2) 80 #[_, _] (0, 0) _ rfl (row_set2 HR5.out _ _) Tryz.underlying80 rfl infoBg) rfl ?_
      rw [E.out]
      exact ⟨rfl, (HB5.out.set (show w0.heap.size ≤ w.heap.size + 2 by omega) _).set (show w0.heap.size ≤ w.heap.size + 2 by omega) _⟩
    · have e2 : (hiB V == 0) = false := by simp [e1]
      clear e1 e3
      go_wp2_with fail
      refine (bminus_any m V HP.out.2.1 hVB _ _ (Ok.refl _)).mono ?_
      rintro e w5 ⟨rfl, hb5⟩
      have HR5 : Hid _ := Ok.row' hb5 (heap_past _ _ _ (by simp; omega) (heap_past _ _ _ z2 HR2.out))
      have HB5 : Hid (Ok w0 w5) := Ok.step ((HB2.out.alloc _).alloc _) hb5
      obtain ⟨s0, s1, s2, s3⟩ := cB_facts HR5.out
      unfold bv
      go_wp2_with fail
      (try simp only [Exit.inBlock, Exit.then])
      refine bodyPost_ret (results_cell_row rfl _ _ (w.heap.size + 2) 80 #[_, _] (0, 0) _ rfl (row_set2 HR5.out _ _) Tryz.underlying80 rfl infoBg) rfl ?_
      rw [E.out]
      exact ⟨rfl, (HB5.out.set (show w0.heap.size ≤ w.heap.size + 2 by omega) _).set (show w0.heap.size ≤ w.heap.size + 2 by omega) _⟩
  · have E : Hid (restN f s m = V) := by unfold Hid; rw [rest_a (by rw [← HV.out]; exact h), HV.out]
    cases s with
    | false =>
      clear h
      go_wp2_with fail
      (try simp only [Exit.inBlock, Exit.then])
      refine bodyPost_ret (results_cell_row rfl _ _ (w.heap.size + 2) 80 #[_, _] (0, 0) _ rfl (heap_past _ _ _ (by simp; omega) (heap_past _ _ _ (by simp; omega) (row_set2 HR2.out _ _))) Tryz.underlying80 rfl infoBg) rfl ?_
      rw [E.out]
      exact ⟨rfl, (((HB2.out.set (show w0.heap.size ≤ w.heap.size + 2 by omega) _).set (show w0.heap.size ≤ w.heap.size + 2 by omega) _).alloc _).alloc _⟩
    | true =>
      have h0 : V = 0 := Classical.byContradiction fun c => h ⟨rfl, c⟩
      have e1 : hiB V = 0 := by rw [h0]; rfl
      have e2 : loB V = 0 := by rw [h0]; rfl
      have HE12 : Hid _ := And.intro e1 e2
      rw [e1, e2]
      clear h h0 e1 e2
      go_wp2_with fail
      (try simp only [Exit.inBlock, Exit.then])
      refine bodyPost_ret (results_cell_row rfl _ _ (w.heap.size + 2) 80 #[_, _] (0, 0) _ rfl (heap_past _ _ _ (by simp; omega) (heap_past _ _ _ (by simp; omega) (row_set2 HR2.out _ _))) Tryz.underlying80 rfl infoBg) rfl ?_
      rw [E.out, HE12.out.1, HE12.out.2]
      exact ⟨rfl, (((HB2.out.set (show w0.heap.size ≤ w.heap.size + 2 by omega) _).set (show w0.heap.size ≤ w.heap.size + 2 by omega) _).alloc _).alloc _⟩
theorem field_lo (a b : Value) (w : World) : (Instr.field 80 (.agg #[a, b]) 1).run Tryz.prog w = .ok b w := by kernel_rfl
attribute [local go_sem] field_lo
end
end Go.Proofs.YtgkbegmaffknbabGreat
