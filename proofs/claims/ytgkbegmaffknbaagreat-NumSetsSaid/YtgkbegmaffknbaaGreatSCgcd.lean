import Derived.Test.YtgkbegmaffknbaaGreatSCpartb
set_option linter.unusedVariables false
set_option linter.unusedSimpArgs false
set_option linter.unnecessarySimpa false
/- Cgcd -/
namespace Go.Proofs.YtgkbegmaffknbaaGreat
open Go.RowKit
/-- The number that lies in a row. -/
def valAt (w : World) (g : Nat) : Nat := (intOf ((w.cell? ⟨g, 0, none⟩).getD undef) * 18446744073709551616 + intOf ((w.cell? ⟨g, 1, none⟩).getD undef)).toNat
theorem valAt_row {w : World} {g n : Nat} (h : w.heap[g]? = some (cB n)) : valAt w g = n := by
  obtain ⟨h0, h1, _, _⟩ := cB_facts h
  unfold valAt; rw [h0, h1]; simp only [Option.getD_some, intOf]; unfold hiB loB; omega
def GcdInv (w0 w wr : World) (x y : Nat) : Prop :=
  Ok w0 wr ∧ wr.heap[w.heap.size]? = some (cB x) ∧ wr.heap[w.heap.size + 1]? = some (cB y) ∧ wr.heap[w.heap.size + 2]? = some (cB 0)
theorem GcdInv.next {w0 w X : World} {x y : Nat} (h : GcdInv w0 w X x y) (hw : w0.heap.size ≤ w.heap.size) (n : Nat) :
    GcdInv w0 w ((((X.setCell ⟨w.heap.size, 0, none⟩ (.int .u64 (hiB y))).setCell ⟨w.heap.size, 1, none⟩ (.int .u64 (loB y))).setCell ⟨w.heap.size + 1, 0, none⟩ (.int .u64 (hiB n))).setCell ⟨w.heap.size + 1, 1, none⟩ (.int .u64 (loB n))) y n := by
  have hs := row_set4 h.2.1 h.2.2.1 (show w.heap.size ≠ w.heap.size + 1 by omega) (.int .u64 (hiB y)) (.int .u64 (loB y)) (.int .u64 (hiB n)) (.int .u64 (loB n))
  refine ⟨(((h.1.set hw _).set hw _).set (show w0.heap.size ≤ w.heap.size + 1 by omega) _).set (show w0.heap.size ≤ w.heap.size + 1 by omega) _, hs.1, hs.2, ?_⟩
  rw [heap_setCell_other _ _ _ _ (by simp), heap_setCell_other _ _ _ _ (by simp), heap_setCell_other _ _ _ _ (by simp), heap_setCell_other _ _ _ _ (by simp)]
  exact h.2.2.2
theorem GcdInv.below {w0 w wr w1 : World} {x y : Nat} (h : GcdInv w0 w wr x y) (hb : Ok wr w1) : GcdInv w0 w w1 x y := ⟨h.1.step hb, hb.row' h.2.1, hb.row' h.2.2.1, hb.row' h.2.2.2⟩
theorem gcd_step (x y : Nat) : Nat.gcd y (x % y) = Nat.gcd x y := by
  rw [Nat.gcd_comm y, ← Nat.gcd_rec, Nat.gcd_comm]
set_option maxRecDepth 100000 in
set_option maxHeartbeats 2000000 in
theorem bgcd_any (a b : Nat) (ha : Big a) (hb : Big b) (w0 w : World) (hok : Ok w0 w) :
    Calls Tryz.prog 130 #[bv a, bv b] w fun e w' => e = .returned (bv (Nat.gcd a b)) ∧ Ok w0 w' := by
  have hle := hok.le
  have HAB : Hid _ := And.intro ha hb
  clear ha hb
  obtain ⟨G, hG⟩ : ∃ G, G = Nat.gcd a b := ⟨_, rfl⟩
  rw [← hG]
  have HG : Hid _ := hG
  clear hG
  unfold bv
  go_enter Tryz.func130, Tryz.ntmps130
  go_wp2_with fail
  go_loopw [] (fun wr => ∃ x y : Nat, Big x ∧ Big y ∧ Hid (Nat.gcd x y = G) ∧ Hid (GcdInv w0 w wr x y)) (fun wr => valAt wr (w.heap.size + 1))
  case atStart =>
    refine ⟨a, b, HAB.out.1, HAB.out.2, HG.out.symm, ?_⟩
    unfold Hid GcdInv
    rw [cB_zero]
    exact ⟨(by repeat (first | exact hok | refine Ok.alloc ?_ _ | refine Ok.draws ?_ _ | fail)), (by repeat (first | (refine heap_at _ _ _ ?hx; case hx => (first | (simp; done) | (simp; omega))) | (refine heap_past _ _ _ ?hy ?_; case hy => (first | (simp; done) | (simp; omega))) | fail)), (by repeat (first | (refine heap_at _ _ _ ?hx; case hx => (first | (simp; done) | (simp; omega))) | (refine heap_past _ _ _ ?hy ?_; case hy => (first | (simp; done) | (simp; omega))) | fail)), (by repeat (first | (refine heap_at _ _ _ ?hx; case hx => (first | (simp; done) | (simp; omega))) | (refine heap_past _ _ _ ?hy ?_; case hy => (first | (simp; done) | (simp; omega))) | fail))⟩
  case round =>
    obtain ⟨x, y, hx, hy, HGG, HI⟩ := hrel
    obtain ⟨j1, j2, j3, j4⟩ := HI.out
    obtain ⟨a0, a1, a2, a3⟩ := cB_facts j2
    obtain ⟨b0, b1, b2, b3⟩ := cB_facts j3
    obtain ⟨c0, c1, c2, c3⟩ := cB_facts j4
    have z0 := lt_row j2
    have z1 := lt_row j3
    clear j1 j2 j3 j4
    by_cases h0 : y = 0
    · subst h0
      have e1 : hiB 0 = 0 := rfl
      have e2 : loB 0 = 0 := rfl
      rw [e1] at b0
      rw [e2] at b1
      clear e1 e2
      have HG2 : Hid (x = G) := by have := HGG.out; rw [Nat.gcd_zero_right] at this; exact this
      go_wp2_with fail
      (try simp only [Exit.inBlock, Exit.then])
      refine bodyPost_ret (results_cell_row rfl _ _ (w.heap.size + 2) 115 #[_, _] (0, 0) _ rfl (row_set2 HI.out.2.2.2 _ _) Tryz.underlying115 rfl infoBg) rfl ?_
      rw [HG2.out]
      exact ⟨rfl, (HI.out.1.set (show w0.heap.size ≤ w.heap.size + 2 by omega) _).set (show w0.heap.size ≤ w.heap.size + 2 by omega) _⟩
    · have HY : Hid (0 < y) := by unfold Hid; omega
      have HP := bparted_any x y HY.out hx hy wr wr (Ok.refl _)
      have HME : Hid (valAt wr (w.heap.size + 1) = y) := valAt_row HI.out.2.2.1
      have HBM : Hid (Big (x % y)) := by have := Nat.mod_lt x HY.out; unfold Hid Big at *; omega
      by_cases e1 : hiB y = 0
      · have e2 : (loB y == 0) = false := by unfold hiB at e1; unfold loB; simp; omega
        rw [show bv y = .agg #[.int .u64 0, .int .u64 (loB y)] by unfold bv; rw [e1]] at HP
        have HP' : Hid _ := HP
        rw [e1] at b0
        clear HP h0 e1
        go_wp2_with fail
        refine Calls.mono HP'.out ?_
        rintro e w' ⟨rfl, hb⟩
        have HI2 : Hid (GcdInv w0 w w' x y) := HI.out.below hb
        have HI4 : Hid (GcdInv w0 w ((((((w'.setCell ⟨w.heap.size, 0, none⟩ (.int .u64 (hiB y))).setCell ⟨w.heap.size, 1, none⟩ (.int .u64 (loB y))).setCell ⟨w.heap.size + 1, 0, none⟩ (.int .u64 (hiB (x % y)))).setCell ⟨w.heap.size + 1, 1, none⟩ (.int .u64 (loB (x % y)))).alloc (.cells #[.int .u64 (hiB (x / y)), .int .u64 (loB (x / y))] 115)).alloc (.cells #[.int .u64 (hiB (x % y)), .int .u64 (loB (x % y))] 115)) y (x % y)) := (HI2.out.next hle (x % y)).below (((Ok.refl _).alloc _).alloc _)
        obtain ⟨j1, j2, j3, j4⟩ := HI2.out
        obtain ⟨a0, a1, a2, a3⟩ := cB_facts j2
        obtain ⟨b0, b1, b2, b3⟩ := cB_facts j3
        have z0 := lt_row j2
        have z1 := lt_row j3
        have z2 : w.heap.size < w'.heap.size + 1 := by omega
        have z3 : w.heap.size + 1 < w'.heap.size + 1 := by omega
        have z4 : ¬ w.heap.size = w'.heap.size := by omega
        have z5 : ¬ w.heap.size + 1 = w'.heap.size := by omega
        have z6 : ¬ w.heap.size = w'.heap.size + 1 := by omega
        have z7 : ¬ w.heap.size + 1 = w'.heap.size + 1 := by omega
        have z8 : ¬ w'.heap.size = w.heap.size := by omega
        have z9 : ¬ w'.heap.size = w.heap.size + 1 := by omega
        have z10 : ¬ w'.heap.size + 1 = w.heap.size := by omega
        have z11 : ¬ w'.heap.size + 1 = w.heap.size + 1 := by omega
        clear j1 j2 j3 j4
        unfold bv
        go_wp2_with fail
        refine ⟨⟨y, x % y, hy, HBM.out, ?_, HI4⟩, ?_⟩
        · unfold Hid; rw [gcd_step]; exact HGG.out
        · rw [valAt_row HI4.out.2.2.1, HME.out]; exact Nat.mod_lt _ HY.out
      · have e2 : (hiB y == 0) = false := by simp [e1]
        have HP' : Hid _ := HP
        clear HP h0 e1
        go_wp2_with fail
        refine Calls.mono HP'.out ?_
        rintro e w' ⟨rfl, hb⟩
        have HI2 : Hid (GcdInv w0 w w' x y) := HI.out.below hb
        have HI4 : Hid (GcdInv w0 w ((((((w'.setCell ⟨w.heap.size, 0, none⟩ (.int .u64 (hiB y))).setCell ⟨w.heap.size, 1, none⟩ (.int .u64 (loB y))).setCell ⟨w.heap.size + 1, 0, none⟩ (.int .u64 (hiB (x % y)))).setCell ⟨w.heap.size + 1, 1, none⟩ (.int .u64 (loB (x % y)))).alloc (.cells #[.int .u64 (hiB (x / y)), .int .u64 (loB (x / y))] 115)).alloc (.cells #[.int .u64 (hiB (x % y)), .int .u64 (loB (x % y))] 115)) y (x % y)) := (HI2.out.next hle (x % y)).below (((Ok.refl _).alloc _).alloc _)
        obtain ⟨j1, j2, j3, j4⟩ := HI2.out
        obtain ⟨a0, a1, a2, a3⟩ := cB_facts j2
        obtain ⟨b0, b1, b2, b3⟩ := cB_facts j3
        have z0 := lt_row j2
        have z1 := lt_row j3
        have z2 : w.heap.size < w'.heap.size + 1 := by omega
        have z3 : w.heap.size + 1 < w'.heap.size + 1 := by omega
        have z4 : ¬ w.heap.size = w'.heap.size := by omega
        have z5 : ¬ w.heap.size + 1 = w'.heap.size := by omega
        have z6 : ¬ w.heap.size = w'.heap.size + 1 := by omega
        have z7 : ¬ w.heap.size + 1 = w'.heap.size + 1 := by omega
        have z8 : ¬ w'.heap.size = w.heap.size := by omega
        have z9 : ¬ w'.heap.size = w.heap.size + 1 := by omega
        have z10 : ¬ w'.heap.size + 1 = w.heap.size := by omega
        have z11 : ¬ w'.heap.size + 1 = w.heap.size + 1 := by omega
        clear j1 j2 j3 j4
        unfold bv
        go_wp2_with fail
        refine ⟨⟨y, x % y, hy, HBM.out, ?_, HI4⟩, ?_⟩
        · unfold Hid; rw [gcd_step]; exact HGG.out
        · rw [valAt_row HI4.out.2.2.1, HME.out]; exact Nat.mod_lt _ HY.out
/-- The greatest power of two that divides g, at most 2^63. -/
def twoN (g : Nat) : Nat :=
  match (List.range 63).find? (fun i => g / 2 ^ i % 2 == 1) with
  | some i => 2 ^ i
  | none => 9223372036854775808
theorem twoN_at {g i : Nat} (hi : i < 63) (h1 : g / 2 ^ i % 2 = 1) (h0 : ∀ j, j < i → g / 2 ^ j % 2 = 0) : twoN g = 2 ^ i := by
  have : (List.range 63).find? (fun i => g / 2 ^ i % 2 == 1) = some i := by
    rw [List.find?_range_eq_some]
    refine ⟨by simp [h1], by simpa using hi, fun j hj => by simp [h0 j hj]⟩
  unfold twoN; rw [this]
theorem twoN_none {g : Nat} (h0 : ∀ j, j < 63 → g / 2 ^ j % 2 = 0) : twoN g = 9223372036854775808 := by
  have : (List.range 63).find? (fun i => g / 2 ^ i % 2 == 1) = none := by
    rw [List.find?_eq_none]
    intro j hj
    have := h0 j (by simpa using hj)
    simp [this]
  unfold twoN; rw [this]
end Go.Proofs.YtgkbegmaffknbaaGreat
