import Derived.Test.YtgkbegmaffknbaaGreatSCpartb
set_option linter.unusedVariables false
set_option linter.unusedSimpArgs false
set_option linter.unnecessarySimpa false
/- Ctim -/
namespace Go.Proofs.YtgkbegmaffknbaaGreat
open Go.RowKit
theorem bit_test (B k : Nat) (hB : B < 18446744073709551616) : (bits .and .u64 ((B : Int) / 2 ^ k) 1 == 1) = decide (B / 2 ^ k % 2 = 1) := by
  have e : (B : Int) / 2 ^ k = ((B / 2 ^ k : Nat) : Int) := by rw [Int.natCast_ediv, Int.natCast_pow]; rfl
  have h : B / 2 ^ k < 18446744073709551616 := Nat.lt_of_le_of_lt (Nat.div_le_self _ _) hB
  rw [e, bit_u64 h]
  by_cases hb : B / 2 ^ k % 2 = 1
  · rw [hb]; rfl
  · have h0 : B / 2 ^ k % 2 = 0 := by omega
    rw [h0]; rfl
def TimInv (w0 w wr : World) (S : Nat) : Prop := Ok w0 wr ∧ wr.heap[w.heap.size]? = some (cB 0) ∧ wr.heap[w.heap.size + 1]? = some (cB S)
theorem TimInv.below {w0 w wr w1 : World} {S : Nat} (h : TimInv w0 w wr S) (hb : Ok wr w1) : TimInv w0 w w1 S := ⟨h.1.step hb, hb.row' h.2.1, hb.row' h.2.2⟩
theorem TimInv.setS {w0 w wr : World} {S : Nat} (h : TimInv w0 w wr S) (hw : w0.heap.size ≤ w.heap.size) (n : Nat) : TimInv w0 w ((wr.setCell ⟨w.heap.size + 1, 0, none⟩ (.int .u64 (hiB n))).setCell ⟨w.heap.size + 1, 1, none⟩ (.int .u64 (loB n))) n := by
  refine ⟨(h.1.set (show w0.heap.size ≤ w.heap.size + 1 by omega) _).set (show w0.heap.size ≤ w.heap.size + 1 by omega) _, ?_, row_set2 h.2.2 _ _⟩
  rw [heap_setCell_other _ _ _ _ (by simp), heap_setCell_other _ _ _ _ (by simp)]; exact h.2.1
theorem TimInv.setLo {w0 w wr : World} {S : Nat} (h : TimInv w0 w wr S) (hw : w0.heap.size ≤ w.heap.size) (x : Int) (n : Nat) (e1 : hiB n = hiB S) (e2 : loB n = x) : TimInv w0 w (wr.setCell ⟨w.heap.size + 1, 1, none⟩ (.int .u64 x)) n := by
  refine ⟨h.1.set (show w0.heap.size ≤ w.heap.size + 1 by omega) _, ?_, ?_⟩
  · rw [heap_setCell_other _ _ _ _ (by simp)]; exact h.2.1
  · rw [heap_setCell_same _ _ 1 _ _ _ h.2.2]; unfold cB; rw [e1, e2]; rfl
theorem TimInv.setLoHi {w0 w wr : World} {S : Nat} (h : TimInv w0 w wr S) (hw : w0.heap.size ≤ w.heap.size) (x y : Int) (n : Nat) (e1 : hiB n = y) (e2 : loB n = x) : TimInv w0 w ((wr.setCell ⟨w.heap.size + 1, 1, none⟩ (.int .u64 x)).setCell ⟨w.heap.size + 1, 0, none⟩ (.int .u64 y)) n := by
  refine ⟨(h.1.set (show w0.heap.size ≤ w.heap.size + 1 by omega) _).set (show w0.heap.size ≤ w.heap.size + 1 by omega) _, ?_, ?_⟩
  · rw [heap_setCell_other _ _ _ _ (by simp), heap_setCell_other _ _ _ _ (by simp)]; exact h.2.1
  · have h1 := heap_setCell_same _ _ 1 _ _ (.int .u64 x) h.2.2
    rw [heap_setCell_same _ _ 0 _ _ (.int .u64 y) h1]; unfold cB; rw [e1, e2]; rfl
theorem TimInv.lo {w0 w wr : World} {S : Nat} (h : TimInv w0 w wr S) (x : Int) : (wr.setCell ⟨w.heap.size + 1, 1, none⟩ (.int .u64 x)).heap[w.heap.size + 1]? = some (.cells #[.int .u64 (hiB S), .int .u64 x] 115) := by
  rw [heap_setCell_same _ _ 1 _ _ _ h.2.2]; rfl
theorem tim_carry {S a : Nat} (ha : a < 18446744073709551616) (hS : Big (S + a)) (h : IntKind.u64.wrap (loB S + (a : Int)) < (a : Int)) : hiB (S + a) = IntKind.u64.wrap (hiB S + 1) ∧ loB (S + a) = IntKind.u64.wrap (loB S + (a : Int)) := by
  rw [u64w] at *; rw [u64w]; unfold Big at hS; unfold hiB loB at *; omega
theorem tim_none {S a : Nat} (ha : a < 18446744073709551616) (h : ¬ IntKind.u64.wrap (loB S + (a : Int)) < (a : Int)) : hiB (S + a) = hiB S ∧ loB (S + a) = IntKind.u64.wrap (loB S + (a : Int)) := by
  rw [u64w] at *; unfold hiB loB at *; omega
set_option maxRecDepth 100000 in
set_option maxHeartbeats 2000000 in
theorem btimes_any (a b : Nat) (ha : a < 18446744073709551616) (hb : b < 18446744073709551616) (w0 w : World) (hok : Ok w0 w) :
    Calls Tryz.prog 135 #[.int .u64 a, .int .u64 b] w fun e w' => e = .returned (bv (a * b)) ∧ Ok w0 w' := by
  have hle := hok.le
  have HAB : Hid _ := And.intro ha hb
  have hT := fun k => bit_test b k hb
  have HT : Hid _ := hT
  clear hT hb
  unfold bv
  go_enter Tryz.func135, Tryz.ntmps135
  go_wp2_with fail
  go_loopw [6] (fun i wr => ∃ k : Nat, k ≤ 64 ∧ i = .int .i64 ((k : Int) - 1) ∧ Hid (TimInv w0 w wr (a * (b / 2 ^ k)))) (fun i _ => (intOf i + 1).toNat)
  case atStart =>
    refine ⟨64, by omega, rfl, ?_⟩
    have e : b / 2 ^ 64 = 0 := Nat.div_eq_of_lt HAB.out.2
    unfold Hid TimInv
    rw [e, Nat.mul_zero, cB_zero]
    exact ⟨(by repeat (first | exact hok | refine Ok.alloc ?_ _ | refine Ok.draws ?_ _ | fail)), (by repeat (first | (refine heap_at _ _ _ ?hx; case hx => (first | (simp; done) | (simp; omega))) | (refine heap_past _ _ _ ?hy ?_; case hy => (first | (simp; done) | (simp; omega))) | fail)), (by repeat (first | (refine heap_at _ _ _ ?hx; case hx => (first | (simp; done) | (simp; omega))) | (refine heap_past _ _ _ ?hy ?_; case hy => (first | (simp; done) | (simp; omega))) | fail))⟩
  case round =>
    obtain ⟨k, hk, rfl, HP⟩ := hrel
    by_cases hk0 : k = 0
    · subst hk0
      have e : b / 2 ^ 0 = b := by simp
      rw [e] at HP
      clear e
      obtain ⟨s0, s1, s2, s3⟩ := cB_facts HP.out.2.2
      obtain ⟨r0, r1, r2, r3⟩ := cB_facts HP.out.2.1
      go_wp2_with fail
      (try simp only [Exit.inBlock, Exit.then])
      refine bodyPost_ret (results_cell_row rfl _ _ w.heap.size 115 #[_, _] (0, 0) _ rfl (row_set2 HP.out.2.1 _ _) Tryz.underlying115 rfl infoBg) rfl ?_
      exact ⟨rfl, (HP.out.1.set (show w0.heap.size ≤ w.heap.size by omega) _).set (show w0.heap.size ≤ w.heap.size by omega) _⟩
    · obtain ⟨j, rfl⟩ : ∃ j, k = j + 1 := ⟨k - 1, by omega⟩
      have hj : j < 64 := by omega
      have ej : (((j + 1 : Nat) : Int) - 1) = (j : Int) := by omega
      rw [ej]
      clear ej hk0 hk
      obtain ⟨S, hS⟩ : ∃ S, S = a * (b / 2 ^ (j + 1)) := ⟨_, rfl⟩
      rw [← hS] at HP
      have HB : Hid (Big (a * (b / 2 ^ j))) := by
        have h1 : b / 2 ^ j ≤ b := Nat.div_le_self _ _
        have h2 := HAB.out.1
        have h3 := HAB.out.2
        have h4 : a * (b / 2 ^ j) ≤ 18446744073709551615 * 18446744073709551615 := Nat.mul_le_mul (by omega) (by omega)
        unfold Hid Big; omega
      have HS2 : Hid (a * (b / 2 ^ j) = 2 * S + a * (b / 2 ^ j % 2)) := by
        have := bit_step b j
        unfold Hid
        rw [hS]
        generalize b / 2 ^ (j + 1) = z at *
        generalize b / 2 ^ j % 2 = t at *
        rw [this, Nat.mul_add, Nat.mul_left_comm]
      have h2S : Big (2 * S) := by have := HB.out; rw [HS2.out] at this; unfold Big at *; omega
      have hSB : Big S := by unfold Big at *; omega
      clear hS
      obtain ⟨s0, s1, s2, s3⟩ := cB_facts HP.out.2.2
      go_wp2_with fail
      refine (btwice0 S hSB h2S wr wr (Ok.refl _)).mono ?_
      rintro e w4 ⟨rfl, hb4⟩
      have HP1 : Hid (TimInv w0 w w4 S) := HP.out.below hb4
      have HP2 : Hid (TimInv w0 w ((w4.setCell ⟨w.heap.size + 1, 0, none⟩ (.int .u64 (hiB (2 * S)))).setCell ⟨w.heap.size + 1, 1, none⟩ (.int .u64 (loB (2 * S)))) (2 * S)) := HP1.out.setS hle (2 * S)
      obtain ⟨t0, t1, t2, t3⟩ := cB_facts HP1.out.2.2
      unfold bv
      clear s0 s1 s2 s3
      have ht := HT.out j
      by_cases hbit : b / 2 ^ j % 2 = 1
      · rw [decide_eq_true hbit] at ht
        rw [hbit, Nat.mul_one] at HS2
        rw [HS2.out] at HB
        by_cases hc : IntKind.u64.wrap (loB (2 * S) + (a : Int)) < (a : Int)
        · have HE : Hid _ := tim_carry HAB.out.1 HB.out hc
          have HP3 : Hid _ := HP2.out.setLoHi hle _ _ _ HE.out.1 HE.out.2
          obtain ⟨u0, u1, u2, u3⟩ := row_facts (HP2.out.lo (IntKind.u64.wrap (loB (2 * S) + (a : Int))))
          clear hbit
          go_wp2_with fail
          refine ⟨⟨j, by omega, rfl, ?_⟩, by simp only [intOf]; omega⟩
          unfold Hid
          rw [HS2.out]
          exact HP3.out
        · have HE : Hid _ := tim_none HAB.out.1 hc
          have HP3 : Hid _ := HP2.out.setLo hle _ _ HE.out.1 HE.out.2
          obtain ⟨u0, u1, u2, u3⟩ := row_facts (HP2.out.lo (IntKind.u64.wrap (loB (2 * S) + (a : Int))))
          clear hbit
          go_wp2_with fail
          refine ⟨⟨j, by omega, rfl, ?_⟩, by simp only [intOf]; omega⟩
          unfold Hid
          rw [HS2.out]
          exact HP3.out
      · rw [decide_eq_false hbit] at ht
        have e0 : b / 2 ^ j % 2 = 0 := by omega
        rw [e0, Nat.mul_zero, Nat.add_zero] at HS2
        clear hbit e0
        go_wp2_with fail
        refine ⟨⟨j, by omega, rfl, ?_⟩, by simp only [intOf]; omega⟩
        unfold Hid
        rw [HS2.out]
        exact HP2.out
end Go.Proofs.YtgkbegmaffknbaaGreat
