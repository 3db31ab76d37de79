import Derived.Test.YtgedhcgaokakpaaDoorLong
/- The document's Div, Rem, Gcd, Mod, Even, Sub. -/
namespace Go.Proofs.YtgedhcgaokakpaaDoor
open Go.RowKit
theorem tdiv_nat (n m : Nat) : ((n : Int)).tdiv (m : Int) = ((n / m : Nat) : Int) := (Int.ofNat_tdiv n m).symm
theorem tmod_nat (n m : Nat) : ((n : Int)).tmod (m : Int) = ((n % m : Nat) : Int) := (Int.ofNat_tmod n m).symm
theorem abs_form (a : Int) : (a < 0 ∧ a = -(a.natAbs : Int)) ∨ (0 ≤ a ∧ a = (a.natAbs : Int)) := by omega
theorem rdiv_eq (a b : Int) : (if (!(decide (a < 0) == decide (b < 0))) = true then wrap64 (-(wrap64 ((a.natAbs / b.natAbs : Nat) : Int))) else wrap64 ((a.natAbs / b.natAbs : Nat) : Int)) = wrap64 (a.tdiv b) := by
  have hw : ∀ q : Int, wrap64 (-(wrap64 q)) = wrap64 (-q) := fun q => by unfold wrap64; omega
  rcases abs_form a with ⟨ha, ea⟩ | ⟨ha, ea⟩ <;> rcases abs_form b with ⟨hb, eb⟩ | ⟨hb, eb⟩
  · rw [decide_eq_true ha, decide_eq_true hb]
    rw [if_neg (by decide)]
    conv => rhs; rw [ea, eb, Int.neg_tdiv, Int.tdiv_neg, Int.neg_neg, tdiv_nat]
  · rw [decide_eq_true ha, decide_eq_false (show ¬ b < 0 by omega)]
    rw [if_pos (by decide), hw]
    conv => rhs; rw [ea, eb, Int.neg_tdiv, tdiv_nat]
  · rw [decide_eq_false (show ¬ a < 0 by omega), decide_eq_true hb]
    rw [if_pos (by decide), hw]
    conv => rhs; rw [ea, eb, Int.tdiv_neg, tdiv_nat]
  · rw [decide_eq_false (show ¬ a < 0 by omega), decide_eq_false (show ¬ b < 0 by omega)]
    rw [if_neg (by decide)]
    conv => rhs; rw [ea, eb, tdiv_nat]
theorem rrem_neg {a : Int} (ha : a < 0) (b : Int) (h1 : -9223372036854775808 ≤ a) : wrap64 (-(wrap64 ((a.natAbs % b.natAbs : Nat) : Int))) = a.tmod b := by
  have h := tmod_abs a b
  have hs := (tmod_sign a b).2 (by omega)
  have hl : a.natAbs % b.natAbs ≤ a.natAbs := Nat.mod_le _ _
  generalize a.natAbs % b.natAbs = r at *
  generalize a.tmod b = t at *
  unfold wrap64
  omega
theorem rrem_pos {a : Int} (ha : 0 ≤ a) (b : Int) (h1 : a ≤ 9223372036854775807) : wrap64 ((a.natAbs % b.natAbs : Nat) : Int) = a.tmod b := by
  have h := tmod_abs a b
  have hs := (tmod_sign a b).1 ha
  have hl : a.natAbs % b.natAbs ≤ a.natAbs := Nat.mod_le _ _
  generalize a.natAbs % b.natAbs = r at *
  generalize a.tmod b = t at *
  unfold wrap64
  omega
theorem nabs_pos {b : Int} (h : b ≠ 0) : 0 < b.natAbs := by omega
theorem abs_lt {a : Int} (ha : In64 a) : a.natAbs < 18446744073709551616 := by unfold In64 at ha; omega
set_option maxHeartbeats 400000 in
theorem rdiv_zero (a b : Int) (h : b = 0) (w : World) :
    Calls Tryd.prog 23 #[.int .i64 a, .int .i64 b] w fun e w' => e = .returned (.tuple #[.int .i64 0, .bool false]) ∧ w' = w := by
  subst h
  go_enter Tryd.func23, Tryd.ntmps23
  go_wp2_with fail
  go_ret2
  exact ⟨rfl, rfl⟩
set_option maxHeartbeats 400000 in
theorem rrem_zero (a b : Int) (h : b = 0) (w : World) :
    Calls Tryd.prog 24 #[.int .i64 a, .int .i64 b] w fun e w' => e = .returned (.tuple #[.int .i64 0, .bool false]) ∧ w' = w := by
  subst h
  go_enter Tryd.func24, Tryd.ntmps24
  go_wp2_with fail
  go_ret2
  exact ⟨rfl, rfl⟩
set_option maxHeartbeats 400000 in
theorem rdiv_any (a b : Int) (ha : In64 a) (hb : In64 b) (h0 : b ≠ 0) (w : World) :
    Calls Tryd.prog 23 #[.int .i64 a, .int .i64 b] w fun e w' => e = .returned (.tuple #[.int .i64 (wrap64 (a.tdiv b)), .bool true]) ∧ w' = w := by
  have hb' : (b == 0) = false := by simpa using h0
  have E : Hid _ := rdiv_eq a b
  have H0 : Hid _ := h0
  clear h0
  go_enter Tryd.func23, Tryd.ntmps23
  go_wp2_with fail
  refine (rabs_any a ha _).mono ?_
  rintro e w' ⟨rfl, rfl⟩
  go_wp2_with fail
  refine (rabs_any b hb _).mono ?_
  rintro e w' ⟨rfl, rfl⟩
  go_wp2_with fail
  refine (long_any _ _ (abs_lt ha) (abs_lt hb) (nabs_pos H0.out) _).mono ?_
  rintro e w' ⟨rfl, rfl⟩
  generalize a.natAbs / b.natAbs = q at *
  generalize a.natAbs % b.natAbs = r at *
  cases hc : (!(decide (a < 0) == decide (b < 0)))
  · have E2 := E.out
    rw [hc, if_neg (by decide)] at E2
    have E3 : Hid _ := E2
    clear E2 E
    go_wp2_with fail
    go_ret2
    exact ⟨ret2b E3.out, rfl⟩
  · have E2 := E.out
    rw [hc, if_pos rfl] at E2
    have E3 : Hid _ := E2
    clear E2 E
    go_wp2_with fail
    refine (rneg_any _ _).mono ?_
    rintro e w' ⟨rfl, rfl⟩
    go_wp2_with fail
    go_ret2
    exact ⟨ret2b E3.out, rfl⟩
set_option maxHeartbeats 400000 in
theorem rrem_any (a b : Int) (ha : In64 a) (hb : In64 b) (h0 : b ≠ 0) (w : World) :
    Calls Tryd.prog 24 #[.int .i64 a, .int .i64 b] w fun e w' => e = .returned (.tuple #[.int .i64 (a.tmod b), .bool true]) ∧ w' = w := by
  have hb' : (b == 0) = false := by simpa using h0
  have E1 : Hid (a < 0 → _) := fun h => rrem_neg h b ha.1
  have E2 : Hid (0 ≤ a → _) := fun h => rrem_pos h b ha.2
  have H0 : Hid _ := h0
  clear h0
  go_enter Tryd.func24, Tryd.ntmps24
  go_wp2_with fail
  refine (rabs_any a ha _).mono ?_
  rintro e w' ⟨rfl, rfl⟩
  go_wp2_with fail
  refine (rabs_any b hb _).mono ?_
  rintro e w' ⟨rfl, rfl⟩
  go_wp2_with fail
  refine (long_any _ _ (abs_lt ha) (abs_lt hb) (nabs_pos H0.out) _).mono ?_
  rintro e w' ⟨rfl, rfl⟩
  generalize a.natAbs / b.natAbs = q at *
  generalize a.natAbs % b.natAbs = r at *
  by_cases hc : a < 0
  · have E3 : Hid _ := E1.out hc
    clear E1 E2
    go_wp2_with fail
    refine (rneg_any _ _).mono ?_
    rintro e w' ⟨rfl, rfl⟩
    go_wp2_with fail
    go_ret2
    exact ⟨ret2b E3.out, rfl⟩
  · have E3 : Hid _ := E2.out (by omega)
    clear E1 E2
    go_wp2_with fail
    go_ret2
    exact ⟨ret2b E3.out, rfl⟩
set_option maxHeartbeats 400000 in
theorem rsub_any (a b : Int) (w : World) :
    Calls Tryd.prog 27 #[.int .i64 a, .int .i64 b] w fun e w' => e = .returned (.int .i64 (wrap64 (a - b))) ∧ w' = w := by
  have E : Hid _ := (ww3 a b).symm
  go_enter Tryd.func27, Tryd.ntmps27
  go_wp2_with fail
  refine (rneg_any _ _).mono ?_
  rintro e w' ⟨rfl, rfl⟩
  go_wp2_with fail
  refine (radd_any _ _ _).mono ?_
  rintro e w' ⟨rfl, rfl⟩
  go_wp2_with fail
  go_ret
  exact ⟨ret1 E.out, rfl⟩
end Go.Proofs.YtgedhcgaokakpaaDoor
