import Derived.Test.YtgedhcgaokakpaaDoorParse
/- Mod, and 'taken'. -/
namespace Go.Proofs.YtgedhcgaokakpaaDoor
open Go.RowKit
set_option maxHeartbeats 400000 in
theorem mod_zero (v : Int) (w : World) :
    Calls Tryd.prog 9 #[.int .i64 v, .int .u64 0] w fun e w' => e = .returned (.int .u64 (IntKind.u64.wrap v)) ∧ w' = w := by
  go_enter Tryd.func9, Tryd.ntmps9
  go_wp2
  go_ret
  exact ⟨rfl, rfl⟩
set_option maxHeartbeats 400000 in
theorem mod_pos (v m : Int) (hv : 0 ≤ v) (hv1 : v ≤ 9223372036854775807) (hm : 0 < m) (hm1 : m ≤ 18446744073709551615) (w : World) :
    Calls Tryd.prog 9 #[.int .i64 v, .int .u64 m] w fun e w' => e = .returned (.int .u64 (v % m)) ∧ w' = w := by
  have h0 : (m == 0) = false := by simp; omega
  go_enter Tryd.func9, Tryd.ntmps9
  go_wp2
  go_ret
  exact ⟨rfl, rfl⟩
theorem neg_mod0 {n m : Int} (hn : 0 ≤ n) (h : (n.tmod m == 0) = true) : (0 : Int) = (-n) % m := by
  have h1 : n % m = 0 := by rw [← Int.tmod_eq_emod_of_nonneg hn]; simpa using h
  rw [← Int.emod_add_mul_ediv n m, h1]
  simp
theorem neg_mod1 {n m : Int} (hn : 0 ≤ n) (hm : 0 < m) (hm1 : m ≤ 18446744073709551615) (h : (n.tmod m == 0) = false) : IntKind.u64.wrap (m - n.tmod m) = (-n) % m := by
  have h0 : ¬ n % m = 0 := by rw [← Int.tmod_eq_emod_of_nonneg hn]; simpa using h
  rw [Int.tmod_eq_emod_of_nonneg hn]
  have h1 := Int.emod_nonneg n (show m ≠ 0 by omega)
  have h2 := Int.emod_lt_of_pos n hm
  have e : -n = (m - n % m) + m * (-(n / m) - 1) := by
    have := Int.emod_add_mul_ediv n m
    rw [Int.mul_sub, Int.mul_neg]
    omega
  have h3 : (m - n % m) % 18446744073709551616 = m - n % m := Int.emod_eq_of_lt (by omega) (by omega)
  have h4 : (m - n % m) % m = m - n % m := Int.emod_eq_of_lt (by omega) (by omega)
  rw [u64w, h3, e, Int.add_mul_emod_self_left, h4]
set_option maxHeartbeats 400000 in
theorem mod_neg (v m : Int) (hv : v < 0) (hv1 : -9223372036854775808 ≤ v) (hm : 0 < m) (hm1 : m ≤ 18446744073709551615) (w : World) :
    Calls Tryd.prog 9 #[.int .i64 v, .int .u64 m] w fun e w' => e = .returned (.int .u64 (v % m)) ∧ w' = w := by
  have h0 : (m == 0) = false := by simp; omega
  have E : Hid (IntKind.u64.wrap (-IntKind.u64.wrap v) = -v) := by
    show IntKind.u64.wrap (-IntKind.u64.wrap v) = -v
    rw [u64w, u64w]; omega
  have hv0 : 0 ≤ -v := by omega
  cases h : ((IntKind.u64.wrap (-IntKind.u64.wrap v)).tmod m == 0)
  · have H : Hid _ := neg_mod1 hv0 hm hm1 (by rw [← E.out]; exact h)
    go_enter Tryd.func9, Tryd.ntmps9
    go_wp2
    go_ret
    exact ⟨ret1 (by rw [E.out]; have := H.out; rwa [Int.neg_neg] at this), rfl⟩
  · have H : Hid _ := neg_mod0 (m := m) hv0 (by rw [← E.out]; exact h)
    go_enter Tryd.func9, Tryd.ntmps9
    go_wp2
    go_ret
    exact ⟨ret1 (by have := H.out; rwa [Int.neg_neg] at this), rfl⟩
theorem mod_any (v m : Int) (hv : In64 v) (hm : 0 < m) (hm1 : m ≤ 18446744073709551615) (w : World) :
    Calls Tryd.prog 9 #[.int .i64 v, .int .u64 m] w fun e w' => e = .returned (.int .u64 (v % m)) ∧ w' = w := by
  unfold In64 at hv
  by_cases h : v < 0
  · exact mod_neg v m h hv.1 hm hm1 w
  · exact mod_pos v m (by omega) hv.2 hm hm1 w
theorem t_div (w : World) : Calls Tryd.prog 17 #[.int .i64 (-7), .int .i64 2] w fun e w' => e = .returned (.tuple #[.int .i64 (-3), .bool true]) ∧ w' = w :=
  (div_any (-7) 2 (by decide) w).mono fun _ _ ⟨he, hk⟩ => ⟨he.trans (ret2b (by rw [show (-7 : Int).tdiv 2 = -3 by decide]; unfold wrap64; omega)), hk⟩
theorem t_parse (w0 w : World) (h : Ok w0 w) : Calls Tryd.prog 19 #[.string ⟨#[45, 49, 50]⟩] w fun e w' => e = .returned (.tuple #[.int .i64 (-12), .int .i64 0, .int .i64 0]) ∧ Ok w0 w' :=
  (parse_any ⟨#[45, 49, 50]⟩ (by decide) w0 w h).mono fun e w' ⟨he, hk⟩ => ⟨he.trans (tup3 (by decide) (by decide) (by decide)), hk⟩
theorem t_add (w0 w : World) (h : Ok w0 w) : Calls Tryd.prog 12 #[.int .i64 2, .int .i64 3] w fun e w' => e = .returned (.int .i64 5) ∧ Ok w0 w' :=
  (add_any 2 3 w0 w h).mono fun _ _ ⟨he, hk⟩ => ⟨he.trans (ret1 (by unfold wrap64; omega)), hk⟩
theorem t_mul (w0 w : World) (h : Ok w0 w) : Calls Tryd.prog 14 #[.int .i64 (-3), .int .i64 4] w fun e w' => e = .returned (.int .i64 (-12)) ∧ Ok w0 w' :=
  (mul_any (-3) 4 w0 w h).mono fun _ _ ⟨he, hk⟩ => ⟨he.trans (ret1 (by unfold wrap64; omega)), hk⟩
theorem t_print (w0 w : World) (hT : Lib.TabIs Tryd.prog w0 "internal/strconv.uint64pow10" .u64 Lib.pow10Tab) (h : Ok w0 w) : Calls Tryd.prog 21 #[.int .i64 (-12)] w fun e w' => e = .returned (.string ⟨#[45, 49, 50]⟩) ∧ Ok w0 w' :=
  (print_any (-12) (by unfold In64; omega) w0 w hT h).mono fun e w' ⟨he, hk⟩ => ⟨he.trans (by rw [show Lib.itoa (-12) = [45, 49, 50] by simp [Lib.itoa]; rw [Lib.decDigits_two (by decide) (by decide)]; decide]), hk⟩
theorem t_gcd (w0 w : World) (h : Ok w0 w) : Calls Tryd.prog 7 #[.int .u64 12, .int .u64 18] w fun e w' => e = .returned (.int .u64 6) ∧ Ok w0 w' := gcd_any 12 18 (by decide) (by decide) w0 w h
theorem t_mod (w : World) : Calls Tryd.prog 9 #[.int .i64 (-7), .int .u64 3] w fun e w' => e = .returned (.int .u64 2) ∧ w' = w := mod_any (-7) 3 (by unfold In64; omega) (by decide) (by decide) w
set_option maxHeartbeats 400000 in
theorem taken_any (w0 w : World) (hT : Lib.TabIs Tryd.prog w0 "internal/strconv.uint64pow10" .u64 Lib.pow10Tab) (hok : Ok w0 w) :
    Calls Tryd.prog 10 #[] w fun e w' => e = .returned (.bool true) ∧ Ok w0 w' := by
  have HT : Hid _ := hT
  clear hT
  go_enter Tryd.func10, Tryd.ntmps10
  go_wp2_with fail
  refine (t_div _).mono ?_
  rintro e w' ⟨rfl, rfl⟩
  go_wp2_with fail
  refine (t_parse w0 _ hok).mono ?_
  rintro e w1 ⟨rfl, h1⟩
  go_wp2_with fail
  refine (t_add w0 _ h1).mono ?_
  rintro e w2 ⟨rfl, h2⟩
  go_wp2_with fail
  refine (t_mul w0 _ h2).mono ?_
  rintro e w3 ⟨rfl, h3⟩
  go_wp2_with fail
  refine (t_print w0 _ HT.out h3).mono ?_
  rintro e w4 ⟨rfl, h4⟩
  go_wp2_with fail
  refine (t_gcd w0 _ h4).mono ?_
  rintro e w5 ⟨rfl, h5⟩
  go_wp2_with fail
  refine (t_mod _).mono ?_
  rintro e w6 ⟨rfl, rfl⟩
  go_wp2_with fail
  go_ret
  exact ⟨rfl, h5⟩
end Go.Proofs.YtgedhcgaokakpaaDoor
