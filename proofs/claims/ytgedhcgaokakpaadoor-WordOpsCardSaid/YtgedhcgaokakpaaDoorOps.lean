import Derived.Test.YtgedhcgaokakpaaDoorRWide
import Derived.Test.YtgedhcgaokakpaaDoorDivides
/- WordOps. -/
namespace Go.Proofs.YtgedhcgaokakpaaDoor
open Go.RowKit
theorem div_zero2 (a b : Int) (h : b = 0) (w : World) :
    Calls Tryd.prog 17 #[.int .i64 a, .int .i64 b] w fun e w' => e = .returned (.tuple #[.int .i64 0, .bool false]) ∧ w' = w := by
  subst h; exact div_zero a w
theorem rem_zero2 (a b : Int) (h : b = 0) (w : World) :
    Calls Tryd.prog 18 #[.int .i64 a, .int .i64 b] w fun e w' => e = .returned (.tuple #[.int .i64 0, .bool false]) ∧ w' = w := by
  subst h; exact rem_zero a w
/-- Div and Rem, and the document's, answer alike. -/
theorem div_two (a b : Int) (ha : In64 a) (hb : In64 b) : ∃ (q r : Int) (d : Bool), (∀ w, Calls Tryd.prog 17 #[.int .i64 a, .int .i64 b] w fun e w' => e = .returned (.tuple #[.int .i64 q, .bool d]) ∧ w' = w) ∧
    (∀ w, Calls Tryd.prog 18 #[.int .i64 a, .int .i64 b] w fun e w' => e = .returned (.tuple #[.int .i64 r, .bool d]) ∧ w' = w) ∧
    (∀ w, Calls Tryd.prog 23 #[.int .i64 a, .int .i64 b] w fun e w' => e = .returned (.tuple #[.int .i64 q, .bool d]) ∧ w' = w) ∧
    (∀ w, Calls Tryd.prog 24 #[.int .i64 a, .int .i64 b] w fun e w' => e = .returned (.tuple #[.int .i64 r, .bool d]) ∧ w' = w) := by
  by_cases h : b = 0
  · exact ⟨0, 0, false, div_zero2 a b h, rem_zero2 a b h, rdiv_zero a b h, rrem_zero a b h⟩
  · exact ⟨_, _, true, div_any a b h, rem_any a b h, rdiv_any a b ha hb h, rrem_any a b ha hb h⟩
theorem even_two (m : Nat) (h : m < 18446744073709551616) : ∃ e : Int, (∀ w, Calls Tryd.prog 8 #[.int .u64 m] w fun e' w' => e' = .returned (.int .u64 e) ∧ w' = w) ∧ (∀ w, Calls Tryd.prog 31 #[.int .u64 m] w fun e' w' => e' = .returned (.int .u64 e) ∧ w' = w) := by
  by_cases h0 : m = 0
  · exact ⟨0, even_zero' m h0, reven_zero m h0⟩
  · exact ⟨_, even_any m (by omega) h, reven_any m (by omega) h⟩
theorem mod_zero2 (v : Int) (m : Nat) (h : m = 0) (w : World) :
    Calls Tryd.prog 9 #[.int .i64 v, .int .u64 m] w fun e w' => e = .returned (.int .u64 (IntKind.u64.wrap v)) ∧ w' = w := by
  subst h; exact mod_zero v w
theorem mod_two (v : Int) (m : Nat) (hv : In64 v) (h : m < 18446744073709551616) : ∃ e : Int, (∀ w, Calls Tryd.prog 9 #[.int .i64 v, .int .u64 m] w fun e' w' => e' = .returned (.int .u64 e) ∧ w' = w) ∧ (∀ w, Calls Tryd.prog 32 #[.int .i64 v, .int .u64 m] w fun e' w' => e' = .returned (.int .u64 e) ∧ w' = w) := by
  by_cases h0 : m = 0
  · exact ⟨_, mod_zero2 v m h0, rmod_zero v m h0⟩
  · exact ⟨_, mod_any v m hv (by omega) (by omega), rmod_any v m hv (by omega) h⟩
set_option maxRecDepth 100000 in
set_option maxHeartbeats 1000000 in
theorem ops_core (a b : Int) (x y : Nat) (ha : In64 a) (hb : In64 b) (hx : x < 18446744073709551616) (hy : y < 18446744073709551616) (w0 : World) (hT : Lib.TabIs Tryd.prog w0 "internal/strconv.uint64pow10" .u64 Lib.pow10Tab) :
    Calls Tryd.prog 6 #[.int .i64 a, .int .i64 b, .int .u64 x, .int .u64 y] w0 fun e w' => e = .returned (.bool true) ∧ Ok w0 w' := by
  have HT : Hid _ := hT
  clear hT
  obtain ⟨q, r, d, c1, c2, c3, c4⟩ := div_two a b ha hb
  obtain ⟨ev, c5, c6⟩ := even_two x hx
  obtain ⟨mo, c7, c8⟩ := mod_two a x ha hx
  have C1 : Hid _ := c1
  have C2 : Hid _ := c2
  have C3 : Hid _ := c3
  have C4 : Hid _ := c4
  have C5 : Hid _ := c5
  have C6 : Hid _ := c6
  have C7 : Hid _ := c7
  have C8 : Hid _ := c8
  have h := Ok.refl w0
  clear c1 c2 c3 c4 c5 c6 c7 c8
  go_enter Tryd.func6, Tryd.ntmps6
  go_wp2_with fail
  refine (C1.out _).mono ?_
  rintro e w' ⟨rfl, rfl⟩
  go_wp2_with fail
  refine (C2.out _).mono ?_
  rintro e w' ⟨rfl, rfl⟩
  go_wp2_with fail
  refine (C3.out _).mono ?_
  rintro e w' ⟨rfl, rfl⟩
  go_wp2_with fail
  refine (C4.out _).mono ?_
  rintro e w' ⟨rfl, rfl⟩
  cases d
  all_goals
    go_wp2_with fail
    refine (wide_any a b ha hb _).mono ?_
    rintro e w' ⟨rfl, rfl⟩
    go_wp2_with fail
    refine (rwide_any a b ha hb _).mono ?_
    rintro e w' ⟨rfl, rfl⟩
    go_wp2_with fail
    refine (add_any _ _ _ _ h).mono ?_
    clear h; rintro e w ⟨rfl, h⟩
    go_wp2_with fail
    refine (radd_any _ _ _).mono ?_
    rintro e w' ⟨rfl, rfl⟩
    go_wp2_with fail
    refine (sub_any _ _ _ _ h).mono ?_
    clear h; rintro e w ⟨rfl, h⟩
    go_wp2_with fail
    refine (rsub_any _ _ _).mono ?_
    rintro e w' ⟨rfl, rfl⟩
    go_wp2_with fail
    refine (mul_any _ _ _ _ h).mono ?_
    clear h; rintro e w ⟨rfl, h⟩
    go_wp2_with fail
    refine (rmul_any _ _ _).mono ?_
    rintro e w' ⟨rfl, rfl⟩
    go_wp2_with fail
    refine (neg_any _ _ _ h).mono ?_
    clear h; rintro e w ⟨rfl, h⟩
    go_wp2_with fail
    refine (rneg_any _ _).mono ?_
    rintro e w' ⟨rfl, rfl⟩
    go_wp2_with fail
    refine (gcd_any x y hx hy _ _ h).mono ?_
    clear h; rintro e w ⟨rfl, h⟩
    go_wp2_with fail
    refine (rgcd_any x y hx hy _).mono ?_
    rintro e w' ⟨rfl, rfl⟩
    go_wp2_with fail
    refine (C5.out _).mono ?_
    rintro e w' ⟨rfl, rfl⟩
    go_wp2_with fail
    refine (C6.out _).mono ?_
    rintro e w' ⟨rfl, rfl⟩
    go_wp2_with fail
    refine (C7.out _).mono ?_
    rintro e w' ⟨rfl, rfl⟩
    go_wp2_with fail
    refine (C8.out _).mono ?_
    rintro e w' ⟨rfl, rfl⟩
    go_wp2_with fail
    refine (taken_any _ _ HT.out h).mono ?_
    clear h; rintro e w ⟨rfl, h⟩
    go_wp2_with fail
    go_ret
    exact ⟨rfl, h⟩
theorem ops_walk (a0 a1 a2 a3 : Int) (h0 : In64 a0) (h1 : In64 a1) (h2 : Un64 a2) (h3 : Un64 a3) (w0 : World) (hT : Lib.TabIs Tryd.prog w0 "internal/strconv.uint64pow10" .u64 Lib.pow10Tab) :
    Calls Tryd.prog 6 #[.int .i64 a0, .int .i64 a1, .int .u64 a2, .int .u64 a3] w0 fun e w' => e = .returned (.bool true) ∧ Ok w0 w' := by
  unfold Un64 at h2 h3
  obtain ⟨x, rfl⟩ := Int.eq_ofNat_of_zero_le h2.1
  obtain ⟨y, rfl⟩ := Int.eq_ofNat_of_zero_le h3.1
  exact ops_core a0 a1 x y h0 h1 (by omega) (by omega) w0 hT
end Go.Proofs.YtgedhcgaokakpaaDoor
