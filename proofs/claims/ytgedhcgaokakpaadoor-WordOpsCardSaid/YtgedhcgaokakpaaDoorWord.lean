import Derived.Test.YtgedhcgaokakpaaDoorRows
import Derived.Test.YtgedhcgaokakpaaDoorMath
import Derived.Test.YtgedhcgaokakpaaDoorShelf
import Derived.WalkKit
import Derived.WalkSpells
import Derived.WalkSmall
import Derived.Deep.QuietTactic
import Derived.BigQuiet
/- Contracts of package word: Add, Sub, Neg, Mul, Wide, Div, Rem, Gcd, Even, Mod. -/
namespace Go.Proofs.YtgedhcgaokakpaaDoor
open Go.RowKit

/-- Nothing that lay in w0 has turned. -/
def Ok (w0 w : World) : Prop := Below w0.heap.size w0 w
theorem Ok.refl (w : World) : Ok w w := Below.refl _ _
theorem Ok.step {w0 w w1 : World} (h : Ok w0 w) (hb : Below w.heap.size w w1) : Ok w0 w1 := Below.trans h (hb.mono (Below.size h))
theorem Ok.alloc {w0 w : World} (h : Ok w0 w) (o : Obj) : Ok w0 (w.alloc o) := Below.alloc h (Below.size h) o
theorem Ok.draws {w0 w : World} (h : Ok w0 w) (n : Nat) : Ok w0 (w.drewN n) := below_drewN h n

theorem mul64_any (a b : Int) (w : World) :
    Calls Tryd.prog 37 #[.int .u64 (IntKind.u64.wrap a), .int .u64 (IntKind.u64.wrap b)] w fun e w' => e = .returned (.tuple #[.int .u64 (hi64 (IntKind.u64.wrap a * IntKind.u64.wrap b)), .int .u64 (lo64 (IntKind.u64.wrap a * IntKind.u64.wrap b))]) ∧ w' = w := by
  obtain ⟨x, hx⟩ := Int.eq_ofNat_of_zero_le (show 0 ≤ IntKind.u64.wrap a by rw [u64w]; omega)
  obtain ⟨y, hy⟩ := Int.eq_ofNat_of_zero_le (show 0 ≤ IntKind.u64.wrap b by rw [u64w]; omega)
  have hx1 : x < 18446744073709551616 := by rw [u64w] at hx; omega
  have hy1 : y < 18446744073709551616 := by rw [u64w] at hy; omega
  rw [hx, hy]
  refine (Tryd.bits_Mul64 x y hx1 hy1 w).mono ?_
  rintro e w' ⟨rfl, rfl⟩
  refine ⟨ret2 ?_ ?_, rfl⟩
  · unfold hi64; rw [Int.natCast_ediv, Int.natCast_mul]; rfl
  · unfold lo64; rw [Int.natCast_emod, Int.natCast_mul]; rfl

set_option maxHeartbeats 400000 in
theorem add_any (a b : Int) (w0 w : World) (hok : Ok w0 w) :
    Calls Tryd.prog 12 #[.int .i64 a, .int .i64 b] w fun e w' => e = .returned (.int .i64 (wrap64 (a + b))) ∧ Ok w0 w' := by
  go_enter Tryd.func12, Tryd.ntmps12
  go_wp2
  go_ret
  exact ⟨ret1 (add_eq a b), hok.alloc _⟩
set_option maxHeartbeats 400000 in
theorem sub_any (a b : Int) (w0 w : World) (hok : Ok w0 w) :
    Calls Tryd.prog 11 #[.int .i64 a, .int .i64 b] w fun e w' => e = .returned (.int .i64 (wrap64 (a - b))) ∧ Ok w0 w' := by
  go_enter Tryd.func11, Tryd.ntmps11
  go_wp2
  go_ret
  exact ⟨ret1 (sub_eq a b), hok.alloc _⟩
set_option maxHeartbeats 400000 in
theorem neg_any (a : Int) (w0 w : World) (hok : Ok w0 w) :
    Calls Tryd.prog 13 #[.int .i64 a] w fun e w' => e = .returned (.int .i64 (wrap64 (-a))) ∧ Ok w0 w' := by
  go_enter Tryd.func13, Tryd.ntmps13
  go_wp2
  go_ret
  exact ⟨ret1 (neg_eq a), hok.alloc _⟩
set_option maxHeartbeats 400000 in
theorem mul_any (a b : Int) (w0 w : World) (hok : Ok w0 w) :
    Calls Tryd.prog 14 #[.int .i64 a, .int .i64 b] w fun e w' => e = .returned (.int .i64 (wrap64 (a * b))) ∧ Ok w0 w' := by
  go_enter Tryd.func14, Tryd.ntmps14
  go_wp2
  go_ret
  exact ⟨ret1 (mul_eq a b), hok.alloc _⟩
set_option maxHeartbeats 400000 in
theorem div_any (a b : Int) (hb : b ≠ 0) (w : World) :
    Calls Tryd.prog 17 #[.int .i64 a, .int .i64 b] w fun e w' => e = .returned (.tuple #[.int .i64 (wrap64 (a.tdiv b)), .bool true]) ∧ w' = w := by
  have hb' : (b == 0) = false := by simpa using hb
  go_enter Tryd.func17, Tryd.ntmps17
  go_wp2
  go_ret2
  exact ⟨rfl, rfl⟩
set_option maxHeartbeats 400000 in
theorem div_zero (a : Int) (w : World) :
    Calls Tryd.prog 17 #[.int .i64 a, .int .i64 0] w fun e w' => e = .returned (.tuple #[.int .i64 0, .bool false]) ∧ w' = w := by
  go_enter Tryd.func17, Tryd.ntmps17
  go_wp2
  go_ret2
  exact ⟨rfl, rfl⟩
set_option maxHeartbeats 400000 in
theorem rem_any (a b : Int) (hb : b ≠ 0) (w : World) :
    Calls Tryd.prog 18 #[.int .i64 a, .int .i64 b] w fun e w' => e = .returned (.tuple #[.int .i64 (a.tmod b), .bool true]) ∧ w' = w := by
  have hb' : (b == 0) = false := by simpa using hb
  go_enter Tryd.func18, Tryd.ntmps18
  go_wp2
  go_ret2
  exact ⟨rfl, rfl⟩
set_option maxHeartbeats 400000 in
theorem rem_zero (a : Int) (w : World) :
    Calls Tryd.prog 18 #[.int .i64 a, .int .i64 0] w fun e w' => e = .returned (.tuple #[.int .i64 0, .bool false]) ∧ w' = w := by
  go_enter Tryd.func18, Tryd.ntmps18
  go_wp2
  go_ret2
  exact ⟨rfl, rfl⟩
set_option maxHeartbeats 400000 in
theorem wide_any (a b : Int) (ha : In64 a) (hb : In64 b) (w : World) :
    Calls Tryd.prog 15 #[.int .i64 a, .int .i64 b] w fun e w' => e = .returned (.tuple #[.int .i64 (hi64 (a * b)), .int .u64 (lo64 (a * b))]) ∧ w' = w := by
  by_cases h0 : a < 0 <;> by_cases h1 : b < 0
  · have H := wide_nn ha hb h0 h1
    have HH : Hid _ := H
    clear H ha hb
    go_enter Tryd.func15, Tryd.ntmps15
    go_wp2_with (go_at_call 37; refine (mul64_any _ _ _).mono ?_; rintro e w' ⟨rfl, rfl⟩)
    go_ret2
    exact ⟨ret2 HH.out.1 HH.out.2, rfl⟩
  · have H := wide_np ha hb h0 (by omega)
    have HH : Hid _ := H
    clear H ha hb
    go_enter Tryd.func15, Tryd.ntmps15
    go_wp2_with (go_at_call 37; refine (mul64_any _ _ _).mono ?_; rintro e w' ⟨rfl, rfl⟩)
    go_ret2
    exact ⟨ret2 HH.out.1 HH.out.2, rfl⟩
  · have H := wide_pn ha hb (by omega) h1
    have HH : Hid _ := H
    clear H ha hb
    go_enter Tryd.func15, Tryd.ntmps15
    go_wp2_with (go_at_call 37; refine (mul64_any _ _ _).mono ?_; rintro e w' ⟨rfl, rfl⟩)
    go_ret2
    exact ⟨ret2 HH.out.1 HH.out.2, rfl⟩
  · have H := wide_pp ha hb (by omega) (by omega)
    have HH : Hid _ := H
    clear H ha hb
    go_enter Tryd.func15, Tryd.ntmps15
    go_wp2_with (go_at_call 37; refine (mul64_any _ _ _).mono ?_; rintro e w' ⟨rfl, rfl⟩)
    go_ret2
    exact ⟨ret2 HH.out.1 HH.out.2, rfl⟩
theorem carry_pos {lo low : Int} (h : IntKind.u64.wrap (lo + low) < lo) (x : Int) : wrap64 (wrap64 x + 1) = wrap64 (x + carry lo low) := by
  unfold carry; rw [if_pos h]; unfold wrap64; omega
theorem carry_neg {lo low : Int} (h : lo ≤ IntKind.u64.wrap (lo + low)) (x : Int) : wrap64 x = wrap64 (x + carry lo low) := by
  unfold carry; rw [if_neg (by omega)]; unfold wrap64; omega
set_option maxHeartbeats 400000 in
theorem sum_any (hi lo more low : Int) (w : World) :
    Calls Tryd.prog 16 #[.int .i64 hi, .int .u64 lo, .int .i64 more, .int .u64 low] w fun e w' => e = .returned (.tuple #[.int .i64 (wrap64 (hi + more + carry lo low)), .int .u64 (IntKind.u64.wrap (lo + low))]) ∧ w' = w := by
  by_cases h : IntKind.u64.wrap (lo + low) < lo
  · go_enter Tryd.func16, Tryd.ntmps16
    go_wp2
    go_ret2
    exact ⟨ret2 (carry_pos h _) rfl, rfl⟩
  · go_enter Tryd.func16, Tryd.ntmps16
    go_wp2
    go_ret2
    exact ⟨ret2 (carry_neg h _) rfl, rfl⟩

theorem gcd_next {p q : Nat} {r : Nat} (h : Nat.gcd p q = r) (w0 w1 : World) (hok : Ok w0 w1) (hq : q < 18446744073709551616) (h0 : ¬ q = 0) :
    (∃ p1 q1 : Nat, p1 < 18446744073709551616 ∧ q1 < 18446744073709551616 ∧ Value.int .u64 (q : Int) = .int .u64 p1 ∧ Value.int .u64 ((p : Int) % (q : Int)) = .int .u64 q1 ∧ Nat.gcd p1 q1 = r ∧ Ok w0 w1) ∧ (intOf (Value.int .u64 ((p : Int) % (q : Int)))).toNat < (intOf (Value.int .u64 (q : Int))).toNat := by
  have hm : p % q < q := Nat.mod_lt _ (by omega)
  refine ⟨⟨q, p % q, hq, by omega, rfl, by rw [Int.natCast_emod], ?_, hok⟩, ?_⟩
  · rw [← h, Nat.gcd_comm p q, Nat.gcd_rec q p, Nat.gcd_comm]
  · simp only [intOf]
    rw [← Int.natCast_emod]
    omega
set_option maxHeartbeats 400000 in
theorem gcd_any (a b : Nat) (ha : a < 18446744073709551616) (hb : b < 18446744073709551616) (w0 w : World) (hok : Ok w0 w) :
    Calls Tryd.prog 7 #[.int .u64 a, .int .u64 b] w fun e w' => e = .returned (.int .u64 (Nat.gcd a b)) ∧ Ok w0 w' := by
  go_enter Tryd.func7, Tryd.ntmps7
  go_wp2
  go_loopw [0, 1] (fun x y wr => ∃ p q : Nat, p < 18446744073709551616 ∧ q < 18446744073709551616 ∧ x = .int .u64 p ∧ y = .int .u64 q ∧ Nat.gcd p q = Nat.gcd a b ∧ Ok w0 wr) (fun _ y _ => (intOf y).toNat)
  case atStart => exact ⟨a, b, ha, hb, rfl, rfl, rfl, hok⟩
  case round =>
    obtain ⟨p, q, hp, hq, rfl, rfl, hg, hk⟩ := hrel
    have HG : Hid _ := hg
    clear hg
    by_cases h0 : q = 0
    · subst h0
      go_wp2
      go_ret
      exact ⟨ret1 (by rw [← HG.out, Nat.gcd_zero_right]), hk⟩
    · have hq0 : (q : Int) ≠ 0 := by omega
      have hq1 : ((q : Int) != 0) = true := by simpa using h0
      go_wp2
      go_quiet (fail)
      go_wp2
      exact gcd_next HG.out _ _ (hk.draws _) hq h0
set_option maxHeartbeats 400000 in
theorem even_raw (m : Int) (w : World) :
    Calls Tryd.prog 8 #[.int .u64 m] w fun e w' => e = .returned (.int .u64 (bits .and .u64 m (IntKind.u64.wrap (-m)))) ∧ w' = w := by
  go_enter Tryd.func8, Tryd.ntmps8
  go_wp2
  go_ret
  exact ⟨rfl, rfl⟩
end Go.Proofs.YtgedhcgaokakpaaDoor
