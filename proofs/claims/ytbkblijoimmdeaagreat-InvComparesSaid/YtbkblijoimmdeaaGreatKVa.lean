import Derived.Shelf.Bits.Mul64
import Derived.Test.YtbkblijoimmdeaaGreatKJw
import Derived.Test.YtbkblijoimmdeaaGreatKNl
set_option linter.unusedVariables false
set_option linter.unusedSimpArgs false
set_option linter.unnecessarySimpa false
/- Va -/
namespace Go.Proofs.YtbkblijoimmdeaaGreat
open Go.RowKit Go.Shelf
theorem infoV : (Tryz.prog.info? 54).map (·.size) = some 2 := by kernel_rfl
/-- A whole number as it is handed over. -/
def wvv (z : Int) : Value := .agg #[.int .i64 (hiW z), .int .u64 (loW z)]
theorem lo_wrap (z : Int) : loW z = IntKind.u64.wrap z := by rw [u64w]; rfl
theorem vretw {a b z : Int} (h1 : a = hiW z) (h2 : b = loW z) : Ending.returned (.agg #[.int .i64 a, .int .u64 b]) = .returned (wvv z) := by rw [h1, h2]; rfl
set_option maxHeartbeats 400000 in
theorem vnumber_any (v : Int) (hv : In64 v) (w0 w : World) (hok : Ok w0 w) :
    Calls Tryz.prog 32 #[.int .i64 v] w fun e w' => e = .returned (wvv v) ∧ Ok w0 w' := by
  have E1 : Hid (v / 9223372036854775808 = hiW v) := by unfold Hid hiW; unfold In64 at hv; omega
  clear hv
  go_enter Tryz.func32, Tryz.ntmps32
  go_wp2_with fail
  (try simp only [Exit.inBlock, Exit.then]); refine bodyPost_ret (results_cell_row rfl _ _ (w.heap.size) 54 #[_, _] (0, 0) _ rfl (by repeat (first | (refine heap_at _ _ _ ?hx; case hx => (first | (simp; done) | (simp; omega))) | (refine heap_past _ _ _ ?hy ?_; case hy => (first | (simp; done) | (simp; omega))) | fail)) Tryz.underlying54 rfl infoV) rfl ?_
  exact ⟨vretw E1.out (lo_wrap v).symm, hok.alloc _⟩
def V126 (z : Int) : Prop := -85070591730234615865843651857942052864 ≤ z ∧ z ≤ 85070591730234615865843651857942052864
theorem plus_hi {z v : Int} (hz : V126 z) (hv : In64 v) : wrap64 (wrap64 (hiW z + v / 9223372036854775808) + wrap64 ((IntKind.u64.wrap z + IntKind.u64.wrap v) / 18446744073709551616)) = hiW (z + v) := by
  have e1 : wrap64 (hiW z + v / 9223372036854775808) = hiW z + v / 9223372036854775808 := wrap64_id (by unfold V126 at hz; unfold In64 at *; unfold hiW; omega)
  have e2 : wrap64 ((IntKind.u64.wrap z + IntKind.u64.wrap v) / 18446744073709551616) = (IntKind.u64.wrap z + IntKind.u64.wrap v) / 18446744073709551616 := wrap64_id (by rw [u64w, u64w]; unfold In64; omega)
  have e3 : hiW z + v / 9223372036854775808 + (IntKind.u64.wrap z + IntKind.u64.wrap v) / 18446744073709551616 = hiW (z + v) := by
    rw [u64w, u64w]; unfold hiW; unfold In64 at hv; omega
  rw [e1, e2, e3]
  exact wrap64_id (by unfold V126 at hz; unfold In64 at *; unfold hiW; omega)
theorem plus_lo (z v : Int) : (IntKind.u64.wrap z + IntKind.u64.wrap v) % 18446744073709551616 = loW (z + v) := by
  rw [u64w, u64w]; unfold loW; omega
set_option maxHeartbeats 2000000 in
theorem vplus_any (z v : Int) (hz : V126 z) (hv : In64 v) (w0 w : World) (hok : Ok w0 w) :
    Calls Tryz.prog 48 #[wvv z, .int .i64 v] w fun e w' => e = .returned (wvv (z + v)) ∧ Ok w0 w' := by
  have hle := hok.le
  have E1 : Hid _ := plus_hi hz hv
  have E2 : Hid _ := plus_lo z v
  clear hz hv
  have hl := Jadd64_law z v
  unfold wvv
  rw [lo_wrap z]
  go_enter Tryz.func48, Tryz.ntmps48
  go_wp2_with fail
  (try simp only [Exit.inBlock, Exit.then]); refine bodyPost_ret (results_cell_row rfl _ _ (w.heap.size + 1) 54 #[_, _] (0, 0) _ rfl (by repeat (first | (refine heap_at _ _ _ ?hx; case hx => (first | (simp; done) | (simp; omega))) | (refine heap_past _ _ _ ?hy ?_; case hy => (first | (simp; done) | (simp; omega))) | fail)) Tryz.underlying54 rfl infoV) rfl ?_
  exact ⟨vretw E1.out E2.out, (by repeat (first | exact hok | refine Ok.alloc ?_ _ | refine Ok.draws ?_ _ | fail))⟩
/-- How two numbers lie to each other. -/
def cmpI (x y : Int) : Int := if x < y then -1 else if y < x then 1 else 0
set_option maxHeartbeats 400000 in
theorem vnan (x : Int) (w : World) :
    Calls Tryz.prog 150 #[.int .i64 x] w fun e w' => e = .returned (.bool false) ∧ w' = w := by
  go_enter Tryz.func150, Tryz.ntmps150
  go_wp2
  go_ret
  exact ⟨by simp, rfl⟩
set_option maxHeartbeats 400000 in
theorem vnanu (x : Int) (w : World) :
    Calls Tryz.prog 151 #[.int .u64 x] w fun e w' => e = .returned (.bool false) ∧ w' = w := by
  go_enter Tryz.func151, Tryz.ntmps151
  go_wp2
  go_ret
  exact ⟨by simp, rfl⟩
set_option maxHeartbeats 2000000 in
theorem vcmp (x y : Int) (w0 w : World) (hok : Ok w0 w) :
    Calls Tryz.prog 132 #[.int .i64 x, .int .i64 y] w fun e w' => e = .returned (.int .i64 (cmpI x y)) ∧ Ok w0 w' := by
  obtain ⟨c, hc⟩ : ∃ c, c = cmpI x y := ⟨_, rfl⟩
  rw [← hc]
  have HC : Hid _ := hc
  clear hc
  go_enter Tryz.func132, Tryz.ntmps132
  go_wp2_with fail
  refine (vnan x _).mono ?_
  rintro e w1 ⟨rfl, rfl⟩
  go_wp2_with fail
  refine (vnan y _).mono ?_
  rintro e w1 ⟨rfl, rfl⟩
  by_cases h1 : x < y
  · have E : Hid (c = -1) := by unfold Hid; rw [HC.out]; unfold cmpI; rw [if_pos h1]
    go_wp2_with fail
    go_ret
    exact ⟨by rw [E.out]; rfl, hok⟩
  · by_cases h2 : y < x
    · have E : Hid (c = 1) := by unfold Hid; rw [HC.out]; unfold cmpI; rw [if_neg h1, if_pos h2]
      replace h1 : y ≤ x := by omega
      go_wp2_with fail
      go_ret
      exact ⟨by rw [E.out]; rfl, hok⟩
    · have E : Hid (c = 0) := by unfold Hid; rw [HC.out]; unfold cmpI; rw [if_neg h1, if_neg h2]
      replace h1 : y ≤ x := by omega
      replace h2 : x ≤ y := by omega
      go_wp2_with fail
      go_ret
      exact ⟨by rw [E.out]; rfl, hok⟩
set_option maxHeartbeats 2000000 in
theorem vcmpu (x y : Int) (w0 w : World) (hok : Ok w0 w) :
    Calls Tryz.prog 133 #[.int .u64 x, .int .u64 y] w fun e w' => e = .returned (.int .i64 (cmpI x y)) ∧ Ok w0 w' := by
  obtain ⟨c, hc⟩ : ∃ c, c = cmpI x y := ⟨_, rfl⟩
  rw [← hc]
  have HC : Hid _ := hc
  clear hc
  go_enter Tryz.func133, Tryz.ntmps133
  go_wp2_with fail
  refine (vnanu x _).mono ?_
  rintro e w1 ⟨rfl, rfl⟩
  go_wp2_with fail
  refine (vnanu y _).mono ?_
  rintro e w1 ⟨rfl, rfl⟩
  by_cases h1 : x < y
  · have E : Hid (c = -1) := by unfold Hid; rw [HC.out]; unfold cmpI; rw [if_pos h1]
    go_wp2_with fail
    go_ret
    exact ⟨by rw [E.out]; rfl, hok⟩
  · by_cases h2 : y < x
    · have E : Hid (c = 1) := by unfold Hid; rw [HC.out]; unfold cmpI; rw [if_neg h1, if_pos h2]
      replace h1 : y ≤ x := by omega
      go_wp2_with fail
      go_ret
      exact ⟨by rw [E.out]; rfl, hok⟩
    · have E : Hid (c = 0) := by unfold Hid; rw [HC.out]; unfold cmpI; rw [if_neg h1, if_neg h2]
      replace h1 : y ≤ x := by omega
      replace h2 : x ≤ y := by omega
      go_wp2_with fail
      go_ret
      exact ⟨by rw [E.out]; rfl, hok⟩
theorem cmp_whole (a b : Int) : (if cmpI (hiW a) (hiW b) ≠ 0 then cmpI (hiW a) (hiW b) else cmpI (loW a) (loW b)) = cmpI a b := by
  unfold cmpI hiW loW
  by_cases h1 : a / 18446744073709551616 < b / 18446744073709551616
  · rw [if_pos h1, if_pos (by omega), if_pos (by omega)]
  · rw [if_neg h1]
    by_cases h2 : b / 18446744073709551616 < a / 18446744073709551616
    · rw [if_pos h2, if_pos (by omega), if_neg (by omega), if_pos (by omega)]
    · rw [if_neg h2, if_neg (by omega)]
      by_cases h3 : a < b
      · rw [if_pos h3, if_pos (by omega)]
      · rw [if_neg h3, if_neg (by omega)]
        by_cases h4 : b < a
        · rw [if_pos h4, if_pos (by omega)]
        · rw [if_neg h4, if_neg (by omega)]
end Go.Proofs.YtbkblijoimmdeaaGreat
