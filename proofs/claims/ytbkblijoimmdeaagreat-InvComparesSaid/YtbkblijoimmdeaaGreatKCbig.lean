import Derived.Test.YtbkblijoimmdeaaGreatRows
import Derived.Test.YtbkblijoimmdeaaGreatKCdef
import Derived.Test.YtbkblijoimmdeaaGreatKCok
set_option linter.unusedVariables false
set_option linter.unusedSimpArgs false
set_option linter.unnecessarySimpa false
/- Cbig -/
namespace Go.Proofs.YtbkblijoimmdeaaGreat
open Go.RowKit
theorem infoBg : (Tryz.prog.info? 72).map (·.size) = some 2 := by kernel_rfl
/-- A number of 128 bits as a value. -/
def bv (n : Nat) : Value := .agg #[.int .u64 (hiB n), .int .u64 (loB n)]
theorem retB {h l : Int} {n : Nat} (e1 : hiB n = h) (e2 : loB n = l) : Ending.returned (.agg #[.int .u64 h, .int .u64 l]) = .returned (bv n) := by unfold bv; rw [e1, e2]
set_option maxHeartbeats 400000 in
theorem bof_any (v : Nat) (hv : U64 v) (w0 w : World) (hok : Ok w0 w) :
    Calls Tryz.prog 60 #[.int .u64 v] w fun e w' => e = .returned (bv v) ∧ Ok w0 w' := by
  have E : Hid _ := big_small hv
  go_enter Tryz.func60, Tryz.ntmps60
  go_wp2
  try simp only [Exit.inBlock, Exit.then]
  refine bodyPost_ret (results_cell_row rfl _ _ w.heap.size 72 _ (0, 0) _ rfl (heap_new0 _ _) Tryz.underlying72 rfl infoBg) rfl ?_
  exact ⟨retB E.out.1 E.out.2, hok.alloc _⟩
set_option maxHeartbeats 400000 in
theorem bless_any (a b : Nat) (w0 w : World) (hok : Ok w0 w) :
    Calls Tryz.prog 64 #[bv a, bv b] w fun e w' => e = .returned (.bool (decide (a < b))) ∧ Ok w0 w' := by
  have E : Hid _ := big_lt (a := a) (b := b)
  unfold bv
  by_cases h1 : hiB a < hiB b
  · go_enter Tryz.func64, Tryz.ntmps64
    go_wp2
    go_ret
    exact ⟨retb (by rw [← E.out]; simp [h1]), by repeat (first | exact hok | refine Ok.alloc ?_ _)⟩
  · by_cases h2 : hiB a = hiB b
    · have h3 : (hiB a == hiB b) = true := by simp [h2]
      go_enter Tryz.func64, Tryz.ntmps64
      go_wp2
      go_ret
      exact ⟨retb (by rw [← E.out]; simp [h1, h2]), by repeat (first | exact hok | refine Ok.alloc ?_ _)⟩
    · have h3 : (hiB a == hiB b) = false := by simp [h2]
      go_enter Tryz.func64, Tryz.ntmps64
      go_wp2
      go_ret
      exact ⟨retb (by rw [← E.out]; simp [h1, h2]), by repeat (first | exact hok | refine Ok.alloc ?_ _)⟩
/-- a - b, modulo 2^128. -/
def subB (a b : Nat) : Nat := (a + 340282366920938463463374607431768211456 - b) % 340282366920938463463374607431768211456
theorem subB_le {a b : Nat} (ha : Big a) (h : b ≤ a) : subB a b = a - b := by unfold Big at ha; unfold subB; omega
theorem sub_c {a b : Nat} (ha : Big a) (hb : Big b) (h : loB a < loB b) : hiB (subB a b) = (hiB a - hiB b - 1) % 18446744073709551616 ∧ loB (subB a b) = (loB a - loB b) % 18446744073709551616 := by
  unfold Big at *; unfold subB hiB loB at *; omega
theorem sub_n {a b : Nat} (ha : Big a) (hb : Big b) (h : ¬ loB a < loB b) : hiB (subB a b) = (hiB a - hiB b) % 18446744073709551616 ∧ loB (subB a b) = (loB a - loB b) % 18446744073709551616 := by
  unfold Big at *; unfold subB hiB loB at *; omega
theorem wrap2 (x : Int) : IntKind.u64.wrap (IntKind.u64.wrap x - 1) = (x - 1) % 18446744073709551616 := by rw [u64w, u64w]; omega
set_option maxHeartbeats 400000 in
theorem bminus_any (a b : Nat) (ha : Big a) (hb : Big b) (w0 w : World) (hok : Ok w0 w) :
    Calls Tryz.prog 65 #[bv a, bv b] w fun e w' => e = .returned (bv (subB a b)) ∧ Ok w0 w' := by
  have HA : Hid _ := And.intro ha hb
  clear ha hb
  unfold bv
  by_cases h : loB a < loB b
  · have E : Hid _ := sub_c HA.out.1 HA.out.2 h
    go_enter Tryz.func65, Tryz.ntmps65
    go_wp2
    (try simp only [Exit.inBlock, Exit.then]); refine bodyPost_ret (results_cell_row rfl _ _ (w.heap.size + 2) 72 #[_, _] (0, 0) _ rfl (by repeat (first | (refine heap_at _ _ _ ?hx; case hx => (first | (simp; done) | (simp; omega))) | (refine heap_past _ _ _ ?hy ?_; case hy => (first | (simp; done) | (simp; omega))) | fail)) Tryz.underlying72 rfl infoBg) rfl ?_
    exact ⟨retB (by rw [E.out.1, wrap2]) (by rw [E.out.2, u64w]), (by repeat (first | exact hok | refine Ok.alloc ?_ _ | refine Ok.draws ?_ _ | fail))⟩
  · have E : Hid _ := sub_n HA.out.1 HA.out.2 h
    go_enter Tryz.func65, Tryz.ntmps65
    go_wp2
    (try simp only [Exit.inBlock, Exit.then]); refine bodyPost_ret (results_cell_row rfl _ _ (w.heap.size + 2) 72 #[_, _] (0, 0) _ rfl (by repeat (first | (refine heap_at _ _ _ ?hx; case hx => (first | (simp; done) | (simp; omega))) | (refine heap_past _ _ _ ?hy ?_; case hy => (first | (simp; done) | (simp; omega))) | fail)) Tryz.underlying72 rfl infoBg) rfl ?_
    exact ⟨retB (by rw [E.out.1, u64w]) (by rw [E.out.2, u64w]), (by repeat (first | exact hok | refine Ok.alloc ?_ _ | refine Ok.draws ?_ _ | fail))⟩
theorem or_u64 {e b : Nat} (he : e < 9223372036854775808) (hb : b < 2) : bits .or .u64 (2 * (e : Int)) (b : Int) = 2 * (e : Int) + (b : Int) := by
  have := bits_or_u64_nat (2 * e) b (by omega) (by omega)
  rw [even_or hb] at this
  simpa using this
theorem twice_hi {a bit : Nat} (ha : Big a) (hb : bit < 2) : hiB ((2 * a + bit) % 340282366920938463463374607431768211456) = bits .or .u64 (IntKind.u64.wrap (hiB a * 2)) (loB a / 9223372036854775808) := by
  obtain ⟨h, hh⟩ : ∃ h : Nat, h = a / 18446744073709551616 := ⟨_, rfl⟩
  obtain ⟨l, hl⟩ : ∃ l : Nat, l = a % 18446744073709551616 := ⟨_, rfl⟩
  have e1 : hiB a = h := by unfold hiB; rw [hh]
  have e2 : loB a = l := by unfold loB; rw [hl]
  have e3 : IntKind.u64.wrap (hiB a * 2) = 2 * ((h % 9223372036854775808 : Nat) : Int) := by rw [u64w, e1]; omega
  have e4 : loB a / 9223372036854775808 = ((l / 9223372036854775808 : Nat) : Int) := by rw [e2]; omega
  rw [e3, e4, or_u64 (by omega) (by omega)]
  unfold hiB; unfold Big at ha; omega
theorem twice_lo {a bit : Nat} (ha : Big a) (hb : bit < 2) : loB ((2 * a + bit) % 340282366920938463463374607431768211456) = bits .or .u64 (IntKind.u64.wrap (loB a * 2)) (bit : Int) := by
  obtain ⟨l, hl⟩ : ∃ l : Nat, l = a % 18446744073709551616 := ⟨_, rfl⟩
  have e2 : loB a = l := by unfold loB; rw [hl]
  have e3 : IntKind.u64.wrap (loB a * 2) = 2 * ((l % 9223372036854775808 : Nat) : Int) := by rw [u64w, e2]; omega
  rw [e3, or_u64 (by omega) hb]
  unfold loB; unfold Big at ha; omega
theorem twice_more {a bit : Nat} (ha : Big a) (hb : bit < 2) : (hiB a / 9223372036854775808 == 1) = decide (340282366920938463463374607431768211456 ≤ 2 * a + bit) := by
  unfold hiB; unfold Big at ha
  by_cases h : 340282366920938463463374607431768211456 ≤ 2 * a + bit
  · rw [decide_eq_true h]; simp; omega
  · rw [decide_eq_false h]; simp; omega
theorem retBb {h l : Int} {n : Nat} {b c : Bool} (e1 : hiB n = h) (e2 : loB n = l) (e3 : b = c) : Ending.returned (.tuple #[.agg #[.int .u64 h, .int .u64 l], .bool b]) = .returned (.tuple #[bv n, .bool c]) := by unfold bv; rw [e1, e2, e3]
set_option maxHeartbeats 400000 in
theorem btwice_any (a : Nat) (bit : Nat) (ha : Big a) (hbit : bit < 2) (w0 w : World) (hok : Ok w0 w) :
    Calls Tryz.prog 101 #[bv a, .int .u64 bit] w fun e w' => e = .returned (.tuple #[bv ((2 * a + bit) % 340282366920938463463374607431768211456), .bool (decide (340282366920938463463374607431768211456 ≤ 2 * a + bit))]) ∧ Ok w0 w' := by
  have HA : Hid _ := And.intro (twice_hi ha hbit) (And.intro (twice_lo ha hbit) (twice_more ha hbit))
  clear ha hbit
  have hle := hok.le
  obtain ⟨N, hN⟩ : ∃ N, N = (2 * a + bit) % 340282366920938463463374607431768211456 := ⟨_, rfl⟩
  obtain ⟨C, hC⟩ : ∃ C, C = decide (340282366920938463463374607431768211456 ≤ 2 * a + bit) := ⟨_, rfl⟩
  rw [← hN, ← hC] at HA
  rw [← hN, ← hC]
  clear hN hC
  go_enter Tryz.func101, Tryz.ntmps101
  unfold bv
  go_wp2
  obtain ⟨W, hW⟩ : ∃ W, W = (w.alloc (.cells #[.int .u64 (hiB a), .int .u64 (loB a)] 72)).alloc (.cells #[.int .u64 0, .int .u64 0] 72) := ⟨_, rfl⟩
  have ra : W.heap[w.heap.size]? = some (.cells #[.int .u64 (hiB a), .int .u64 (loB a)] 72) := by rw [hW]; exact (by repeat (first | (refine heap_at _ _ _ ?hx; case hx => (first | (simp; done) | (simp; omega))) | (refine heap_past _ _ _ ?hy ?_; case hy => (first | (simp; done) | (simp; omega))) | fail))
  have rr : W.heap[w.heap.size + 1]? = some (.cells #[.int .u64 0, .int .u64 0] 72) := by rw [hW]; exact (by repeat (first | (refine heap_at _ _ _ ?hx; case hx => (first | (simp; done) | (simp; omega))) | (refine heap_past _ _ _ ?hy ?_; case hy => (first | (simp; done) | (simp; omega))) | fail))
  have HW : Hid (Ok w0 W) := by rw [hW]; exact (by repeat (first | exact hok | refine Ok.alloc ?_ _ | refine Ok.draws ?_ _ | fail))
  rw [← hW]
  clear hW
  have HRR : Hid _ := rr
  obtain ⟨a0, a1, _, _⟩ := row_facts ra
  obtain ⟨c0, c1, c2, c3⟩ := row_facts rr
  clear ra rr hok
  go_region_held3 (fun w' => w'.cell? ⟨w.heap.size, 0, none⟩ = some (.int .u64 (hiB a)) ∧ w'.cell? ⟨w.heap.size, 1, none⟩ = some (.int .u64 (loB a))) (go_keep) (fail)
  go_wp2_with fail
  (try simp only [Exit.inBlock, Exit.then])
  refine bodyPost_ret (results_iv rfl _ _ (w.heap.size + 1) 72 #[_, _] (0, 0) _ rfl (row_set2 HRR.out _ _) Tryz.underlying72 rfl infoBg) rfl ?_
  exact ⟨retBb HA.out.1 HA.out.2.1 HA.out.2.2, Ok.draws ((HW.out.set (show w0.heap.size ≤ w.heap.size + 1 by omega) _).set (show w0.heap.size ≤ w.heap.size + 1 by omega) _) 1⟩
theorem bit_u64 {x : Nat} (hx : x < 18446744073709551616) : bits .and .u64 (x : Int) 1 = ((x % 2 : Nat) : Int) := by
  have := bits_and_u64_nat x 1 hx (by omega)
  rw [Nat.and_one_is_mod] at this
  simpa using this
theorem bit_lo {a i : Nat} (h : i < 64) : bits .and .u64 (loB a / 2 ^ i) 1 = ((a / 2 ^ i % 2 : Nat) : Int) := by
  obtain ⟨l, hl⟩ : ∃ l : Nat, l = a % 18446744073709551616 := ⟨_, rfl⟩
  have e2 : loB a = l := by unfold loB; rw [hl]
  have e : loB a / 2 ^ i = ((l / 2 ^ i : Nat) : Int) := by rw [e2, Int.natCast_ediv, Int.natCast_pow]; rfl
  have hlt : l / 2 ^ i < 18446744073709551616 := Nat.lt_of_le_of_lt (Nat.div_le_self _ _) (by omega)
  rw [e, bit_u64 hlt]
  congr 1
  rw [hl]
  have h2 : (18446744073709551616 : Nat) = 2 ^ i * 2 ^ (64 - i) := by rw [← Nat.pow_add, show i + (64 - i) = 64 by omega]
  rw [h2, Nat.mod_mul_right_div_self]
  have h3 : 2 ^ (64 - i) = 2 * 2 ^ (63 - i) := by rw [← Nat.pow_succ']; congr 1; omega
  rw [h3, Nat.mod_mul_right_mod]
theorem bit_hi {a i : Nat} (ha : Big a) (h : 64 ≤ i) : bits .and .u64 (hiB a / 2 ^ (i - 64)) 1 = ((a / 2 ^ i % 2 : Nat) : Int) := by
  obtain ⟨l, hl⟩ : ∃ l : Nat, l = a / 18446744073709551616 := ⟨_, rfl⟩
  have e2 : hiB a = l := by unfold hiB; rw [hl]
  have e : hiB a / 2 ^ (i - 64) = ((l / 2 ^ (i - 64) : Nat) : Int) := by rw [e2, Int.natCast_ediv, Int.natCast_pow]; rfl
  have hlt : l / 2 ^ (i - 64) < 18446744073709551616 := Nat.lt_of_le_of_lt (Nat.div_le_self _ _) (by unfold Big at ha; omega)
  rw [e, bit_u64 hlt]
  congr 2
  rw [hl, Nat.div_div_eq_div_mul]
  congr 1
  rw [show (18446744073709551616 : Nat) = 2 ^ 64 from rfl, ← Nat.pow_add, show 64 + (i - 64) = i by omega]
theorem retu {a b : Int} (h : a = b) : Ending.returned (.int .u64 a) = .returned (.int .u64 b) := by rw [h]
set_option maxHeartbeats 400000 in
theorem bbit_any (a i : Nat) (ha : Big a) (hi : i < 128) (w0 w : World) (hok : Ok w0 w) :
    Calls Tryz.prog 136 #[bv a, .int .i64 i] w fun e w' => e = .returned (.int .u64 ((a / 2 ^ i % 2 : Nat) : Int)) ∧ Ok w0 w' := by
  have HA : Hid _ := ha
  clear ha
  obtain ⟨r, hr⟩ : ∃ r : Nat, r = a / 2 ^ i % 2 := ⟨_, rfl⟩
  rw [← hr]
  have HRr : Hid _ := hr
  clear hr
  unfold bv
  by_cases h : i < 64
  · have h2 : (i : Int) < 64 := by omega
    have E : Hid _ := bit_lo (a := a) h
    rw [← HRr.out] at E
    go_enter Tryz.func136, Tryz.ntmps136
    go_wp2
    go_ret
    exact ⟨retu E.out, (by repeat (first | exact hok | refine Ok.alloc ?_ _ | refine Ok.draws ?_ _ | fail))⟩
  · have h2 : ¬ (i : Int) < 64 := by omega
    have E : Hid _ := bit_hi HA.out (show 64 ≤ i by omega)
    rw [← HRr.out] at E
    go_enter Tryz.func136, Tryz.ntmps136
    go_wp2
    go_ret
    exact ⟨retu E.out, (by repeat (first | exact hok | refine Ok.alloc ?_ _ | refine Ok.draws ?_ _ | fail))⟩
end Go.Proofs.YtbkblijoimmdeaaGreat
