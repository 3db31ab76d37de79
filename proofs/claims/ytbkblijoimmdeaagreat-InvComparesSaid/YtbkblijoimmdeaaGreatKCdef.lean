import Derived.WalkKit
import Derived.Laws.Bits64b
set_option linter.unusedVariables false
set_option linter.unusedSimpArgs false
/- Imath Cmath Cdef -/
namespace Go.Proofs.YtbkblijoimmdeaaGreat
section
open Go.RowKit

abbrev In64 (a : Int) : Prop := -9223372036854775808 ≤ a ∧ a ≤ 9223372036854775807
theorem u64w (n : Int) : IntKind.u64.wrap n = n % 18446744073709551616 := IntKind.wrap_u64 n
theorem wrap64_in (n : Int) : In64 (wrap64 n) := by unfold In64 wrap64; omega
theorem wrap64_id {n : Int} (h : In64 n) : wrap64 n = n := by unfold In64 at h; unfold wrap64; omega

/-- The numbers from l to h. -/
def Mem (l h v : Int) : Prop := l ≤ v ∧ v ≤ h

/-- The hull of some numbers, as it is answered. -/
def Hull (S : Int → Prop) (l h : Int) : Prop := (l = 1 ∧ h = 0 ∧ ∀ v, ¬ S v) ∨ (S l ∧ S h ∧ ∀ v, S v → l ≤ v ∧ v ≤ h)
theorem Hull.congr {S T : Int → Prop} {l h : Int} (a : Hull S l h) (e : ∀ v, S v ↔ T v) : Hull T l h := by
  rcases a with ⟨a1, a2, a3⟩ | ⟨a1, a2, a3⟩
  · exact Or.inl ⟨a1, a2, fun v hv => a3 v ((e v).2 hv)⟩
  · exact Or.inr ⟨(e _).1 a1, (e _).1 a2, fun v hv => a3 v ((e v).2 hv)⟩
def normI (l h : Int) : Int × Int := if h < l then (1, 0) else (l, h)
def meetI (al ah bl bh : Int) : Int × Int := normI (max al bl) (min ah bh)
theorem meetI_mem (al ah bl bh v : Int) : Mem (meetI al ah bl bh).1 (meetI al ah bl bh).2 v ↔ Mem al ah v ∧ Mem bl bh v := by
  unfold meetI normI Mem
  split <;> simp only <;> omega
/-- All whole numbers from lo to hi, wrapped. -/
def SpanS (lo hi v : Int) : Prop := ∃ z, lo ≤ z ∧ z ≤ hi ∧ v = wrap64 z
def spanI (lo hi : Int) : Int × Int × Bool :=
  if In64 lo ∧ In64 hi then (lo, hi, true)
  else if 18446744073709551615 ≤ hi - lo ∨ wrap64 hi < wrap64 lo then (-9223372036854775808, 9223372036854775807, false)
  else (wrap64 lo, wrap64 hi, false)
theorem span_hull {lo hi : Int} (h : lo ≤ hi) : Hull (SpanS lo hi) (spanI lo hi).1 (spanI lo hi).2.1 := by
  unfold spanI
  split
  · rename_i hh
    right
    refine ⟨⟨lo, by omega, by omega, (wrap64_id hh.1).symm⟩, ⟨hi, by omega, by omega, (wrap64_id hh.2).symm⟩, ?_⟩
    rintro v ⟨z, h1, h2, rfl⟩
    have : In64 z := by unfold In64 at *; omega
    rw [wrap64_id this]
    exact ⟨h1, h2⟩
  · rename_i hn
    split
    · rename_i hw
      right
      refine ⟨⟨hi - (hi + 9223372036854775808) % 18446744073709551616, ?_, ?_, ?_⟩, ⟨hi - (hi - 9223372036854775807) % 18446744073709551616, ?_, ?_, ?_⟩, ?_⟩
      · unfold wrap64 at hw; unfold In64 at hn; omega
      · omega
      · unfold wrap64; simp only; omega
      · unfold wrap64 at hw; unfold In64 at hn; omega
      · omega
      · unfold wrap64; simp only; omega
      · rintro v ⟨z, h1, h2, rfl⟩
        exact wrap64_in z
    · rename_i hw
      right
      refine ⟨⟨lo, by omega, by omega, rfl⟩, ⟨hi, by omega, by omega, rfl⟩, ?_⟩
      rintro v ⟨z, h1, h2, rfl⟩
      unfold wrap64 at *
      simp only
      omega
/- The results. -/
def SubS (al ah bl bh v : Int) : Prop := ∃ x y, Mem al ah x ∧ Mem bl bh y ∧ v = wrap64 (x - y)
def subI (al ah bl bh : Int) : Int × Int × Bool := if ah < al ∨ bh < bl then (1, 0, true) else spanI (al - bh) (ah - bl)

theorem add_split {al ah bl bh z : Int} (ha : al ≤ ah) (hb : bl ≤ bh) (h1 : al + bl ≤ z) (h2 : z ≤ ah + bh) : ∃ x y, (al ≤ x ∧ x ≤ ah) ∧ (bl ≤ y ∧ y ≤ bh) ∧ z = x + y := by
  by_cases h : z ≤ al + bh
  · exact ⟨al, z - al, by omega, by omega, by omega⟩
  · exact ⟨z - bh, bh, by omega, by omega, by omega⟩
theorem sub_hull (al ah bl bh : Int) : Hull (SubS al ah bl bh) (subI al ah bl bh).1 (subI al ah bl bh).2.1 := by
  unfold subI
  split
  · left; refine ⟨rfl, rfl, ?_⟩
    rintro v ⟨x, y, hx, hy, _⟩; unfold Mem at hx hy; omega
  · refine (span_hull (by omega)).congr fun v => ?_
    unfold SpanS SubS Mem
    constructor
    · rintro ⟨z, h1, h2, rfl⟩
      obtain ⟨x, y, hx, hy, rfl⟩ := add_split (al := al) (ah := ah) (bl := -bh) (bh := -bl) (by omega) (by omega) (by omega) (by omega : z ≤ ah + -bl)
      exact ⟨x, -y, hx, by omega, by rw [Int.sub_neg]⟩
    · rintro ⟨x, y, hx, hy, rfl⟩; exact ⟨x - y, by omega, by omega, rfl⟩
end
section
open Go.RowKit
/-- The halves of a number of 128 bits. -/
def hiB (n : Nat) : Int := ((n / 18446744073709551616 : Nat) : Int)
def loB (n : Nat) : Int := ((n % 18446744073709551616 : Nat) : Int)
def Big (n : Nat) : Prop := n < 340282366920938463463374607431768211456
theorem big_small {n : Nat} (h : n < 18446744073709551616) : hiB n = 0 ∧ loB n = n := by unfold hiB loB; omega
theorem big_lt {a b : Nat} : (decide (hiB a < hiB b) || (hiB a == hiB b && decide (loB a < loB b))) = decide (a < b) := by
  have : (a < b) ↔ (hiB a < hiB b ∨ (hiB a = hiB b ∧ loB a < loB b)) := by unfold hiB loB; omega
  by_cases h : a < b
  · rw [decide_eq_true h]
    rcases this.1 h with h1 | ⟨h1, h2⟩
    · simp [h1]
    · simp [h1, h2]
  · rw [decide_eq_false h]
    have h3 := mt this.2 h
    simp only [not_or, not_and] at h3
    by_cases h1 : hiB a = hiB b
    · simp [h1, h3.2 h1]
    · simp [h1]; exact Int.not_lt.1 h3.1
/-- A step of long division. -/
theorem part_step {A m b : Nat} (hm : 0 < m) (hb : b < 2) :
    (m ≤ 2 * (A % m) + b → (2 * A + b) / m = 2 * (A / m) + 1 ∧ (2 * A + b) % m = 2 * (A % m) + b - m) ∧
    (¬ m ≤ 2 * (A % m) + b → (2 * A + b) / m = 2 * (A / m) ∧ (2 * A + b) % m = 2 * (A % m) + b) := by
  have e : A = m * (A / m) + A % m := (Nat.div_add_mod A m).symm
  have hr : A % m < m := Nat.mod_lt _ hm
  generalize hq : A / m = q at *
  generalize hrr : A % m = r at *
  have e1 : 2 * A + b = m * (2 * q) + (2 * r + b) := by rw [e, Nat.mul_left_comm m 2 q]; omega
  constructor
  · intro h
    have e2 : 2 * A + b = (2 * r + b - m) + m * (2 * q + 1) := by rw [e1, Nat.mul_add, Nat.mul_one]; omega
    rw [e2, Nat.add_mul_div_left _ _ hm, Nat.add_mul_mod_self_left, Nat.div_eq_of_lt (by omega), Nat.mod_eq_of_lt (by omega)]
    omega
  · intro h
    have e2 : 2 * A + b = (2 * r + b) + m * (2 * q) := by rw [e1]; omega
    rw [e2, Nat.add_mul_div_left _ _ hm, Nat.add_mul_mod_self_left, Nat.div_eq_of_lt (by omega), Nat.mod_eq_of_lt (by omega)]
    omega
theorem bit_step (a i : Nat) : a / 2 ^ i = 2 * (a / 2 ^ (i + 1)) + a / 2 ^ i % 2 := by
  rw [Nat.pow_succ, ← Nat.div_div_eq_div_mul]; omega
theorem even_or {k b : Nat} (hb : b < 2) : (2 * k) ||| b = 2 * k + b := by
  have := Nat.two_pow_add_eq_or_of_lt (i := 1) (by simpa using hb) k
  simpa using this.symm
end
section
open Go.RowKit
def U64 (a : Nat) : Prop := a < 18446744073709551616
/-- A whole number by its distance and its side. -/
def sval (f : Nat) (s : Bool) : Int := if s = true then -(f : Int) else f
def rF (M R : Nat) : Nat := if M = 0 then (wrap64 (R : Int)).natAbs else R % M
def rS (M R : Nat) : Bool := if M = 0 then decide (wrap64 (R : Int) < 0) else false
/-- r(c). -/
def rI (M R : Nat) : Int := if M = 0 then wrap64 (R : Int) else ((R % M : Nat) : Int)
theorem r_val (M R : Nat) : sval (rF M R) (rS M R) = rI M R := by
  unfold sval rF rS rI
  by_cases h : M = 0
  · rw [if_pos h, if_pos h, if_pos h]
    by_cases c : wrap64 (R : Int) < 0
    · rw [decide_eq_true c, if_pos rfl]; omega
    · rw [decide_eq_false c, if_neg (by simp)]; omega
  · rw [if_neg h, if_neg h, if_neg h, if_neg (by simp)]
theorem rF_rng {M R : Nat} (hM : U64 M) (hR : U64 R) : rF M R < 18446744073709551616 := by
  unfold rF; unfold U64 at *
  by_cases h : M = 0
  · rw [if_pos h]; have := wrap64_in (R : Int); unfold In64 at this; omega
  · rw [if_neg h]; have := Nat.mod_le R M; omega
/-- x mod m. -/
def restN (f : Nat) (s : Bool) (m : Nat) : Nat := if s = true ∧ f % m ≠ 0 then m - f % m else f % m
theorem restN_lt {f : Nat} {s : Bool} {m : Nat} (hm : 0 < m) : restN f s m < m := by
  unfold restN; have := Nat.mod_lt f hm; split <;> omega
theorem restN_val {f : Nat} {s : Bool} {m : Nat} (hm : 0 < m) : (restN f s m : Int) = sval f s % (m : Int) := by
  have hl := Nat.mod_lt f hm
  have e : (f : Int) = (m : Int) * ((f / m : Nat) : Int) + ((f % m : Nat) : Int) := by
    have := (Nat.div_add_mod f m).symm
    exact_mod_cast this
  unfold restN sval
  cases s with
  | false => simp
  | true =>
    simp only [if_true, true_and]
    by_cases h0 : f % m = 0
    · rw [if_neg (by simp [h0]), h0]
      rw [h0] at e
      have e2 : -(f : Int) = (m : Int) * (-((f / m : Nat) : Int)) := by rw [e]; simp [Int.mul_neg]
      rw [e2, Int.mul_emod_right]; rfl
    · rw [if_pos h0]
      have e2 : -(f : Int) = ((m - f % m : Nat) : Int) + (m : Int) * (-((f / m : Nat) : Int) - 1) := by
        rw [Int.ofNat_sub (by omega), Int.mul_sub, Int.mul_one, Int.mul_neg]
        omega
      rw [e2, Int.add_mul_emod_self_left, Int.emod_eq_of_lt (by omega) (by omega)]
end
end Go.Proofs.YtbkblijoimmdeaaGreat
