import Derived.WalkKit
import Derived.Laws.Bits64b
set_option linter.unusedVariables false
set_option linter.unusedSimpArgs false
/- Imath -/
namespace Go.Proofs.YtgkbegmaffknbaaGreat
open Go.RowKit

abbrev In64 (a : Int) : Prop := -9223372036854775808 ≤ a ∧ a ≤ 9223372036854775807
theorem u64w (n : Int) : IntKind.u64.wrap n = n % 18446744073709551616 := IntKind.wrap_u64 n
theorem wrap64_in (n : Int) : In64 (wrap64 n) := by unfold In64 wrap64; omega
theorem wrap64_id {n : Int} (h : In64 n) : wrap64 n = n := by unfold In64 at h; unfold wrap64; omega

/-- The numbers from l to h. -/
def Mem (l h v : Int) : Prop := l ≤ v ∧ v ≤ h

/-- The hull of some numbers, as it is answered. -/
def Hull (S : Int → Prop) (l h : Int) : Prop := (l = 1 ∧ h = 0 ∧ ∀ v, ¬ S v) ∨ (S l ∧ S h ∧ ∀ v, S v → l ≤ v ∧ v ≤ h)
theorem Hull.congr {S T : Int → Prop} {l h : Int} (a : Hull S l h) (e : ∀ v, S v ↔ T v) : Hull T l h := by
  rcases a with ⟨a1, a2, a3⟩ | ⟨a1, a2, a3⟩
  · exact Or.inl ⟨a1, a2, fun v hv => a3 v ((e v).2 hv)⟩
  · exact Or.inr ⟨(e _).1 a1, (e _).1 a2, fun v hv => a3 v ((e v).2 hv)⟩
def normI (l h : Int) : Int × Int := if h < l then (1, 0) else (l, h)
def joinI (al ah bl bh : Int) : Int × Int := if ah < al then normI bl bh else if bh < bl then (al, ah) else (min al bl, max ah bh)
def meetI (al ah bl bh : Int) : Int × Int := normI (max al bl) (min ah bh)
def hasI (al ah v : Int) : Bool := decide (al ≤ v) && decide (v ≤ ah)
def leqI (al ah bl bh : Int) : Bool := decide (ah < al) || (decide (bl ≤ al) && decide (ah ≤ bh))

/-- Join holds both, meet just what both have. -/
theorem joinI_mem {al ah bl bh v : Int} (h : Mem al ah v ∨ Mem bl bh v) : Mem (joinI al ah bl bh).1 (joinI al ah bl bh).2 v := by
  unfold joinI normI Mem at *
  split <;> split <;> simp only <;> omega
theorem meetI_mem (al ah bl bh v : Int) : Mem (meetI al ah bl bh).1 (meetI al ah bl bh).2 v ↔ Mem al ah v ∧ Mem bl bh v := by
  unfold meetI normI Mem
  split <;> simp only <;> omega
/-- All whole numbers from lo to hi, wrapped. -/
def SpanS (lo hi v : Int) : Prop := ∃ z, lo ≤ z ∧ z ≤ hi ∧ v = wrap64 z
def spanI (lo hi : Int) : Int × Int × Bool :=
  if In64 lo ∧ In64 hi then (lo, hi, true)
  else if 18446744073709551615 ≤ hi - lo ∨ wrap64 hi < wrap64 lo then (-9223372036854775808, 9223372036854775807, false)
  else (wrap64 lo, wrap64 hi, false)
theorem span_hull {lo hi : Int} (h : lo ≤ hi) : Hull (SpanS lo hi) (spanI lo hi).1 (spanI lo hi).2.1 := by
  unfold spanI
  split
  · rename_i hh
    right
    refine ⟨⟨lo, by omega, by omega, (wrap64_id hh.1).symm⟩, ⟨hi, by omega, by omega, (wrap64_id hh.2).symm⟩, ?_⟩
    rintro v ⟨z, h1, h2, rfl⟩
    have : In64 z := by unfold In64 at *; omega
    rw [wrap64_id this]
    exact ⟨h1, h2⟩
  · rename_i hn
    split
    · rename_i hw
      right
      refine ⟨⟨hi - (hi + 9223372036854775808) % 18446744073709551616, ?_, ?_, ?_⟩, ⟨hi - (hi - 9223372036854775807) % 18446744073709551616, ?_, ?_, ?_⟩, ?_⟩
      · unfold wrap64 at hw; unfold In64 at hn; omega
      · omega
      · unfold wrap64; simp only; omega
      · unfold wrap64 at hw; unfold In64 at hn; omega
      · omega
      · unfold wrap64; simp only; omega
      · rintro v ⟨z, h1, h2, rfl⟩
        exact wrap64_in z
    · rename_i hw
      right
      refine ⟨⟨lo, by omega, by omega, rfl⟩, ⟨hi, by omega, by omega, rfl⟩, ?_⟩
      rintro v ⟨z, h1, h2, rfl⟩
      unfold wrap64 at *
      simp only
      omega
/- The results. -/
def AddS (al ah bl bh v : Int) : Prop := ∃ x y, Mem al ah x ∧ Mem bl bh y ∧ v = wrap64 (x + y)
def addI (al ah bl bh : Int) : Int × Int × Bool := if ah < al ∨ bh < bl then (1, 0, true) else spanI (al + bl) (ah + bh)
theorem add_split {al ah bl bh z : Int} (ha : al ≤ ah) (hb : bl ≤ bh) (h1 : al + bl ≤ z) (h2 : z ≤ ah + bh) : ∃ x y, (al ≤ x ∧ x ≤ ah) ∧ (bl ≤ y ∧ y ≤ bh) ∧ z = x + y := by
  by_cases h : z ≤ al + bh
  · exact ⟨al, z - al, by omega, by omega, by omega⟩
  · exact ⟨z - bh, bh, by omega, by omega, by omega⟩
theorem add_hull (al ah bl bh : Int) : Hull (AddS al ah bl bh) (addI al ah bl bh).1 (addI al ah bl bh).2.1 := by
  unfold addI
  split
  · left; refine ⟨rfl, rfl, ?_⟩
    rintro v ⟨x, y, hx, hy, _⟩; unfold Mem at hx hy; omega
  · refine (span_hull (by omega)).congr fun v => ?_
    unfold SpanS AddS Mem
    constructor
    · rintro ⟨z, h1, h2, rfl⟩
      obtain ⟨x, y, hx, hy, rfl⟩ := add_split (by omega) (by omega) h1 h2
      exact ⟨x, y, hx, hy, rfl⟩
    · rintro ⟨x, y, hx, hy, rfl⟩; exact ⟨x + y, by omega, by omega, rfl⟩
end Go.Proofs.YtgkbegmaffknbaaGreat
