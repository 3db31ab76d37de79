import Derived.WalkKit
import Derived.Laws.Bits64b
set_option linter.unusedVariables false
set_option linter.unusedSimpArgs false
/- Imath -/
namespace Go.Proofs.Ytbkblijoimmdeaa
open Go.RowKit

abbrev In64 (a : Int) : Prop := -9223372036854775808 ≤ a ∧ a ≤ 9223372036854775807
theorem u64w (n : Int) : IntKind.u64.wrap n = n % 18446744073709551616 := IntKind.wrap_u64 n
theorem wrap64_in (n : Int) : In64 (wrap64 n) := by unfold In64 wrap64; omega
theorem wrap64_id {n : Int} (h : In64 n) : wrap64 n = n := by unfold In64 at h; unfold wrap64; omega

/-- The numbers from l to h. -/
def Mem (l h v : Int) : Prop := l ≤ v ∧ v ≤ h

/-- The hull of some numbers, as it is answered. -/
def Hull (S : Int → Prop) (l h : Int) : Prop := (l = 1 ∧ h = 0 ∧ ∀ v, ¬ S v) ∨ (S l ∧ S h ∧ ∀ v, S v → l ≤ v ∧ v ≤ h)
theorem Hull.congr {S T : Int → Prop} {l h : Int} (a : Hull S l h) (e : ∀ v, S v ↔ T v) : Hull T l h := by
  rcases a with ⟨a1, a2, a3⟩ | ⟨a1, a2, a3⟩
  · exact Or.inl ⟨a1, a2, fun v hv => a3 v ((e v).2 hv)⟩
  · exact Or.inr ⟨(e _).1 a1, (e _).1 a2, fun v hv => a3 v ((e v).2 hv)⟩
def normI (l h : Int) : Int × Int := if h < l then (1, 0) else (l, h)
def joinI (al ah bl bh : Int) : Int × Int := if ah < al then normI bl bh else if bh < bl then (al, ah) else (min al bl, max ah bh)
def meetI (al ah bl bh : Int) : Int × Int := normI (max al bl) (min ah bh)
def hasI (al ah v : Int) : Bool := decide (al ≤ v) && decide (v ≤ ah)
def leqI (al ah bl bh : Int) : Bool := decide (ah < al) || (decide (bl ≤ al) && decide (ah ≤ bh))

/-- Join holds both, meet just what both have. -/
theorem joinI_mem {al ah bl bh v : Int} (h : Mem al ah v ∨ Mem bl bh v) : Mem (joinI al ah bl bh).1 (joinI al ah bl bh).2 v := by
  unfold joinI normI Mem at *
  split <;> split <;> simp only <;> omega
theorem meetI_mem (al ah bl bh v : Int) : Mem (meetI al ah bl bh).1 (meetI al ah bl bh).2 v ↔ Mem al ah v ∧ Mem bl bh v := by
  unfold meetI normI Mem
  split <;> simp only <;> omega
/- The results. -/
end Go.Proofs.Ytbkblijoimmdeaa
