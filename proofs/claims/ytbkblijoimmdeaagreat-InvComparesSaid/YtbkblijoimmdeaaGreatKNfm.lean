import Derived.Test.YtbkblijoimmdeaaGreatKCset
import Derived.Test.YtbkblijoimmdeaaGreatKNset
set_option linter.unusedVariables false
set_option linter.unusedSimpArgs false
set_option linter.unnecessarySimpa false
/- Cby Csum Csub Chd Nap Cmlc Crmc Nfm -/
namespace Go.Proofs.YtbkblijoimmdeaaGreat
section
open Go.RowKit
/-- The class of x by g, if exact and g is below 2^64; by Two(g) else. -/
def byG (g : Nat) (exact : Bool) : Nat := if exact = true ∧ g < 18446744073709551616 then g else twoN g
theorem twoN_pos (g : Nat) : 0 < twoN g := by
  unfold twoN; split
  · exact Nat.pow_pos (by omega)
  · omega
theorem twoN_u64 (g : Nat) : U64 (twoN g) := by
  unfold twoN U64
  split
  · rename_i i h
    have h2 := List.mem_of_find?_eq_some h
    have h3 : i < 63 := by simpa using h2
    have : (2 : Nat) ^ i < 2 ^ 64 := Nat.pow_lt_pow_right (by omega) (by omega)
    exact this
  · omega
end
section
open Go.RowKit
def sumF (f1 : Nat) (s1 : Bool) (f2 : Nat) (s2 : Bool) : Nat := if s1 = s2 then f1 + f2 else if f1 < f2 then f2 - f1 else f1 - f2
def sumS (f1 : Nat) (s1 : Bool) (f2 : Nat) (s2 : Bool) : Bool := if s1 = s2 then s1 else if f1 < f2 then !s1 else s1
theorem sum_val (f1 : Nat) (s1 : Bool) (f2 : Nat) (s2 : Bool) : sval (sumF f1 s1 f2 s2) (sumS f1 s1 f2 s2) = sval f1 s1 + sval f2 s2 := by
  unfold sumF sumS sval
  by_cases h : f1 < f2
  · cases s1 <;> cases s2 <;> simp [h] <;> omega
  · cases s1 <;> cases s2 <;> simp [h] <;> omega
end
section
open Go.RowKit
def subC (cM cR dM dR : Nat) (e : Bool) : Nat × Nat :=
  if cM = 0 ∧ dM = 0 then (0, bitsN (wrap64 (wrap64 (cR : Int) - wrap64 (dR : Int))))
  else (byG (Nat.gcd cM dM) e, restN (sumF (rF cM cR) (rS cM cR) (rF dM dR) (!rS dM dR)) (sumS (rF cM cR) (rS cM cR) (rF dM dR) (!rS dM dR)) (byG (Nat.gcd cM dM) e))
end
section
open Go.RowKit
theorem byG_pos {g : Nat} (h : 0 < g) (e : Bool) : 0 < byG g e := by
  unfold byG; split
  · exact h
  · exact twoN_pos g
theorem sval_not (f : Nat) (s : Bool) : sval f (!s) = -(sval f s) := by unfold sval; cases s <;> simp
end
section
open Go.RowKit
theorem hull_in {S : Int → Prop} {l h : Int} (H : Hull S l h) (hS : ∀ v, S v → In64 v) : In64 l ∧ In64 h := by
  rcases H with ⟨rfl, rfl, _⟩ | ⟨a, b, _⟩
  · unfold In64; omega
  · exact ⟨hS _ a, hS _ b⟩
def subN (a b : Int × Int × Nat × Nat × Bool) : Int × Int × Nat × Nat × Bool :=
  makeN (subI a.1 a.2.1 b.1 b.2.1).1 (subI a.1 a.2.1 b.1 b.2.1).2.1 (subC a.2.2.1 a.2.2.2.1 b.2.2.1 b.2.2.2.1 (subI a.1 a.2.1 b.1 b.2.1).2.2).1 (subC a.2.2.1 a.2.2.2.1 b.2.2.1 b.2.2.2.1 (subI a.1 a.2.1 b.1 b.2.1).2.2).2
end
section
open Go.RowKit
theorem prod_big {a b : Nat} (ha : U64 a) (hb : U64 b) : Big (a * b) := by
  unfold U64 at *; unfold Big
  have := Nat.mul_le_mul (show a ≤ 18446744073709551615 by omega) (show b ≤ 18446744073709551615 by omega)
  omega
end
section
open Go.RowKit
theorem field_far (a b c : Value) (w : World) : (Instr.field 97 (.agg #[a, b, c]) 0).run Tryz.prog w = .ok (.agg #[a, b]) w := by kernel_rfl
attribute [local go_sem] field_far
end
section
open Go.RowKit
theorem meetN_norm {a b : Int × Int × Nat × Nat × Bool} (ha : RawN a) (hb : RawN b) : NormN (meetN a b) := by
  unfold meetN meetRaw
  have ra := normN_raw ha
  have rb := normN_raw hb
  split
  · exact Or.inl rfl
  · split
    · exact Or.inl rfl
    · have i := meetI_in ra.1 ra.2.1 rb.1 rb.2.1
      exact make_norm i.1 i.2
theorem meetN_raw {a b : Int × Int × Nat × Nat × Bool} (ha : RawN a) (hb : RawN b) : RawN (meetN a b) := by
  unfold meetN meetRaw
  have ra := normN_raw ha
  have rb := normN_raw hb
  split
  · exact bot_raw
  · split
    · exact bot_raw
    · have i := meetI_in ra.1 ra.2.1 rb.1 rb.2.1
      have c := meet_u64 ra.2.2.1 ra.2.2.2 rb.2.2.1 rb.2.2.2
      exact make_raw i.1 i.2 c.1 c.2
theorem min_in : In64 (-9223372036854775808) := by unfold In64; omega
theorem max_in : In64 9223372036854775807 := by unfold In64; omega
theorem u_one : U64 1 := by unfold U64; omega
end
end Go.Proofs.YtbkblijoimmdeaaGreat
