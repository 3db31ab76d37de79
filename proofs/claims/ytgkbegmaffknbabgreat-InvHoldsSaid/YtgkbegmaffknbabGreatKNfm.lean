import Derived.Test.YtgkbegmaffknbabGreatKCsum
import Derived.Test.YtgkbegmaffknbabGreatKNset
set_option linter.unusedVariables false
set_option linter.unusedSimpArgs false
set_option linter.unnecessarySimpa false
/- Cby Csub Chd Cdvm Nap Nfm -/
namespace Go.Proofs.YtgkbegmaffknbabGreat
section
open Go.RowKit
/-- The class of x by g, if exact and g is below 2^64; by Two(g) else. -/
def byG (g : Nat) (exact : Bool) : Nat := if exact = true ∧ g < 18446744073709551616 then g else twoN g
theorem twoN_pos (g : Nat) : 0 < twoN g := by
  unfold twoN; split
  · exact Nat.pow_pos (by omega)
  · omega
theorem twoN_u64 (g : Nat) : U64 (twoN g) := by
  unfold twoN U64
  split
  · rename_i i h
    have h2 := List.mem_of_find?_eq_some h
    have h3 : i < 63 := by simpa using h2
    have : (2 : Nat) ^ i < 2 ^ 64 := Nat.pow_lt_pow_right (by omega) (by omega)
    exact this
  · omega
end
section
open Go.RowKit
def subC (cM cR dM dR : Nat) (e : Bool) : Nat × Nat :=
  if cM = 0 ∧ dM = 0 then (0, bitsN (wrap64 (wrap64 (cR : Int) - wrap64 (dR : Int))))
  else (byG (Nat.gcd cM dM) e, restN (sumF (rF cM cR) (rS cM cR) (rF dM dR) (!rS dM dR)) (sumS (rF cM cR) (rS cM cR) (rF dM dR) (!rS dM dR)) (byG (Nat.gcd cM dM) e))
end
section
open Go.RowKit
theorem byG_pos {g : Nat} (h : 0 < g) (e : Bool) : 0 < byG g e := by
  unfold byG; split
  · exact h
  · exact twoN_pos g
theorem sval_not (f : Nat) (s : Bool) : sval f (!s) = -(sval f s) := by unfold sval; cases s <;> simp
end
section
open Go.RowKit
theorem all_mem (v : Int) : MemC 1 0 v := by rw [memC_pos (by omega)]; simp
end
section
open Go.RowKit
theorem hull_in {S : Int → Prop} {l h : Int} (H : Hull S l h) (hS : ∀ v, S v → In64 v) : In64 l ∧ In64 h := by
  rcases H with ⟨rfl, rfl, _⟩ | ⟨a, b, _⟩
  · unfold In64; omega
  · exact ⟨hS _ a, hS _ b⟩
def subN (a b : Int × Int × Nat × Nat × Bool) : Int × Int × Nat × Nat × Bool :=
  makeN (subI a.1 a.2.1 b.1 b.2.1).1 (subI a.1 a.2.1 b.1 b.2.1).2.1 (subC a.2.2.1 a.2.2.2.1 b.2.2.1 b.2.2.2.1 (subI a.1 a.2.1 b.1 b.2.1).2.2).1 (subC a.2.2.1 a.2.2.2.1 b.2.2.1 b.2.2.2.1 (subI a.1 a.2.1 b.1 b.2.1).2.2).2
end
section
open Go.RowKit
theorem meetN_raw {a b : Int × Int × Nat × Nat × Bool} (ha : RawN a) (hb : RawN b) : RawN (meetN a b) := by
  unfold meetN meetRaw
  have ra := normN_raw ha
  have rb := normN_raw hb
  split
  · exact bot_raw
  · split
    · exact bot_raw
    · have i := meetI_in ra.1 ra.2.1 rb.1 rb.2.1
      have c := meet_u64 ra.2.2.1 ra.2.2.2 rb.2.2.1 rb.2.2.2
      exact make_raw i.1 i.2 c.1 c.2
/-- Is it one of the numbers? -/
def insN (a : Int × Int × Nat × Nat × Bool) (v : Int) : Bool := !a.2.2.2.2 && hasI a.1 a.2.1 v && hasC a.2.2.1 a.2.2.2.1 v
theorem insN_iff {a : Int × Int × Nat × Nat × Bool} (ha : RawN a) {v : Int} (hv : In64 v) : insN a v = true ↔ MemN a v := by
  unfold insN MemN hasI
  rw [Bool.and_eq_true, Bool.and_eq_true, Bool.and_eq_true, hasC_iff ha.2.2.2 hv]
  simp only [Bool.not_eq_true', decide_eq_true_eq]
  constructor
  · rintro ⟨⟨a, b, c⟩, d⟩; exact ⟨a, b, c, d⟩
  · rintro ⟨a, b, c, d⟩; exact ⟨⟨a, b, c⟩, d⟩
theorem min_in : In64 (-9223372036854775808) := by unfold In64; omega
theorem max_in : In64 9223372036854775807 := by unfold In64; omega
theorem u_one : U64 1 := by unfold U64; omega
/-- Leq, as both forms of it are asked. -/
def lqN (a b : Int × Int × Nat × Nat × Bool) : Bool := leqN (normN a) (normN b)
theorem lqN_iff {a b : Int × Int × Nat × Nat × Bool} (ha : RawN a) (hb : RawN b) : lqN a b = true ↔ ∀ v, In64 v → MemN a v → MemN b v := by
  unfold lqN
  rw [leqN_iff (normN_norm ha) (normN_norm hb) (normN_raw ha).2.2.2 (normN_raw hb).2.2.2]
  exact ⟨fun h v hv m => (normN_mem hb hv).1 (h v hv ((normN_mem ha hv).2 m)), fun h v hv m => (normN_mem hb hv).2 (h v hv ((normN_mem ha hv).1 m))⟩
end
end Go.Proofs.YtgkbegmaffknbabGreat
