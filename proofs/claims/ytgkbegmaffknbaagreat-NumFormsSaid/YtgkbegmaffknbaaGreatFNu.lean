import Derived.Test.YtgkbegmaffknbaaGreatFCdvm
import Derived.Test.YtgkbegmaffknbaaGreatFChd
import Derived.Test.YtgkbegmaffknbaaGreatFIdiv
import Derived.Test.YtgkbegmaffknbaaGreatFIdv
import Derived.Test.YtgkbegmaffknbaaGreatFIwid
import Derived.Test.YtgkbegmaffknbaaGreatFNap
import Derived.Test.YtgkbegmaffknbaaGreatFNfm
set_option linter.unusedVariables false
set_option linter.unusedSimpArgs false
/- Nu -/
namespace Go.Proofs.YtgkbegmaffknbaaGreat
open Go.RowKit
theorem nbyG_u64 (g : Nat) (e : Bool) : U64 (byG g e) := by
  unfold byG
  split
  · rename_i h; exact h.2
  · exact twoN_u64 g
theorem ncls_u64 {f : Nat} {s : Bool} {g : Nat} (h : 0 < g) (e : Bool) : U64 (byG g e) ∧ U64 (restN f s (byG g e)) := by
  have a := nbyG_u64 g e
  have b := restN_lt (f := f) (s := s) (byG_pos h e)
  refine ⟨a, ?_⟩
  unfold U64 at *; omega
theorem ngcd_pos2 {a b : Nat} (h : ¬ (a = 0 ∧ b = 0)) : 0 < Nat.gcd a b := by
  by_cases hc : a = 0
  · rw [hc, Nat.gcd_zero_left]; omega
  · exact Nat.gcd_pos_of_pos_left _ (by omega)
theorem nadd_u64 {cM cR dM dR : Nat} {e : Bool} (h1 : U64 cM) (h2 : U64 cR) (h3 : U64 dM) (h4 : U64 dR) : U64 (addC cM cR dM dR e).1 ∧ U64 (addC cM cR dM dR e).2 := by
  unfold addC
  split
  · exact ⟨show 0 < 18446744073709551616 by omega, bitsN_u64 _⟩
  · rename_i h; exact ncls_u64 (ngcd_pos2 h) e
theorem nadd_in (al ah bl bh : Int) : In64 (addI al ah bl bh).1 ∧ In64 (addI al ah bl bh).2.1 := hull_in (add_hull al ah bl bh) (fun v ⟨_, _, _, _, e⟩ => by rw [e]; exact wrap64_in _)
def ap2 (f : (Int × Int × Nat × Nat × Bool) → (Int × Int × Nat × Nat × Bool) → (Int × Int × Nat × Nat × Bool)) (x y : Int × Int × Nat × Nat × Bool) : Int × Int × Nat × Nat × Bool := if x.2.2.2.2 = true ∨ y.2.2.2.2 = true then botN else f x y
theorem ap2_left {f : (Int × Int × Nat × Nat × Bool) → (Int × Int × Nat × Nat × Bool) → (Int × Int × Nat × Nat × Bool)} {x y : Int × Int × Nat × Nat × Bool} (h : x.2.2.2.2 = true) : ap2 f x y = botN := by unfold ap2; rw [if_pos (Or.inl h)]
theorem ap2_right {f : (Int × Int × Nat × Nat × Bool) → (Int × Int × Nat × Nat × Bool) → (Int × Int × Nat × Nat × Bool)} {x y : Int × Int × Nat × Nat × Bool} (h : y.2.2.2.2 = true) : ap2 f x y = botN := by unfold ap2; rw [if_pos (Or.inr h)]
theorem ap2_some {f : (Int × Int × Nat × Nat × Bool) → (Int × Int × Nat × Nat × Bool) → (Int × Int × Nat × Nat × Bool)} {x y : Int × Int × Nat × Nat × Bool} (h : x.2.2.2.2 = false) (h' : y.2.2.2.2 = false) : ap2 f x y = f x y := by unfold ap2; rw [if_neg (by rw [h, h']; simp)]
end Go.Proofs.YtgkbegmaffknbaaGreat
