import Derived.Test.YtgkbegmaffknbaaGreatHNdv
import Derived.Test.YtgkbegmaffknbaaGreatHNfm
set_option linter.unusedVariables false
set_option linter.unusedSimpArgs false
/- Nu -/
namespace Go.Proofs.YtgkbegmaffknbaaGreat
open Go.RowKit
theorem nremG_u64 {cM dM dR : Nat} (h1 : U64 cM) (h3 : U64 dM) (h : 0 < cM ∨ 0 < dM) : U64 (remG cM dM dR) ∧ 0 < remG cM dM dR := by
  unfold remG U64 at *
  have p : 0 < Nat.gcd cM dM := by
    rcases h with h | h
    · exact Nat.gcd_pos_of_pos_left _ h
    · exact Nat.gcd_pos_of_pos_right _ h
  have q : Nat.gcd cM dM < 18446744073709551616 := by
    rcases h with h | h
    · have := Nat.le_of_dvd h (Nat.gcd_dvd_left cM dM); omega
    · have := Nat.le_of_dvd h (Nat.gcd_dvd_right cM dM); omega
  have r := Nat.le_of_dvd p (Nat.gcd_dvd_left (Nat.gcd cM dM) (rF dM dR))
  exact ⟨by omega, Nat.gcd_pos_of_pos_left _ p⟩
theorem nbyG_u64 (g : Nat) (e : Bool) : U64 (byG g e) := by
  unfold byG
  split
  · rename_i h; exact h.2
  · exact twoN_u64 g
theorem ncls_u64 {f : Nat} {s : Bool} {g : Nat} (h : 0 < g) (e : Bool) : U64 (byG g e) ∧ U64 (restN f s (byG g e)) := by
  have a := nbyG_u64 g e
  have b := restN_lt (f := f) (s := s) (byG_pos h e)
  refine ⟨a, ?_⟩
  unfold U64 at *; omega
theorem nneg_u64 {cM cR : Nat} {e : Bool} (h1 : U64 cM) (h2 : U64 cR) : U64 (negC cM cR e).1 ∧ U64 (negC cM cR e).2 := by
  unfold negC
  split
  · exact ⟨show 0 < 18446744073709551616 by omega, bitsN_u64 _⟩
  · exact ncls_u64 (by omega) e
theorem ngcd_pos2 {a b : Nat} (h : ¬ (a = 0 ∧ b = 0)) : 0 < Nat.gcd a b := by
  by_cases hc : a = 0
  · rw [hc, Nat.gcd_zero_left]; omega
  · exact Nat.gcd_pos_of_pos_left _ (by omega)
theorem nadd_u64 {cM cR dM dR : Nat} {e : Bool} (h1 : U64 cM) (h2 : U64 cR) (h3 : U64 dM) (h4 : U64 dR) : U64 (addC cM cR dM dR e).1 ∧ U64 (addC cM cR dM dR e).2 := by
  unfold addC
  split
  · exact ⟨show 0 < 18446744073709551616 by omega, bitsN_u64 _⟩
  · rename_i h; exact ncls_u64 (ngcd_pos2 h) e
theorem nsub_u64 {cM cR dM dR : Nat} {e : Bool} (h1 : U64 cM) (h2 : U64 cR) (h3 : U64 dM) (h4 : U64 dR) : U64 (subC cM cR dM dR e).1 ∧ U64 (subC cM cR dM dR e).2 := by
  unfold subC
  split
  · exact ⟨show 0 < 18446744073709551616 by omega, bitsN_u64 _⟩
  · rename_i h; exact ncls_u64 (ngcd_pos2 h) e
theorem nmul_u64 {cM cR dM dR : Nat} {e : Bool} (h1 : U64 cM) (h2 : U64 cR) (h3 : U64 dM) (h4 : U64 dR) : U64 (mulC cM cR dM dR e).1 ∧ U64 (mulC cM cR dM dR e).2 := by
  unfold mulC
  split
  · exact ⟨show 0 < 18446744073709551616 by omega, bitsN_u64 _⟩
  · split
    · exact ⟨show 0 < 18446744073709551616 by omega, show 0 < 18446744073709551616 by omega⟩
    · rename_i h h'; exact ncls_u64 (mulG_pos h2 h4 h (fun a => h' (Or.inl a)) (fun a => h' (Or.inr a))) e
theorem ndiv_u64 {cM cR dM dR : Nat} (h1 : U64 cM) : U64 (divC cM cR dM dR).1 ∧ U64 (divC cM cR dM dR).2 := by
  have one : U64 1 ∧ U64 0 := ⟨show 1 < 18446744073709551616 by omega, show 0 < 18446744073709551616 by omega⟩
  unfold divC
  split
  · exact one
  · split
    · exact ⟨one.2, bitsN_u64 _⟩
    · split
      · exact one
      · rename_i h h' h''
        have a := Nat.div_le_self cM (wrap64 (dR : Int)).natAbs
        have d := Nat.div_add_mod cM (wrap64 (dR : Int)).natAbs
        have p : 0 < cM / (wrap64 (dR : Int)).natAbs := by
          rcases Nat.eq_zero_or_pos (cM / (wrap64 (dR : Int)).natAbs) with z | z
          · rw [z] at d; simp at d; omega
          · exact z
        have b := restN_lt (f := cR % cM / (wrap64 (dR : Int)).natAbs) (s := decide (wrap64 (dR : Int) < 0)) p
        unfold U64 at *; simp only; omega
theorem nrem_u64 {cM cR dM dR : Nat} (h1 : U64 cM) (h3 : U64 dM) : U64 (remC cM cR dM dR).1 ∧ U64 (remC cM cR dM dR).2 := by
  have one : U64 1 ∧ U64 0 := ⟨show 1 < 18446744073709551616 by omega, show 0 < 18446744073709551616 by omega⟩
  unfold remC
  split
  · exact one
  · split
    · exact ⟨one.2, bitsN_u64 _⟩
    · rename_i h h'
      have a := nremG_u64 (dR := dR) h1 h3 (by omega)
      have b := restN_lt (f := rF cM cR) (s := rS cM cR) a.2
      have a1 := a.1
      refine ⟨a1, ?_⟩
      unfold U64 at *; omega
theorem nneg_in (al ah : Int) : In64 (negI al ah).1 ∧ In64 (negI al ah).2.1 := hull_in (neg_hull al ah) (fun v ⟨_, _, e⟩ => by rw [e]; exact wrap64_in _)
theorem nadd_in (al ah bl bh : Int) : In64 (addI al ah bl bh).1 ∧ In64 (addI al ah bl bh).2.1 := hull_in (add_hull al ah bl bh) (fun v ⟨_, _, _, _, e⟩ => by rw [e]; exact wrap64_in _)
theorem nsub_in (al ah bl bh : Int) : In64 (subI al ah bl bh).1 ∧ In64 (subI al ah bl bh).2.1 := hull_in (sub_hull al ah bl bh) (fun v ⟨_, _, _, _, e⟩ => by rw [e]; exact wrap64_in _)
def ap2 (f : (Int × Int × Nat × Nat × Bool) → (Int × Int × Nat × Nat × Bool) → (Int × Int × Nat × Nat × Bool)) (x y : Int × Int × Nat × Nat × Bool) : Int × Int × Nat × Nat × Bool := if x.2.2.2.2 = true ∨ y.2.2.2.2 = true then botN else f x y
theorem ap2_left {f : (Int × Int × Nat × Nat × Bool) → (Int × Int × Nat × Nat × Bool) → (Int × Int × Nat × Nat × Bool)} {x y : Int × Int × Nat × Nat × Bool} (h : x.2.2.2.2 = true) : ap2 f x y = botN := by unfold ap2; rw [if_pos (Or.inl h)]
theorem ap2_right {f : (Int × Int × Nat × Nat × Bool) → (Int × Int × Nat × Nat × Bool) → (Int × Int × Nat × Nat × Bool)} {x y : Int × Int × Nat × Nat × Bool} (h : y.2.2.2.2 = true) : ap2 f x y = botN := by unfold ap2; rw [if_pos (Or.inr h)]
theorem ap2_some {f : (Int × Int × Nat × Nat × Bool) → (Int × Int × Nat × Nat × Bool) → (Int × Int × Nat × Nat × Bool)} {x y : Int × Int × Nat × Nat × Bool} (h : x.2.2.2.2 = false) (h' : y.2.2.2.2 = false) : ap2 f x y = f x y := by unfold ap2; rw [if_neg (by rw [h, h']; simp)]
theorem negN_raw {a : Int × Int × Nat × Nat × Bool} (ra : RawN a) : RawN (negN a) := by
  have i := (show In64 (negI a.1 a.2.1).1 ∧ In64 (negI a.1 a.2.1).2.1 from nneg_in _ _)
  have u := (show U64 (negC a.2.2.1 a.2.2.2.1 (negI a.1 a.2.1).2.2).1 ∧ U64 (negC a.2.2.1 a.2.2.2.1 (negI a.1 a.2.1).2.2).2 from nneg_u64 ra.2.2.1 ra.2.2.2)
  unfold negN
  exact make_raw i.1 i.2 u.1 u.2
theorem negN_norm {a : Int × Int × Nat × Nat × Bool} (ra : RawN a) : NormN (negN a) := by
  have i := (show In64 (negI a.1 a.2.1).1 ∧ In64 (negI a.1 a.2.1).2.1 from nneg_in _ _)
  unfold negN
  exact make_norm i.1 i.2
theorem addN_raw {a b : Int × Int × Nat × Nat × Bool} (ra : RawN a) (rb : RawN b) : RawN (addN a b) := by
  have i := (show In64 (addI a.1 a.2.1 b.1 b.2.1).1 ∧ In64 (addI a.1 a.2.1 b.1 b.2.1).2.1 from nadd_in _ _ _ _)
  have u := (show U64 (addC a.2.2.1 a.2.2.2.1 b.2.2.1 b.2.2.2.1 (addI a.1 a.2.1 b.1 b.2.1).2.2).1 ∧ U64 (addC a.2.2.1 a.2.2.2.1 b.2.2.1 b.2.2.2.1 (addI a.1 a.2.1 b.1 b.2.1).2.2).2 from nadd_u64 ra.2.2.1 ra.2.2.2 rb.2.2.1 rb.2.2.2)
  unfold addN
  exact make_raw i.1 i.2 u.1 u.2
theorem addN_norm {a b : Int × Int × Nat × Nat × Bool} (ra : RawN a) (rb : RawN b) : NormN (addN a b) := by
  have i := (show In64 (addI a.1 a.2.1 b.1 b.2.1).1 ∧ In64 (addI a.1 a.2.1 b.1 b.2.1).2.1 from nadd_in _ _ _ _)
  unfold addN
  exact make_norm i.1 i.2
theorem subN_raw {a b : Int × Int × Nat × Nat × Bool} (ra : RawN a) (rb : RawN b) : RawN (subN a b) := by
  have i := (show In64 (subI a.1 a.2.1 b.1 b.2.1).1 ∧ In64 (subI a.1 a.2.1 b.1 b.2.1).2.1 from nsub_in _ _ _ _)
  have u := (show U64 (subC a.2.2.1 a.2.2.2.1 b.2.2.1 b.2.2.2.1 (subI a.1 a.2.1 b.1 b.2.1).2.2).1 ∧ U64 (subC a.2.2.1 a.2.2.2.1 b.2.2.1 b.2.2.2.1 (subI a.1 a.2.1 b.1 b.2.1).2.2).2 from nsub_u64 ra.2.2.1 ra.2.2.2 rb.2.2.1 rb.2.2.2)
  unfold subN
  exact make_raw i.1 i.2 u.1 u.2
theorem subN_norm {a b : Int × Int × Nat × Nat × Bool} (ra : RawN a) (rb : RawN b) : NormN (subN a b) := by
  have i := (show In64 (subI a.1 a.2.1 b.1 b.2.1).1 ∧ In64 (subI a.1 a.2.1 b.1 b.2.1).2.1 from nsub_in _ _ _ _)
  unfold subN
  exact make_norm i.1 i.2
theorem mulN_raw {a b : Int × Int × Nat × Nat × Bool} (ra : RawN a) (rb : RawN b) : RawN (mulN a b) := by
  have i := (show In64 (mulI a.1 a.2.1 b.1 b.2.1).1 ∧ In64 (mulI a.1 a.2.1 b.1 b.2.1).2.1 from mulI_in _ _ _ _)
  have u := (show U64 (mulC a.2.2.1 a.2.2.2.1 b.2.2.1 b.2.2.2.1 (mulI a.1 a.2.1 b.1 b.2.1).2.2).1 ∧ U64 (mulC a.2.2.1 a.2.2.2.1 b.2.2.1 b.2.2.2.1 (mulI a.1 a.2.1 b.1 b.2.1).2.2).2 from nmul_u64 ra.2.2.1 ra.2.2.2 rb.2.2.1 rb.2.2.2)
  unfold mulN
  exact make_raw i.1 i.2 u.1 u.2
theorem mulN_norm {a b : Int × Int × Nat × Nat × Bool} (ra : RawN a) (rb : RawN b) : NormN (mulN a b) := by
  have i := (show In64 (mulI a.1 a.2.1 b.1 b.2.1).1 ∧ In64 (mulI a.1 a.2.1 b.1 b.2.1).2.1 from mulI_in _ _ _ _)
  unfold mulN
  exact make_norm i.1 i.2
theorem divN_raw {a b : Int × Int × Nat × Nat × Bool} (ra : RawN a) (rb : RawN b) : RawN (divN a b) := by
  have i := (show In64 (divI a.1 a.2.1 b.1 b.2.1).1 ∧ In64 (divI a.1 a.2.1 b.1 b.2.1).2.1 from divI_in ra.1 ra.2.1 rb.1 rb.2.1)
  have u := (show U64 (divC a.2.2.1 a.2.2.2.1 b.2.2.1 b.2.2.2.1).1 ∧ U64 (divC a.2.2.1 a.2.2.2.1 b.2.2.1 b.2.2.2.1).2 from ndiv_u64 ra.2.2.1)
  unfold divN
  exact make_raw i.1 i.2 u.1 u.2
theorem divN_norm {a b : Int × Int × Nat × Nat × Bool} (ra : RawN a) (rb : RawN b) : NormN (divN a b) := by
  have i := (show In64 (divI a.1 a.2.1 b.1 b.2.1).1 ∧ In64 (divI a.1 a.2.1 b.1 b.2.1).2.1 from divI_in ra.1 ra.2.1 rb.1 rb.2.1)
  unfold divN
  exact make_norm i.1 i.2
theorem remN_raw {a b : Int × Int × Nat × Nat × Bool} (ra : RawN a) (rb : RawN b) : RawN (remN a b) := by
  have i := (show In64 (remI a.1 a.2.1 b.1 b.2.1).1 ∧ In64 (remI a.1 a.2.1 b.1 b.2.1).2.1 from remI_in ra.1 ra.2.1 rb.1 rb.2.1)
  have u := (show U64 (remC a.2.2.1 a.2.2.2.1 b.2.2.1 b.2.2.2.1).1 ∧ U64 (remC a.2.2.1 a.2.2.2.1 b.2.2.1 b.2.2.2.1).2 from nrem_u64 ra.2.2.1 rb.2.2.1)
  unfold remN
  exact make_raw i.1 i.2 u.1 u.2
theorem remN_norm {a b : Int × Int × Nat × Nat × Bool} (ra : RawN a) (rb : RawN b) : NormN (remN a b) := by
  have i := (show In64 (remI a.1 a.2.1 b.1 b.2.1).1 ∧ In64 (remI a.1 a.2.1 b.1 b.2.1).2.1 from remI_in ra.1 ra.2.1 rb.1 rb.2.1)
  unfold remN
  exact make_norm i.1 i.2
theorem bot_norm : NormN botN := by have h := normN_norm (a := botN) bot_raw; exact h
theorem ap2_raw {f : (Int × Int × Nat × Nat × Bool) → (Int × Int × Nat × Nat × Bool) → (Int × Int × Nat × Nat × Bool)} {x y : Int × Int × Nat × Nat × Bool} (h : RawN (f x y)) : RawN (ap2 f x y) := by
  unfold ap2; split
  · exact bot_raw
  · exact h
theorem ap2_norm {f : (Int × Int × Nat × Nat × Bool) → (Int × Int × Nat × Nat × Bool) → (Int × Int × Nat × Nat × Bool)} {x y : Int × Int × Nat × Nat × Bool} (h : NormN (f x y)) : NormN (ap2 f x y) := by
  unfold ap2; split
  · exact bot_norm
  · exact h
end Go.Proofs.YtgkbegmaffknbaaGreat
