import Derived.Test.YtgkbegmaffknbaaGreatHChd
import Derived.Test.YtgkbegmaffknbaaGreatHCml
import Derived.Test.YtgkbegmaffknbaaGreatHIdh
import Derived.Test.YtgkbegmaffknbaaGreatHIdiv
import Derived.Test.YtgkbegmaffknbaaGreatHNfm
import Derived.Test.YtgkbegmaffknbaaGreatHNset
set_option linter.unusedVariables false
set_option linter.unusedSimpArgs false
/- Nap Nmu Ndv -/
namespace Go.Proofs.YtgkbegmaffknbaaGreat
section
open Go.RowKit
theorem hull_in {S : Int → Prop} {l h : Int} (H : Hull S l h) (hS : ∀ v, S v → In64 v) : In64 l ∧ In64 h := by
  rcases H with ⟨rfl, rfl, _⟩ | ⟨a, b, _⟩
  · unfold In64; omega
  · exact ⟨hS _ a, hS _ b⟩
def negN (a : Int × Int × Nat × Nat × Bool) : Int × Int × Nat × Nat × Bool :=
  makeN (negI a.1 a.2.1).1 (negI a.1 a.2.1).2.1 (negC a.2.2.1 a.2.2.2.1 (negI a.1 a.2.1).2.2).1 (negC a.2.2.1 a.2.2.2.1 (negI a.1 a.2.1).2.2).2
def addN (a b : Int × Int × Nat × Nat × Bool) : Int × Int × Nat × Nat × Bool :=
  makeN (addI a.1 a.2.1 b.1 b.2.1).1 (addI a.1 a.2.1 b.1 b.2.1).2.1 (addC a.2.2.1 a.2.2.2.1 b.2.2.1 b.2.2.2.1 (addI a.1 a.2.1 b.1 b.2.1).2.2).1 (addC a.2.2.1 a.2.2.2.1 b.2.2.1 b.2.2.2.1 (addI a.1 a.2.1 b.1 b.2.1).2.2).2
def subN (a b : Int × Int × Nat × Nat × Bool) : Int × Int × Nat × Nat × Bool :=
  makeN (subI a.1 a.2.1 b.1 b.2.1).1 (subI a.1 a.2.1 b.1 b.2.1).2.1 (subC a.2.2.1 a.2.2.2.1 b.2.2.1 b.2.2.2.1 (subI a.1 a.2.1 b.1 b.2.1).2.2).1 (subC a.2.2.1 a.2.2.2.1 b.2.2.1 b.2.2.2.1 (subI a.1 a.2.1 b.1 b.2.1).2.2).2
theorem negN_mem {a : Int × Int × Nat × Nat × Bool} {x : Int} (hx : In64 x) (ha : MemN a x) : MemN (negN a) (wrap64 (-x)) := by
  have H := neg_hull a.1 a.2.1
  have i := hull_in H (fun v ⟨_, _, e⟩ => by rw [e]; exact wrap64_in _)
  unfold negN
  rw [make_mem i.1 i.2 (wrap64_in _)]
  have m := H.mem ⟨x, ⟨ha.2.1, ha.2.2.1⟩, rfl⟩
  refine ⟨m.1, m.2, neg_memC ha.2.2.2 hx ?_⟩
  cases e : (negI a.1 a.2.1).2.2
  · exact Or.inr ⟨rfl, rfl⟩
  · have n := (neg_exact a.1 a.2.1).1 e x ⟨ha.2.1, ha.2.2.1⟩
    exact Or.inl ⟨wrap64_id n, wrap64_in _⟩
theorem addN_mem {a b : Int × Int × Nat × Nat × Bool} {x y : Int} (ha : MemN a x) (hb : MemN b y) : MemN (addN a b) (wrap64 (x + y)) := by
  have H := add_hull a.1 a.2.1 b.1 b.2.1
  have i := hull_in H (fun v ⟨_, _, _, _, e⟩ => by rw [e]; exact wrap64_in _)
  unfold addN
  rw [make_mem i.1 i.2 (wrap64_in _)]
  have m := H.mem ⟨x, y, ⟨ha.2.1, ha.2.2.1⟩, ⟨hb.2.1, hb.2.2.1⟩, rfl⟩
  refine ⟨m.1, m.2, add_memC ha.2.2.2 hb.2.2.2 ?_⟩
  cases e : (addI a.1 a.2.1 b.1 b.2.1).2.2
  · exact Or.inr ⟨rfl, rfl⟩
  · have n := (add_exact a.1 a.2.1 b.1 b.2.1).1 e x y ⟨ha.2.1, ha.2.2.1⟩ ⟨hb.2.1, hb.2.2.1⟩
    exact Or.inl ⟨wrap64_id n, wrap64_in _⟩
theorem subN_mem {a b : Int × Int × Nat × Nat × Bool} {x y : Int} (ha : MemN a x) (hb : MemN b y) : MemN (subN a b) (wrap64 (x - y)) := by
  have H := sub_hull a.1 a.2.1 b.1 b.2.1
  have i := hull_in H (fun v ⟨_, _, _, _, e⟩ => by rw [e]; exact wrap64_in _)
  unfold subN
  rw [make_mem i.1 i.2 (wrap64_in _)]
  have m := H.mem ⟨x, y, ⟨ha.2.1, ha.2.2.1⟩, ⟨hb.2.1, hb.2.2.1⟩, rfl⟩
  refine ⟨m.1, m.2, sub_memC ha.2.2.2 hb.2.2.2 ?_⟩
  cases e : (subI a.1 a.2.1 b.1 b.2.1).2.2
  · exact Or.inr ⟨rfl, rfl⟩
  · have n := (sub_exact a.1 a.2.1 b.1 b.2.1).1 e x y ⟨ha.2.1, ha.2.2.1⟩ ⟨hb.2.1, hb.2.2.1⟩
    exact Or.inl ⟨wrap64_id n, wrap64_in _⟩
/-- Two single numbers: the result alone. -/
theorem make_one {lo hi : Int} {M R : Nat} {z : Int} (hz : In64 z) (hl : In64 lo) (hh : In64 hi) (h : ∀ v, In64 v → ((lo ≤ v ∧ v ≤ hi ∧ MemC M R v) ↔ v = z)) : makeN lo hi M R = constN z :=
  norm_ext (make_norm hl hh) (const_norm hz) (fun v hv => by rw [make_mem hl hh hv, const_mem hz]; exact h v hv)
end
section
open Go.RowKit
def mulN (a b : Int × Int × Nat × Nat × Bool) : Int × Int × Nat × Nat × Bool :=
  makeN (mulI a.1 a.2.1 b.1 b.2.1).1 (mulI a.1 a.2.1 b.1 b.2.1).2.1 (mulC a.2.2.1 a.2.2.2.1 b.2.2.1 b.2.2.2.1 (mulI a.1 a.2.1 b.1 b.2.1).2.2).1 (mulC a.2.2.1 a.2.2.2.1 b.2.2.1 b.2.2.2.1 (mulI a.1 a.2.1 b.1 b.2.1).2.2).2
theorem mulI_in (al ah bl bh : Int) : In64 (mulI al ah bl bh).1 ∧ In64 (mulI al ah bl bh).2.1 := by
  cases e : (mulI al ah bl bh).2.2
  · unfold mulI at e ⊢
    split at e
    · cases e
    · rename_i h1
      rw [if_neg h1]
      split at e
      · cases e
      · rename_i h2
        rw [if_neg h2]
        split
        · exact ⟨wrap64_in _, wrap64_in _⟩
        · exact ⟨show In64 (-9223372036854775808) by unfold In64; omega, show In64 9223372036854775807 by unfold In64; omega⟩
  · exact hull_in (mul_hull e) (fun v ⟨_, _, _, _, z⟩ => by rw [z]; exact wrap64_in _)
theorem mulN_mem {a b : Int × Int × Nat × Nat × Bool} (ra : RawN a) (rb : RawN b) {x y : Int} (ha : MemN a x) (hb : MemN b y) : MemN (mulN a b) (wrap64 (x * y)) := by
  have i := mulI_in a.1 a.2.1 b.1 b.2.1
  unfold mulN
  rw [make_mem i.1 i.2 (wrap64_in _)]
  have m := mul_mem (al := a.1) (ah := a.2.1) (bl := b.1) (bh := b.2.1) ⟨x, y, ⟨ha.2.1, ha.2.2.1⟩, ⟨hb.2.1, hb.2.2.1⟩, rfl⟩
  refine ⟨m.1, m.2, mul_memC ra.2.2.2 rb.2.2.2 ha.2.2.2 hb.2.2.2 ?_⟩
  cases e : (mulI a.1 a.2.1 b.1 b.2.1).2.2
  · exact Or.inr ⟨rfl, rfl⟩
  · have n := (mul_exact a.1 a.2.1 b.1 b.2.1).1 e x y ⟨ha.2.1, ha.2.2.1⟩ ⟨hb.2.1, hb.2.2.1⟩
    exact Or.inl ⟨wrap64_id n, wrap64_in _⟩
end
section
open Go.RowKit
def divN (a b : Int × Int × Nat × Nat × Bool) : Int × Int × Nat × Nat × Bool :=
  makeN (divI a.1 a.2.1 b.1 b.2.1).1 (divI a.1 a.2.1 b.1 b.2.1).2.1 (divC a.2.2.1 a.2.2.2.1 b.2.2.1 b.2.2.2.1).1 (divC a.2.2.1 a.2.2.2.1 b.2.2.1 b.2.2.2.1).2
def remN (a b : Int × Int × Nat × Nat × Bool) : Int × Int × Nat × Nat × Bool :=
  makeN (remI a.1 a.2.1 b.1 b.2.1).1 (remI a.1 a.2.1 b.1 b.2.1).2.1 (remC a.2.2.1 a.2.2.2.1 b.2.2.1 b.2.2.2.1).1 (remC a.2.2.1 a.2.2.2.1 b.2.2.1 b.2.2.2.1).2
theorem mem_in {a : Int × Int × Nat × Nat × Bool} (ra : RawN a) {x : Int} (h : MemN a x) : In64 x := by
  have p := ra.1; have q := ra.2.1; have r := h.2.1; have s := h.2.2.1
  unfold In64 at *; omega
theorem quo_minus {x y : Int} (hx : In64 x) : wrap64 (x.tdiv y) = if y = -1 then wrap64 (-x) else x.tdiv y := by
  split
  · rename_i e; subst e; rw [Int.tdiv_neg, Int.tdiv_one]
  · rename_i e; exact wrap64_id (tdiv_in64 hx e)
theorem divI_in {al ah bl bh : Int} (ha1 : In64 al) (ha2 : In64 ah) (hb1 : In64 bl) (hb2 : In64 bh) : In64 (divI al ah bl bh).1 ∧ In64 (divI al ah bl bh).2.1 :=
  hull_in (div_hull ha1 ha2 hb1 hb2) (fun v ⟨_, _, _, _, _, e⟩ => by rw [e]; exact wrap64_in _)
theorem divN_mem {a b : Int × Int × Nat × Nat × Bool} (ra : RawN a) (rb : RawN b) {x y : Int} (ha : MemN a x) (hb : MemN b y) (h0 : y ≠ 0) : MemN (divN a b) (wrap64 (x.tdiv y)) := by
  have i := divI_in ra.1 ra.2.1 rb.1 rb.2.1
  unfold divN
  rw [make_mem i.1 i.2 (wrap64_in _)]
  have m := div_mem ra.1 ra.2.1 rb.1 rb.2.1 (show Mem a.1 a.2.1 x from ⟨ha.2.1, ha.2.2.1⟩) (show Mem b.1 b.2.1 y from ⟨hb.2.1, hb.2.2.1⟩) h0
  exact ⟨m.1, m.2, div_memC ha.2.2.2 hb.2.2.2 (mem_in ra ha) h0 (quo_minus (mem_in ra ha))⟩
theorem tmod_in {x y : Int} (hx : In64 x) (h0 : y ≠ 0) : In64 (x.tmod y) := by
  have b := tmod_bd (x := x) h0
  unfold In64 at *
  by_cases c : 0 ≤ x
  · have := b.1 c; omega
  · have := b.2.1 (by omega); omega
theorem remMost_pos {bl bh : Int} (hb1 : In64 bl) (hb2 : In64 bh) (h : ¬ ((rDn bl bh).2 < (rDn bl bh).1 ∧ (rUp bl bh).2 < (rUp bl bh).1)) : 1 ≤ remMost bl bh := by
  obtain ⟨y, hy, h0⟩ : ∃ y, Mem bl bh y ∧ y ≠ 0 := by
    rcases Classical.em (∃ y, Mem bl bh y ∧ y ≠ 0) with k | k
    · exact k
    · exfalso
      apply h
      have z : ∀ y, Mem bl bh y → y = 0 := fun y hy => Classical.byContradiction fun c => k ⟨y, hy, c⟩
      constructor
      · unfold rDn meetI normI
        split
        · simp
        · rename_i c
          have := z bl ⟨Int.le_refl _, by omega⟩
          omega
      · unfold rUp meetI normI
        split
        · simp
        · rename_i c
          have := z bh ⟨by omega, Int.le_refl _⟩
          omega
  have s := rem_side hb1 hb2 hy h0
  have : 1 ≤ farI y := by unfold farI; split <;> omega
  omega
theorem remI_in {al ah bl bh : Int} (ha1 : In64 al) (ha2 : In64 ah) (hb1 : In64 bl) (hb2 : In64 bh) : In64 (remI al ah bl bh).1 ∧ In64 (remI al ah bl bh).2.1 := by
  unfold remI
  split
  · exact ⟨show In64 1 by unfold In64; omega, show In64 0 by unfold In64; omega⟩
  · rename_i h1
    split
    · by_cases c : bl = -1
      · rw [if_pos c]; exact ⟨show In64 0 by unfold In64; omega, show In64 0 by unfold In64; omega⟩
      · rw [if_neg c]
        by_cases z : bl = 0
        · rw [z, Int.tmod_zero]; exact ⟨ha1, ha1⟩
        · exact ⟨tmod_in ha1 z, tmod_in ha1 z⟩
    · split
      · exact ⟨ha1, ha2⟩
      · have p := remMost_pos hb1 hb2 (fun c => h1 (Or.inr c))
        unfold In64 at *
        simp only
        omega
theorem remN_mem {a b : Int × Int × Nat × Nat × Bool} (ra : RawN a) (rb : RawN b) {x y : Int} (ha : MemN a x) (hb : MemN b y) (h0 : y ≠ 0) : MemN (remN a b) (x.tmod y) := by
  have i := remI_in ra.1 ra.2.1 rb.1 rb.2.1
  unfold remN
  rw [make_mem i.1 i.2 (tmod_in (mem_in ra ha) h0)]
  have m := rem_mem rb.1 rb.2.1 (show Mem a.1 a.2.1 x from ⟨ha.2.1, ha.2.2.1⟩) (show Mem b.1 b.2.1 y from ⟨hb.2.1, hb.2.2.1⟩) h0
  exact ⟨m.1, m.2, rem_memC ha.2.2.2 hb.2.2.2 (mem_in ra ha) (mem_in rb hb) h0⟩
/-- An answer of one number that holds z is z alone. -/
theorem make_alone {lo hi : Int} {M R : Nat} {z : Int} (hz : In64 z) (hl : In64 lo) (hh : In64 hi) (m : MemN (makeN lo hi M R) z) (h : M = 0 ∨ lo = hi) : makeN lo hi M R = constN z := by
  have q := (make_mem hl hh hz).1 m
  refine make_one hz hl hh (fun v hv => ⟨fun k => ?_, fun e => by rw [e]; exact q⟩)
  rcases h with h | h
  · subst h
    exact (memC_zero.1 k.2.2).trans (memC_zero.1 q.2.2).symm
  · omega
end
end Go.Proofs.YtgkbegmaffknbaaGreat
