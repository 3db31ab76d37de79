import Derived.Test.YtaocomjhepgabaaKDk
set_option linter.unusedVariables false
set_option linter.unusedSimpArgs false
set_option linter.unnecessarySimpa false
/- Dm -/
namespace Go.Proofs.Ytaocomjhepgabaa
open Go.RowKit Go.Maps Go.ChangeShapes Go.WideShapes
theorem SEl.own {w : World} {B n : Nat} {ao : Option Addr} {c : Nat} {xs : List (Int × Int × Bool)} (h : w.ownsRow B 35 3 (.slice ao n c) n (fl xs)) : SEl w ao xs := by
  obtain ⟨_, ao', cap, e, hs⟩ := SEl.of h
  injection e with e1
  subst e1
  exact hs
def V3 (a b c : Value) : Nat → Value
  | 0 => a
  | 1 => b
  | _ => c
def N3 (a b c : Nat) : Nat → Nat
  | 0 => a
  | 1 => b
  | _ => c
def Y3 (a b c : List (Int × Int × Bool)) : Nat → List (Int × Int × Bool)
  | 0 => a
  | 1 => b
  | _ => c
/-- The marks of the k-th list. -/
def MK (k n : Nat) : List (Int × Int × Bool) := (List.range n).map (fun (i : Nat) => (-1 - (k : Int), (i : Int), false))
theorem MK_succ (k n : Nat) : MK k (n + 1) = MK k n ++ [(-1 - (k : Int), (n : Int), false)] := by unfold MK; rw [List.range_succ, List.map_append]; rfl
theorem MK_get {k n i : Nat} (h : i < n) : (MK k n)[i]? = some (-1 - (k : Int), (i : Int), false) := by unfold MK; simp [h]
theorem MK_zero (k : Nat) : MK k 0 = [] := rfl
/-- Three rows of elements, and the list of them. -/
structure AL (w : World) (B gl : Nat) (W : World) (v : Nat → Value) (N : Nat → Nat) (y : Nat → List (Int × Int × Bool)) (wr : World) : Prop where
  ok : Ok w wr
  sz : W.heap.size ≤ wr.heap.size
  far : ∀ b, b < W.heap.size → (∀ j, j < 3 → some b ≠ (v j).ownBlock) → wr.heap[b]? = W.heap[b]?
  own : ∀ j, j < 3 → wr.ownsRow B 35 3 (v j) (N j) (fl (y j))
  ap : ∀ i j, i < 3 → j < 3 → i ≠ j → (v i).ownBlock = none ∨ (v i).ownBlock ≠ (v j).ownBlock
  all : W.heap[gl]? = some (.cells #[v 0, v 1, v 2] 23 (0, 0))
  ng : ∀ j, j < 3 → some gl ≠ (v j).ownBlock
  hB : w.heap.size ≤ B
  lt : ∀ j, j < 3 → ∀ b, (v j).ownBlock = some b → b < W.heap.size
  hW : w.heap.size ≤ W.heap.size
section
variable {w : World} {B gl : Nat} {W : World} {v : Nat → Value} {N : Nat → Nat} {y : Nat → List (Int × Int × Bool)} {wr : World}
theorem AL.len (h : AL w B gl W v N y wr) {j : Nat} (hj : j < 3) : (y j).length = N j := by
  have := (h.own j hj).1
  rw [fl_len] at this
  omega
theorem AL.cell (h : AL w B gl W v N y wr) {k : Nat} (hk : k < 3) : wr.cell? ⟨gl, k, none⟩ = some (v k) := by
  have hg : wr.heap[gl]? = some (.cells #[v 0, v 1, v 2] 23 (0, 0)) := (h.far gl (lt_row h.all) h.ng).trans h.all
  refine (cell_of_row _ _ k _ _ _ hg).trans ?_
  rcases (show k = 0 ∨ k = 1 ∨ k = 2 by omega) with rfl | rfl | rfl <;> rfl
theorem AL.lg (h : AL w B gl W v N y wr) : gl < wr.heap.size := Nat.lt_of_lt_of_le (lt_row h.all) h.sz
theorem AL.below (h : AL w B gl W v N y wr) {w' : World} (hb : Below wr.heap.size wr w') : AL w B gl W v N y w' :=
  ⟨h.ok.step hb, Nat.le_trans h.sz hb.size, fun b h1 h2 => (hb.block b (Nat.lt_of_lt_of_le h1 h.sz)).trans (h.far b h1 h2), fun j hj => (h.own j hj).kept (grown_below hb) (Classical.em _), h.ap, h.all, h.ng, h.hB, h.lt, h.hW⟩
def putY (y : Nat → List (Int × Int × Bool)) (k : Nat) (l : List (Int × Int × Bool)) : Nat → List (Int × Int × Bool) := fun j => if j = k then l else y j
theorem AL.set (h : AL w B gl W v N y wr) {k : Nat} (hk : k < 3) {g cap : Nat} (hv : v k = .slice (some ⟨g, 0, none⟩) (N k) cap) (i : Nat) (x : Int × Int × Bool) : AL w B gl W v N (putY y k ((y k).set i x)) (set3 wr g i x) := by
  have hgr : wr.grownBy (set3 wr g i x) (some g) := grown_set3 (World.grownBy.refl _ _)
  have hob : (v k).ownBlock = some g := by rw [hv]; rfl
  have hgB := ((h.own k hk).lt g hob).1
  have hwB := h.hB
  refine ⟨Below.grown h.ok hgr h.ok.le (fun b e => by injection e with e; omega), Nat.le_trans h.sz hgr.size, fun b h1 h2 => (hgr.block b (Nat.lt_of_lt_of_le h1 h.sz) (by rw [← hob]; exact h2 k hk)).trans (h.far b h1 h2), fun j hj => ?_, h.ap, h.all, h.ng, h.hB, h.lt, h.hW⟩
  unfold putY
  by_cases e : j = k
  · subst e
    rw [if_pos rfl, hv]
    have := h.own j hk
    rw [hv] at this
    exact own_set3 this i x
  · rw [if_neg e]
    refine (h.own j hj).kept hgr ?_
    rw [← hob]
    exact h.ap j k hj hk e
theorem AL.row (h : AL w B gl W v N y wr) {k : Nat} (hk : k < 3) : ∃ ao cap, v k = .slice ao (N k) cap := own_form (h.own k hk)
theorem AL.rowS (h : AL w B gl W v N y wr) {k : Nat} (hk : k < 3) (hN : 0 < N k) : ∃ g cap, v k = .slice (some ⟨g, 0, none⟩) (N k) cap ∧ g < wr.heap.size := by
  obtain ⟨g, cap, e, _, hl⟩ := (h.own k hk).form hN
  exact ⟨g, cap, e, hl⟩
end
/-- How far the marks are written. -/
structure WI (w : World) (B gl : Nat) (W : World) (v : Nat → Value) (N : Nat → Nat) (k i : Nat) (wr : World) : Prop where
  ex : ∃ y, AL w B gl W v N y wr ∧ (∀ j, j < k → j < 3 → y j = MK j (N j)) ∧ (y k).take i = MK k i
theorem WI.next {w : World} {B gl : Nat} {W : World} {v : Nat → Value} {N : Nat → Nat} {k i : Nat} {wr : World} (h : WI w B gl W v N k i wr) (hk : k < 3) (hi : i < N k) {g cap : Nat} (hv : v k = .slice (some ⟨g, 0, none⟩) (N k) cap) : WI w B gl W v N k (i + 1) (set3 wr g i (-1 - (k : Int), (i : Int), false)) := by
  obtain ⟨y, h1, h2, h3⟩ := h.ex
  refine ⟨_, h1.set hk hv i _, fun j hj h3 => ?_, ?_⟩
  · unfold putY; rw [if_neg (by omega)]; exact h2 j hj h3
  · unfold putY
    rw [if_pos rfl, MK_succ, ← h3]
    have hl := h1.len hk
    rw [List.take_succ_eq_append_getElem (by rw [List.length_set]; omega)]
    congr 1
    · rw [List.take_set_of_le (Nat.le_refl _)]
    · rw [List.getElem_set_self]
theorem WI.up {w : World} {B gl : Nat} {W : World} {v : Nat → Value} {N : Nat → Nat} {k : Nat} {wr : World} (h : WI w B gl W v N k (N k) wr) (hk : k < 3) : WI w B gl W v N (k + 1) 0 wr := by
  obtain ⟨y, h1, h2, h3⟩ := h.ex
  refine ⟨y, h1, fun j hj hj3 => ?_, by simp [MK_zero]⟩
  by_cases e : j = k
  · subst e
    rw [List.take_of_length_le (by rw [h1.len hk]; exact Nat.le_refl _)] at h3
    exact h3
  · exact h2 j (by omega) hj3
theorem WI.below {w : World} {B gl : Nat} {W : World} {v : Nat → Value} {N : Nat → Nat} {k i : Nat} {wr w' : World} (h : WI w B gl W v N k i wr) (hb : Below wr.heap.size wr w') : WI w B gl W v N k i w' := by
  obtain ⟨y, h1, h2, h3⟩ := h.ex
  exact ⟨y, h1.below hb, h2, h3⟩
theorem WI.cells {w : World} {B gl : Nat} {W : World} {v : Nat → Value} {N : Nat → Nat} {k i : Nat} {wr : World} (h : WI w B gl W v N k i wr) (hk : k < 3) : wr.cell? ⟨gl, k, none⟩ = some (v k) ∧ gl < wr.heap.size ∧ ∃ ao cap, v k = .slice ao (N k) cap := by
  obtain ⟨y, h1, h2, h3⟩ := h.ex
  exact ⟨h1.cell hk, h1.lg, h1.row hk⟩
theorem WI.elem {w : World} {B gl : Nat} {W : World} {v : Nat → Value} {N : Nat → Nat} {k i : Nat} {wr : World} (h : WI w B gl W v N k i wr) (hk : k < 3) (hi : i < N k) {ao : Option Addr} {cap : Nat} (hv : v k = .slice ao (N k) cap) :
    ∃ g, ao = some ⟨g, 0, none⟩ ∧ g < wr.heap.size ∧ (∃ u0 u1 u2, wr.cell? ⟨g, i * 3, none⟩ = some u0 ∧ wr.cell? ⟨g, i * 3 + 1, none⟩ = some u1 ∧ wr.cell? ⟨g, i * 3 + 2, none⟩ = some u2) ∧ ∀ o, wr.frozen? ⟨g, o, none⟩ = false := by
  obtain ⟨y, h1, h2, h3⟩ := h.ex
  obtain ⟨g, c, e, hl⟩ := h1.rowS hk (by omega)
  rw [hv] at e
  injection e with e1 _ e3
  subst e1 e3
  have ho := h1.own k hk
  rw [hv] at ho
  obtain ⟨x, hx⟩ : ∃ x, (y k)[i]? = some x := ⟨(y k)[i]'(by rw [h1.len hk]; exact hi), List.getElem?_eq_getElem _⟩
  obtain ⟨a, b, c, d, _⟩ := own_cell3 ho hx
  exact ⟨g, rfl, hl, ⟨_, _, _, a, b, c⟩, d⟩
theorem WI.start {w w1 w3 w4 w5 w6 w10 : World} {va vb vc : Value} {X1 X2 : List (Int × Int × Bool)} (ha : w4.ownsRow w3.heap.size 35 3 va X1.length (fl X1)) (hb : w5.ownsRow w4.heap.size 35 3 vb X2.length (fl X2)) (hc : w6.ownsRow w5.heap.size 35 3 vc X1.length (fl X1)) (k1 : Ok w w1) (k13 : Ok w1 w3) (k34 : Ok w3 w4) (k45 : Ok w4 w5) (k56 : Ok w5 w6) (k60 : Ok w6 w10) :
    WI w w1.heap.size w10.heap.size (w10.alloc (.cells #[va, vb, vc] 23)) (V3 va vb vc) (N3 X1.length X2.length X1.length) 0 0 (w10.alloc (.cells #[va, vb, vc] 23)) := by
  have s1 := k13.le
  have s2 := k34.le
  have s3 := k45.le
  have s4 := k56.le
  have s5 := k60.le
  have la := ha.lt
  have lb := hb.lt
  have lc := hc.lt
  refine ⟨Y3 X1 X2 X1, ⟨((((k1.step k13).step k34).step k45).step k56).step k60 |>.alloc _, Nat.le_refl _, fun b _ _ => rfl, ?_, ?_, heap_new0 _ _, ?_, k1.le, ?_, ?_⟩, fun j hj => absurd hj (Nat.not_lt_zero _), rfl⟩
  · intro j hj
    rcases (show j = 0 ∨ j = 1 ∨ j = 2 by omega) with rfl | rfl | rfl
    · exact ((own_base ha (by omega)).kept (grown_below ((k45.step k56).step k60)) (Classical.em _)).alloc _
    · exact ((own_base hb (by omega)).kept (grown_below (k56.step k60)) (Classical.em _)).alloc _
    · exact ((own_base hc (by omega)).kept (grown_below k60) (Classical.em _)).alloc _
  · have key : ∀ (x y : Value) (p q r s : Nat), (∀ k, x.ownBlock = some k → p ≤ k ∧ k < q) → (∀ k, y.ownBlock = some k → r ≤ k ∧ k < s) → (q ≤ r ∨ s ≤ p) → x.ownBlock = none ∨ x.ownBlock ≠ y.ownBlock := by
      intro x y p q r s h1 h2 h3
      cases hx : x.ownBlock with
      | none => exact .inl rfl
      | some b =>
        right
        intro e
        have h4 := h1 b hx
        have h5 := h2 b e.symm
        omega
    intro i j hi hj hne
    rcases (show i = 0 ∨ i = 1 ∨ i = 2 by omega) with rfl | rfl | rfl <;> rcases (show j = 0 ∨ j = 1 ∨ j = 2 by omega) with rfl | rfl | rfl
    · exact absurd rfl hne
    · exact key _ _ _ _ _ _ la lb (.inl (Nat.le_refl _))
    · exact key _ _ _ _ _ _ la lc (.inl (by omega))
    · exact key _ _ _ _ _ _ lb la (.inr (Nat.le_refl _))
    · exact absurd rfl hne
    · exact key _ _ _ _ _ _ lb lc (.inl (Nat.le_refl _))
    · exact key _ _ _ _ _ _ lc la (.inr (by omega))
    · exact key _ _ _ _ _ _ lc lb (.inr (Nat.le_refl _))
    · exact absurd rfl hne
  · intro j hj e
    rcases (show j = 0 ∨ j = 1 ∨ j = 2 by omega) with rfl | rfl | rfl
    · have := la _ e.symm; omega
    · have := lb _ e.symm; omega
    · have := lc _ e.symm; omega
  · intro j hj b hb
    have hs : (w10.alloc (.cells #[va, vb, vc] 23)).heap.size = w10.heap.size + 1 := by simp
    rcases (show j = 0 ∨ j = 1 ∨ j = 2 by omega) with rfl | rfl | rfl
    · have := la b hb; omega
    · have := lb b hb; omega
    · have := lc b hb; omega
  · have hs : (w10.alloc (.cells #[va, vb, vc] 23)).heap.size = w10.heap.size + 1 := by simp
    have := k1.le
    omega
end Go.Proofs.Ytaocomjhepgabaa
