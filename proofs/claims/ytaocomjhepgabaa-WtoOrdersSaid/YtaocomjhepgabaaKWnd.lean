import Derived.Test.YtaocomjhepgabaaKWnp
set_option linter.unusedVariables false
set_option linter.unusedSimpArgs false
set_option linter.unnecessarySimpa false
/- Wnd -/
namespace Go.Proofs.Ytaocomjhepgabaa
open Go.RowKit Go.Maps
theorem Try.info29 : (Try.prog.info? 29).map (fun i => (i.zero, i.size, i.bytes)) = some (some (.agg #[.int .i64 0, .int .i64 0]), 2, 16) := by kernel_rfl
theorem run_arcs (N : Nat) (h : N ≤ 10000000) (w : World) : (Instr.makeSlice 22 (.int .i64 (N : Int)) (.int .i64 (N : Int))).run Try.prog w = .ok (.slice (some ⟨w.heap.size, 0, none⟩) N N) (w.alloc (.cells (madeCells #[.int .i64 0, .int .i64 0] (N * 2)) 29)) := by
  obtain ⟨i, hi, hz, hs, hb⟩ := info_of Try.info29
  have := run_make (P := Try.prog) w 22 29 i (.agg #[.int .i64 0, .int .i64 0]) Try.underlying22 hi hz .i64 .i64 N N (by omega) (Int.le_refl _) (by rw [hb]; omega) (by omega)
  rw [this]
  simp only [Int.toNat_natCast, hs]
  rfl
/-- Arcs that came in; no arcs may have any address. -/
def SAr (w : World) (ro : Option Addr) (ars : List (Int × Int)) : Prop :=
  ars ≠ [] → ∃ tb o, ro = some ⟨tb, o, none⟩ ∧ tb < w.heap.size ∧ ∀ (i : Nat) (x : Int × Int), ars[i]? = some x → w.cell? ⟨tb, o + i * 2, none⟩ = some (.int .i64 x.1) ∧ w.cell? ⟨tb, o + i * 2 + 1, none⟩ = some (.int .i64 x.2)
theorem SAr.ok {w w1 : World} {ro : Option Addr} {ars : List (Int × Int)} (h : SAr w ro ars) (hb : Ok w w1) : SAr w1 ro ars := by
  intro hne
  obtain ⟨tb, o, e, hlt, hc⟩ := h hne
  exact ⟨tb, o, e, Nat.lt_of_lt_of_le hlt hb.le, fun i x hi => ⟨(Below.cell hb hlt).trans (hc i x hi).1, (Below.cell hb hlt).trans (hc i x hi).2⟩⟩
theorem NS.below {H : Nat} {wS w w1 : World} {vv : Value} {vs : List Int} (h : NS H wS w vv vs) (hb : Below w.heap.size w w1) : NS H wS w1 vv vs := by
  have hg := grown_below hb
  have hlt := h.lt
  have hs := hb.size
  obtain ⟨D, hD, hI⟩ := h.mp
  exact ⟨h.ok.step hb, h.hH, (hb.block _ (by omega)).trans h.b0, (hb.block _ (by omega)).trans h.b1, ⟨D, hD.kept hg (by simp), hI⟩, (hb.block _ (by omega)).trans h.b3, h.vo.kept hg (Classical.em _), by omega⟩
/-- A row of pairs of numbers, as far as it is filled. -/
def Row2 (w : World) (bo E : Nat) (own : List (Nat × Nat)) : Prop := ∃ cur : Array Value, w.heap[bo]? = some (.cells cur 29 (0, 0)) ∧ cur.size = E * 2 ∧ ∀ (k : Nat) (x : Nat × Nat), own[k]? = some x → cur[k * 2]? = some (.int .i64 (x.1 : Nat)) ∧ cur[k * 2 + 1]? = some (.int .i64 (x.2 : Nat))
theorem Row2.kept {w w1 : World} {bo E : Nat} {own : List (Nat × Nat)} (h : Row2 w bo E own) (hb : w1.heap[bo]? = w.heap[bo]?) : Row2 w1 bo E own := by
  obtain ⟨cur, h1, h2, h3⟩ := h
  exact ⟨cur, hb.trans h1, h2, h3⟩
theorem Row2.lt {w : World} {bo E : Nat} {own : List (Nat × Nat)} (h : Row2 w bo E own) : bo < w.heap.size := by
  obtain ⟨cur, h1, h2, h3⟩ := h
  exact lt_row h1
theorem Row2.arcs {w : World} {bo E : Nat} {own : List (Nat × Nat)} (h : Row2 w bo E own) : ArcsAt w bo own := by
  refine ⟨h.lt, fun i x hx => ?_⟩
  obtain ⟨cur, h1, h2, h3⟩ := h
  exact ⟨(cell_of_row _ _ _ _ _ _ h1).trans (h3 i x hx).1, (cell_of_row _ _ _ _ _ _ h1).trans (h3 i x hx).2⟩
theorem Row2.put {w : World} {bo E : Nat} {own : List (Nat × Nat)} (h : Row2 w bo E own) (hl : own.length < E) (a b : Nat) :
    Row2 ((w.setCell ⟨bo, own.length * 2, none⟩ (.int .i64 (a : Nat))).setCell ⟨bo, own.length * 2 + 1, none⟩ (.int .i64 (b : Nat))) bo E (own ++ [(a, b)]) := by
  obtain ⟨cur, h1, h2, h3⟩ := h
  refine ⟨_, heap_setCell_same _ _ _ _ _ _ (heap_setCell_same _ _ _ _ _ _ h1), by simpa using h2, fun k x hx => ?_⟩
  rw [Array.getElem?_setIfInBounds, Array.getElem?_setIfInBounds, Array.getElem?_setIfInBounds, Array.getElem?_setIfInBounds]
  by_cases hk : k < own.length
  · rw [List.getElem?_append_left hk] at hx
    rw [if_neg (by omega), if_neg (by omega), if_neg (by omega), if_neg (by omega)]
    exact h3 k x hx
  · have hk2 : k = own.length := by
      have := (List.getElem?_eq_some_iff.1 hx).1
      simp at this; omega
    subst hk2
    simp at hx
    subst hx
    rw [if_neg (by omega), if_pos rfl, if_pos (by omega), if_pos rfl, if_pos (by simp; omega)]
    exact ⟨rfl, rfl⟩
theorem Row2.cells {w : World} {bo E : Nat} {own : List (Nat × Nat)} (h : Row2 w bo E own) {k : Nat} (hk : k < E) : (∃ u, w.cell? ⟨bo, k * 2, none⟩ = some u) ∧ (∃ u, w.cell? ⟨bo, k * 2 + 1, none⟩ = some u) ∧ ∀ o, w.frozen? ⟨bo, o, none⟩ = false := by
  obtain ⟨cur, h1, h2, h3⟩ := h
  refine ⟨⟨cur[k * 2]'(by omega), (cell_of_row _ _ _ _ _ _ h1).trans (Array.getElem?_eq_getElem _)⟩, ⟨cur[k * 2 + 1]'(by omega), (cell_of_row _ _ _ _ _ _ h1).trans (Array.getElem?_eq_getElem _)⟩, fun o => frozen_of_row _ _ _ _ _ h1⟩
/-- Where the first loop stands. -/
structure LS (H : Nat) (wS w : World) (vv : Value) (vs : List Int) (bo E : Nat) (own : List (Nat × Nat)) : Prop where
  ns : NS H wS w vv vs
  lo : H + 4 ≤ bo
  ap : vv.ownBlock ≠ some bo
  rw2 : Row2 w bo E own
theorem LS.below {H : Nat} {wS w w1 : World} {vv : Value} {vs : List Int} {bo E : Nat} {own : List (Nat × Nat)} (h : LS H wS w vv vs bo E own) (hb : Below w.heap.size w w1) : LS H wS w1 vv vs bo E own :=
  ⟨h.ns.below hb, h.lo, h.ap, h.rw2.kept (hb.block _ h.rw2.lt)⟩
theorem LS.numd {H : Nat} {wS w w1 : World} {vv vv1 : Value} {vs vs1 : List Int} {bo E : Nat} {own : List (Nat × Nat)} (h : LS H wS w vv vs bo E own) (hn : NS H wS w1 vv1 vs1) (hd : Numd H vv vv1 w w1) : LS H wS w1 vv1 vs1 bo E own := by
  have hlo := h.lo
  refine ⟨hn, h.lo, ?_, h.rw2.kept (hd.far bo h.rw2.lt (by omega) (by omega) (fun e => h.ap e.symm))⟩
  rcases hd.at_ with e | ⟨b, e, hb⟩
  · rw [e]; exact h.ap
  · rw [e]; intro e2; injection e2 with e2; have := h.rw2.lt; omega
theorem LS.grown {H : Nat} {wS w W : World} {vv : Value} {vs : List Int} {bo E : Nat} {own own' : List (Nat × Nat)} (h : LS H wS w vv vs bo E own) (hg : w.grownBy W (some bo)) (hr : Row2 W bo E own') : LS H wS W vv vs bo E own' := by
  have hlo := h.lo
  have hH := h.ns.hH
  have hlt := h.ns.lt
  have hsz := hg.size
  obtain ⟨D, hD, hI⟩ := h.ns.mp
  have hk : ∀ k, k < H + 4 → W.heap[k]? = w.heap[k]? := fun k hk => hg.block k (by omega) (fun e => by injection e with e; omega)
  exact ⟨⟨h.ns.ok.grown hg h.ns.ok.le (fun k e => by injection e with e; omega), h.ns.hH, (hk _ (by omega)).trans h.ns.b0, (hk _ (by omega)).trans h.ns.b1, ⟨D, hD.kept hg (fun e => by injection e with e; omega), hI⟩, (hk _ (by omega)).trans h.ns.b3, h.ns.vo.kept hg (.inr h.ap), by omega⟩, h.lo, h.ap, hr⟩
theorem LS.put {H : Nat} {wS w : World} {vv : Value} {vs : List Int} {bo E : Nat} {own : List (Nat × Nat)} (h : LS H wS w vv vs bo E own) (hl : own.length < E) (a b : Nat) :
    LS H wS ((w.setCell ⟨bo, own.length * 2, none⟩ (.int .i64 (a : Nat))).setCell ⟨bo, own.length * 2 + 1, none⟩ (.int .i64 (b : Nat))) vv vs bo E (own ++ [(a, b)]) :=
  LS.grown h (World.grownBy.trans (grown_set w ⟨bo, own.length * 2, none⟩ _) (grown_set _ ⟨bo, own.length * 2 + 1, none⟩ _)) (Row2.put h.rw2 hl a b)
def NW0 (w : World) : World := (((w.alloc (.cells #[.slice none 0 0, .slice none 0 0, .slice none 0 0] 51)).alloc (.cells #[.slice none 0 0, .slice none 0 0, .slice none 0 0] 51)).alloc (.map #[] 0)).alloc (.cells #[.map (some (w.heap.size + 2))] 33)
theorem NW0_ns (w : World) : NS w.heap.size w (NW0 w) (.slice none 0 0) [] := by
  have hsz : (NW0 w).heap.size = w.heap.size + 4 := by simp [NW0]
  refine ⟨by unfold NW0; repeat (first | exact Ok.refl _ | refine Ok.alloc ?_ _), Nat.le_refl _, ?_, ?_, ⟨.map [], ?_, MapIs.nil⟩, ?_, World.ownsRow_nil _ _ _ _, by rw [hsz]; exact Nat.le_refl _⟩
  · unfold NW0; exact (by repeat (first | (refine heap_at _ _ _ ?hx; case hx => (first | (simp; done) | (simp; omega))) | (refine heap_past _ _ _ ?hy ?_; case hy => (first | (simp; done) | (simp; omega))) | fail))
  · unfold NW0; exact (by repeat (first | (refine heap_at _ _ _ ?hx; case hx => (first | (simp; done) | (simp; omega))) | (refine heap_past _ _ _ ?hy ?_; case hy => (first | (simp; done) | (simp; omega))) | fail))
  · unfold NW0
    have := World.ownsMap_made ((w.alloc (.cells #[.slice none 0 0, .slice none 0 0, .slice none 0 0] 51)).alloc (.cells #[.slice none 0 0, .slice none 0 0, .slice none 0 0] 51)) Try.prog 3 (plainElem (H := Unit) Try.prog 3)
    have h2 := this.alloc (.cells #[.map (some (w.heap.size + 2))] 33)
    simpa using h2
  · unfold NW0; exact (by repeat (first | (refine heap_at _ _ _ ?hx; case hx => (first | (simp; done) | (simp; omega))) | (refine heap_past _ _ _ ?hy ?_; case hy => (first | (simp; done) | (simp; omega))) | fail))
end Go.Proofs.Ytaocomjhepgabaa
