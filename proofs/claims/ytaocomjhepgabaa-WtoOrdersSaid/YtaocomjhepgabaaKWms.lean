import Derived.Deep.AppendLies
import Derived.OwnWalk
import Derived.Test.YtaocomjhepgabaaKWh
set_option linter.unusedVariables false
set_option linter.unusedSimpArgs false
set_option linter.unnecessarySimpa false
/- Wms -/
namespace Go.Proofs.Ytaocomjhepgabaa
open Go.RowKit
structure GD where
  N : Nat
  E : Nat
  b1 : Nat
  b2 : Nat
  b3 : Nat
  c1 : Nat
  c2 : Nat
  c3 : Nat
  vs : Nat → Int
  bg : Nat → Nat
  en : Nat → Nat
  succ : Nat → List Nat
/-- The graph as it lies in a world. -/
structure GOk (g : GD) (w : World) : Prop where
  l1 : g.b1 < w.heap.size
  l2 : g.b2 < w.heap.size
  l3 : g.b3 < w.heap.size
  k1 : ∀ i, i < g.N → w.cell? ⟨g.b1, i, none⟩ = some (.int .i64 (g.vs i))
  k2 : ∀ i, i < g.E → w.cell? ⟨g.b2, i, none⟩ = some (.int .i64 (g.en i))
  k3 : ∀ i, i < g.N + 1 → w.cell? ⟨g.b3, i, none⟩ = some (.int .i64 (g.bg i))
  up : ∀ i, i < g.N → g.bg (i + 1) = g.bg i + (g.succ i).length ∧ g.bg (i + 1) ≤ g.E
  at_ : ∀ i, i < g.N → ∀ r (h : r < (g.succ i).length), g.en (g.bg i + r) = (g.succ i)[r]
  nE : g.E ≤ 1000000
  nN : g.N ≤ 1000000
  n1 : 0 < g.N
theorem GOk.ok {g : GD} {w w' : World} (h : GOk g w) (hb : Ok w w') : GOk g w' :=
  ⟨Nat.lt_of_lt_of_le h.l1 hb.le, Nat.lt_of_lt_of_le h.l2 hb.le, Nat.lt_of_lt_of_le h.l3 hb.le, fun i hi => hb.cell (p := ⟨g.b1, i, none⟩) h.l1 (h.k1 i hi), fun i hi => hb.cell (p := ⟨g.b2, i, none⟩) h.l2 (h.k2 i hi), fun i hi => hb.cell (p := ⟨g.b3, i, none⟩) h.l3 (h.k3 i hi), h.up, h.at_, h.nE, h.nN, h.n1⟩
def arcOf (g : GD) (c : Cl Nat) : Nat := g.bg (c.v + 1) - c.rest.length
def cl5 (g : GD) (c : Cl Nat) : List Value := [.int .i64 (c.v : Nat), .int .i64 (arcOf g c : Nat), .int .i64 (c.least : Nat), .bool c.loop, .bool c.second]
def callCells (g : GD) : List (Cl Nat) → List Value
  | [] => []
  | c :: r => callCells g r ++ cl5 g c
def stkCells : List Nat → List Value
  | [] => []
  | c :: r => stkCells r ++ [.int .i64 (c : Nat)]
def el3 (g : GD) (x : Nat × Nat × Bool) : List Value := [.int .i64 (g.vs x.1), .int .i64 (x.2.1 : Nat), .bool x.2.2]
def elCells (g : GD) : List (Nat × Nat × Bool) → List Value
  | [] => []
  | c :: r => elCells g r ++ el3 g c
theorem callCells_len (g : GD) : ∀ cs, (callCells g cs).length = cs.length * 5
  | [] => rfl
  | c :: r => by simp [callCells, cl5, callCells_len g r]; omega
theorem stkCells_len : ∀ cs, (stkCells cs).length = cs.length
  | [] => rfl
  | c :: r => by simp [stkCells, stkCells_len r]
def mkRow (N : Nat) (m : Nat → Nat) : Array Value := ((List.range N).map (fun i => Value.int .i64 (m i : Nat))).toArray
theorem mkRow_get (N : Nat) (m : Nat → Nat) (i : Nat) (h : i < N) : (mkRow N m)[i]? = some (.int .i64 (m i : Nat)) := by simp [mkRow, h]
theorem mkRow_set (N : Nat) (m : Nat → Nat) (u k : Nat) : (mkRow N m).setIfInBounds u (.int .i64 (k : Nat)) = mkRow N (upd m u k) := by
  apply Array.ext_getElem?
  intro i
  rw [Array.getElem?_setIfInBounds]
  by_cases hi : i < N
  · rw [mkRow_get _ _ i hi, mkRow_get _ _ i hi]
    by_cases e : u = i
    · subst e
      simp [upd, mkRow, hi]
    · rw [if_neg e]
      have e' : ¬ i = u := fun h => e h.symm
      simp [upd, e']
  · have h1 : (mkRow N m)[i]? = none := by simp [mkRow]; omega
    have h2 : (mkRow N (upd m u k))[i]? = none := by simp [mkRow]; omega
    rw [h1, h2]
    split
    · rename_i e
      subst e
      simp [mkRow, hi]
    · rfl
theorem grown_set (w : World) (a : Addr) (u : Value) : w.grownBy (w.setCell a u) (some a.block) :=
  ⟨rfl, rfl, rfl, by simp, fun k _ hk => Below.heap_setCell w a u k (fun e => hk (by rw [e]))⟩
theorem grown_below {w w' : World} (h : Below w.heap.size w w') : w.grownBy w' none := ⟨h.os, h.tape, h.output, h.size, fun k hk _ => h.block k hk⟩
/-- The state of order in a world: boxes from H on, rows behind them. -/
structure MS (g : GD) (H : Nat) (wS w : World) (vc vk vl : Value) (S : St Nat) : Prop where
  ok : Ok wS w
  hH : wS.heap.size ≤ H
  gk : GOk g wS
  b0 : w.heap[H]? = some (.cells #[.slice (some ⟨g.b1, 0, none⟩) g.N g.c1, .slice (some ⟨g.b2, 0, none⟩) g.E g.c2, .slice (some ⟨g.b3, 0, none⟩) (g.N + 1) g.c3] 51 (0, 0))
  b1 : w.heap[H + 1]? = some (.cells #[vc] 62 (0, 0))
  b2 : w.heap[H + 2]? = some (.cells #[vk] 32 (0, 0))
  b3 : w.heap[H + 3]? = some (.cells #[vl] 23 (0, 0))
  b4 : w.heap[H + 4]? = some (.cells #[.int .i64 (S.depth : Nat)] 3 (0, 0))
  b5 : w.heap[H + 5]? = some (.cells (mkRow g.N S.marks) 3 (0, 0))
  b6 : w.heap[H + 6]? = some (.cells #[.slice (some ⟨H + 5, 0, none⟩) g.N g.N] 63 (0, 0))
  b7 : w.heap[H + 7]? = some (.cells #[.int .i64 (S.count : Nat)] 3 (0, 0))
  b8 : w.heap[H + 8]? = some (.cells #[.func (.func 24) #[] #[.pointer (some ⟨H + 3, 0, none⟩), .pointer (some ⟨H, 0, none⟩), .pointer (some ⟨H + 4, 0, none⟩)]] 64 (0, 0))
  b9 : w.heap[H + 9]? = some (.cells #[.func (.func 26) #[] #[.pointer (some ⟨H + 4, 0, none⟩), .pointer (some ⟨H, 0, none⟩)]] 69 (0, 0))
  co : w.ownsRow (H + 10) 66 5 vc S.calls.length (callCells g S.calls)
  so : w.ownsRow (H + 10) 3 1 vk S.stack.length (stkCells S.stack)
  lo : w.ownsRow (H + 10) 35 3 vl S.list.length (elCells g S.list)
  a1 : vc.ownBlock = none ∨ vc.ownBlock ≠ vk.ownBlock
  a2 : vc.ownBlock = none ∨ vc.ownBlock ≠ vl.ownBlock
  a3 : vk.ownBlock = none ∨ vk.ownBlock ≠ vl.ownBlock
  lt : H + 10 ≤ w.heap.size
theorem ne_low {w : World} {B e s n : Nat} {v : Value} {xs : List Value} (h : w.ownsRow B e s v n xs) {k : Nat} (hk : k < B) : v.ownBlock = none ∨ v.ownBlock ≠ some k := by
  cases hq : v.ownBlock with
  | none => exact .inl rfl
  | some b => exact .inr (fun e => by injection e with e; have := (h.lt b hq).1; omega)
theorem apart_symm {a b : Option Nat} (h : a = none ∨ a ≠ b) : b = none ∨ b ≠ a := by
  cases hb : b with
  | none => exact .inl rfl
  | some x => rcases h with h | h
              · exact .inr (by rw [h]; simp)
              · exact .inr (fun e => h (by rw [hb, e]))
theorem MS.setDepth {g : GD} {H : Nat} {wS w : World} {vc vk vl : Value} {S : St Nat} (h : MS g H wS w vc vk vl S) (d : Nat) : MS g H wS (w.setCell ⟨H + 4, 0, none⟩ (.int .i64 (d : Nat))) vc vk vl ⟨S.calls, S.stack, S.list, d, S.marks, S.count⟩ := by
  have hH := h.hH
  refine ⟨h.ok.set (p := ⟨H + 4, 0, none⟩) (by show wS.heap.size ≤ H + 4; omega) _, h.hH, h.gk, (heap_setCell_other _ _ _ _ (by show H ≠ H + 4; omega)).trans h.b0, (heap_setCell_other _ _ _ _ (by show H + 1 ≠ H + 4; omega)).trans h.b1, (heap_setCell_other _ _ _ _ (by show H + 2 ≠ H + 4; omega)).trans h.b2, (heap_setCell_other _ _ _ _ (by show H + 3 ≠ H + 4; omega)).trans h.b3, ?_, (heap_setCell_other _ _ _ _ (by show H + 5 ≠ H + 4; omega)).trans h.b5, (heap_setCell_other _ _ _ _ (by show H + 6 ≠ H + 4; omega)).trans h.b6, (heap_setCell_other _ _ _ _ (by show H + 7 ≠ H + 4; omega)).trans h.b7, (heap_setCell_other _ _ _ _ (by show H + 8 ≠ H + 4; omega)).trans h.b8, (heap_setCell_other _ _ _ _ (by show H + 9 ≠ H + 4; omega)).trans h.b9, h.co.kept (grown_set w _ _) (ne_low h.co (by show H + 4 < H + 10; omega)), h.so.kept (grown_set w _ _) (ne_low h.so (by show H + 4 < H + 10; omega)), h.lo.kept (grown_set w _ _) (ne_low h.lo (by show H + 4 < H + 10; omega)), h.a1, h.a2, h.a3, by simpa using h.lt⟩
  exact (heap_setCell_same _ _ _ _ _ _ h.b4).trans (by simp)
theorem MS.setCount {g : GD} {H : Nat} {wS w : World} {vc vk vl : Value} {S : St Nat} (h : MS g H wS w vc vk vl S) (d : Nat) : MS g H wS (w.setCell ⟨H + 7, 0, none⟩ (.int .i64 (d : Nat))) vc vk vl ⟨S.calls, S.stack, S.list, S.depth, S.marks, d⟩ := by
  have hH := h.hH
  refine ⟨h.ok.set (p := ⟨H + 7, 0, none⟩) (by show wS.heap.size ≤ H + 7; omega) _, h.hH, h.gk, (heap_setCell_other _ _ _ _ (by show H ≠ H + 7; omega)).trans h.b0, (heap_setCell_other _ _ _ _ (by show H + 1 ≠ H + 7; omega)).trans h.b1, (heap_setCell_other _ _ _ _ (by show H + 2 ≠ H + 7; omega)).trans h.b2, (heap_setCell_other _ _ _ _ (by show H + 3 ≠ H + 7; omega)).trans h.b3, (heap_setCell_other _ _ _ _ (by show H + 4 ≠ H + 7; omega)).trans h.b4, (heap_setCell_other _ _ _ _ (by show H + 5 ≠ H + 7; omega)).trans h.b5, (heap_setCell_other _ _ _ _ (by show H + 6 ≠ H + 7; omega)).trans h.b6, ?_, (heap_setCell_other _ _ _ _ (by show H + 8 ≠ H + 7; omega)).trans h.b8, (heap_setCell_other _ _ _ _ (by show H + 9 ≠ H + 7; omega)).trans h.b9, h.co.kept (grown_set w _ _) (ne_low h.co (by show H + 7 < H + 10; omega)), h.so.kept (grown_set w _ _) (ne_low h.so (by show H + 7 < H + 10; omega)), h.lo.kept (grown_set w _ _) (ne_low h.lo (by show H + 7 < H + 10; omega)), h.a1, h.a2, h.a3, by simpa using h.lt⟩
  exact (heap_setCell_same _ _ _ _ _ _ h.b7).trans (by simp)
theorem MS.setMark {g : GD} {H : Nat} {wS w : World} {vc vk vl : Value} {S : St Nat} (h : MS g H wS w vc vk vl S) (u d : Nat) : MS g H wS (w.setCell ⟨H + 5, u, none⟩ (.int .i64 (d : Nat))) vc vk vl ⟨S.calls, S.stack, S.list, S.depth, upd S.marks u d, S.count⟩ := by
  have hH := h.hH
  refine ⟨h.ok.set (p := ⟨H + 5, u, none⟩) (by show wS.heap.size ≤ H + 5; omega) _, h.hH, h.gk, (heap_setCell_other _ _ _ _ (by show H ≠ H + 5; omega)).trans h.b0, (heap_setCell_other _ _ _ _ (by show H + 1 ≠ H + 5; omega)).trans h.b1, (heap_setCell_other _ _ _ _ (by show H + 2 ≠ H + 5; omega)).trans h.b2, (heap_setCell_other _ _ _ _ (by show H + 3 ≠ H + 5; omega)).trans h.b3, (heap_setCell_other _ _ _ _ (by show H + 4 ≠ H + 5; omega)).trans h.b4, ?_, (heap_setCell_other _ _ _ _ (by show H + 6 ≠ H + 5; omega)).trans h.b6, (heap_setCell_other _ _ _ _ (by show H + 7 ≠ H + 5; omega)).trans h.b7, (heap_setCell_other _ _ _ _ (by show H + 8 ≠ H + 5; omega)).trans h.b8, (heap_setCell_other _ _ _ _ (by show H + 9 ≠ H + 5; omega)).trans h.b9, h.co.kept (grown_set w _ _) (ne_low h.co (by show H + 5 < H + 10; omega)), h.so.kept (grown_set w _ _) (ne_low h.so (by show H + 5 < H + 10; omega)), h.lo.kept (grown_set w _ _) (ne_low h.lo (by show H + 5 < H + 10; omega)), h.a1, h.a2, h.a3, by simpa using h.lt⟩
  exact (heap_setCell_same _ _ _ _ _ _ h.b5).trans (by rw [mkRow_set])
theorem MS.putC {g : GD} {H : Nat} {wS w w1 : World} {vc vk vl u : Value} {S : St Nat} {X : List (Cl Nat)} (h : MS g H wS w vc vk vl S) (hg : w.grownBy w1 vc.ownBlock) (ho : w1.ownsRow (H + 10) 66 5 u X.length (callCells g X)) (hw : u.ownBlock = vc.ownBlock ∨ ∃ b, u.ownBlock = some b ∧ w.heap.size ≤ b) : MS g H wS (w1.setCell ⟨H + 1, 0, none⟩ u) u vk vl ⟨X, S.stack, S.list, S.depth, S.marks, S.count⟩ := by
  have hH := h.hH
  have hlt := h.lt
  have hsz := hg.size
  have hb : ∀ k, k < H + 10 → w1.heap[k]? = w.heap[k]? := fun k hk => hg.block k (by omega) (fun e => by have := (h.co.lt k e.symm).1; omega)
  refine ⟨(h.ok.grown hg h.ok.le (fun b e => by have := (h.co.lt b e).1; omega)).setCell (p := ⟨H + 1, 0, none⟩) (by show wS.heap.size ≤ H + 1; omega) _, h.hH, h.gk, (heap_setCell_other _ _ _ _ (by show H ≠ H + 1; omega)).trans ((hb _ (by omega)).trans h.b0), (heap_setCell_same _ _ _ _ _ _ ((hb _ (by omega)).trans h.b1)).trans (by simp), (heap_setCell_other _ _ _ _ (by show H + 2 ≠ H + 1; omega)).trans ((hb _ (by omega)).trans h.b2), (heap_setCell_other _ _ _ _ (by show H + 3 ≠ H + 1; omega)).trans ((hb _ (by omega)).trans h.b3), (heap_setCell_other _ _ _ _ (by show H + 4 ≠ H + 1; omega)).trans ((hb _ (by omega)).trans h.b4), (heap_setCell_other _ _ _ _ (by show H + 5 ≠ H + 1; omega)).trans ((hb _ (by omega)).trans h.b5), (heap_setCell_other _ _ _ _ (by show H + 6 ≠ H + 1; omega)).trans ((hb _ (by omega)).trans h.b6), (heap_setCell_other _ _ _ _ (by show H + 7 ≠ H + 1; omega)).trans ((hb _ (by omega)).trans h.b7), (heap_setCell_other _ _ _ _ (by show H + 8 ≠ H + 1; omega)).trans ((hb _ (by omega)).trans h.b8), (heap_setCell_other _ _ _ _ (by show H + 9 ≠ H + 1; omega)).trans ((hb _ (by omega)).trans h.b9), ho.kept (grown_set w1 _ _) (ne_low ho (by show H + 1 < H + 10; omega)), ((h.so.kept hg (apart_symm h.a1)).kept (grown_set w1 _ _) (ne_low h.so (by show H + 1 < H + 10; omega))), ((h.lo.kept hg (apart_symm h.a2)).kept (grown_set w1 _ _) (ne_low h.lo (by show H + 1 < H + 10; omega))), apart_symm (?qvcvk), apart_symm (?qvcvl), h.a3, by simp; omega⟩
  case qvcvk =>
    rcases hw with hw | ⟨b, hw, hbb⟩
    · rw [hw]; exact (apart_symm h.a1)
    · rw [hw]
      cases hq : vk.ownBlock with
      | none => exact .inl rfl
      | some c => exact .inr (fun e => by injection e with e; have := (h.so.lt c hq).2; omega)
  case qvcvl =>
    rcases hw with hw | ⟨b, hw, hbb⟩
    · rw [hw]; exact (apart_symm h.a2)
    · rw [hw]
      cases hq : vl.ownBlock with
      | none => exact .inl rfl
      | some c => exact .inr (fun e => by injection e with e; have := (h.lo.lt c hq).2; omega)
theorem MS.putK {g : GD} {H : Nat} {wS w w1 : World} {vc vk vl u : Value} {S : St Nat} {X : List Nat} (h : MS g H wS w vc vk vl S) (hg : w.grownBy w1 vk.ownBlock) (ho : w1.ownsRow (H + 10) 3 1 u X.length (stkCells X)) (hw : u.ownBlock = vk.ownBlock ∨ ∃ b, u.ownBlock = some b ∧ w.heap.size ≤ b) : MS g H wS (w1.setCell ⟨H + 2, 0, none⟩ u) vc u vl ⟨S.calls, X, S.list, S.depth, S.marks, S.count⟩ := by
  have hH := h.hH
  have hlt := h.lt
  have hsz := hg.size
  have hb : ∀ k, k < H + 10 → w1.heap[k]? = w.heap[k]? := fun k hk => hg.block k (by omega) (fun e => by have := (h.so.lt k e.symm).1; omega)
  refine ⟨(h.ok.grown hg h.ok.le (fun b e => by have := (h.so.lt b e).1; omega)).setCell (p := ⟨H + 2, 0, none⟩) (by show wS.heap.size ≤ H + 2; omega) _, h.hH, h.gk, (heap_setCell_other _ _ _ _ (by show H ≠ H + 2; omega)).trans ((hb _ (by omega)).trans h.b0), (heap_setCell_other _ _ _ _ (by show H + 1 ≠ H + 2; omega)).trans ((hb _ (by omega)).trans h.b1), (heap_setCell_same _ _ _ _ _ _ ((hb _ (by omega)).trans h.b2)).trans (by simp), (heap_setCell_other _ _ _ _ (by show H + 3 ≠ H + 2; omega)).trans ((hb _ (by omega)).trans h.b3), (heap_setCell_other _ _ _ _ (by show H + 4 ≠ H + 2; omega)).trans ((hb _ (by omega)).trans h.b4), (heap_setCell_other _ _ _ _ (by show H + 5 ≠ H + 2; omega)).trans ((hb _ (by omega)).trans h.b5), (heap_setCell_other _ _ _ _ (by show H + 6 ≠ H + 2; omega)).trans ((hb _ (by omega)).trans h.b6), (heap_setCell_other _ _ _ _ (by show H + 7 ≠ H + 2; omega)).trans ((hb _ (by omega)).trans h.b7), (heap_setCell_other _ _ _ _ (by show H + 8 ≠ H + 2; omega)).trans ((hb _ (by omega)).trans h.b8), (heap_setCell_other _ _ _ _ (by show H + 9 ≠ H + 2; omega)).trans ((hb _ (by omega)).trans h.b9), ((h.co.kept hg h.a1).kept (grown_set w1 _ _) (ne_low h.co (by show H + 2 < H + 10; omega))), ho.kept (grown_set w1 _ _) (ne_low ho (by show H + 2 < H + 10; omega)), ((h.lo.kept hg (apart_symm h.a3)).kept (grown_set w1 _ _) (ne_low h.lo (by show H + 2 < H + 10; omega))), ?qvcvk, h.a2, apart_symm (?qvkvl), by simp; omega⟩
  case qvcvk =>
    rcases hw with hw | ⟨b, hw, hbb⟩
    · rw [hw]; exact h.a1
    · rw [hw]
      cases hq : vc.ownBlock with
      | none => exact .inl rfl
      | some c => exact .inr (fun e => by injection e with e; have := (h.co.lt c hq).2; omega)
  case qvkvl =>
    rcases hw with hw | ⟨b, hw, hbb⟩
    · rw [hw]; exact (apart_symm h.a3)
    · rw [hw]
      cases hq : vl.ownBlock with
      | none => exact .inl rfl
      | some c => exact .inr (fun e => by injection e with e; have := (h.lo.lt c hq).2; omega)
theorem MS.putL {g : GD} {H : Nat} {wS w w1 : World} {vc vk vl u : Value} {S : St Nat} {X : List (Nat × Nat × Bool)} (h : MS g H wS w vc vk vl S) (hg : w.grownBy w1 vl.ownBlock) (ho : w1.ownsRow (H + 10) 35 3 u X.length (elCells g X)) (hw : u.ownBlock = vl.ownBlock ∨ ∃ b, u.ownBlock = some b ∧ w.heap.size ≤ b) : MS g H wS (w1.setCell ⟨H + 3, 0, none⟩ u) vc vk u ⟨S.calls, S.stack, X, S.depth, S.marks, S.count⟩ := by
  have hH := h.hH
  have hlt := h.lt
  have hsz := hg.size
  have hb : ∀ k, k < H + 10 → w1.heap[k]? = w.heap[k]? := fun k hk => hg.block k (by omega) (fun e => by have := (h.lo.lt k e.symm).1; omega)
  refine ⟨(h.ok.grown hg h.ok.le (fun b e => by have := (h.lo.lt b e).1; omega)).setCell (p := ⟨H + 3, 0, none⟩) (by show wS.heap.size ≤ H + 3; omega) _, h.hH, h.gk, (heap_setCell_other _ _ _ _ (by show H ≠ H + 3; omega)).trans ((hb _ (by omega)).trans h.b0), (heap_setCell_other _ _ _ _ (by show H + 1 ≠ H + 3; omega)).trans ((hb _ (by omega)).trans h.b1), (heap_setCell_other _ _ _ _ (by show H + 2 ≠ H + 3; omega)).trans ((hb _ (by omega)).trans h.b2), (heap_setCell_same _ _ _ _ _ _ ((hb _ (by omega)).trans h.b3)).trans (by simp), (heap_setCell_other _ _ _ _ (by show H + 4 ≠ H + 3; omega)).trans ((hb _ (by omega)).trans h.b4), (heap_setCell_other _ _ _ _ (by show H + 5 ≠ H + 3; omega)).trans ((hb _ (by omega)).trans h.b5), (heap_setCell_other _ _ _ _ (by show H + 6 ≠ H + 3; omega)).trans ((hb _ (by omega)).trans h.b6), (heap_setCell_other _ _ _ _ (by show H + 7 ≠ H + 3; omega)).trans ((hb _ (by omega)).trans h.b7), (heap_setCell_other _ _ _ _ (by show H + 8 ≠ H + 3; omega)).trans ((hb _ (by omega)).trans h.b8), (heap_setCell_other _ _ _ _ (by show H + 9 ≠ H + 3; omega)).trans ((hb _ (by omega)).trans h.b9), ((h.co.kept hg h.a2).kept (grown_set w1 _ _) (ne_low h.co (by show H + 3 < H + 10; omega))), ((h.so.kept hg h.a3).kept (grown_set w1 _ _) (ne_low h.so (by show H + 3 < H + 10; omega))), ho.kept (grown_set w1 _ _) (ne_low ho (by show H + 3 < H + 10; omega)), h.a1, ?qvcvl, ?qvkvl, by simp; omega⟩
  case qvcvl =>
    rcases hw with hw | ⟨b, hw, hbb⟩
    · rw [hw]; exact h.a2
    · rw [hw]
      cases hq : vc.ownBlock with
      | none => exact .inl rfl
      | some c => exact .inr (fun e => by injection e with e; have := (h.co.lt c hq).2; omega)
  case qvkvl =>
    rcases hw with hw | ⟨b, hw, hbb⟩
    · rw [hw]; exact h.a3
    · rw [hw]
      cases hq : vk.ownBlock with
      | none => exact .inl rfl
      | some c => exact .inr (fun e => by injection e with e; have := (h.so.lt c hq).2; omega)
theorem MS.setC {g : GD} {H : Nat} {wS w : World} {vk vl : Value} {S : St Nat} {gc n cap o : Nat} {u : Value} {X : List (Cl Nat)} (h : MS g H wS w (.slice (some ⟨gc, 0, none⟩) n cap) vk vl S) (hl : X.length = S.calls.length) (hx : callCells g X = (callCells g S.calls).set o u) : MS g H wS (w.setCell ⟨gc, o, none⟩ u) (.slice (some ⟨gc, 0, none⟩) n cap) vk vl ⟨X, S.stack, S.list, S.depth, S.marks, S.count⟩ := by
  have hH := h.hH
  have hgc := (h.co.lt gc rfl)
  have hg := grown_set w ⟨gc, o, none⟩ u
  refine ⟨h.ok.set (p := ⟨gc, o, none⟩) (by show wS.heap.size ≤ gc; omega) _, h.hH, h.gk, (heap_setCell_other _ _ _ _ (by show H ≠ gc; omega)).trans h.b0, (heap_setCell_other _ _ _ _ (by show H + 1 ≠ gc; omega)).trans h.b1, (heap_setCell_other _ _ _ _ (by show H + 2 ≠ gc; omega)).trans h.b2, (heap_setCell_other _ _ _ _ (by show H + 3 ≠ gc; omega)).trans h.b3, (heap_setCell_other _ _ _ _ (by show H + 4 ≠ gc; omega)).trans h.b4, (heap_setCell_other _ _ _ _ (by show H + 5 ≠ gc; omega)).trans h.b5, (heap_setCell_other _ _ _ _ (by show H + 6 ≠ gc; omega)).trans h.b6, (heap_setCell_other _ _ _ _ (by show H + 7 ≠ gc; omega)).trans h.b7, (heap_setCell_other _ _ _ _ (by show H + 8 ≠ gc; omega)).trans h.b8, (heap_setCell_other _ _ _ _ (by show H + 9 ≠ gc; omega)).trans h.b9, ?_, h.so.kept hg (apart_symm h.a1), h.lo.kept hg (apart_symm h.a2), h.a1, h.a2, h.a3, by simpa using h.lt⟩
  rcases h.co.2 with ⟨e, _⟩ | ⟨g', cp, cur, e, h1, h2, h3, h4, h5, h6⟩
  · cases e
  · injection e with e1 e2 e3
    injection e1 with e1
    injection e1 with e1
    subst e1 e3
    refine ⟨by rw [callCells_len], .inr ⟨gc, cap, _, by show Value.slice _ n cap = .slice _ X.length cap; rw [hl, e2], h1, heap_setCell_same _ _ _ _ _ _ h2, by rw [hl]; exact h3, h4, by simpa using h5, ?_⟩⟩
    show _ = callCells g X
    rw [hx, ← h6, hl]
    simp [List.take_set]
theorem MS.below {g : GD} {H : Nat} {wS w w1 : World} {vc vk vl : Value} {S : St Nat} (h : MS g H wS w vc vk vl S) (hb : Below w.heap.size w w1) : MS g H wS w1 vc vk vl S := by
  have hg := grown_below hb
  have hlt := h.lt
  have hs := hb.size
  have hn : ∀ v : Value, v.ownBlock = none ∨ v.ownBlock ≠ none := fun v => by cases v.ownBlock <;> simp
  refine ⟨h.ok.step hb, h.hH, h.gk, (hb.block _ (by omega)).trans h.b0, (hb.block _ (by omega)).trans h.b1, (hb.block _ (by omega)).trans h.b2, (hb.block _ (by omega)).trans h.b3, (hb.block _ (by omega)).trans h.b4, (hb.block _ (by omega)).trans h.b5, (hb.block _ (by omega)).trans h.b6, (hb.block _ (by omega)).trans h.b7, (hb.block _ (by omega)).trans h.b8, (hb.block _ (by omega)).trans h.b9, h.co.kept hg (hn _), h.so.kept hg (hn _), h.lo.kept hg (hn _), h.a1, h.a2, h.a3, by omega⟩
theorem MS.alloc {g : GD} {H : Nat} {wS w : World} {vc vk vl : Value} {S : St Nat} (h : MS g H wS w vc vk vl S) (o : Obj) : MS g H wS (w.alloc o) vc vk vl S := h.below ((Below.refl _ _).alloc (Nat.le_refl _) o)
theorem MS.draws {g : GD} {H : Nat} {wS w : World} {vc vk vl : Value} {S : St Nat} (h : MS g H wS w vc vk vl S) (n : Nat) : MS g H wS (w.drewN n) vc vk vl S := h.below (below_drewN (Below.refl _ _) n)
/-- A row of one's own, cut down. -/
theorem own_cut {w : World} {B e s n m cap gc : Nat} {xs ys : List Value} (h : w.ownsRow B e s (.slice (some ⟨gc, 0, none⟩) n cap) n (xs ++ ys)) (hm : m ≤ n) (hx : xs.length = m * s) : w.ownsRow B e s (.slice (some ⟨gc, 0, none⟩) m cap) m xs := by
  rcases h.2 with ⟨e, _⟩ | ⟨g', cp, cur, e, h1, h2, h3, h4, h5, h6⟩
  · cases e
  · injection e with e1 e2 e3
    injection e1 with e1
    injection e1 with e1
    subst e1 e3
    refine ⟨hx, .inr ⟨gc, cap, cur, rfl, h1, h2, by omega, h4, h5, ?_⟩⟩
    have := congrArg (List.take (m * s)) h6
    rw [List.take_take, Nat.min_eq_left (Nat.mul_le_mul_right _ hm), ← hx, List.take_left] at this
    rw [← hx]; exact this
theorem MS.midC {g : GD} {H : Nat} {wS w w1 : World} {vc vk vl : Value} {S : St Nat} (h : MS g H wS w vc vk vl S) (hg : w.grownBy w1 vc.ownBlock) : w1.cell? ⟨H + 1, 0, none⟩ = some vc ∧ w1.frozen? ⟨H + 1, 0, none⟩ = false ∧ H + 10 ≤ w1.heap.size ∧ ∀ k, k < H + 10 → w1.heap[k]? = w.heap[k]? := by
  have hlt := h.lt
  have hsz := hg.size
  have hb : ∀ k, k < H + 10 → w1.heap[k]? = w.heap[k]? := fun k hk => hg.block k (by omega) (fun e => by have := (h.co.lt k e.symm).1; omega)
  have hq := (hb (H + 1) (by omega)).trans h.b1
  exact ⟨(cell_of_row _ _ 0 _ _ _ hq).trans (by simp), frozen_of_row _ _ _ _ _ hq, by omega, hb⟩
theorem MS.midK {g : GD} {H : Nat} {wS w w1 : World} {vc vk vl : Value} {S : St Nat} (h : MS g H wS w vc vk vl S) (hg : w.grownBy w1 vk.ownBlock) : w1.cell? ⟨H + 2, 0, none⟩ = some vk ∧ w1.frozen? ⟨H + 2, 0, none⟩ = false ∧ H + 10 ≤ w1.heap.size ∧ ∀ k, k < H + 10 → w1.heap[k]? = w.heap[k]? := by
  have hlt := h.lt
  have hsz := hg.size
  have hb : ∀ k, k < H + 10 → w1.heap[k]? = w.heap[k]? := fun k hk => hg.block k (by omega) (fun e => by have := (h.so.lt k e.symm).1; omega)
  have hq := (hb (H + 2) (by omega)).trans h.b2
  exact ⟨(cell_of_row _ _ 0 _ _ _ hq).trans (by simp), frozen_of_row _ _ _ _ _ hq, by omega, hb⟩
theorem MS.midL {g : GD} {H : Nat} {wS w w1 : World} {vc vk vl : Value} {S : St Nat} (h : MS g H wS w vc vk vl S) (hg : w.grownBy w1 vl.ownBlock) : w1.cell? ⟨H + 3, 0, none⟩ = some vl ∧ w1.frozen? ⟨H + 3, 0, none⟩ = false ∧ H + 10 ≤ w1.heap.size ∧ ∀ k, k < H + 10 → w1.heap[k]? = w.heap[k]? := by
  have hlt := h.lt
  have hsz := hg.size
  have hb : ∀ k, k < H + 10 → w1.heap[k]? = w.heap[k]? := fun k hk => hg.block k (by omega) (fun e => by have := (h.lo.lt k e.symm).1; omega)
  have hq := (hb (H + 3) (by omega)).trans h.b3
  exact ⟨(cell_of_row _ _ 0 _ _ _ hq).trans (by simp), frozen_of_row _ _ _ _ _ hq, by omega, hb⟩
end Go.Proofs.Ytaocomjhepgabaa
