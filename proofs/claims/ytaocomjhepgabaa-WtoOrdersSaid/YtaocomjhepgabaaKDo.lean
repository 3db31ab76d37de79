import Derived.Test.YtaocomjhepgabaaKDn
set_option linter.unusedVariables false
set_option linter.unusedSimpArgs false
set_option linter.unnecessarySimpa false
/- Do -/
namespace Go.Proofs.Ytaocomjhepgabaa
open Go.RowKit Go.Maps Go.ChangeShapes Go.WideShapes
def sw2 (x : Int × Int) : Int × Int := (x.2, x.1)
theorem pr_set : ∀ (z : List (Int × Int)) (k : Nat) (x : Int × Int), pr (z.set k x) = ((pr z).set (k * 2) (.int .i64 x.1)).set (k * 2 + 1) (.int .i64 x.2)
  | [], k, x => by simp [pr]
  | y :: z, 0, x => by simp [pr]
  | y :: z, k + 1, x => by
    rw [show (k + 1) * 2 = k * 2 + 1 + 1 by omega]
    simp only [List.set_cons_succ, pr]
    rw [pr_set z k x]
/-- How many arcs are turned. -/
structure TI (w : World) (m gw cw : Nat) (ts : List (Int × Int)) (i : Nat) (wr : World) : Prop where
  ok : Ok w wr
  ex : ∃ z, z.length = m + 1 ∧ z.take i = (ts.take i).map sw2 ∧ wr.ownsRow w.heap.size 29 2 (.slice (some ⟨gw, 0, none⟩) (m + 1) cw) (m + 1) (pr z)
theorem TI.below {w : World} {m gw cw : Nat} {ts : List (Int × Int)} {i : Nat} {wr w' : World} (h : TI w m gw cw ts i wr) (hb : Below wr.heap.size wr w') : TI w m gw cw ts i w' := by
  obtain ⟨z, h1, h2, h3⟩ := h.ex
  exact ⟨h.ok.step hb, z, h1, h2, h3.kept (grown_below hb) (Classical.em _)⟩
theorem TI.next {w : World} {m gw cw : Nat} {ts : List (Int × Int)} {i : Nat} {wr : World} (h : TI w m gw cw ts i wr) (hm : m = ts.length) (hi : i < m) {x : Int × Int} (hx : ts[i]? = some x) : TI w m gw cw ts (i + 1) ((wr.setCell ⟨gw, i * 2, none⟩ (.int .i64 x.2)).setCell ⟨gw, i * 2 + 1, none⟩ (.int .i64 x.1)) := by
  obtain ⟨z, h1, h2, h3⟩ := h.ex
  have hgw := (h3.lt gw rfl).1
  refine ⟨(h.ok.set (p := ⟨gw, i * 2, none⟩) hgw _).set (p := ⟨gw, i * 2 + 1, none⟩) hgw _, z.set i (sw2 x), by rw [List.length_set]; exact h1, ?_, ?_⟩
  · rw [List.take_succ_eq_append_getElem (by rw [List.length_set]; omega), List.take_set_of_le (Nat.le_refl _), List.getElem_set_self, h2, List.take_add_one, hx]
    simp
  · rw [pr_set]
    exact (World.ownsRow.stored (World.ownsRow.stored h3 (i * 2) _).1 (i * 2 + 1) _).1
theorem TI.cells {w : World} {m gw cw : Nat} {ts : List (Int × Int)} {i : Nat} {wr : World} (h : TI w m gw cw ts i wr) (hi : i < m) : gw < wr.heap.size ∧ w.heap.size ≤ gw ∧ (∃ u0 u1, wr.cell? ⟨gw, i * 2, none⟩ = some u0 ∧ wr.cell? ⟨gw, i * 2 + 1, none⟩ = some u1) ∧ ∀ o, wr.frozen? ⟨gw, o, none⟩ = false := by
  obtain ⟨z, h1, h2, h3⟩ := h.ex
  have hl := h3.lt gw rfl
  obtain ⟨p0, p1⟩ := pr_get z i (z[i]'(by omega)) (List.getElem?_eq_getElem _)
  have c0 := h3.cells (g := gw) rfl _ _ p0
  have c1 := h3.cells (g := gw) rfl _ _ p1
  rw [add_off, Nat.zero_add] at c0 c1
  exact ⟨hl.2, hl.1, ⟨_, _, c0, c1⟩, fun o => World.ownsRow.frozenAt h3 o⟩
theorem TI.done {w : World} {m gw cw : Nat} {ts : List (Int × Int)} {wr : World} (h : TI w m gw cw ts m wr) (hm : m = ts.length) : SAr wr (some ⟨gw, 0, none⟩) (ts.map sw2) := by
  obtain ⟨z, h1, h2, h3⟩ := h.ex
  rw [← h1] at h3
  obtain ⟨_, ao, cap, e, hs⟩ := SAr.of h3
  injection e with e1
  subst e1
  have := hs.take m
  rw [h2, hm, List.take_length] at this
  exact this
theorem GI.lent {w : World} {B gl : Nat} {W : World} {V : Nat → Value} {N : Nat → Nat} {k : Nat} {lv : Value} {u : Nat → Value} {wr : World} {C e s n : Nat} {v : Value} {xs : List Value} {gw : Nat} (h : GI w B gl W V N k lv u wr) (ho : W.ownsRow C e s v n xs) (hv : v.ownBlock = some gw) (hg : gw < B) : wr.ownsRow C e s v n xs := by
  refine own_same ho (fun b hb => ?_)
  rw [hv] at hb
  injection hb with hb
  subst hb
  refine h.al.far gw (ho.lt gw hv).2 (fun j hj e => ?_)
  have := ((h.al.own j hj).lt gw e.symm).1
  omega
end Go.Proofs.Ytaocomjhepgabaa
