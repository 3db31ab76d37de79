import Derived.Test.YtjngjanheoeojaaDoorShape
import Derived.OwnWalk
import Derived.Laws.OwnMore
namespace Go.Proofs.YtjngjanheoeojaaDoor
set_option linter.unusedVariables false
set_option linter.unusedSimpArgs false
open Go.RowKit
/-- The cells of a stack of open nodes: depth, kind, has. -/
def flatS : Nat → List Hold → List Value
  | _, [] => []
  | j, h :: t => .int .i64 ((j : Int) + 1) :: .int .i64 h.1 :: .int .i64 h.2 :: flatS (j + 1) t
theorem flat_len (j : Nat) (S : List Hold) : (flatS j S).length = S.length * 3 := by
  induction S generalizing j with
  | nil => rfl
  | cons h t ih => simp only [flatS, List.length_cons, ih]; omega
theorem flat_append (j : Nat) (A B : List Hold) : flatS j (A ++ B) = flatS j A ++ flatS (j + A.length) B := by
  induction A generalizing j with
  | nil => simp [flatS]
  | cons h t ih =>
    simp only [flatS, List.cons_append, ih, List.length_cons]
    rw [show j + 1 + t.length = j + (t.length + 1) by omega]
theorem flat_get (j : Nat) (S : List Hold) (i : Nat) (h : i < S.length) : (flatS j S)[i * 3]? = some (.int .i64 ((j : Int) + i + 1)) ∧ (flatS j S)[i * 3 + 1]? = some (.int .i64 S[i].1) ∧ (flatS j S)[i * 3 + 2]? = some (.int .i64 S[i].2) := by
  induction S generalizing j i with
  | nil => simp at h
  | cons a t ih =>
    cases i with
    | zero => simp [flatS]
    | succ i =>
      have := ih (j + 1) i (by simpa using h)
      simp only [flatS]
      rw [show (i + 1) * 3 = i * 3 + 1 + 1 + 1 by omega]
      simp only [List.getElem?_cons_succ, List.getElem_cons_succ]
      refine ⟨this.1.trans (by congr 2; push_cast; omega), this.2.1, this.2.2⟩
theorem flat_set (j : Nat) (S : List Hold) (i : Nat) (h : i < S.length) (v : Nat) : (flatS j S).set (i * 3 + 2) (.int .i64 v) = flatS j (S.set i (S[i].1, v)) := by
  induction S generalizing j i with
  | nil => simp at h
  | cons a t ih =>
    cases i with
    | zero => simp [flatS]
    | succ i =>
      have := ih (j + 1) i (by simpa using h)
      simp only [flatS, List.set_cons_succ, List.getElem_cons_succ]
      rw [show (i + 1) * 3 = (i * 3 + 2) + 1 by omega]
      simp only [List.set_cons_succ, this]
def wantsR (S : List Hold) : Bool := S.any fun h => decide ((h.2 : Int) < wantR h.1)
/-- A node lies in a block of its own. -/
structure NodeAt (w : World) (b : Nat) (n : Nd) : Prop where
  c0 : w.cell? ⟨b, 0, none⟩ = some (.int .i64 n.depth)
  c1 : w.cell? ⟨b, 1, none⟩ = some (.int .i64 n.kind)
  c2 : w.cell? ⟨b, 2, none⟩ = some (.string n.name)
  c3 : w.cell? ⟨b, 3, none⟩ = some (.int .i64 n.num)
  c4 : w.cell? ⟨b, 4, none⟩ = some (.int .i64 n.op)
  c5 : w.cell? ⟨b, 5, none⟩ = some (.int .i64 n.pos)
theorem NodeAt.of {w w1 : World} {b : Nat} {n : Nd} (h : NodeAt w b n) (hc : ∀ o, w1.cell? ⟨b, o, none⟩ = w.cell? ⟨b, o, none⟩) : NodeAt w1 b n :=
  ⟨by rw [hc]; exact h.c0, by rw [hc]; exact h.c1, by rw [hc]; exact h.c2, by rw [hc]; exact h.c3, by rw [hc]; exact h.c4, by rw [hc]; exact h.c5⟩
def sliceLen : Value → Nat
  | .slice _ n _ => n
  | _ => 0
/-- The stack: a row of the call's own. -/
def Stk (w : World) (B : Nat) (v : Value) (S : List Hold) : Prop := w.ownsRow B 64 3 v S.length (flatS 0 S)
theorem Stk.form {w : World} {B : Nat} {v : Value} {S : List Hold} (h : Stk w B v S) (hn : 0 < S.length) : ∃ g cap, v = .slice (some ⟨g, 0, none⟩) S.length cap ∧ B ≤ g ∧ g < w.heap.size := by
  rcases h.2 with ⟨_, h0⟩ | ⟨g, cap, cur, hv, hg, hh, _⟩
  · omega
  · refine ⟨g, cap, hv, hg, ?_⟩
    rcases Nat.lt_or_ge g w.heap.size with h | h
    · exact h
    · rw [Array.getElem?_eq_none h] at hh; cases hh
theorem Stk.len {w : World} {B : Nat} {v : Value} {S : List Hold} (h : Stk w B v S) : sliceLen v = S.length := by
  rcases h.2 with ⟨rfl, h0⟩ | ⟨g, cap, cur, rfl, _⟩
  · exact h0.symm
  · rfl
theorem Stk.below {w w1 : World} {B : Nat} {v : Value} {S : List Hold} (h : Stk w B v S) (hb : Below w.heap.size w w1) : Stk w1 B v S := by
  refine ⟨h.1, ?_⟩
  rcases h.2 with h0 | ⟨g, cap, cur, hv, hg, hh, hr⟩
  · exact .inl h0
  · refine .inr ⟨g, cap, cur, hv, hg, ?_, hr⟩
    rw [hb.block g ?_]; exact hh
    rcases Nat.lt_or_ge g w.heap.size with h | h
    · exact h
    · rw [Array.getElem?_eq_none h] at hh; cases hh
theorem Stk.pop {w : World} {B g cap : Nat} {S : List Hold} {m : Nat} (hm : m + 1 ≤ S.length) (h : Stk w B (.slice (some ⟨g, 0, none⟩) (m + 1) cap) (S.take (m + 1))) : Stk w B (.slice (some ⟨g, 0, none⟩) m cap) (S.take m) := by
  have e : S.take (m + 1) = S.take m ++ [S[m]] := List.take_succ_eq_append_getElem (by omega)
  have l1 : (S.take (m + 1)).length = m + 1 := by rw [List.length_take]; omega
  have l0 : (S.take m).length = m := by rw [List.length_take]; omega
  unfold Stk at *
  rw [l1, e, flat_append] at h
  rw [l0]
  exact ownsRow_pop (by rw [flat_len, l0]) h
end Go.Proofs.YtjngjanheoeojaaDoor
