import Derived.Test.YtaocomjhepgabaaRows
import Derived.WalkKit
import Derived.WalkSpells
import Derived.WalkSmall
import Derived.Deep.QuietTactic
import Derived.BigQuiet
import Derived.Deep.RegionHeld3
import Derived.Test.YtaocomjhepgabaaKWf
set_option linter.unusedVariables false
set_option linter.unusedSimpArgs false
set_option linter.unnecessarySimpa false
/- Wok Wh -/
namespace Go.Proofs.Ytaocomjhepgabaa
section
open Go.RowKit
/-- Nothing that lay in w0 has turned. -/
def Ok (w0 w : World) : Prop := Below w0.heap.size w0 w
theorem Ok.refl (w : World) : Ok w w := Below.refl _ _
theorem Ok.step {w0 w w1 : World} (h : Ok w0 w) (hb : Below w.heap.size w w1) : Ok w0 w1 := Below.trans h (hb.mono (Below.size h))
theorem Ok.alloc {w0 w : World} (h : Ok w0 w) (o : Obj) : Ok w0 (w.alloc o) := Below.alloc h (Below.size h) o
theorem Ok.draws {w0 w : World} (h : Ok w0 w) (n : Nat) : Ok w0 (w.drewN n) := below_drewN h n
theorem Ok.set {w0 w : World} (h : Ok w0 w) {p : Addr} (hp : w0.heap.size ≤ p.block) (u : Value) : Ok w0 (w.setCell p u) := Below.setCell h hp u
theorem Ok.le {w0 w : World} (h : Ok w0 w) : w0.heap.size ≤ w.heap.size := Below.size h
theorem heap_new0 (w : World) (o : Obj) : (w.alloc o).heap[w.heap.size]? = some o := by
  show (w.heap.push o)[w.heap.size]? = some o
  simp
theorem heap_at (w : World) (a : Obj) (g : Nat) (h : g = w.heap.size) : (w.alloc a).heap[g]? = some a := by subst h; exact heap_new0 _ _
theorem heap_past (w : World) (a : Obj) (g : Nat) {x : Option Obj} (h : g < w.heap.size) (e : w.heap[g]? = x) : (w.alloc a).heap[g]? = x := by rw [Below.heap_alloc _ _ _ h]; exact e
theorem Ok.row {w0 w : World} (h : Ok w0 w) {g : Nat} {x : Option Obj} (hg : g < w0.heap.size) (e : w0.heap[g]? = x) : w.heap[g]? = x := by rw [Below.block h g hg]; exact e
theorem lt_row {w : World} {g : Nat} {o : Obj} (e : w.heap[g]? = some o) : g < w.heap.size := (Array.getElem?_eq_some_iff.1 e).1
theorem row_facts {w : World} {g : Nat} {u v : Value} {t : TypeId} (h : w.heap[g]? = some (.cells #[u, v] t (0, 0))) :
    w.cell? ⟨g, 0, none⟩ = some u ∧ w.cell? ⟨g, 1, none⟩ = some v ∧ w.frozen? ⟨g, 0, none⟩ = false ∧ w.frozen? ⟨g, 1, none⟩ = false := by
  refine ⟨?_, ?_, frozen_of_row _ _ _ _ _ h, frozen_of_row _ _ _ _ _ h⟩
  · exact (cell_of_row _ _ 0 _ _ _ h).trans (by simp)
  · exact (cell_of_row _ _ 1 _ _ _ h).trans (by simp)
theorem Ok.cell {w0 w : World} (h : Ok w0 w) {p : Addr} {v : Value} (hp : p.block < w0.heap.size) (e : w0.cell? p = some v) : w.cell? p = some v := by rw [Below.cell h hp]; exact e
end
section
open Go.RowKit
/-- The world behind hear. -/
def heard (w : World) (b o m l : Nat) (s : Bool) : World := if s = false ∧ m ≤ l then (w.setCell ⟨b, o + 2, none⟩ (.int .i64 m)).setCell ⟨b, o + 3, none⟩ (.bool true) else w
theorem heard_no {w : World} {b o m l : Nat} {s : Bool} (h : ¬ (s = false ∧ m ≤ l)) : heard w b o m l s = w := if_neg h
theorem heard_yes {w : World} {b o m l : Nat} {s : Bool} (h : s = false ∧ m ≤ l) : heard w b o m l s = (w.setCell ⟨b, o + 2, none⟩ (.int .i64 m)).setCell ⟨b, o + 3, none⟩ (.bool true) := if_pos h
set_option maxHeartbeats 4000000 in
theorem hear_any (w : World) (b o m l : Nat) (lp s : Bool) (hb : b < w.heap.size) (h2 : w.cell? ⟨b, o + 2, none⟩ = some (.int .i64 l)) (h3 : w.cell? ⟨b, o + 3, none⟩ = some (.bool lp)) (h4 : w.cell? ⟨b, o + 4, none⟩ = some (.bool s)) (hw : ∀ k, w.frozen? ⟨b, k, none⟩ = false) :
    Calls Try.prog 30 #[.pointer (some ⟨b, o, none⟩), .int .i64 m] w fun e w' => e = .returned (.tuple #[]) ∧ w' = heard w b o m l s := by
  have hw2 := hw (o + 2)
  have hw3 := hw (o + 3)
  clear hw
  cases s with
  | true =>
    have HE : Hid _ := heard_no (w := w) (b := b) (o := o) (m := m) (l := l) (s := true) (by simp)
    go_enter Try.func30, Try.ntmps30
    go_wp2_with fail
    go_end0
    exact ⟨rfl, HE.out.symm⟩
  | false =>
    by_cases hl : m ≤ l
    · have HE : Hid _ := heard_yes (w := w) (b := b) (o := o) (m := m) (l := l) (s := false) ⟨rfl, hl⟩
      have hd : decide ((m : Int) ≤ (l : Int)) = true := by simpa using hl
      have hl' : (m : Int) ≤ (l : Int) := by omega
      go_enter Try.func30, Try.ntmps30
      go_wp2_with fail
      go_end0
      exact ⟨rfl, HE.out.symm⟩
    · have HE : Hid _ := heard_no (w := w) (b := b) (o := o) (m := m) (l := l) (s := false) (fun h => hl h.2)
      have hd : decide ((m : Int) ≤ (l : Int)) = false := by simpa using hl
      have hl' : ¬ (m : Int) ≤ (l : Int) := by omega
      go_enter Try.func30, Try.ntmps30
      go_wp2_with fail
      go_end0
      exact ⟨rfl, HE.out.symm⟩
end
end Go.Proofs.Ytaocomjhepgabaa
