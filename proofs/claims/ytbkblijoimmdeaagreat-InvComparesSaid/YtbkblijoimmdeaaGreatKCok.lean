import Derived.Test.YtbkblijoimmdeaaGreatRows
import Derived.WalkKit
import Derived.WalkSpells
import Derived.WalkSmall
import Derived.Deep.QuietTactic
import Derived.BigQuiet
import Derived.Deep.RegionHeld3
import Derived.Test.YtbkblijoimmdeaaGreatKCdef
set_option linter.unusedVariables false
set_option linter.unusedSimpArgs false
set_option linter.unnecessarySimpa false
/- Cok -/
namespace Go.Proofs.YtbkblijoimmdeaaGreat
open Go.RowKit
/-- Nothing that lay in w0 has turned. -/
def Ok (w0 w : World) : Prop := Below w0.heap.size w0 w
theorem Ok.refl (w : World) : Ok w w := Below.refl _ _
theorem Ok.step {w0 w w1 : World} (h : Ok w0 w) (hb : Below w.heap.size w w1) : Ok w0 w1 := Below.trans h (hb.mono (Below.size h))
theorem Ok.alloc {w0 w : World} (h : Ok w0 w) (o : Obj) : Ok w0 (w.alloc o) := Below.alloc h (Below.size h) o
theorem Ok.draws {w0 w : World} (h : Ok w0 w) (n : Nat) : Ok w0 (w.drewN n) := below_drewN h n
theorem Ok.set {w0 w : World} (h : Ok w0 w) {p : Addr} (hp : w0.heap.size ≤ p.block) (u : Value) : Ok w0 (w.setCell p u) := Below.setCell h hp u
theorem Ok.le {w0 w : World} (h : Ok w0 w) : w0.heap.size ≤ w.heap.size := Below.size h
theorem retb {a b : Bool} (h : a = b) : Ending.returned (.bool a) = .returned (.bool b) := by rw [h]
theorem reti {l h : Int} {p : Int × Int} (e : p = (l, h)) : Ending.returned (.agg #[.int .i64 l, .int .i64 h]) = .returned (.agg #[.int .i64 p.1, .int .i64 p.2]) := by rw [e]
theorem retib {l h : Int} {b : Bool} {p : Int × Int × Bool} (e : p = (l, h, b)) : Ending.returned (.tuple #[.agg #[.int .i64 l, .int .i64 h], .bool b]) = .returned (.tuple #[.agg #[.int .i64 p.1, .int .i64 p.2.1], .bool p.2.2]) := by rw [e]
theorem heap_new0 (w : World) (o : Obj) : (w.alloc o).heap[w.heap.size]? = some o := by
  show (w.heap.push o)[w.heap.size]? = some o
  simp
theorem heap_at (w : World) (a : Obj) (g : Nat) (h : g = w.heap.size) : (w.alloc a).heap[g]? = some a := by subst h; exact heap_new0 _ _
theorem heap_past (w : World) (a : Obj) (g : Nat) {x : Option Obj} (h : g < w.heap.size) (e : w.heap[g]? = x) : (w.alloc a).heap[g]? = x := by rw [Below.heap_alloc _ _ _ h]; exact e
theorem Ok.row {w0 w : World} (h : Ok w0 w) {g : Nat} {x : Option Obj} (hg : g < w0.heap.size) (e : w0.heap[g]? = x) : w.heap[g]? = x := by rw [Below.block h g hg]; exact e
theorem row_set2 {w : World} {g : Nat} {u v : Value} {t : TypeId} (hg : w.heap[g]? = some (.cells #[u, v] t (0, 0))) (x y : Value) : ((w.setCell ⟨g, 0, none⟩ x).setCell ⟨g, 1, none⟩ y).heap[g]? = some (.cells #[x, y] t (0, 0)) := by
  have h1 := heap_setCell_same w g 0 _ t x hg
  have h2 := heap_setCell_same _ g 1 _ t y h1
  simpa using h2
theorem Ok.row' {w0 w : World} (h : Ok w0 w) {g : Nat} {o : Obj} (e : w0.heap[g]? = some o) : w.heap[g]? = some o :=
  Ok.row h ((Array.getElem?_eq_some_iff.1 e).1) e
theorem lt_row {w : World} {g : Nat} {o : Obj} (e : w.heap[g]? = some o) : g < w.heap.size := (Array.getElem?_eq_some_iff.1 e).1
theorem row_facts {w : World} {g : Nat} {u v : Value} {t : TypeId} (h : w.heap[g]? = some (.cells #[u, v] t (0, 0))) :
    w.cell? ⟨g, 0, none⟩ = some u ∧ w.cell? ⟨g, 1, none⟩ = some v ∧ w.frozen? ⟨g, 0, none⟩ = false ∧ w.frozen? ⟨g, 1, none⟩ = false := by
  refine ⟨?_, ?_, frozen_of_row _ _ _ _ _ h, frozen_of_row _ _ _ _ _ h⟩
  · exact (cell_of_row _ _ 0 _ _ _ h).trans (by simp)
  · exact (cell_of_row _ _ 1 _ _ _ h).trans (by simp)
theorem Ok.cell {w0 w : World} (h : Ok w0 w) {p : Addr} {v : Value} (hp : p.block < w0.heap.size) (e : w0.cell? p = some v) : w.cell? p = some v := by rw [Below.cell h hp]; exact e
theorem results_iv {P : Program} {fn : Func} {p u : Tmp} {ty : TypeId} (h : fn.results = #[.cell p ty, .tmp u]) (tmps : Array Value) (w : World) (g : Nat) (t : TypeId) (cs : Array Value) (fr : Nat × Nat) (d : TypeDesc)
    (hp : tmps.getD p undef = .pointer (some ⟨g, 0, none⟩)) (hg : w.heap[g]? = some (.cells cs t fr))
    (hu : P.underlying ty = some d) (hd : (match d with | .struct _ | .array _ _ => true | _ => false) = true) (hi : (P.info? ty).map (·.size) = some cs.size) :
    (results fn tmps).run P w = .ok (.tuple #[.agg cs, tmps.getD u undef]) w := by
  have hp' : tmps[p]?.getD undef = .pointer (some ⟨g, 0, none⟩) := by simpa using hp
  rw [results_cell_tmp h]
  simp [hp', asAddr, run_loadVar_row w g t ty cs fr d hg hu hd hi, Result.andThen]
theorem results_2c {P : Program} {fn : Func} {p q : Tmp} {ty : TypeId} (h : fn.results = #[.cell p ty, .cell q ty]) (tmps : Array Value) (w : World) (g k : Nat) (t : TypeId) (cs ds : Array Value) (fr : Nat × Nat) (d : TypeDesc)
    (hp : tmps.getD p undef = .pointer (some ⟨g, 0, none⟩)) (hq : tmps.getD q undef = .pointer (some ⟨k, 0, none⟩)) (hg : w.heap[g]? = some (.cells cs t fr)) (hk : w.heap[k]? = some (.cells ds t fr))
    (hu : P.underlying ty = some d) (hd : (match d with | .struct _ | .array _ _ => true | _ => false) = true) (hi : (P.info? ty).map (·.size) = some cs.size) (hi2 : (P.info? ty).map (·.size) = some ds.size) :
    (results fn tmps).run P w = .ok (.tuple #[.agg cs, .agg ds]) w := by
  have hp' : tmps[p]?.getD undef = .pointer (some ⟨g, 0, none⟩) := by simpa using hp
  have hq' : tmps[q]?.getD undef = .pointer (some ⟨k, 0, none⟩) := by simpa using hq
  simp only [results, h]
  simp [Sem.run_bind, Result.andThen, hp', hq', asAddr, run_loadVar_row w g t ty cs fr d hg hu hd hi, run_loadVar_row w k t ty ds fr d hk hu hd hi2]
end Go.Proofs.YtbkblijoimmdeaaGreat
