import Derived.Deep.Slices
import Derived.Lib.SmallJoins
import Derived.ProofKit
import Derived.OpenShut
import Derived.Test.YtaocomjhepgabaaKWfh
set_option linter.unusedVariables false
set_option linter.unusedSimpArgs false
/- Wopn -/
namespace Go.Proofs.Ytaocomjhepgabaa
open Go.RowKit Go.Deep Go.WideShapes Go.ChangeShapes
section
variable {H : Type} {enc : TypeId × Value → H} {w : World}
theorem cellsN : Try.prog.cellsOf 3 = 1 := by kernel_rfl
theorem cellsI : Try.prog.cellsOf 29 = 2 := by kernel_rfl
theorem wf64 {v : Int} (h : (Lit.int .i64 v).wf = true) : in64 v := by
  simp only [Lit.wf, IntKind.min, IntKind.max, Bool.and_eq_true, decide_eq_true_eq] at h
  exact ⟨by simpa [IntKind.signed, IntKind.bits] using h.1, by simpa [IntKind.signed, IntKind.bits] using h.2⟩
def arData {H : Type} (p : Int × Int) : DataW H := .agg [.lit (.int .i64 p.1), .lit (.int .i64 p.2)]
def arCells (p : Int × Int) : List Value := [.int .i64 p.1, .int .i64 p.2]
set_option maxRecDepth 100000 in
theorem open_arc {base fuel : Nat} {spare : Nat → Bool} {held : Bool} {cs : List Value} {x : DataW H × List MemPlace} (h : DataW.trod enc Try.prog w base spare held fuel 29 cs = some x) :
    ∃ p : Int × Int, cs = arCells p ∧ x = (arData p, []) ∧ in64 p.1 ∧ in64 p.2 := by
  obtain ⟨xs, m, _, rfl, hl, hlen, hf⟩ := DataW.trod_struct Try.underlying29 h
  rw [cellsI] at hl
  match xs, hlen, cs, hl with
  | [y0, y1], _, [c0, c1], _ =>
    have h0 : DataW.trod enc Try.prog w base spare held m 3 (([c0, c1].drop 0).take (Try.prog.cellsOf 3)) = some y0 := hf 0 _ rfl
    rw [cellsN, show ([c0, c1].drop 0).take 1 = [c0] from rfl] at h0
    have h1 : DataW.trod enc Try.prog w base spare held m 3 (([c0, c1].drop 1).take (Try.prog.cellsOf 3)) = some y1 := hf 1 _ rfl
    rw [cellsN, show ([c0, c1].drop 1).take 1 = [c1] from rfl] at h1
    obtain ⟨d, e0, r0, w0⟩ := DataW.trod_int Try.underlying3 h0
    obtain ⟨k, e1, r1, w1⟩ := DataW.trod_int Try.underlying3 h1
    simp only [List.cons.injEq, and_true] at e0 e1
    subst e0 e1 r0 r1
    exact ⟨(d, k), rfl, rfl, wf64 w0, wf64 w1⟩
theorem cells_lt {b o : Nat} {u : Value} (h : w.cell? ⟨b, o, none⟩ = some u) : b < w.heap.size := by
  rcases Nat.lt_or_ge b w.heap.size with hh | hh
  · exact hh
  · simp [World.cell?, Array.getElem?_eq_none hh] at h
/-- A slice of intervals that comes in. -/
theorem open_arcs {fuel : Nat} {held : Bool} {cs : List Value} {x : DataW H × List MemPlace} (h : DataW.trod enc Try.prog w 0 (fun _ => true) held fuel 22 cs = some x) :
    (cs = [.slice none 0 0] ∧ x = (.nil, [])) ∨ ∃ (a : Addr) (len cap : Nat) (ts : List (Int × Int)), cs = [.slice (some a) len cap] ∧ len ≤ cap ∧ cap ≤ maxLen ∧ ts.length = cap ∧ (∀ t ∈ ts, in64 t.1 ∧ in64 t.2) ∧
      (0 < cap → ∃ b o, a = ⟨b, o, none⟩ ∧ b < w.heap.size ∧ ∀ i (hi : i < ts.length), w.cell? ⟨b, o + i * 2, none⟩ = some (.int .i64 ts[i].1) ∧ w.cell? ⟨b, o + i * 2 + 1, none⟩ = some (.int .i64 ts[i].2)) ∧ x.1 = .slice ((ts.take len).map arData) ((ts.drop len).map arData) := by
  rcases open_slice Try.underlying22 h with h0 | ⟨a, len, cap, m, n, D, Pl, rfl, _, hl, hm, hme, hx, hel⟩
  · exact .inl h0
  right
  simp only [if_true] at hme
  subst hme
  rw [cellsI] at hel
  have hex : ∀ i, ∃ t : Int × Int, i < m → w.cells? 0 (a.add (i * 2)) 2 = some (arCells t) ∧ D i = arData t ∧ in64 t.1 ∧ in64 t.2 := by
    intro i
    by_cases hi : i < m
    · obtain ⟨cs', h1, h2⟩ := hel i hi
      obtain ⟨t, rfl, h3, h4, h5⟩ := open_arc h2
      exact ⟨t, fun _ => ⟨h1, by injection h3, h4, h5⟩⟩
    · exact ⟨(0, 0), fun hh => absurd hh hi⟩
  obtain ⟨f, hf⟩ := Classical.axiomOfChoice hex
  have hg : ∀ i (hi : i < ((List.range m).map f).length), ((List.range m).map f)[i] = f i := by intro i hi; simp
  refine ⟨a, len, m, (List.range m).map f, rfl, hl, hm, by simp, ?_, ?_, ?_⟩
  · intro nd hnd
    obtain ⟨i, hi, rfl⟩ := List.mem_map.1 hnd
    exact (hf i (by simpa using hi)).2.2
  · intro hpos
    have hc : ∀ i, i < m → ∀ j, j < 2 → w.cell? ((a.add (i * 2)).add j) = (arCells (f i))[j]? := fun i hi j hj => (World.cells?_some (hf i hi).1).2.2 j hj
    have h00 := hc 0 hpos 0 (by decide)
    obtain ⟨b, o, y⟩ := a
    have h01 : w.cell? ((({ block := b, off := o, spot := y } : Addr).add (0 * 2)).add 0) = some (.int .i64 (f 0).1) := h00
    have hy : y = none := by simpa [Addr.add] using World.cell?_spot h01
    subst hy
    have key : ∀ i, i < m → ∀ j, j < 2 → w.cell? ⟨b, o + i * 2 + j, none⟩ = (arCells (f i))[j]? := fun i hi j hj => by
      have h9 := hc i hi j hj
      rw [Go.WideShapes.add_plain, Go.WideShapes.add_plain] at h9
      exact h9
    refine ⟨b, o, rfl, cells_lt (key 0 hpos 0 (by decide)), fun i hi => ?_⟩
    rw [hg i hi]
    exact ⟨key i (by simpa using hi) 0 (by decide), key i (by simpa using hi) 1 (by decide)⟩
  · rw [hx]
    show DataW.slice _ _ = _
    congr 1
    · apply List.ext_getElem
      · simp; omega
      · intro i h1 h2
        simp at h1 h2 ⊢
        exact (hf i (by omega)).2.1
    · apply List.ext_getElem
      · simp
      · intro i h1 h2
        simp at h1 h2 ⊢
        exact (hf _ (by omega)).2.1
end
end Go.Proofs.Ytaocomjhepgabaa
