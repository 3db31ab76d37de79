import Derived.Test.YtjngjanheoeojaaDoorFixd
import Derived.Deep.Slices
import Derived.Lib.SmallJoins
import Derived.ProofKit
import Derived.OpenShut
namespace Go.Proofs.YtjngjanheoeojaaDoor
set_option linter.unusedVariables false
set_option linter.unusedSimpArgs false
open Go.RowKit Go.Deep
section
variable {H : Type} {enc : TypeId × Value → H} {w : World}
def ndData {H : Type} (n : Nd) : DataW H := .agg [.lit (.int .i64 n.depth), .lit (.int .i64 n.kind), .lit (.string n.name.data.toList), .lit (.int .i64 n.num), .lit (.int .i64 n.op), .lit (.int .i64 n.pos)]
structure NdWf (n : Nd) : Prop where
  name : n.name.size ≤ maxLen
  d0 : -9223372036854775808 ≤ n.depth
  d1 : n.depth ≤ 9223372036854775807
  k0 : -9223372036854775808 ≤ n.kind
  k1 : n.kind ≤ 9223372036854775807
  n0 : -9223372036854775808 ≤ n.num
  n1 : n.num ≤ 9223372036854775807
  o0 : -9223372036854775808 ≤ n.op
  o1 : n.op ≤ 9223372036854775807
  p0 : -9223372036854775808 ≤ n.pos
  p1 : n.pos ≤ 9223372036854775807
theorem NdWf.ok {n : Nd} (h : NdWf n) : n.Ok := ⟨h.name, h.d0, h.d1, h.n1⟩
theorem cells3 : Tryd.prog.cellsOf 3 = 1 := by kernel_rfl
theorem cells28 : Tryd.prog.cellsOf 28 = 1 := by kernel_rfl
theorem cells9 : Tryd.prog.cellsOf 9 = 1 := by kernel_rfl
theorem cells2 : Tryd.prog.cellsOf 2 = 1 := by kernel_rfl
theorem cells29 : Tryd.prog.cellsOf 29 = 1 := by kernel_rfl
theorem cells31 : Tryd.prog.cellsOf 31 = 6 := by kernel_rfl
theorem wf64 {v : Int} (h : (Lit.int .i64 v).wf = true) : -9223372036854775808 ≤ v ∧ v ≤ 9223372036854775807 := by
  simp only [Lit.wf, IntKind.min, IntKind.max, Bool.and_eq_true, decide_eq_true_eq] at h
  exact ⟨by simpa [IntKind.signed, IntKind.bits] using h.1, by simpa [IntKind.signed, IntKind.bits] using h.2⟩
set_option maxRecDepth 100000 in
theorem open_node {base fuel : Nat} {spare : Nat → Bool} {held : Bool} {cs : List Value} {x : DataW H × List MemPlace} (h : DataW.trod enc Tryd.prog w base spare held fuel 31 cs = some x) :
    ∃ n : Nd, cs = ndCells n ∧ x = (ndData n, []) ∧ NdWf n := by
  obtain ⟨xs, m, _, rfl, hl, hlen, hf⟩ := DataW.trod_struct Tryd.underlying31 h
  rw [cells31] at hl
  match xs, hlen, cs, hl with
  | [y0, y1, y2, y3, y4, y5], _, [c0, c1, c2, c3, c4, c5], _ =>
    have h0 : DataW.trod enc Tryd.prog w base spare held m 3 (([c0, c1, c2, c3, c4, c5].drop 0).take (Tryd.prog.cellsOf 3)) = some y0 := hf 0 _ rfl
    rw [cells3, show ([c0, c1, c2, c3, c4, c5].drop 0).take 1 = [c0] from rfl] at h0
    have h1 : DataW.trod enc Tryd.prog w base spare held m 28 (([c0, c1, c2, c3, c4, c5].drop 1).take (Tryd.prog.cellsOf 28)) = some y1 := hf 1 _ rfl
    rw [cells28, show ([c0, c1, c2, c3, c4, c5].drop 1).take 1 = [c1] from rfl] at h1
    have h2 : DataW.trod enc Tryd.prog w base spare held m 9 (([c0, c1, c2, c3, c4, c5].drop 2).take (Tryd.prog.cellsOf 9)) = some y2 := hf 2 _ rfl
    rw [cells9, show ([c0, c1, c2, c3, c4, c5].drop 2).take 1 = [c2] from rfl] at h2
    have h3 : DataW.trod enc Tryd.prog w base spare held m 2 (([c0, c1, c2, c3, c4, c5].drop 3).take (Tryd.prog.cellsOf 2)) = some y3 := hf 3 _ rfl
    rw [cells2, show ([c0, c1, c2, c3, c4, c5].drop 3).take 1 = [c3] from rfl] at h3
    have h4 : DataW.trod enc Tryd.prog w base spare held m 29 (([c0, c1, c2, c3, c4, c5].drop 4).take (Tryd.prog.cellsOf 29)) = some y4 := hf 4 _ rfl
    rw [cells29, show ([c0, c1, c2, c3, c4, c5].drop 4).take 1 = [c4] from rfl] at h4
    have h5 : DataW.trod enc Tryd.prog w base spare held m 3 (([c0, c1, c2, c3, c4, c5].drop 5).take (Tryd.prog.cellsOf 3)) = some y5 := hf 5 _ rfl
    rw [cells3, show ([c0, c1, c2, c3, c4, c5].drop 5).take 1 = [c5] from rfl] at h5
    obtain ⟨d, e0, r0, w0⟩ := DataW.trod_int Tryd.underlying3 h0
    obtain ⟨k, e1, r1, w1⟩ := DataW.trod_int Tryd.underlying28 h1
    obtain ⟨s, e2, r2, w2⟩ := DataW.trod_string Tryd.underlying9 h2
    obtain ⟨u, e3, r3, w3⟩ := DataW.trod_int Tryd.underlying2 h3
    obtain ⟨p, e4, r4, w4⟩ := DataW.trod_int Tryd.underlying29 h4
    obtain ⟨a, e5, r5, w5⟩ := DataW.trod_int Tryd.underlying3 h5
    simp only [List.cons.injEq, and_true] at e0 e1 e2 e3 e4 e5
    subst e0 e1 e2 e3 e4 e5 r0 r1 r2 r3 r4 r5
    exact ⟨⟨d, k, s, u, p, a⟩, rfl, rfl, ⟨w2, (wf64 w0).1, (wf64 w0).2, (wf64 w1).1, (wf64 w1).2, (wf64 w3).1, (wf64 w3).2, (wf64 w4).1, (wf64 w4).2, (wf64 w5).1, (wf64 w5).2⟩⟩
theorem open_nodes {fuel : Nat} {held : Bool} {cs : List Value} {x : DataW H × List MemPlace} (h : DataW.trod enc Tryd.prog w 0 (fun _ => true) held fuel 22 cs = some x) :
    (cs = [.slice none 0 0] ∧ x = (.nil, [])) ∨ ∃ (a : Addr) (len cap : Nat) (ns : List Nd), cs = [.slice (some a) len cap] ∧ len ≤ cap ∧ cap ≤ maxLen ∧ ns.length = cap ∧ (∀ n ∈ ns, NdWf n) ∧
      (0 < cap → ∃ b o, a = ⟨b, o, none⟩ ∧ NodesAt w b o ns) ∧ x.1 = .slice ((ns.take len).map ndData) ((ns.drop len).map ndData) := by
  rcases open_slice Tryd.underlying22 h with h0 | ⟨a, len, cap, m, n, D, Pl, rfl, _, hl, hm, hme, hx, hel⟩
  · exact .inl h0
  right
  simp only [if_true] at hme
  subst hme
  rw [cells31] at hel
  have hex : ∀ i, ∃ nd : Nd, i < m → w.cells? 0 (a.add (i * 6)) 6 = some (ndCells nd) ∧ D i = ndData nd ∧ NdWf nd := by
    intro i
    by_cases hi : i < m
    · obtain ⟨cs', h1, h2⟩ := hel i hi
      obtain ⟨nd, rfl, h3, h4⟩ := open_node h2
      exact ⟨nd, fun _ => ⟨h1, by injection h3, h4⟩⟩
    · exact ⟨⟨0, 0, ⟨#[]⟩, 0, 0, 0⟩, fun hh => absurd hh hi⟩
  obtain ⟨f, hf⟩ := Classical.axiomOfChoice hex
  have hg : ∀ i (hi : i < ((List.range m).map f).length), ((List.range m).map f)[i] = f i := by intro i hi; simp
  refine ⟨a, len, m, (List.range m).map f, rfl, hl, hm, by simp, ?_, ?_, ?_⟩
  · intro nd hnd
    obtain ⟨i, hi, rfl⟩ := List.mem_map.1 hnd
    exact (hf i (by simpa using hi)).2.2
  · intro hpos
    have hc : ∀ i, i < m → ∀ j, j < 6 → w.cell? ((a.add (i * 6)).add j) = (ndCells (f i))[j]? := fun i hi j hj => (World.cells?_some (hf i hi).1).2.2 j hj
    have h00 := hc 0 hpos 0 (by decide)
    obtain ⟨b, o, y⟩ := a
    have h01 : w.cell? ((({ block := b, off := o, spot := y } : Addr).add (0 * 6)).add 0) = some (.int .i64 (f 0).depth) := h00
    have hy : y = none := by simpa [Addr.add] using World.cell?_spot h01
    subst hy
    refine ⟨b, o, rfl, ?_⟩
    have key : ∀ i, i < m → ∀ j, j < 6 → w.cell? ⟨b, o + i * 6 + j, none⟩ = (ndCells (f i))[j]? := fun i hi j hj => by
      have h9 := hc i hi j hj
      rw [Go.WideShapes.add_plain, Go.WideShapes.add_plain] at h9
      exact h9
    have hlt : b < w.heap.size := by
      rcases Nat.lt_or_ge b w.heap.size with hh | hh
      · exact hh
      · have h9 := key 0 hpos 0 (by decide)
        simp [World.cell?, Array.getElem?_eq_none hh, ndCells] at h9
    refine ⟨hlt, ?_, ?_, ?_, ?_, ?_, ?_⟩ <;> intro i hi <;> rw [hg i hi]
    · exact key i (by simpa using hi) 0 (by decide)
    · exact key i (by simpa using hi) 1 (by decide)
    · exact key i (by simpa using hi) 2 (by decide)
    · exact key i (by simpa using hi) 3 (by decide)
    · exact key i (by simpa using hi) 4 (by decide)
    · exact key i (by simpa using hi) 5 (by decide)
  · rw [hx]
    show DataW.slice _ _ = _
    congr 1
    · apply List.ext_getElem
      · simp; omega
      · intro i h1 h2
        simp at h1 h2 ⊢
        exact (hf i (by omega)).2.1
    · apply List.ext_getElem
      · simp
      · intro i h1 h2
        simp at h1 h2 ⊢
        exact (hf _ (by omega)).2.1
end
end Go.Proofs.YtjngjanheoeojaaDoor
