import Derived.Test.YtdbdgpcbhojcnaaIwd1
import Derived.Deep.Slices
import Derived.Lib.SmallJoins
import Derived.ProofKit
import Derived.OpenShut
set_option linter.unusedVariables false
set_option linter.unusedSimpArgs false
/- What comes in: intervals, pairs of them, slices of numbers and of intervals. -/
namespace Go.Proofs.Ytdbdgpcbhojcnaa
open Go.RowKit Go.Deep Go.WideShapes Go.ChangeShapes
section
variable {H : Type} {enc : TypeId × Value → H} {w : World}
theorem cellsN : Try.prog.cellsOf 2 = 1 := by kernel_rfl
theorem cellsI : Try.prog.cellsOf 23 = 2 := by kernel_rfl
theorem wf64 {v : Int} (h : (Lit.int .i64 v).wf = true) : In64 v := by
  simp only [Lit.wf, IntKind.min, IntKind.max, Bool.and_eq_true, decide_eq_true_eq] at h
  exact ⟨by simpa [IntKind.signed, IntKind.bits] using h.1, by simpa [IntKind.signed, IntKind.bits] using h.2⟩
def ivData {H : Type} (p : Int × Int) : DataW H := .agg [.lit (.int .i64 p.1), .lit (.int .i64 p.2)]
def ivCells (p : Int × Int) : List Value := [.int .i64 p.1, .int .i64 p.2]
set_option maxRecDepth 100000 in
theorem open_ivc {base fuel : Nat} {spare : Nat → Bool} {held : Bool} {cs : List Value} {x : DataW H × List MemPlace} (h : DataW.trod enc Try.prog w base spare held fuel 23 cs = some x) :
    ∃ p : Int × Int, cs = ivCells p ∧ x = (ivData p, []) ∧ In64 p.1 ∧ In64 p.2 := by
  obtain ⟨xs, m, _, rfl, hl, hlen, hf⟩ := DataW.trod_struct Try.underlying23 h
  rw [cellsI] at hl
  match xs, hlen, cs, hl with
  | [y0, y1], _, [c0, c1], _ =>
    have h0 : DataW.trod enc Try.prog w base spare held m 2 (([c0, c1].drop 0).take (Try.prog.cellsOf 2)) = some y0 := hf 0 _ rfl
    rw [cellsN, show ([c0, c1].drop 0).take 1 = [c0] from rfl] at h0
    have h1 : DataW.trod enc Try.prog w base spare held m 2 (([c0, c1].drop 1).take (Try.prog.cellsOf 2)) = some y1 := hf 1 _ rfl
    rw [cellsN, show ([c0, c1].drop 1).take 1 = [c1] from rfl] at h1
    obtain ⟨d, e0, r0, w0⟩ := DataW.trod_int Try.underlying2 h0
    obtain ⟨k, e1, r1, w1⟩ := DataW.trod_int Try.underlying2 h1
    simp only [List.cons.injEq, and_true] at e0 e1
    subst e0 e1 r0 r1
    exact ⟨(d, k), rfl, rfl, wf64 w0, wf64 w1⟩
/-- An interval that comes in. -/
theorem open_iv {r : Reach} {b0 base : Nat} {spare : Nat → Bool} {held : Bool} {v : Value} {d : DataW H} {ps : List MemPlace} (hval : Value.okWide Try.prog w r b0 23 v) (hd : DataW.Trod enc Try.prog w base spare held 23 v d ps) :
    ∃ l h : Int, v = .agg #[.int .i64 l, .int .i64 h] ∧ In64 l ∧ In64 h := by
  obtain ⟨cs, rfl, _⟩ := okWide_struct Try.underlying23 hval
  obtain ⟨fuel, hf⟩ := hd
  obtain ⟨p, hp, _, h1, h2⟩ := open_ivc hf
  refine ⟨p.1, p.2, ?_, h1, h2⟩
  have : cs.toList = ivCells p := by simpa [Value.cells] using hp
  rw [show cs = (ivCells p).toArray by rw [← this]]
  rfl
theorem cellsP : Try.prog.cellsOf 34 = 6 := by kernel_rfl
set_option maxRecDepth 100000 in
/-- Two intervals and two numbers that come in. -/
theorem open_pair {r : Reach} {b0 base : Nat} {spare : Nat → Bool} {held : Bool} {v : Value} {d : DataW H} {ps : List MemPlace} (hval : Value.okWide Try.prog w r b0 34 v) (hd : DataW.Trod enc Try.prog w base spare held 34 v d ps) :
    ∃ al ah bl bh x y : Int, v = .agg #[.int .i64 al, .int .i64 ah, .int .i64 bl, .int .i64 bh, .int .i64 x, .int .i64 y] ∧ In64 al ∧ In64 ah ∧ In64 bl ∧ In64 bh ∧ In64 x ∧ In64 y := by
  obtain ⟨cs, rfl, hcs⟩ := okWide_struct Try.underlying34 hval
  obtain ⟨fuel, hf⟩ := hd
  obtain ⟨xs, m, _, hxx, hl, hlen, hg⟩ := DataW.trod_struct Try.underlying34 hf
  have hl2 : cs.toList.length = 6 := by rw [cellsP] at hcs; simpa using hcs
  have hcc : (Value.agg cs).cells.toList = cs.toList := by simp [Value.cells]
  obtain ⟨L, hL⟩ : ∃ L, L = cs.toList := ⟨_, rfl⟩
  have hca : cs = L.toArray := by rw [hL]
  rw [← hL] at hl2 hcc
  match xs, hlen, L, hl2 with
  | [y0, y1, y2, y3], _, [c0, c1, c2, c3, c4, c5], _ =>
    have h0 : DataW.trod enc Try.prog w base spare held m 23 (((Value.agg cs).cells.toList.drop 0).take (Try.prog.cellsOf 23)) = some y0 := hg 0 _ rfl
    have h1 : DataW.trod enc Try.prog w base spare held m 23 (((Value.agg cs).cells.toList.drop (Try.prog.cellsOf 23)).take (Try.prog.cellsOf 23)) = some y1 := hg 1 _ rfl
    have h2 : DataW.trod enc Try.prog w base spare held m 2 (((Value.agg cs).cells.toList.drop (Try.prog.cellsOf 23 + Try.prog.cellsOf 23)).take (Try.prog.cellsOf 2)) = some y2 := hg 2 _ rfl
    have h3 : DataW.trod enc Try.prog w base spare held m 2 (((Value.agg cs).cells.toList.drop (Try.prog.cellsOf 23 + Try.prog.cellsOf 23 + Try.prog.cellsOf 2)).take (Try.prog.cellsOf 2)) = some y3 := hg 3 _ rfl
    rw [hcc, cellsI] at h0 h1
    rw [hcc, cellsI, cellsN] at h2 h3
    obtain ⟨p, e0, _, a1, a2⟩ := open_ivc h0
    obtain ⟨q, e1, _, a3, a4⟩ := open_ivc h1
    obtain ⟨x, e2, _, w2⟩ := DataW.trod_int Try.underlying2 h2
    obtain ⟨y, e3, _, w3⟩ := DataW.trod_int Try.underlying2 h3
    simp [ivCells] at e0 e1 e2 e3
    obtain ⟨rfl, rfl⟩ := e0
    obtain ⟨rfl, rfl⟩ := e1
    subst e2 e3
    exact ⟨p.1, p.2, q.1, q.2, x, y, by rw [hca], a1, a2, a3, a4, wf64 w2, wf64 w3⟩
def nData {H : Type} (v : Int) : DataW H := .lit (.int .i64 v)
theorem cells_lt {b o : Nat} {u : Value} (h : w.cell? ⟨b, o, none⟩ = some u) : b < w.heap.size := by
  rcases Nat.lt_or_ge b w.heap.size with hh | hh
  · exact hh
  · simp [World.cell?, Array.getElem?_eq_none hh] at h
/-- A slice of numbers that comes in. -/
theorem open_nums {fuel : Nat} {held : Bool} {cs : List Value} {x : DataW H × List MemPlace} (h : DataW.trod enc Try.prog w 0 (fun _ => true) held fuel 24 cs = some x) :
    (cs = [.slice none 0 0] ∧ x = (.nil, [])) ∨ ∃ (a : Addr) (len cap : Nat) (ts : List Int), cs = [.slice (some a) len cap] ∧ len ≤ cap ∧ cap ≤ maxLen ∧ ts.length = cap ∧ (∀ t ∈ ts, In64 t) ∧
      (0 < cap → ∃ b o, a = ⟨b, o, none⟩ ∧ b < w.heap.size ∧ ∀ i (hi : i < ts.length), w.cell? ⟨b, o + i, none⟩ = some (.int .i64 ts[i])) ∧ x.1 = .slice ((ts.take len).map nData) ((ts.drop len).map nData) := by
  rcases open_slice Try.underlying24 h with h0 | ⟨a, len, cap, m, n, D, Pl, rfl, _, hl, hm, hme, hx, hel⟩
  · exact .inl h0
  right
  simp only [if_true] at hme
  subst hme
  rw [cellsN] at hel
  have hex : ∀ i, ∃ t : Int, i < m → w.cells? 0 (a.add (i * 1)) 1 = some [.int .i64 t] ∧ D i = nData t ∧ In64 t := by
    intro i
    by_cases hi : i < m
    · obtain ⟨cs', h1, h2⟩ := hel i hi
      obtain ⟨t, rfl, h3, h4⟩ := DataW.trod_int Try.underlying2 h2
      exact ⟨t, fun _ => ⟨h1, by injection h3, wf64 h4⟩⟩
    · exact ⟨0, fun hh => absurd hh hi⟩
  obtain ⟨f, hf⟩ := Classical.axiomOfChoice hex
  have hg : ∀ i (hi : i < ((List.range m).map f).length), ((List.range m).map f)[i] = f i := by intro i hi; simp
  refine ⟨a, len, m, (List.range m).map f, rfl, hl, hm, by simp, ?_, ?_, ?_⟩
  · intro nd hnd
    obtain ⟨i, hi, rfl⟩ := List.mem_map.1 hnd
    exact (hf i (by simpa using hi)).2.2
  · intro hpos
    have hc : ∀ i, i < m → w.cell? ((a.add (i * 1)).add 0) = some (.int .i64 (f i)) := fun i hi => (World.cells?_some (hf i hi).1).2.2 0 (by decide)
    have h00 := hc 0 hpos
    obtain ⟨b, o, y⟩ := a
    have hy : y = none := by simpa [Addr.add] using World.cell?_spot h00
    subst hy
    have key : ∀ i, i < m → w.cell? ⟨b, o + i, none⟩ = some (.int .i64 (f i)) := fun i hi => by
      have h9 := hc i hi
      rw [Go.WideShapes.add_plain, Go.WideShapes.add_plain, Nat.mul_one, Nat.add_zero] at h9
      exact h9
    exact ⟨b, o, rfl, cells_lt (key 0 hpos), fun i hi => by rw [hg i hi]; exact key i (by simpa using hi)⟩
  · rw [hx]
    show DataW.slice _ _ = _
    congr 1
    · apply List.ext_getElem
      · simp; omega
      · intro i h1 h2
        simp at h1 h2 ⊢
        exact (hf i (by omega)).2.1
    · apply List.ext_getElem
      · simp
      · intro i h1 h2
        simp at h1 h2 ⊢
        exact (hf _ (by omega)).2.1
/-- A slice of intervals that comes in. -/
theorem open_ivs {fuel : Nat} {held : Bool} {cs : List Value} {x : DataW H × List MemPlace} (h : DataW.trod enc Try.prog w 0 (fun _ => true) held fuel 25 cs = some x) :
    (cs = [.slice none 0 0] ∧ x = (.nil, [])) ∨ ∃ (a : Addr) (len cap : Nat) (ts : List (Int × Int)), cs = [.slice (some a) len cap] ∧ len ≤ cap ∧ cap ≤ maxLen ∧ ts.length = cap ∧ (∀ t ∈ ts, In64 t.1 ∧ In64 t.2) ∧
      (0 < cap → ∃ b o, a = ⟨b, o, none⟩ ∧ b < w.heap.size ∧ ∀ i (hi : i < ts.length), w.cell? ⟨b, o + i * 2, none⟩ = some (.int .i64 ts[i].1) ∧ w.cell? ⟨b, o + i * 2 + 1, none⟩ = some (.int .i64 ts[i].2)) ∧ x.1 = .slice ((ts.take len).map ivData) ((ts.drop len).map ivData) := by
  rcases open_slice Try.underlying25 h with h0 | ⟨a, len, cap, m, n, D, Pl, rfl, _, hl, hm, hme, hx, hel⟩
  · exact .inl h0
  right
  simp only [if_true] at hme
  subst hme
  rw [cellsI] at hel
  have hex : ∀ i, ∃ t : Int × Int, i < m → w.cells? 0 (a.add (i * 2)) 2 = some (ivCells t) ∧ D i = ivData t ∧ In64 t.1 ∧ In64 t.2 := by
    intro i
    by_cases hi : i < m
    · obtain ⟨cs', h1, h2⟩ := hel i hi
      obtain ⟨t, rfl, h3, h4, h5⟩ := open_ivc h2
      exact ⟨t, fun _ => ⟨h1, by injection h3, h4, h5⟩⟩
    · exact ⟨(0, 0), fun hh => absurd hh hi⟩
  obtain ⟨f, hf⟩ := Classical.axiomOfChoice hex
  have hg : ∀ i (hi : i < ((List.range m).map f).length), ((List.range m).map f)[i] = f i := by intro i hi; simp
  refine ⟨a, len, m, (List.range m).map f, rfl, hl, hm, by simp, ?_, ?_, ?_⟩
  · intro nd hnd
    obtain ⟨i, hi, rfl⟩ := List.mem_map.1 hnd
    exact (hf i (by simpa using hi)).2.2
  · intro hpos
    have hc : ∀ i, i < m → ∀ j, j < 2 → w.cell? ((a.add (i * 2)).add j) = (ivCells (f i))[j]? := fun i hi j hj => (World.cells?_some (hf i hi).1).2.2 j hj
    have h00 := hc 0 hpos 0 (by decide)
    obtain ⟨b, o, y⟩ := a
    have h01 : w.cell? ((({ block := b, off := o, spot := y } : Addr).add (0 * 2)).add 0) = some (.int .i64 (f 0).1) := h00
    have hy : y = none := by simpa [Addr.add] using World.cell?_spot h01
    subst hy
    have key : ∀ i, i < m → ∀ j, j < 2 → w.cell? ⟨b, o + i * 2 + j, none⟩ = (ivCells (f i))[j]? := fun i hi j hj => by
      have h9 := hc i hi j hj
      rw [Go.WideShapes.add_plain, Go.WideShapes.add_plain] at h9
      exact h9
    refine ⟨b, o, rfl, cells_lt (key 0 hpos 0 (by decide)), fun i hi => ?_⟩
    rw [hg i hi]
    exact ⟨key i (by simpa using hi) 0 (by decide), key i (by simpa using hi) 1 (by decide)⟩
  · rw [hx]
    show DataW.slice _ _ = _
    congr 1
    · apply List.ext_getElem
      · simp; omega
      · intro i h1 h2
        simp at h1 h2 ⊢
        exact (hf i (by omega)).2.1
    · apply List.ext_getElem
      · simp
      · intro i h1 h2
        simp at h1 h2 ⊢
        exact (hf _ (by omega)).2.1
end
end Go.Proofs.Ytdbdgpcbhojcnaa
