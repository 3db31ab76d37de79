import Derived.Test.YtbclkkpddomoiaaGreatNv
import Derived.Test.YtbclkkpddomoiaaGreatNset
import Derived.Deep.Slices
import Derived.Lib.SmallJoins
import Derived.ProofKit
import Derived.OpenShut
import Derived.Test.YtbclkkpddomoiaaGreatNqr
import Derived.Deep.DeepHandedRow
import Derived.Deep.DeepWitnessRowRef
import Derived.JoinedCond
import Derived.Stop.Joined
set_option linter.unusedVariables false
set_option linter.unusedSimpArgs false
/- Several texts, laid together. -/
namespace Go.Proofs.YtbclkkpddomoiaaGreat
section
open Go.RowKit Go.Deep Go.WideShapes Go.ChangeShapes
section
variable {H : Type} {enc : TypeId × Value → H} {w : World}
theorem ocellsU : Tryz.prog.cellsOf 24 = 1 := by kernel_rfl
theorem ocellsN : Tryz.prog.cellsOf 2 = 1 := by kernel_rfl
theorem ocellsB : Tryz.prog.cellsOf 4 = 1 := by kernel_rfl
theorem ocellsG : Tryz.prog.cellsOf 26 = 2 := by kernel_rfl
theorem ocellsI : Tryz.prog.cellsOf 23 = 2 := by kernel_rfl
theorem ocellsM : Tryz.prog.cellsOf 28 = 5 := by kernel_rfl
theorem owf64 {v : Int} (h : (Lit.int .i64 v).wf = true) : In64 v := by
  simp only [Lit.wf, IntKind.min, IntKind.max, Bool.and_eq_true, decide_eq_true_eq] at h
  exact ⟨by simpa [IntKind.signed, IntKind.bits] using h.1, by simpa [IntKind.signed, IntKind.bits] using h.2⟩
theorem owfU {v : Int} (h : (Lit.int .u64 v).wf = true) : ∃ n : Nat, v = (n : Int) ∧ U64 n := by
  simp only [Lit.wf, IntKind.min, IntKind.max, Bool.and_eq_true, decide_eq_true_eq] at h
  have a : 0 ≤ v := by simpa [IntKind.signed, IntKind.bits] using h.1
  have b : v ≤ 18446744073709551615 := by simpa [IntKind.signed, IntKind.bits] using h.2
  exact ⟨v.toNat, by omega, by unfold U64; omega⟩
def ocgCells (M R : Nat) : List Value := [.int .u64 (M : Int), .int .u64 (R : Int)]
def oivCells (l h : Int) : List Value := [.int .i64 l, .int .i64 h]
def onCells (a : Int × Int × Nat × Nat × Bool) : List Value := [.bool a.2.2.2.2, .int .i64 a.1, .int .i64 a.2.1, .int .u64 (a.2.2.1 : Int), .int .u64 (a.2.2.2.1 : Int)]
def onData {H : Type} (a : Int × Int × Nat × Nat × Bool) : DataW H := .agg [.lit (.bool a.2.2.2.2), .agg [.lit (.int .i64 a.1), .lit (.int .i64 a.2.1)], .agg [.lit (.int .u64 (a.2.2.1 : Int)), .lit (.int .u64 (a.2.2.2.1 : Int))]]
set_option maxRecDepth 100000 in
theorem oopen_cgc {base fuel : Nat} {spare : Nat → Bool} {held : Bool} {cs : List Value} {x : DataW H × List MemPlace} (h : DataW.trod enc Tryz.prog w base spare held fuel 26 cs = some x) :
    ∃ M R : Nat, cs = ocgCells M R ∧ x = (.agg [.lit (.int .u64 (M : Int)), .lit (.int .u64 (R : Int))], []) ∧ U64 M ∧ U64 R := by
  obtain ⟨xs, m, _, rfl, hl, hlen, hf⟩ := DataW.trod_struct Tryz.underlying26 h
  rw [ocellsG] at hl
  match xs, hlen, cs, hl with
  | [y0, y1], _, [c0, c1], _ =>
    have h0 : DataW.trod enc Tryz.prog w base spare held m 24 (([c0, c1].drop 0).take (Tryz.prog.cellsOf 24)) = some y0 := hf 0 _ rfl
    rw [ocellsU, show ([c0, c1].drop 0).take 1 = [c0] from rfl] at h0
    have h1 : DataW.trod enc Tryz.prog w base spare held m 24 (([c0, c1].drop 1).take (Tryz.prog.cellsOf 24)) = some y1 := hf 1 _ rfl
    rw [ocellsU, show ([c0, c1].drop 1).take 1 = [c1] from rfl] at h1
    obtain ⟨d, e0, r0, w0⟩ := DataW.trod_int Tryz.underlying24 h0
    obtain ⟨k, e1, r1, w1⟩ := DataW.trod_int Tryz.underlying24 h1
    simp only [List.cons.injEq, and_true] at e0 e1
    obtain ⟨M, rfl, u0⟩ := owfU w0
    obtain ⟨R, rfl, u1⟩ := owfU w1
    subst e0 e1 r0 r1
    exact ⟨M, R, rfl, rfl, u0, u1⟩
set_option maxRecDepth 100000 in
theorem oopen_ivc {base fuel : Nat} {spare : Nat → Bool} {held : Bool} {cs : List Value} {x : DataW H × List MemPlace} (h : DataW.trod enc Tryz.prog w base spare held fuel 23 cs = some x) :
    ∃ l h : Int, cs = oivCells l h ∧ x = (.agg [.lit (.int .i64 l), .lit (.int .i64 h)], []) ∧ In64 l ∧ In64 h := by
  obtain ⟨xs, m, _, rfl, hl, hlen, hf⟩ := DataW.trod_struct Tryz.underlying23 h
  rw [ocellsI] at hl
  match xs, hlen, cs, hl with
  | [y0, y1], _, [c0, c1], _ =>
    have h0 : DataW.trod enc Tryz.prog w base spare held m 2 (([c0, c1].drop 0).take (Tryz.prog.cellsOf 2)) = some y0 := hf 0 _ rfl
    rw [ocellsN, show ([c0, c1].drop 0).take 1 = [c0] from rfl] at h0
    have h1 : DataW.trod enc Tryz.prog w base spare held m 2 (([c0, c1].drop 1).take (Tryz.prog.cellsOf 2)) = some y1 := hf 1 _ rfl
    rw [ocellsN, show ([c0, c1].drop 1).take 1 = [c1] from rfl] at h1
    obtain ⟨d, e0, r0, w0⟩ := DataW.trod_int Tryz.underlying2 h0
    obtain ⟨k, e1, r1, w1⟩ := DataW.trod_int Tryz.underlying2 h1
    simp only [List.cons.injEq, and_true] at e0 e1
    subst e0 e1 r0 r1
    exact ⟨d, k, rfl, rfl, owf64 w0, owf64 w1⟩
set_option maxRecDepth 100000 in
theorem oopen_nc {base fuel : Nat} {spare : Nat → Bool} {held : Bool} {cs : List Value} {x : DataW H × List MemPlace} (h : DataW.trod enc Tryz.prog w base spare held fuel 28 cs = some x) :
    ∃ a : Int × Int × Nat × Nat × Bool, cs = onCells a ∧ x = (onData a, []) ∧ RawN a := by
  obtain ⟨xs, m, _, rfl, hl, hlen, hf⟩ := DataW.trod_struct Tryz.underlying28 h
  rw [ocellsM] at hl
  match xs, hlen, cs, hl with
  | [y0, y1, y2], _, [c0, c1, c2, c3, c4], _ =>
    have h0 : DataW.trod enc Tryz.prog w base spare held m 4 (([c0, c1, c2, c3, c4].drop 0).take (Tryz.prog.cellsOf 4)) = some y0 := hf 0 _ rfl
    have h1 : DataW.trod enc Tryz.prog w base spare held m 23 (([c0, c1, c2, c3, c4].drop (Tryz.prog.cellsOf 4)).take (Tryz.prog.cellsOf 23)) = some y1 := hf 1 _ rfl
    have h2 : DataW.trod enc Tryz.prog w base spare held m 26 (([c0, c1, c2, c3, c4].drop (Tryz.prog.cellsOf 4 + Tryz.prog.cellsOf 23)).take (Tryz.prog.cellsOf 26)) = some y2 := hf 2 _ rfl
    rw [ocellsB, show ([c0, c1, c2, c3, c4].drop 0).take 1 = [c0] from rfl] at h0
    rw [ocellsB, ocellsI, show ([c0, c1, c2, c3, c4].drop 1).take 2 = [c1, c2] from rfl] at h1
    rw [ocellsB, ocellsI, ocellsG, show ([c0, c1, c2, c3, c4].drop (1 + 2)).take 2 = [c3, c4] from rfl] at h2
    obtain ⟨b, e0, r0⟩ := DataW.trod_bool Tryz.underlying4 h0
    obtain ⟨lo, hi, e1, r1, i1, i2⟩ := oopen_ivc h1
    obtain ⟨M, R, e2, r2, u1, u2⟩ := oopen_cgc h2
    simp only [oivCells, ocgCells, List.cons.injEq, and_true] at e0 e1 e2
    obtain ⟨rfl, rfl⟩ := e1
    obtain ⟨rfl, rfl⟩ := e2
    subst e0 r0 r1 r2
    exact ⟨(lo, hi, M, R, b), rfl, rfl, i1, i2, u1, u2⟩
set_option maxRecDepth 100000 in
/-- A Num that comes in. -/
theorem open_num {r : Reach} {b0 base : Nat} {spare : Nat → Bool} {held : Bool} {v : Value} {d : DataW H} {ps : List MemPlace} (hval : Value.okWide Tryz.prog w r b0 28 v) (hd : DataW.Trod enc Tryz.prog w base spare held 28 v d ps) :
    ∃ a : Int × Int × Nat × Nat × Bool, v = nv a ∧ RawN a := by
  obtain ⟨cs, rfl, _⟩ := okWide_struct Tryz.underlying28 hval
  obtain ⟨fuel, hf⟩ := hd
  obtain ⟨a, hp, _, h1⟩ := oopen_nc hf
  refine ⟨a, ?_, h1⟩
  have : cs.toList = onCells a := by simpa [Value.cells] using hp
  rw [show cs = (onCells a).toArray by rw [← this]]
  rfl
theorem ocellsP : Tryz.prog.cellsOf 40 = 12 := by kernel_rfl
set_option maxRecDepth 100000 in
/-- Two Nums and two numbers that come in. -/
theorem oopen_case {r : Reach} {b0 base : Nat} {spare : Nat → Bool} {held : Bool} {v : Value} {d : DataW H} {ps : List MemPlace} (hval : Value.okWide Tryz.prog w r b0 40 v) (hd : DataW.Trod enc Tryz.prog w base spare held 40 v d ps) :
    ∃ (a b : Int × Int × Nat × Nat × Bool) (x y : Int), v = .agg #[.bool a.2.2.2.2, .int .i64 a.1, .int .i64 a.2.1, .int .u64 (a.2.2.1 : Int), .int .u64 (a.2.2.2.1 : Int), .bool b.2.2.2.2, .int .i64 b.1, .int .i64 b.2.1, .int .u64 (b.2.2.1 : Int), .int .u64 (b.2.2.2.1 : Int), .int .i64 x, .int .i64 y] ∧ RawN a ∧ RawN b ∧ In64 x ∧ In64 y := by
  obtain ⟨cs, rfl, hcs⟩ := okWide_struct Tryz.underlying40 hval
  obtain ⟨fuel, hf⟩ := hd
  obtain ⟨xs, m, _, hxx, hl, hlen, hg⟩ := DataW.trod_struct Tryz.underlying40 hf
  have hl2 : cs.toList.length = 12 := by rw [ocellsP] at hcs; simpa using hcs
  have hcc : (Value.agg cs).cells.toList = cs.toList := by simp [Value.cells]
  obtain ⟨L, hL⟩ : ∃ L, L = cs.toList := ⟨_, rfl⟩
  have hca : cs = L.toArray := by rw [hL]
  rw [← hL] at hl2 hcc
  match xs, hlen, L, hl2 with
  | [y0, y1, y2, y3], _, [c0, c1, c2, c3, c4, c5, c6, c7, c8, c9, c10, c11], _ =>
    have h0 : DataW.trod enc Tryz.prog w base spare held m 28 (((Value.agg cs).cells.toList.drop 0).take (Tryz.prog.cellsOf 28)) = some y0 := hg 0 _ rfl
    have h1 : DataW.trod enc Tryz.prog w base spare held m 28 (((Value.agg cs).cells.toList.drop (Tryz.prog.cellsOf 28)).take (Tryz.prog.cellsOf 28)) = some y1 := hg 1 _ rfl
    have h2 : DataW.trod enc Tryz.prog w base spare held m 2 (((Value.agg cs).cells.toList.drop (Tryz.prog.cellsOf 28 + Tryz.prog.cellsOf 28)).take (Tryz.prog.cellsOf 2)) = some y2 := hg 2 _ rfl
    have h3 : DataW.trod enc Tryz.prog w base spare held m 2 (((Value.agg cs).cells.toList.drop (Tryz.prog.cellsOf 28 + Tryz.prog.cellsOf 28 + Tryz.prog.cellsOf 2)).take (Tryz.prog.cellsOf 2)) = some y3 := hg 3 _ rfl
    rw [hcc, ocellsM] at h0 h1
    rw [hcc, ocellsM, ocellsN] at h2 h3
    obtain ⟨a, e0, _, a1⟩ := oopen_nc h0
    obtain ⟨b, e1, _, a2⟩ := oopen_nc h1
    obtain ⟨x, e2, _, w2⟩ := DataW.trod_int Tryz.underlying2 h2
    obtain ⟨y, e3, _, w3⟩ := DataW.trod_int Tryz.underlying2 h3
    simp [onCells] at e0 e1 e2 e3
    obtain ⟨rfl, rfl, rfl, rfl, rfl⟩ := e0
    obtain ⟨rfl, rfl, rfl, rfl, rfl⟩ := e1
    subst e2 e3
    refine ⟨a, b, x, y, ?_, a1, a2, owf64 w2, owf64 w3⟩
    rw [hca]
end
end
section
open Go.RowKit Go.Deep Go.WideShapes Go.ChangeShapes
section
variable {H : Type} {enc : TypeId × Value → H} {w : World}
theorem ocells_lt {b o : Nat} {u : Value} (h : w.cell? ⟨b, o, none⟩ = some u) : b < w.heap.size := by
  rcases Nat.lt_or_ge b w.heap.size with hh | hh
  · exact hh
  · simp [World.cell?, Array.getElem?_eq_none hh] at h
def onumData {H : Type} (v : Int) : DataW H := .lit (.int .i64 v)
theorem oopen_nums {fuel : Nat} {held : Bool} {cs : List Value} {x : DataW H × List MemPlace} (h : DataW.trod enc Tryz.prog w 0 (fun _ => true) held fuel 36 cs = some x) :
    (cs = [.slice none 0 0] ∧ x = (.nil, [])) ∨ ∃ (a : Addr) (len cap : Nat) (ts : List Int), cs = [.slice (some a) len cap] ∧ len ≤ cap ∧ cap ≤ maxLen ∧ ts.length = cap ∧ (∀ t ∈ ts, In64 t) ∧
      (0 < cap → ∃ b o, a = ⟨b, o, none⟩ ∧ b < w.heap.size ∧ ∀ i (hi : i < ts.length), w.cell? ⟨b, o + i, none⟩ = some (.int .i64 ts[i])) ∧ x.1 = .slice ((ts.take len).map onumData) ((ts.drop len).map onumData) := by
  rcases open_slice Tryz.underlying36 h with h0 | ⟨a, len, cap, m, n, D, Pl, rfl, _, hl, hm, hme, hx, hel⟩
  · exact .inl h0
  right
  simp only [if_true] at hme
  subst hme
  rw [ocellsN] at hel
  have hex : ∀ i, ∃ t : Int, i < m → w.cells? 0 (a.add (i * 1)) 1 = some [.int .i64 t] ∧ D i = onumData t ∧ In64 t := by
    intro i
    by_cases hi : i < m
    · obtain ⟨cs', h1, h2⟩ := hel i hi
      obtain ⟨t, rfl, h3, h4⟩ := DataW.trod_int Tryz.underlying2 h2
      exact ⟨t, fun _ => ⟨h1, by injection h3, owf64 h4⟩⟩
    · exact ⟨0, fun hh => absurd hh hi⟩
  obtain ⟨f, hf⟩ := Classical.axiomOfChoice hex
  have hg : ∀ i (hi : i < ((List.range m).map f).length), ((List.range m).map f)[i] = f i := by intro i hi; simp
  refine ⟨a, len, m, (List.range m).map f, rfl, hl, hm, by simp, ?_, ?_, ?_⟩
  · intro nd hnd
    obtain ⟨i, hi, rfl⟩ := List.mem_map.1 hnd
    exact (hf i (by simpa using hi)).2.2
  · intro hpos
    have hc : ∀ i, i < m → w.cell? ((a.add (i * 1)).add 0) = some (.int .i64 (f i)) := fun i hi => (World.cells?_some (hf i hi).1).2.2 0 (by decide)
    have h00 := hc 0 hpos
    obtain ⟨b, o, y⟩ := a
    have hy : y = none := by simpa [Addr.add] using World.cell?_spot h00
    subst hy
    have key : ∀ i, i < m → w.cell? ⟨b, o + i, none⟩ = some (.int .i64 (f i)) := fun i hi => by
      have h9 := hc i hi
      rw [Go.WideShapes.add_plain, Go.WideShapes.add_plain, Nat.mul_one, Nat.add_zero] at h9
      exact h9
    exact ⟨b, o, rfl, ocells_lt (key 0 hpos), fun i hi => by rw [hg i hi]; exact key i (by simpa using hi)⟩
  · rw [hx]
    show DataW.slice _ _ = _
    congr 1
    · apply List.ext_getElem
      · simp; omega
      · intro i h1 h2
        simp at h1 h2 ⊢
        exact (hf i (by omega)).2.1
    · apply List.ext_getElem
      · simp
      · intro i h1 h2
        simp at h1 h2 ⊢
        exact (hf _ (by omega)).2.1
/-- A slice of Nums that comes in. -/
theorem oopen_ns {fuel : Nat} {held : Bool} {cs : List Value} {x : DataW H × List MemPlace} (h : DataW.trod enc Tryz.prog w 0 (fun _ => true) held fuel 50 cs = some x) :
    (cs = [.slice none 0 0] ∧ x = (.nil, [])) ∨ ∃ (a : Addr) (len cap : Nat) (ts : List (Int × Int × Nat × Nat × Bool)), cs = [.slice (some a) len cap] ∧ len ≤ cap ∧ cap ≤ maxLen ∧ ts.length = cap ∧ (∀ t ∈ ts, RawN t) ∧
      (0 < cap → ∃ b o, a = ⟨b, o, none⟩ ∧ b < w.heap.size ∧ ∀ i (hi : i < ts.length), w.cell? ⟨b, o + i * 5, none⟩ = some (.bool ts[i].2.2.2.2) ∧ w.cell? ⟨b, o + i * 5 + 1, none⟩ = some (.int .i64 ts[i].1) ∧ w.cell? ⟨b, o + i * 5 + 2, none⟩ = some (.int .i64 ts[i].2.1) ∧ w.cell? ⟨b, o + i * 5 + 3, none⟩ = some (.int .u64 (ts[i].2.2.1 : Int)) ∧ w.cell? ⟨b, o + i * 5 + 4, none⟩ = some (.int .u64 (ts[i].2.2.2.1 : Int))) ∧ x.1 = .slice ((ts.take len).map onData) ((ts.drop len).map onData) := by
  rcases open_slice Tryz.underlying50 h with h0 | ⟨a, len, cap, m, n, D, Pl, rfl, _, hl, hm, hme, hx, hel⟩
  · exact .inl h0
  right
  simp only [if_true] at hme
  subst hme
  rw [ocellsM] at hel
  have hex : ∀ i, ∃ t : Int × Int × Nat × Nat × Bool, i < m → w.cells? 0 (a.add (i * 5)) 5 = some (onCells t) ∧ D i = onData t ∧ RawN t := by
    intro i
    by_cases hi : i < m
    · obtain ⟨cs', h1, h2⟩ := hel i hi
      obtain ⟨t, rfl, h3, h4⟩ := oopen_nc h2
      exact ⟨t, fun _ => ⟨h1, by injection h3, h4⟩⟩
    · exact ⟨botN, fun hh => absurd hh hi⟩
  obtain ⟨f, hf⟩ := Classical.axiomOfChoice hex
  have hg : ∀ i (hi : i < ((List.range m).map f).length), ((List.range m).map f)[i] = f i := by intro i hi; simp
  refine ⟨a, len, m, (List.range m).map f, rfl, hl, hm, by simp, ?_, ?_, ?_⟩
  · intro nd hnd
    obtain ⟨i, hi, rfl⟩ := List.mem_map.1 hnd
    exact (hf i (by simpa using hi)).2.2
  · intro hpos
    have hc : ∀ i, i < m → ∀ j, j < 5 → w.cell? ((a.add (i * 5)).add j) = (onCells (f i))[j]? := fun i hi j hj => (World.cells?_some (hf i hi).1).2.2 j hj
    have h00 := hc 0 hpos 0 (by decide)
    obtain ⟨b, o, y⟩ := a
    have h01 : w.cell? ((({ block := b, off := o, spot := y } : Addr).add (0 * 5)).add 0) = some (.bool (f 0).2.2.2.2) := h00
    have hy : y = none := by simpa [Addr.add] using World.cell?_spot h01
    subst hy
    have key : ∀ i, i < m → ∀ j, j < 5 → w.cell? ⟨b, o + i * 5 + j, none⟩ = (onCells (f i))[j]? := fun i hi j hj => by
      have h9 := hc i hi j hj
      rw [Go.WideShapes.add_plain, Go.WideShapes.add_plain] at h9
      exact h9
    refine ⟨b, o, rfl, ocells_lt (key 0 hpos 0 (by decide)), fun i hi => ?_⟩
    rw [hg i hi]
    exact ⟨key i (by simpa using hi) 0 (by decide), key i (by simpa using hi) 1 (by decide), key i (by simpa using hi) 2 (by decide), key i (by simpa using hi) 3 (by decide), key i (by simpa using hi) 4 (by decide)⟩
  · rw [hx]
    show DataW.slice _ _ = _
    congr 1
    · apply List.ext_getElem
      · simp; omega
      · intro i h1 h2
        simp at h1 h2 ⊢
        exact (hf i (by omega)).2.1
    · apply List.ext_getElem
      · simp
      · intro i h1 h2
        simp at h1 h2 ⊢
        exact (hf _ (by omega)).2.1
end
end
section
open Go.ChangeShapes Go.WideShapes Go.ChangeAt Go.RowKit Go.Deep
theorem own : ownKnob Tryz.prog.godebug = none := by kernel_rfl
set_option maxRecDepth 100000 in
theorem laidOut : laidOutB Tryz.prog = true := by kernel_rfl
theorem bytesN : Tryz.prog.bytesOf 2 = 8 := by kernel_rfl
theorem bytesM : Tryz.prog.bytesOf 28 = 40 := by kernel_rfl
theorem weight_ns {H : Type} {a b : List (DataW H)} {t0 : TypeId} {d0 : DataW H} {ts : List TypeId} {r : List (DataW H)} (h : (DataW.weightsEach Tryz.prog (t0 :: 50 :: ts) (d0 :: .slice a b :: r)).all (· ≤ reachBytes) = true) : (a.length + b.length) * 40 ≤ reachBytes := by
  simp only [DataW.weightsEach, DataW.weights, Tryz.underlying50, bytesM, List.cons_append, List.all_cons, List.all_append, Bool.and_eq_true, decide_eq_true_eq] at h
  exact h.2.1
theorem weight_nums {H : Type} {a b : List (DataW H)} {t0 t1 : TypeId} {d0 d1 : DataW H} {ts : List TypeId} {r : List (DataW H)} (h : (DataW.weightsEach Tryz.prog (t0 :: t1 :: 36 :: ts) (d0 :: d1 :: .slice a b :: r)).all (· ≤ reachBytes) = true) : (a.length + b.length) * 8 ≤ reachBytes := by
  simp only [DataW.weightsEach, DataW.weights, Tryz.underlying36, bytesN, List.cons_append, List.all_cons, List.all_append, Bool.and_eq_true, decide_eq_true_eq] at h
  exact h.2.2.1
namespace numRows
set_option maxRecDepth 100000 in
theorem contract (H : Type) (enc : TypeId × Value → H) (W : World) (base : Nat) (args : Array Value) (ds gs : List (DataW H)) (before : List MemPlace)
    (hval : ∀ (j : Nat) t v, Tryz.f5.params[j]? = some t → args[j]? = some v → Value.okWide Tryz.prog W .any base t v)
    (hW : DataW.Whole enc Tryz.prog Tryz.f5.params.toList Rows.numRowsSpec.vars false W args.toList ds gs before) (hk : (DataW.weightsEach Tryz.prog (Tryz.f5.params.toList ++ (OpenSpec.ofChange Rows.numRowsSpec).bare.plain.varTypes Tryz.prog) (ds ++ gs)).all (· ≤ reachBytes) = true) :
    Calls Tryz.prog 5 args W fun e W' => ∃ v, e = .returned v ∧ Rows.numRowsSpec.post enc Tryz.prog Tryz.f5 false true false false W args v W' := by
  have hW' := hW
  obtain ⟨p, q, hA0, hV, rfl, hfz, hnd⟩ := hW
  have hA : DataW.TrodAll enc Tryz.prog W 0 (fun _ => true) true Tryz.f5.params.toList args.toList ds p := hA0
  rw [Tryz.params5] at hA hval hk
  obtain ⟨v0, vs0, d0, ds0, p0, q0, hargs, rfl, rfl, h0, r0⟩ := trodAll_cons hA
  obtain ⟨v1, vs1, d1, ds1, p1, q1, rfl, rfl, rfl, h1, r1⟩ := trodAll_cons r0
  obtain ⟨v2, vs2, d2, ds2, p2, q2, rfl, rfl, rfl, h2, r2⟩ := trodAll_cons r1
  obtain ⟨rfl, rfl, rfl⟩ := trodAll_nil r2
  obtain rfl : args = #[v0, v1, v2] := by cases args; simp_all
  obtain ⟨rfl, rfl⟩ := trodVars_none hV
  have h0k := h0
  have h1k := h1
  have h2k := h2
  obtain ⟨a0, rfl, i0⟩ := open_num (hval 0 28 v0 rfl rfl) h0
  obtain ⟨a1, len1, cap1, rfl⟩ := okWide_slice Tryz.underlying50 (hval 1 50 v1 rfl rfl)
  obtain ⟨fuel1, hf1⟩ := h1
  obtain ⟨a2, len2, cap2, rfl⟩ := okWide_slice Tryz.underlying36 (hval 2 36 v2 rfl rfl)
  obtain ⟨fuel2, hf2⟩ := h2
  clear hA0
  simp only [List.append_nil] at hW' hk
  have hlt0 : ∀ y ∈ p0, y.block < W.heap.size := fun y hy => hW'.lt y (by simp [hy])
  have hlt1 : ∀ y ∈ p1, y.block < W.heap.size := fun y hy => hW'.lt y (by simp [hy])
  have hlt2 : ∀ y ∈ p2, y.block < W.heap.size := fun y hy => hW'.lt y (by simp [hy])
  have walk : Calls Tryz.prog 5 #[nv a0, .slice a1 len1 cap1, .slice a2 len2 cap2] W fun e w' => e = .returned (.bool true) ∧ Below W.heap.size W w' := by
    obtain ⟨ts, ht1, ht2, ht3⟩ : ∃ ts : List Int, ts.length = len2 ∧ ts.length ≤ 140737488355328 ∧ SInts W (.slice a2 ts.length cap2) ts := by
      rcases oopen_nums (x := (d2, p2)) hf2 with ⟨hcs, hx⟩ | ⟨a, len', cap', ns, hcs, hl, hcm, hnl, hwf, hat, hx⟩
      · have hcs' : Value.slice a2 len2 cap2 = .slice none 0 0 := by simpa [Value.cells] using hcs
        injection hcs' with e1 e2 e3
        subst e1 e2 e3
        exact ⟨[], rfl, by simp, Or.inr ⟨_, _, rfl, rfl⟩⟩
      · have hcs' : Value.slice a2 len2 cap2 = .slice (some a) len' cap' := by simpa [Value.cells] using hcs
        injection hcs' with e1 e2 e3
        subst e1 e2 e3
        have hx' : d2 = .slice ((ns.take len2).map onumData) ((ns.drop len2).map onumData) := hx
        rw [hx'] at hk
        have hb9 := weight_nums hk
        simp only [List.length_map, List.length_take, List.length_drop, reachBytes] at hb9
        have hlen : (ns.take len2).length = len2 := by rw [List.length_take]; omega
        refine ⟨ns.take len2, hlen, by rw [hlen]; omega, ?_⟩
        by_cases h0 : len2 = 0
        · subst h0
          exact Or.inr ⟨some a, cap2, by simp, by simp⟩
        · obtain ⟨b, o, rfl, hlt9, hc9⟩ := hat (by omega)
          refine Or.inl ⟨b, o, cap2, rfl, ?_, hlt9, by rw [hlen]; omega⟩
          intro i hi
          rw [List.getElem_take]
          exact hc9 i (by rw [hlen] at hi; omega)
    obtain ⟨rs, hr1, hr2, hr3, hr4⟩ : ∃ rs : List (Int × Int × Nat × Nat × Bool), rs.length = len1 ∧ rs.length ≤ 140737488355328 ∧ SNs W a1 rs ∧ (∀ p ∈ rs, RawN p) := by
      rcases oopen_ns (x := (d1, p1)) hf1 with ⟨hcs, hx⟩ | ⟨a, len', cap', ns, hcs, hl, hcm, hnl, hwf, hat, hx⟩
      · have hcs' : Value.slice a1 len1 cap1 = .slice none 0 0 := by simpa [Value.cells] using hcs
        injection hcs' with e1 e2 e3
        subst e1 e2 e3
        exact ⟨[], rfl, by simp, fun h => absurd rfl h, by simp⟩
      · have hcs' : Value.slice a1 len1 cap1 = .slice (some a) len' cap' := by simpa [Value.cells] using hcs
        injection hcs' with e1 e2 e3
        subst e1 e2 e3
        have hx' : d1 = .slice ((ns.take len1).map onData) ((ns.drop len1).map onData) := hx
        rw [hx'] at hk
        have hb9 := weight_ns hk
        simp only [List.length_map, List.length_take, List.length_drop, reachBytes] at hb9
        have hlen : (ns.take len1).length = len1 := by rw [List.length_take]; omega
        refine ⟨ns.take len1, hlen, by rw [hlen]; omega, ?_, fun p hp => hwf p (List.mem_of_mem_take hp)⟩
        intro hne
        have h0 : len1 ≠ 0 := by intro h; apply hne; apply List.length_eq_zero_iff.1; omega
        obtain ⟨b, o, rfl, hlt9, hc9⟩ := hat (by omega)
        refine ⟨b, o, rfl, hlt9, ?_⟩
        intro i hi
        rw [List.getElem_take]
        exact hc9 i (by rw [hlen] at hi; omega)
    rw [← ht1, ← hr1]
    exact nrows_any a0 a1 cap1 rs a2 cap2 ts i0 hr4 ht2 hr2 W ht3 hr3
  refine walk.mono fun e W' ⟨he, bel⟩ => ?_
  subst he
  refine ⟨_, rfl, _, _, _, [], (p0 ++ (p1 ++ (p2 ++ []))), [], hW', ?_, ?_, rfl, bel.frame _, fun h => by cases h⟩
  · exact trodAll_cons_mk (shut_bool Tryz.underlying4 _) trodAll_mk0
  · exact (trodAll_cons_mk (Below.trod laidOut (by kernel_rfl) (of_decide_eq_true (by kernel_rfl)) h0k bel hlt0) (trodAll_cons_mk (Below.trod laidOut (by kernel_rfl) (of_decide_eq_true (by kernel_rfl)) h1k bel hlt1) (trodAll_cons_mk (Below.trod laidOut (by kernel_rfl) (of_decide_eq_true (by kernel_rfl)) h2k bel hlt2) trodAll_mk0)))
set_option maxRecDepth 100000 in
theorem lifted (os : Os) (started : os.Started) (H : Type) (enc : TypeId × Value → H) (F : Stop.Interp) :
    ReturnsInHanded {} Tryz.checked os 5 .any ((OpenSpec.ofChange Rows.numRowsSpec).preRow enc Tryz.prog Tryz.f5 Rows.numRowsRow.domain false Rows.numRowsRow.laid) (((OpenSpec.ofChange Rows.numRowsSpec).at F).post enc Tryz.prog Tryz.f5 false true false false) := by
  obtain ⟨w, tape, i, g1, g2, g3, g4, g5, g6, _⟩ := OpenSpec.witness_stopped (enc := enc) (C := Tryz.checked) (os := os) (f := 5) (fn := Tryz.f5) (s := OpenSpec.ofChange Rows.numRowsSpec) (conds := Rows.numRowsRow.domain) (apart := false) false ⟨#[], #[.agg #[.bool false, .int .i64 0, .int .i64 0, .int .u64 0, .int .u64 0], .slice none 0 0, .slice none 0 0], []⟩ 8 (by kernel_rfl) (by kernel_rfl) (by kernel_rfl) (by kernel_rfl) (by kernel_rfl) rfl F
  refine returnsInHanded_of_row (C := Tryz.checked) (s := OpenSpec.ofChange Rows.numRowsSpec) own started (by kernel_rfl) Tryz.func5 ⟨w, tape, i, g1, g2, g3, g4, g5, g6⟩ ?_
  intro W base args ds gs before hval hW _ _ hk hL _ _
  exact contract H enc W base args ds gs before hval hW hk
set_option maxRecDepth 100000 in
theorem said : Rows.NumRowsSaid :=
  OpenClaim.holds_of_cond 5 Tryz.f5 rfl rfl rfl rfl rfl rfl rfl ⟨rfl, rfl, rfl, rfl, rfl⟩ rfl rfl rfl rfl rfl (by kernel_rfl) Tryz.func5 (by kernel_rfl)
    (of_decide_eq_true (by kernel_rfl)) (by unfold Func.isWrapper; first | (rw [if_pos (by decide +kernel)]; kernel_rfl) | (rw [if_neg (by decide +kernel)]; exact ⟨rfl, rfl⟩))
    (fun os started H enc _ F => by rw [OpenClaim.pre_eq_preRow]; exact lifted os started H enc F)
#print axioms said
end numRows
theorem numRows_said : Rows.NumRowsSaid := numRows.said
end
end Go.Proofs.YtbclkkpddomoiaaGreat
