import Derived.Deep.Slices
import Derived.Lib.SmallJoins
import Derived.ProofKit
import Derived.OpenShut
import Derived.Test.YtbkblijoimmdeaaKNset
import Derived.Test.YtbkblijoimmdeaaKNv
set_option linter.unusedVariables false
set_option linter.unusedSimpArgs false
/- Nopen -/
namespace Go.Proofs.Ytbkblijoimmdeaa
open Go.RowKit Go.Deep Go.WideShapes Go.ChangeShapes
section
variable {H : Type} {enc : TypeId × Value → H} {w : World}
theorem ocellsU : Try.prog.cellsOf 42 = 1 := by kernel_rfl
theorem ocellsN : Try.prog.cellsOf 2 = 1 := by kernel_rfl
theorem ocellsB : Try.prog.cellsOf 4 = 1 := by kernel_rfl
theorem ocellsG : Try.prog.cellsOf 44 = 2 := by kernel_rfl
theorem ocellsI : Try.prog.cellsOf 41 = 2 := by kernel_rfl
theorem ocellsM : Try.prog.cellsOf 46 = 5 := by kernel_rfl
theorem owf64 {v : Int} (h : (Lit.int .i64 v).wf = true) : In64 v := by
  simp only [Lit.wf, IntKind.min, IntKind.max, Bool.and_eq_true, decide_eq_true_eq] at h
  exact ⟨by simpa [IntKind.signed, IntKind.bits] using h.1, by simpa [IntKind.signed, IntKind.bits] using h.2⟩
theorem owfU {v : Int} (h : (Lit.int .u64 v).wf = true) : ∃ n : Nat, v = (n : Int) ∧ U64 n := by
  simp only [Lit.wf, IntKind.min, IntKind.max, Bool.and_eq_true, decide_eq_true_eq] at h
  have a : 0 ≤ v := by simpa [IntKind.signed, IntKind.bits] using h.1
  have b : v ≤ 18446744073709551615 := by simpa [IntKind.signed, IntKind.bits] using h.2
  exact ⟨v.toNat, by omega, by unfold U64; omega⟩
def ocgCells (M R : Nat) : List Value := [.int .u64 (M : Int), .int .u64 (R : Int)]
def oivCells (l h : Int) : List Value := [.int .i64 l, .int .i64 h]
def onCells (a : Int × Int × Nat × Nat × Bool) : List Value := [.bool a.2.2.2.2, .int .i64 a.1, .int .i64 a.2.1, .int .u64 (a.2.2.1 : Int), .int .u64 (a.2.2.2.1 : Int)]
def onData {H : Type} (a : Int × Int × Nat × Nat × Bool) : DataW H := .agg [.lit (.bool a.2.2.2.2), .agg [.lit (.int .i64 a.1), .lit (.int .i64 a.2.1)], .agg [.lit (.int .u64 (a.2.2.1 : Int)), .lit (.int .u64 (a.2.2.2.1 : Int))]]
set_option maxRecDepth 100000 in
theorem oopen_cgc {base fuel : Nat} {spare : Nat → Bool} {held : Bool} {cs : List Value} {x : DataW H × List MemPlace} (h : DataW.trod enc Try.prog w base spare held fuel 44 cs = some x) :
    ∃ M R : Nat, cs = ocgCells M R ∧ x = (.agg [.lit (.int .u64 (M : Int)), .lit (.int .u64 (R : Int))], []) ∧ U64 M ∧ U64 R := by
  obtain ⟨xs, m, _, rfl, hl, hlen, hf⟩ := DataW.trod_struct Try.underlying44 h
  rw [ocellsG] at hl
  match xs, hlen, cs, hl with
  | [y0, y1], _, [c0, c1], _ =>
    have h0 : DataW.trod enc Try.prog w base spare held m 42 (([c0, c1].drop 0).take (Try.prog.cellsOf 42)) = some y0 := hf 0 _ rfl
    rw [ocellsU, show ([c0, c1].drop 0).take 1 = [c0] from rfl] at h0
    have h1 : DataW.trod enc Try.prog w base spare held m 42 (([c0, c1].drop 1).take (Try.prog.cellsOf 42)) = some y1 := hf 1 _ rfl
    rw [ocellsU, show ([c0, c1].drop 1).take 1 = [c1] from rfl] at h1
    obtain ⟨d, e0, r0, w0⟩ := DataW.trod_int Try.underlying42 h0
    obtain ⟨k, e1, r1, w1⟩ := DataW.trod_int Try.underlying42 h1
    simp only [List.cons.injEq, and_true] at e0 e1
    obtain ⟨M, rfl, u0⟩ := owfU w0
    obtain ⟨R, rfl, u1⟩ := owfU w1
    subst e0 e1 r0 r1
    exact ⟨M, R, rfl, rfl, u0, u1⟩
set_option maxRecDepth 100000 in
theorem oopen_ivc {base fuel : Nat} {spare : Nat → Bool} {held : Bool} {cs : List Value} {x : DataW H × List MemPlace} (h : DataW.trod enc Try.prog w base spare held fuel 41 cs = some x) :
    ∃ l h : Int, cs = oivCells l h ∧ x = (.agg [.lit (.int .i64 l), .lit (.int .i64 h)], []) ∧ In64 l ∧ In64 h := by
  obtain ⟨xs, m, _, rfl, hl, hlen, hf⟩ := DataW.trod_struct Try.underlying41 h
  rw [ocellsI] at hl
  match xs, hlen, cs, hl with
  | [y0, y1], _, [c0, c1], _ =>
    have h0 : DataW.trod enc Try.prog w base spare held m 2 (([c0, c1].drop 0).take (Try.prog.cellsOf 2)) = some y0 := hf 0 _ rfl
    rw [ocellsN, show ([c0, c1].drop 0).take 1 = [c0] from rfl] at h0
    have h1 : DataW.trod enc Try.prog w base spare held m 2 (([c0, c1].drop 1).take (Try.prog.cellsOf 2)) = some y1 := hf 1 _ rfl
    rw [ocellsN, show ([c0, c1].drop 1).take 1 = [c1] from rfl] at h1
    obtain ⟨d, e0, r0, w0⟩ := DataW.trod_int Try.underlying2 h0
    obtain ⟨k, e1, r1, w1⟩ := DataW.trod_int Try.underlying2 h1
    simp only [List.cons.injEq, and_true] at e0 e1
    subst e0 e1 r0 r1
    exact ⟨d, k, rfl, rfl, owf64 w0, owf64 w1⟩
set_option maxRecDepth 100000 in
theorem oopen_nc {base fuel : Nat} {spare : Nat → Bool} {held : Bool} {cs : List Value} {x : DataW H × List MemPlace} (h : DataW.trod enc Try.prog w base spare held fuel 46 cs = some x) :
    ∃ a : Int × Int × Nat × Nat × Bool, cs = onCells a ∧ x = (onData a, []) ∧ RawN a := by
  obtain ⟨xs, m, _, rfl, hl, hlen, hf⟩ := DataW.trod_struct Try.underlying46 h
  rw [ocellsM] at hl
  match xs, hlen, cs, hl with
  | [y0, y1, y2], _, [c0, c1, c2, c3, c4], _ =>
    have h0 : DataW.trod enc Try.prog w base spare held m 4 (([c0, c1, c2, c3, c4].drop 0).take (Try.prog.cellsOf 4)) = some y0 := hf 0 _ rfl
    have h1 : DataW.trod enc Try.prog w base spare held m 41 (([c0, c1, c2, c3, c4].drop (Try.prog.cellsOf 4)).take (Try.prog.cellsOf 41)) = some y1 := hf 1 _ rfl
    have h2 : DataW.trod enc Try.prog w base spare held m 44 (([c0, c1, c2, c3, c4].drop (Try.prog.cellsOf 4 + Try.prog.cellsOf 41)).take (Try.prog.cellsOf 44)) = some y2 := hf 2 _ rfl
    rw [ocellsB, show ([c0, c1, c2, c3, c4].drop 0).take 1 = [c0] from rfl] at h0
    rw [ocellsB, ocellsI, show ([c0, c1, c2, c3, c4].drop 1).take 2 = [c1, c2] from rfl] at h1
    rw [ocellsB, ocellsI, ocellsG, show ([c0, c1, c2, c3, c4].drop (1 + 2)).take 2 = [c3, c4] from rfl] at h2
    obtain ⟨b, e0, r0⟩ := DataW.trod_bool Try.underlying4 h0
    obtain ⟨lo, hi, e1, r1, i1, i2⟩ := oopen_ivc h1
    obtain ⟨M, R, e2, r2, u1, u2⟩ := oopen_cgc h2
    simp only [oivCells, ocgCells, List.cons.injEq, and_true] at e0 e1 e2
    obtain ⟨rfl, rfl⟩ := e1
    obtain ⟨rfl, rfl⟩ := e2
    subst e0 r0 r1 r2
    exact ⟨(lo, hi, M, R, b), rfl, rfl, i1, i2, u1, u2⟩
end
end Go.Proofs.Ytbkblijoimmdeaa
