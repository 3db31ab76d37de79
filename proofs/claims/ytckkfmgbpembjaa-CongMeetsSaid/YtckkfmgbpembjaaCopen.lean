import Derived.Test.YtckkfmgbpembjaaCint
import Derived.Deep.Slices
import Derived.Lib.SmallJoins
import Derived.ProofKit
import Derived.OpenShut
set_option linter.unusedVariables false
set_option linter.unusedSimpArgs false
/- What comes in: classes, two of them with two numbers. -/
namespace Go.Proofs.Ytckkfmgbpembjaa
open Go.RowKit Go.Deep Go.WideShapes Go.ChangeShapes
section
variable {H : Type} {enc : TypeId × Value → H} {w : World}
theorem cellsU : Try.prog.cellsOf 22 = 1 := by kernel_rfl
theorem cellsN : Try.prog.cellsOf 2 = 1 := by kernel_rfl
theorem cellsG : Try.prog.cellsOf 24 = 2 := by kernel_rfl
theorem wf64 {v : Int} (h : (Lit.int .i64 v).wf = true) : In64 v := by
  simp only [Lit.wf, IntKind.min, IntKind.max, Bool.and_eq_true, decide_eq_true_eq] at h
  exact ⟨by simpa [IntKind.signed, IntKind.bits] using h.1, by simpa [IntKind.signed, IntKind.bits] using h.2⟩
theorem wfU {v : Int} (h : (Lit.int .u64 v).wf = true) : ∃ n : Nat, v = (n : Int) ∧ U64 n := by
  simp only [Lit.wf, IntKind.min, IntKind.max, Bool.and_eq_true, decide_eq_true_eq] at h
  have a : 0 ≤ v := by simpa [IntKind.signed, IntKind.bits] using h.1
  have b : v ≤ 18446744073709551615 := by simpa [IntKind.signed, IntKind.bits] using h.2
  exact ⟨v.toNat, by omega, by unfold U64; omega⟩
def cgCells (M R : Nat) : List Value := [.int .u64 (M : Int), .int .u64 (R : Int)]
set_option maxRecDepth 100000 in
theorem open_cgc {base fuel : Nat} {spare : Nat → Bool} {held : Bool} {cs : List Value} {x : DataW H × List MemPlace} (h : DataW.trod enc Try.prog w base spare held fuel 24 cs = some x) :
    ∃ M R : Nat, cs = cgCells M R ∧ U64 M ∧ U64 R := by
  obtain ⟨xs, m, _, rfl, hl, hlen, hf⟩ := DataW.trod_struct Try.underlying24 h
  rw [cellsG] at hl
  match xs, hlen, cs, hl with
  | [y0, y1], _, [c0, c1], _ =>
    have h0 : DataW.trod enc Try.prog w base spare held m 22 (([c0, c1].drop 0).take (Try.prog.cellsOf 22)) = some y0 := hf 0 _ rfl
    rw [cellsU, show ([c0, c1].drop 0).take 1 = [c0] from rfl] at h0
    have h1 : DataW.trod enc Try.prog w base spare held m 22 (([c0, c1].drop 1).take (Try.prog.cellsOf 22)) = some y1 := hf 1 _ rfl
    rw [cellsU, show ([c0, c1].drop 1).take 1 = [c1] from rfl] at h1
    obtain ⟨d, e0, r0, w0⟩ := DataW.trod_int Try.underlying22 h0
    obtain ⟨k, e1, r1, w1⟩ := DataW.trod_int Try.underlying22 h1
    simp only [List.cons.injEq, and_true] at e0 e1
    obtain ⟨M, rfl, u0⟩ := wfU w0
    obtain ⟨R, rfl, u1⟩ := wfU w1
    subst e0 e1
    exact ⟨M, R, rfl, u0, u1⟩
set_option maxRecDepth 100000 in
/-- A class that comes in. -/
theorem open_cg {r : Reach} {b0 base : Nat} {spare : Nat → Bool} {held : Bool} {v : Value} {d : DataW H} {ps : List MemPlace} (hval : Value.okWide Try.prog w r b0 24 v) (hd : DataW.Trod enc Try.prog w base spare held 24 v d ps) :
    ∃ M R : Nat, v = cv M R ∧ U64 M ∧ U64 R := by
  obtain ⟨cs, rfl, _⟩ := okWide_struct Try.underlying24 hval
  obtain ⟨fuel, hf⟩ := hd
  obtain ⟨M, R, hp, h1, h2⟩ := open_cgc hf
  refine ⟨M, R, ?_, h1, h2⟩
  have : cs.toList = cgCells M R := by simpa [Value.cells] using hp
  rw [show cs = (cgCells M R).toArray by rw [← this]]
  rfl
theorem cellsP : Try.prog.cellsOf 37 = 6 := by kernel_rfl
set_option maxRecDepth 100000 in
/-- Two classes and two numbers that come in. -/
theorem open_case {r : Reach} {b0 base : Nat} {spare : Nat → Bool} {held : Bool} {v : Value} {d : DataW H} {ps : List MemPlace} (hval : Value.okWide Try.prog w r b0 37 v) (hd : DataW.Trod enc Try.prog w base spare held 37 v d ps) :
    ∃ (cM cR dM dR : Nat) (x y : Int), v = .agg #[.int .u64 (cM : Int), .int .u64 (cR : Int), .int .u64 (dM : Int), .int .u64 (dR : Int), .int .i64 x, .int .i64 y] ∧ U64 cM ∧ U64 cR ∧ U64 dM ∧ U64 dR ∧ In64 x ∧ In64 y := by
  obtain ⟨cs, rfl, hcs⟩ := okWide_struct Try.underlying37 hval
  obtain ⟨fuel, hf⟩ := hd
  obtain ⟨xs, m, _, hxx, hl, hlen, hg⟩ := DataW.trod_struct Try.underlying37 hf
  have hl2 : cs.toList.length = 6 := by rw [cellsP] at hcs; simpa using hcs
  have hcc : (Value.agg cs).cells.toList = cs.toList := by simp [Value.cells]
  obtain ⟨L, hL⟩ : ∃ L, L = cs.toList := ⟨_, rfl⟩
  have hca : cs = L.toArray := by rw [hL]
  rw [← hL] at hl2 hcc
  match xs, hlen, L, hl2 with
  | [y0, y1, y2, y3], _, [c0, c1, c2, c3, c4, c5], _ =>
    have h0 : DataW.trod enc Try.prog w base spare held m 24 (((Value.agg cs).cells.toList.drop 0).take (Try.prog.cellsOf 24)) = some y0 := hg 0 _ rfl
    have h1 : DataW.trod enc Try.prog w base spare held m 24 (((Value.agg cs).cells.toList.drop (Try.prog.cellsOf 24)).take (Try.prog.cellsOf 24)) = some y1 := hg 1 _ rfl
    have h2 : DataW.trod enc Try.prog w base spare held m 2 (((Value.agg cs).cells.toList.drop (Try.prog.cellsOf 24 + Try.prog.cellsOf 24)).take (Try.prog.cellsOf 2)) = some y2 := hg 2 _ rfl
    have h3 : DataW.trod enc Try.prog w base spare held m 2 (((Value.agg cs).cells.toList.drop (Try.prog.cellsOf 24 + Try.prog.cellsOf 24 + Try.prog.cellsOf 2)).take (Try.prog.cellsOf 2)) = some y3 := hg 3 _ rfl
    rw [hcc, cellsG] at h0 h1
    rw [hcc, cellsG, cellsN] at h2 h3
    obtain ⟨p1, p2, e0, a1, a2⟩ := open_cgc h0
    obtain ⟨q1, q2, e1, a3, a4⟩ := open_cgc h1
    obtain ⟨x, e2, _, w2⟩ := DataW.trod_int Try.underlying2 h2
    obtain ⟨y, e3, _, w3⟩ := DataW.trod_int Try.underlying2 h3
    simp [cgCells] at e0 e1 e2 e3
    obtain ⟨rfl, rfl⟩ := e0
    obtain ⟨rfl, rfl⟩ := e1
    subst e2 e3
    exact ⟨p1, p2, q1, q2, x, y, by rw [hca], a1, a2, a3, a4, wf64 w2, wf64 w3⟩
end
end Go.Proofs.Ytckkfmgbpembjaa
