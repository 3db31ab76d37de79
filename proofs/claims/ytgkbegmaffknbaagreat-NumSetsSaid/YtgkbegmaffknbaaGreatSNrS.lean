import Derived.Deep.Slices
import Derived.Lib.SmallJoins
import Derived.ProofKit
import Derived.OpenShut
import Derived.Deep.DeepHandedRow
import Derived.Deep.DeepWitnessRowRef
import Derived.JoinedCond
import Derived.Stop.Joined
import Derived.Test.YtgkbegmaffknbaaGreatSNse
import Derived.Test.YtgkbegmaffknbaaGreatSNset
import Derived.Test.YtgkbegmaffknbaaGreatSNv
set_option linter.unusedVariables false
set_option linter.unusedSimpArgs false
/- Nopen NrS -/
namespace Go.Proofs.YtgkbegmaffknbaaGreat
section
open Go.RowKit Go.Deep Go.WideShapes Go.ChangeShapes
section
variable {H : Type} {enc : TypeId × Value → H} {w : World}
theorem ocellsU : Tryz.prog.cellsOf 24 = 1 := by kernel_rfl
theorem ocellsN : Tryz.prog.cellsOf 2 = 1 := by kernel_rfl
theorem ocellsB : Tryz.prog.cellsOf 4 = 1 := by kernel_rfl
theorem ocellsG : Tryz.prog.cellsOf 26 = 2 := by kernel_rfl
theorem ocellsI : Tryz.prog.cellsOf 23 = 2 := by kernel_rfl
theorem ocellsM : Tryz.prog.cellsOf 28 = 5 := by kernel_rfl
theorem owf64 {v : Int} (h : (Lit.int .i64 v).wf = true) : In64 v := by
  simp only [Lit.wf, IntKind.min, IntKind.max, Bool.and_eq_true, decide_eq_true_eq] at h
  exact ⟨by simpa [IntKind.signed, IntKind.bits] using h.1, by simpa [IntKind.signed, IntKind.bits] using h.2⟩
theorem owfU {v : Int} (h : (Lit.int .u64 v).wf = true) : ∃ n : Nat, v = (n : Int) ∧ U64 n := by
  simp only [Lit.wf, IntKind.min, IntKind.max, Bool.and_eq_true, decide_eq_true_eq] at h
  have a : 0 ≤ v := by simpa [IntKind.signed, IntKind.bits] using h.1
  have b : v ≤ 18446744073709551615 := by simpa [IntKind.signed, IntKind.bits] using h.2
  exact ⟨v.toNat, by omega, by unfold U64; omega⟩
def ocgCells (M R : Nat) : List Value := [.int .u64 (M : Int), .int .u64 (R : Int)]
def oivCells (l h : Int) : List Value := [.int .i64 l, .int .i64 h]
def onCells (a : Int × Int × Nat × Nat × Bool) : List Value := [.bool a.2.2.2.2, .int .i64 a.1, .int .i64 a.2.1, .int .u64 (a.2.2.1 : Int), .int .u64 (a.2.2.2.1 : Int)]
def onData {H : Type} (a : Int × Int × Nat × Nat × Bool) : DataW H := .agg [.lit (.bool a.2.2.2.2), .agg [.lit (.int .i64 a.1), .lit (.int .i64 a.2.1)], .agg [.lit (.int .u64 (a.2.2.1 : Int)), .lit (.int .u64 (a.2.2.2.1 : Int))]]
set_option maxRecDepth 100000 in
theorem oopen_cgc {base fuel : Nat} {spare : Nat → Bool} {held : Bool} {cs : List Value} {x : DataW H × List MemPlace} (h : DataW.trod enc Tryz.prog w base spare held fuel 26 cs = some x) :
    ∃ M R : Nat, cs = ocgCells M R ∧ x = (.agg [.lit (.int .u64 (M : Int)), .lit (.int .u64 (R : Int))], []) ∧ U64 M ∧ U64 R := by
  obtain ⟨xs, m, _, rfl, hl, hlen, hf⟩ := DataW.trod_struct Tryz.underlying26 h
  rw [ocellsG] at hl
  match xs, hlen, cs, hl with
  | [y0, y1], _, [c0, c1], _ =>
    have h0 : DataW.trod enc Tryz.prog w base spare held m 24 (([c0, c1].drop 0).take (Tryz.prog.cellsOf 24)) = some y0 := hf 0 _ rfl
    rw [ocellsU, show ([c0, c1].drop 0).take 1 = [c0] from rfl] at h0
    have h1 : DataW.trod enc Tryz.prog w base spare held m 24 (([c0, c1].drop 1).take (Tryz.prog.cellsOf 24)) = some y1 := hf 1 _ rfl
    rw [ocellsU, show ([c0, c1].drop 1).take 1 = [c1] from rfl] at h1
    obtain ⟨d, e0, r0, w0⟩ := DataW.trod_int Tryz.underlying24 h0
    obtain ⟨k, e1, r1, w1⟩ := DataW.trod_int Tryz.underlying24 h1
    simp only [List.cons.injEq, and_true] at e0 e1
    obtain ⟨M, rfl, u0⟩ := owfU w0
    obtain ⟨R, rfl, u1⟩ := owfU w1
    subst e0 e1 r0 r1
    exact ⟨M, R, rfl, rfl, u0, u1⟩
set_option maxRecDepth 100000 in
theorem oopen_ivc {base fuel : Nat} {spare : Nat → Bool} {held : Bool} {cs : List Value} {x : DataW H × List MemPlace} (h : DataW.trod enc Tryz.prog w base spare held fuel 23 cs = some x) :
    ∃ l h : Int, cs = oivCells l h ∧ x = (.agg [.lit (.int .i64 l), .lit (.int .i64 h)], []) ∧ In64 l ∧ In64 h := by
  obtain ⟨xs, m, _, rfl, hl, hlen, hf⟩ := DataW.trod_struct Tryz.underlying23 h
  rw [ocellsI] at hl
  match xs, hlen, cs, hl with
  | [y0, y1], _, [c0, c1], _ =>
    have h0 : DataW.trod enc Tryz.prog w base spare held m 2 (([c0, c1].drop 0).take (Tryz.prog.cellsOf 2)) = some y0 := hf 0 _ rfl
    rw [ocellsN, show ([c0, c1].drop 0).take 1 = [c0] from rfl] at h0
    have h1 : DataW.trod enc Tryz.prog w base spare held m 2 (([c0, c1].drop 1).take (Tryz.prog.cellsOf 2)) = some y1 := hf 1 _ rfl
    rw [ocellsN, show ([c0, c1].drop 1).take 1 = [c1] from rfl] at h1
    obtain ⟨d, e0, r0, w0⟩ := DataW.trod_int Tryz.underlying2 h0
    obtain ⟨k, e1, r1, w1⟩ := DataW.trod_int Tryz.underlying2 h1
    simp only [List.cons.injEq, and_true] at e0 e1
    subst e0 e1 r0 r1
    exact ⟨d, k, rfl, rfl, owf64 w0, owf64 w1⟩
set_option maxRecDepth 100000 in
theorem oopen_nc {base fuel : Nat} {spare : Nat → Bool} {held : Bool} {cs : List Value} {x : DataW H × List MemPlace} (h : DataW.trod enc Tryz.prog w base spare held fuel 28 cs = some x) :
    ∃ a : Int × Int × Nat × Nat × Bool, cs = onCells a ∧ x = (onData a, []) ∧ RawN a := by
  obtain ⟨xs, m, _, rfl, hl, hlen, hf⟩ := DataW.trod_struct Tryz.underlying28 h
  rw [ocellsM] at hl
  match xs, hlen, cs, hl with
  | [y0, y1, y2], _, [c0, c1, c2, c3, c4], _ =>
    have h0 : DataW.trod enc Tryz.prog w base spare held m 4 (([c0, c1, c2, c3, c4].drop 0).take (Tryz.prog.cellsOf 4)) = some y0 := hf 0 _ rfl
    have h1 : DataW.trod enc Tryz.prog w base spare held m 23 (([c0, c1, c2, c3, c4].drop (Tryz.prog.cellsOf 4)).take (Tryz.prog.cellsOf 23)) = some y1 := hf 1 _ rfl
    have h2 : DataW.trod enc Tryz.prog w base spare held m 26 (([c0, c1, c2, c3, c4].drop (Tryz.prog.cellsOf 4 + Tryz.prog.cellsOf 23)).take (Tryz.prog.cellsOf 26)) = some y2 := hf 2 _ rfl
    rw [ocellsB, show ([c0, c1, c2, c3, c4].drop 0).take 1 = [c0] from rfl] at h0
    rw [ocellsB, ocellsI, show ([c0, c1, c2, c3, c4].drop 1).take 2 = [c1, c2] from rfl] at h1
    rw [ocellsB, ocellsI, ocellsG, show ([c0, c1, c2, c3, c4].drop (1 + 2)).take 2 = [c3, c4] from rfl] at h2
    obtain ⟨b, e0, r0⟩ := DataW.trod_bool Tryz.underlying4 h0
    obtain ⟨lo, hi, e1, r1, i1, i2⟩ := oopen_ivc h1
    obtain ⟨M, R, e2, r2, u1, u2⟩ := oopen_cgc h2
    simp only [oivCells, ocgCells, List.cons.injEq, and_true] at e0 e1 e2
    obtain ⟨rfl, rfl⟩ := e1
    obtain ⟨rfl, rfl⟩ := e2
    subst e0 r0 r1 r2
    exact ⟨(lo, hi, M, R, b), rfl, rfl, i1, i2, u1, u2⟩
set_option maxRecDepth 100000 in
/-- A Num that comes in. -/
theorem open_num {r : Reach} {b0 base : Nat} {spare : Nat → Bool} {held : Bool} {v : Value} {d : DataW H} {ps : List MemPlace} (hval : Value.okWide Tryz.prog w r b0 28 v) (hd : DataW.Trod enc Tryz.prog w base spare held 28 v d ps) :
    ∃ a : Int × Int × Nat × Nat × Bool, v = nv a ∧ RawN a := by
  obtain ⟨cs, rfl, _⟩ := okWide_struct Tryz.underlying28 hval
  obtain ⟨fuel, hf⟩ := hd
  obtain ⟨a, hp, _, h1⟩ := oopen_nc hf
  refine ⟨a, ?_, h1⟩
  have : cs.toList = onCells a := by simpa [Value.cells] using hp
  rw [show cs = (onCells a).toArray by rw [← this]]
  rfl
end
end
section
open Go.ChangeShapes Go.WideShapes Go.ChangeAt Go.RowKit Go.Deep
theorem own : ownKnob Tryz.prog.godebug = none := by kernel_rfl
set_option maxRecDepth 100000 in
theorem laidOut : laidOutB Tryz.prog = true := by kernel_rfl
namespace numSets
set_option maxRecDepth 100000 in
theorem contract (H : Type) (enc : TypeId × Value → H) (W : World) (base : Nat) (args : Array Value) (ds gs : List (DataW H)) (before : List MemPlace)
    (hval : ∀ (j : Nat) t v, Tryz.f6.params[j]? = some t → args[j]? = some v → Value.okWide Tryz.prog W .any base t v)
    (hW : DataW.Whole enc Tryz.prog Tryz.f6.params.toList Rows.numSetsSpec.vars false W args.toList ds gs before) (hk : (DataW.weightsEach Tryz.prog (Tryz.f6.params.toList ++ (OpenSpec.ofChange Rows.numSetsSpec).bare.plain.varTypes Tryz.prog) (ds ++ gs)).all (· ≤ reachBytes) = true) :
    Calls Tryz.prog 6 args W fun e W' => ∃ v, e = .returned v ∧ Rows.numSetsSpec.post enc Tryz.prog Tryz.f6 false true false false W args v W' := by
  have hW' := hW
  obtain ⟨p, q, hA0, hV, rfl, hfz, hnd⟩ := hW
  have hA : DataW.TrodAll enc Tryz.prog W 0 (fun _ => true) true Tryz.f6.params.toList args.toList ds p := hA0
  rw [Tryz.params6] at hA hval hk
  obtain ⟨v0, vs0, d0, ds0, p0, q0, hargs, rfl, rfl, h0, r0⟩ := trodAll_cons hA
  obtain ⟨v1, vs1, d1, ds1, p1, q1, rfl, rfl, rfl, h1, r1⟩ := trodAll_cons r0
  obtain ⟨v2, vs2, d2, ds2, p2, q2, rfl, rfl, rfl, h2, r2⟩ := trodAll_cons r1
  obtain ⟨rfl, rfl, rfl⟩ := trodAll_nil r2
  obtain rfl : args = #[v0, v1, v2] := by cases args; simp_all
  obtain ⟨rfl, rfl⟩ := trodVars_none hV
  have h0k := h0
  have h1k := h1
  have h2k := h2
  obtain ⟨a0, rfl, i0⟩ := open_num (hval 0 28 v0 rfl rfl) h0
  obtain ⟨a1, rfl, i1⟩ := open_num (hval 1 28 v1 rfl rfl) h1
  obtain ⟨x2, rfl, rfl, rfl, w2⟩ := open_int Tryz.underlying2 (hval 2 2 v2 rfl rfl) h2
  clear hA0
  simp only [List.append_nil] at hW' hk
  have hlt0 : ∀ y ∈ p0, y.block < W.heap.size := fun y hy => hW'.lt y (by simp [hy])
  have hlt1 : ∀ y ∈ p1, y.block < W.heap.size := fun y hy => hW'.lt y (by simp [hy])
  have walk : Calls Tryz.prog 6 #[nv a0, nv a1, .int .i64 x2] W fun e w' => e = .returned (.bool true) ∧ Below W.heap.size W w' := by
    exact sets13_any a0 a1 x2 i0 i1 (owf64 w2) W W (Ok.refl _)
  refine walk.mono fun e W' ⟨he, bel⟩ => ?_
  subst he
  refine ⟨_, rfl, _, _, _, [], (p0 ++ (p1 ++ ([] ++ []))), [], hW', ?_, ?_, rfl, bel.frame _, fun h => by cases h⟩
  · exact trodAll_cons_mk (shut_bool Tryz.underlying4 _) trodAll_mk0
  · exact (trodAll_cons_mk (Below.trod laidOut (by kernel_rfl) (of_decide_eq_true (by kernel_rfl)) h0k bel hlt0) (trodAll_cons_mk (Below.trod laidOut (by kernel_rfl) (of_decide_eq_true (by kernel_rfl)) h1k bel hlt1) (trodAll_cons_mk (shut_int Tryz.underlying2 w2) trodAll_mk0)))
set_option maxRecDepth 100000 in
theorem lifted (os : Os) (started : os.Started) (H : Type) (enc : TypeId × Value → H) (F : Stop.Interp) :
    ReturnsInHanded {} Tryz.checked os 6 .any ((OpenSpec.ofChange Rows.numSetsSpec).preRow enc Tryz.prog Tryz.f6 Rows.numSetsRow.domain false Rows.numSetsRow.laid) (((OpenSpec.ofChange Rows.numSetsSpec).at F).post enc Tryz.prog Tryz.f6 false true false false) := by
  obtain ⟨w, tape, i, g1, g2, g3, g4, g5, g6, _⟩ := OpenSpec.witness_stopped (enc := enc) (C := Tryz.checked) (os := os) (f := 6) (fn := Tryz.f6) (s := OpenSpec.ofChange Rows.numSetsSpec) (conds := Rows.numSetsRow.domain) (apart := false) false ⟨#[], #[.agg #[.bool false, .int .i64 0, .int .i64 0, .int .u64 0, .int .u64 0], .agg #[.bool false, .int .i64 0, .int .i64 0, .int .u64 0, .int .u64 0], .int .i64 0], []⟩ 8 (by kernel_rfl) (by kernel_rfl) (by kernel_rfl) (by kernel_rfl) (by kernel_rfl) rfl F
  refine returnsInHanded_of_row (C := Tryz.checked) (s := OpenSpec.ofChange Rows.numSetsSpec) own started (by kernel_rfl) Tryz.func6 ⟨w, tape, i, g1, g2, g3, g4, g5, g6⟩ ?_
  intro W base args ds gs before hval hW _ _ hk hL _ _
  exact contract H enc W base args ds gs before hval hW hk
set_option maxRecDepth 100000 in
theorem said : Rows.NumSetsSaid :=
  OpenClaim.holds_of_cond 6 Tryz.f6 rfl rfl rfl rfl rfl rfl rfl ⟨rfl, rfl, rfl, rfl, rfl⟩ rfl rfl rfl rfl rfl (by kernel_rfl) Tryz.func6 (by kernel_rfl)
    (of_decide_eq_true (by kernel_rfl)) (by unfold Func.isWrapper; first | (rw [if_pos (by decide +kernel)]; kernel_rfl) | (rw [if_neg (by decide +kernel)]; exact ⟨rfl, rfl⟩))
    (fun os started H enc _ F => by rw [OpenClaim.pre_eq_preRow]; exact lifted os started H enc F)
#print axioms said
end numSets
theorem numSets_said : Rows.NumSetsSaid := numSets.said
end
end Go.Proofs.YtgkbegmaffknbaaGreat
