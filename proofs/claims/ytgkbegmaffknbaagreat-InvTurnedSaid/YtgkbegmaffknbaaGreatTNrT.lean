import Derived.Deep.Slices
import Derived.Lib.SmallJoins
import Derived.ProofKit
import Derived.OpenShut
import Derived.Deep.DeepHandedRow
import Derived.Deep.DeepWitnessRowRef
import Derived.JoinedCond
import Derived.Stop.Joined
import Derived.Test.YtgkbegmaffknbaaGreatTNset
import Derived.Test.YtgkbegmaffknbaaGreatTNv
import Derived.Test.YtgkbegmaffknbaaGreatTVu
set_option linter.unusedVariables false
set_option linter.unusedSimpArgs false
/- Nopen Vo NrT -/
namespace Go.Proofs.YtgkbegmaffknbaaGreat
section
open Go.RowKit Go.Deep Go.WideShapes Go.ChangeShapes
section
variable {H : Type} {enc : TypeId × Value → H} {w : World}
theorem ocellsU : Tryz.prog.cellsOf 24 = 1 := by kernel_rfl
theorem ocellsN : Tryz.prog.cellsOf 2 = 1 := by kernel_rfl
theorem ocellsB : Tryz.prog.cellsOf 4 = 1 := by kernel_rfl
theorem ocellsG : Tryz.prog.cellsOf 26 = 2 := by kernel_rfl
theorem ocellsI : Tryz.prog.cellsOf 23 = 2 := by kernel_rfl
theorem ocellsM : Tryz.prog.cellsOf 28 = 5 := by kernel_rfl
theorem owf64 {v : Int} (h : (Lit.int .i64 v).wf = true) : In64 v := by
  simp only [Lit.wf, IntKind.min, IntKind.max, Bool.and_eq_true, decide_eq_true_eq] at h
  exact ⟨by simpa [IntKind.signed, IntKind.bits] using h.1, by simpa [IntKind.signed, IntKind.bits] using h.2⟩
theorem owfU {v : Int} (h : (Lit.int .u64 v).wf = true) : ∃ n : Nat, v = (n : Int) ∧ U64 n := by
  simp only [Lit.wf, IntKind.min, IntKind.max, Bool.and_eq_true, decide_eq_true_eq] at h
  have a : 0 ≤ v := by simpa [IntKind.signed, IntKind.bits] using h.1
  have b : v ≤ 18446744073709551615 := by simpa [IntKind.signed, IntKind.bits] using h.2
  exact ⟨v.toNat, by omega, by unfold U64; omega⟩
def ocgCells (M R : Nat) : List Value := [.int .u64 (M : Int), .int .u64 (R : Int)]
def oivCells (l h : Int) : List Value := [.int .i64 l, .int .i64 h]
def onCells (a : Int × Int × Nat × Nat × Bool) : List Value := [.bool a.2.2.2.2, .int .i64 a.1, .int .i64 a.2.1, .int .u64 (a.2.2.1 : Int), .int .u64 (a.2.2.2.1 : Int)]
def onData {H : Type} (a : Int × Int × Nat × Nat × Bool) : DataW H := .agg [.lit (.bool a.2.2.2.2), .agg [.lit (.int .i64 a.1), .lit (.int .i64 a.2.1)], .agg [.lit (.int .u64 (a.2.2.1 : Int)), .lit (.int .u64 (a.2.2.2.1 : Int))]]
set_option maxRecDepth 100000 in
theorem oopen_cgc {base fuel : Nat} {spare : Nat → Bool} {held : Bool} {cs : List Value} {x : DataW H × List MemPlace} (h : DataW.trod enc Tryz.prog w base spare held fuel 26 cs = some x) :
    ∃ M R : Nat, cs = ocgCells M R ∧ x = (.agg [.lit (.int .u64 (M : Int)), .lit (.int .u64 (R : Int))], []) ∧ U64 M ∧ U64 R := by
  obtain ⟨xs, m, _, rfl, hl, hlen, hf⟩ := DataW.trod_struct Tryz.underlying26 h
  rw [ocellsG] at hl
  match xs, hlen, cs, hl with
  | [y0, y1], _, [c0, c1], _ =>
    have h0 : DataW.trod enc Tryz.prog w base spare held m 24 (([c0, c1].drop 0).take (Tryz.prog.cellsOf 24)) = some y0 := hf 0 _ rfl
    rw [ocellsU, show ([c0, c1].drop 0).take 1 = [c0] from rfl] at h0
    have h1 : DataW.trod enc Tryz.prog w base spare held m 24 (([c0, c1].drop 1).take (Tryz.prog.cellsOf 24)) = some y1 := hf 1 _ rfl
    rw [ocellsU, show ([c0, c1].drop 1).take 1 = [c1] from rfl] at h1
    obtain ⟨d, e0, r0, w0⟩ := DataW.trod_int Tryz.underlying24 h0
    obtain ⟨k, e1, r1, w1⟩ := DataW.trod_int Tryz.underlying24 h1
    simp only [List.cons.injEq, and_true] at e0 e1
    obtain ⟨M, rfl, u0⟩ := owfU w0
    obtain ⟨R, rfl, u1⟩ := owfU w1
    subst e0 e1 r0 r1
    exact ⟨M, R, rfl, rfl, u0, u1⟩
set_option maxRecDepth 100000 in
theorem oopen_ivc {base fuel : Nat} {spare : Nat → Bool} {held : Bool} {cs : List Value} {x : DataW H × List MemPlace} (h : DataW.trod enc Tryz.prog w base spare held fuel 23 cs = some x) :
    ∃ l h : Int, cs = oivCells l h ∧ x = (.agg [.lit (.int .i64 l), .lit (.int .i64 h)], []) ∧ In64 l ∧ In64 h := by
  obtain ⟨xs, m, _, rfl, hl, hlen, hf⟩ := DataW.trod_struct Tryz.underlying23 h
  rw [ocellsI] at hl
  match xs, hlen, cs, hl with
  | [y0, y1], _, [c0, c1], _ =>
    have h0 : DataW.trod enc Tryz.prog w base spare held m 2 (([c0, c1].drop 0).take (Tryz.prog.cellsOf 2)) = some y0 := hf 0 _ rfl
    rw [ocellsN, show ([c0, c1].drop 0).take 1 = [c0] from rfl] at h0
    have h1 : DataW.trod enc Tryz.prog w base spare held m 2 (([c0, c1].drop 1).take (Tryz.prog.cellsOf 2)) = some y1 := hf 1 _ rfl
    rw [ocellsN, show ([c0, c1].drop 1).take 1 = [c1] from rfl] at h1
    obtain ⟨d, e0, r0, w0⟩ := DataW.trod_int Tryz.underlying2 h0
    obtain ⟨k, e1, r1, w1⟩ := DataW.trod_int Tryz.underlying2 h1
    simp only [List.cons.injEq, and_true] at e0 e1
    subst e0 e1 r0 r1
    exact ⟨d, k, rfl, rfl, owf64 w0, owf64 w1⟩
set_option maxRecDepth 100000 in
theorem oopen_nc {base fuel : Nat} {spare : Nat → Bool} {held : Bool} {cs : List Value} {x : DataW H × List MemPlace} (h : DataW.trod enc Tryz.prog w base spare held fuel 28 cs = some x) :
    ∃ a : Int × Int × Nat × Nat × Bool, cs = onCells a ∧ x = (onData a, []) ∧ RawN a := by
  obtain ⟨xs, m, _, rfl, hl, hlen, hf⟩ := DataW.trod_struct Tryz.underlying28 h
  rw [ocellsM] at hl
  match xs, hlen, cs, hl with
  | [y0, y1, y2], _, [c0, c1, c2, c3, c4], _ =>
    have h0 : DataW.trod enc Tryz.prog w base spare held m 4 (([c0, c1, c2, c3, c4].drop 0).take (Tryz.prog.cellsOf 4)) = some y0 := hf 0 _ rfl
    have h1 : DataW.trod enc Tryz.prog w base spare held m 23 (([c0, c1, c2, c3, c4].drop (Tryz.prog.cellsOf 4)).take (Tryz.prog.cellsOf 23)) = some y1 := hf 1 _ rfl
    have h2 : DataW.trod enc Tryz.prog w base spare held m 26 (([c0, c1, c2, c3, c4].drop (Tryz.prog.cellsOf 4 + Tryz.prog.cellsOf 23)).take (Tryz.prog.cellsOf 26)) = some y2 := hf 2 _ rfl
    rw [ocellsB, show ([c0, c1, c2, c3, c4].drop 0).take 1 = [c0] from rfl] at h0
    rw [ocellsB, ocellsI, show ([c0, c1, c2, c3, c4].drop 1).take 2 = [c1, c2] from rfl] at h1
    rw [ocellsB, ocellsI, ocellsG, show ([c0, c1, c2, c3, c4].drop (1 + 2)).take 2 = [c3, c4] from rfl] at h2
    obtain ⟨b, e0, r0⟩ := DataW.trod_bool Tryz.underlying4 h0
    obtain ⟨lo, hi, e1, r1, i1, i2⟩ := oopen_ivc h1
    obtain ⟨M, R, e2, r2, u1, u2⟩ := oopen_cgc h2
    simp only [oivCells, ocgCells, List.cons.injEq, and_true] at e0 e1 e2
    obtain ⟨rfl, rfl⟩ := e1
    obtain ⟨rfl, rfl⟩ := e2
    subst e0 r0 r1 r2
    exact ⟨(lo, hi, M, R, b), rfl, rfl, i1, i2, u1, u2⟩
end
end
section
open Go.RowKit Go.Deep Go.WideShapes Go.ChangeShapes
section
variable {H : Type} {enc : TypeId × Value → H} {w : World}
theorem ocellsP14 : Tryz.prog.cellsOf 58 = 17 := by kernel_rfl
set_option maxRecDepth 100000 in
/-- Three Nums and two numbers that come in. -/
theorem oopen_case14 {r : Reach} {b0 base : Nat} {spare : Nat → Bool} {held : Bool} {v : Value} {d : DataW H} {ps : List MemPlace} (hval : Value.okWide Tryz.prog w r b0 58 v) (hd : DataW.Trod enc Tryz.prog w base spare held 58 v d ps) :
    ∃ (a b c : Int × Int × Nat × Nat × Bool) (x y : Int), v = .agg #[.bool a.2.2.2.2, .int .i64 a.1, .int .i64 a.2.1, .int .u64 (a.2.2.1 : Int), .int .u64 (a.2.2.2.1 : Int), .bool b.2.2.2.2, .int .i64 b.1, .int .i64 b.2.1, .int .u64 (b.2.2.1 : Int), .int .u64 (b.2.2.2.1 : Int), .bool c.2.2.2.2, .int .i64 c.1, .int .i64 c.2.1, .int .u64 (c.2.2.1 : Int), .int .u64 (c.2.2.2.1 : Int), .int .i64 x, .int .i64 y] ∧ RawN a ∧ RawN b ∧ RawN c ∧ In64 x ∧ In64 y := by
  obtain ⟨cs, rfl, hcs⟩ := okWide_struct Tryz.underlying58 hval
  obtain ⟨fuel, hf⟩ := hd
  obtain ⟨xs, m, _, hxx, hl, hlen, hg⟩ := DataW.trod_struct Tryz.underlying58 hf
  have hl2 : cs.toList.length = 17 := by rw [ocellsP14] at hcs; simpa using hcs
  have hcc : (Value.agg cs).cells.toList = cs.toList := by simp [Value.cells]
  obtain ⟨L, hL⟩ : ∃ L, L = cs.toList := ⟨_, rfl⟩
  have hca : cs = L.toArray := by rw [hL]
  rw [← hL] at hl2 hcc
  match xs, hlen, L, hl2 with
  | [y0, y1, y2, y3, y4], _, [c0, c1, c2, c3, c4, c5, c6, c7, c8, c9, c10, c11, c12, c13, c14, c15, c16], _ =>
    have h0 : DataW.trod enc Tryz.prog w base spare held m 28 (((Value.agg cs).cells.toList.drop 0).take (Tryz.prog.cellsOf 28)) = some y0 := hg 0 _ rfl
    have h1 : DataW.trod enc Tryz.prog w base spare held m 28 (((Value.agg cs).cells.toList.drop (Tryz.prog.cellsOf 28)).take (Tryz.prog.cellsOf 28)) = some y1 := hg 1 _ rfl
    have h2 : DataW.trod enc Tryz.prog w base spare held m 28 (((Value.agg cs).cells.toList.drop (Tryz.prog.cellsOf 28 + Tryz.prog.cellsOf 28)).take (Tryz.prog.cellsOf 28)) = some y2 := hg 2 _ rfl
    have h3 : DataW.trod enc Tryz.prog w base spare held m 2 (((Value.agg cs).cells.toList.drop (Tryz.prog.cellsOf 28 + Tryz.prog.cellsOf 28 + Tryz.prog.cellsOf 28)).take (Tryz.prog.cellsOf 2)) = some y3 := hg 3 _ rfl
    have h4 : DataW.trod enc Tryz.prog w base spare held m 2 (((Value.agg cs).cells.toList.drop (Tryz.prog.cellsOf 28 + Tryz.prog.cellsOf 28 + Tryz.prog.cellsOf 28 + Tryz.prog.cellsOf 2)).take (Tryz.prog.cellsOf 2)) = some y4 := hg 4 _ rfl
    rw [hcc, ocellsM] at h0 h1 h2
    rw [hcc, ocellsM, ocellsN] at h3 h4
    obtain ⟨a, e0, _, a1⟩ := oopen_nc h0
    obtain ⟨b, e1, _, a2⟩ := oopen_nc h1
    obtain ⟨c, e2, _, a3⟩ := oopen_nc h2
    obtain ⟨x, e3, _, w3⟩ := DataW.trod_int Tryz.underlying2 h3
    obtain ⟨y, e4, _, w4⟩ := DataW.trod_int Tryz.underlying2 h4
    simp [onCells] at e0 e1 e2 e3 e4
    obtain ⟨rfl, rfl, rfl, rfl, rfl⟩ := e0
    obtain ⟨rfl, rfl, rfl, rfl, rfl⟩ := e1
    obtain ⟨rfl, rfl, rfl, rfl, rfl⟩ := e2
    subst e3 e4
    refine ⟨a, b, c, x, y, ?_, a1, a2, a3, owf64 w3, owf64 w4⟩
    rw [hca]
end
end
section
open Go.ChangeShapes Go.WideShapes Go.ChangeAt Go.RowKit Go.Deep
theorem own : ownKnob Tryz.prog.godebug = none := by kernel_rfl
set_option maxRecDepth 100000 in
theorem laidOut : laidOutB Tryz.prog = true := by kernel_rfl
namespace invTurned
set_option maxRecDepth 100000 in
theorem contract (H : Type) (enc : TypeId × Value → H) (W : World) (base : Nat) (args : Array Value) (ds gs : List (DataW H)) (before : List MemPlace)
    (hval : ∀ (j : Nat) t v, Tryz.f8.params[j]? = some t → args[j]? = some v → Value.okWide Tryz.prog W .any base t v)
    (hW : DataW.Whole enc Tryz.prog Tryz.f8.params.toList Rows.invTurnedSpec.vars false W args.toList ds gs before) (hk : (DataW.weightsEach Tryz.prog (Tryz.f8.params.toList ++ (OpenSpec.ofChange Rows.invTurnedSpec).bare.plain.varTypes Tryz.prog) (ds ++ gs)).all (· ≤ reachBytes) = true) :
    Calls Tryz.prog 8 args W fun e W' => ∃ v, e = .returned v ∧ Rows.invTurnedSpec.post enc Tryz.prog Tryz.f8 false true false false W args v W' := by
  have hW' := hW
  obtain ⟨p, q, hA0, hV, rfl, hfz, hnd⟩ := hW
  have hA : DataW.TrodAll enc Tryz.prog W 0 (fun _ => true) true Tryz.f8.params.toList args.toList ds p := hA0
  rw [Tryz.params8] at hA hval hk
  obtain ⟨v0, vs0, d0, ds0, p0, q0, hargs, rfl, rfl, h0, r0⟩ := trodAll_cons hA
  obtain ⟨v1, vs1, d1, ds1, p1, q1, rfl, rfl, rfl, h1, r1⟩ := trodAll_cons r0
  obtain ⟨rfl, rfl, rfl⟩ := trodAll_nil r1
  obtain rfl : args = #[v0, v1] := by cases args; simp_all
  obtain ⟨rfl, rfl⟩ := trodVars_none hV
  have h0k := h0
  have h1k := h1
  obtain ⟨x0, rfl, rfl, rfl, w0⟩ := open_int Tryz.underlying41 (hval 0 41 v0 rfl rfl) h0
  obtain ⟨ca, cb, cc, cx, cy, rfl, k0, k1, k2, k3, k4⟩ := oopen_case14 (hval 1 58 v1 rfl rfl) h1
  clear hA0
  simp only [List.append_nil] at hW' hk
  have hlt1 : ∀ y ∈ p1, y.block < W.heap.size := fun y hy => hW'.lt y (by simp [hy])
  have walk : Calls Tryz.prog 8 #[.int .i64 x0, .agg #[.bool ca.2.2.2.2, .int .i64 ca.1, .int .i64 ca.2.1, .int .u64 (ca.2.2.1 : Int), .int .u64 (ca.2.2.2.1 : Int), .bool cb.2.2.2.2, .int .i64 cb.1, .int .i64 cb.2.1, .int .u64 (cb.2.2.1 : Int), .int .u64 (cb.2.2.2.1 : Int), .bool cc.2.2.2.2, .int .i64 cc.1, .int .i64 cc.2.1, .int .u64 (cc.2.2.1 : Int), .int .u64 (cc.2.2.2.1 : Int), .int .i64 cx, .int .i64 cy]] W fun e w' => e = .returned (.bool true) ∧ Below W.heap.size W w' := by
    exact turned_any x0 ca cb cc cx cy (owf64 w0) k0 k1 k3 k4 W W (Ok.refl _)
  refine walk.mono fun e W' ⟨he, bel⟩ => ?_
  subst he
  refine ⟨_, rfl, _, _, _, [], ([] ++ (p1 ++ [])), [], hW', ?_, ?_, rfl, bel.frame _, fun h => by cases h⟩
  · exact trodAll_cons_mk (shut_bool Tryz.underlying4 _) trodAll_mk0
  · exact (trodAll_cons_mk (shut_int Tryz.underlying41 w0) (trodAll_cons_mk (Below.trod laidOut (by kernel_rfl) (of_decide_eq_true (by kernel_rfl)) h1k bel hlt1) trodAll_mk0))
set_option maxRecDepth 100000 in
theorem lifted (os : Os) (started : os.Started) (H : Type) (enc : TypeId × Value → H) (F : Stop.Interp) :
    ReturnsInHanded {} Tryz.checked os 8 .any ((OpenSpec.ofChange Rows.invTurnedSpec).preRow enc Tryz.prog Tryz.f8 Rows.invTurnedRow.domain false Rows.invTurnedRow.laid) (((OpenSpec.ofChange Rows.invTurnedSpec).at F).post enc Tryz.prog Tryz.f8 false true false false) := by
  obtain ⟨w, tape, i, g1, g2, g3, g4, g5, g6, _⟩ := OpenSpec.witness_stopped (enc := enc) (C := Tryz.checked) (os := os) (f := 8) (fn := Tryz.f8) (s := OpenSpec.ofChange Rows.invTurnedSpec) (conds := Rows.invTurnedRow.domain) (apart := false) false ⟨#[], #[.int .i64 0, .agg #[.bool false, .int .i64 0, .int .i64 0, .int .u64 0, .int .u64 0, .bool false, .int .i64 0, .int .i64 0, .int .u64 0, .int .u64 0, .bool false, .int .i64 0, .int .i64 0, .int .u64 0, .int .u64 0, .int .i64 0, .int .i64 0]], []⟩ 8 (by kernel_rfl) (by kernel_rfl) (by kernel_rfl) (by kernel_rfl) (by kernel_rfl) rfl F
  refine returnsInHanded_of_row (C := Tryz.checked) (s := OpenSpec.ofChange Rows.invTurnedSpec) own started (by kernel_rfl) Tryz.func8 ⟨w, tape, i, g1, g2, g3, g4, g5, g6⟩ ?_
  intro W base args ds gs before hval hW _ _ hk hL _ _
  exact contract H enc W base args ds gs before hval hW hk
set_option maxRecDepth 100000 in
theorem said : Rows.InvTurnedSaid :=
  OpenClaim.holds_of_cond 8 Tryz.f8 rfl rfl rfl rfl rfl rfl rfl ⟨rfl, rfl, rfl, rfl, rfl⟩ rfl rfl rfl rfl rfl (by kernel_rfl) Tryz.func8 (by kernel_rfl)
    (of_decide_eq_true (by kernel_rfl)) (by unfold Func.isWrapper; first | (rw [if_pos (by decide +kernel)]; kernel_rfl) | (rw [if_neg (by decide +kernel)]; exact ⟨rfl, rfl⟩))
    (fun os started H enc _ F => by rw [OpenClaim.pre_eq_preRow]; exact lifted os started H enc F)
#print axioms said
end invTurned
theorem invTurned_said : Rows.InvTurnedSaid := invTurned.said
end
end Go.Proofs.YtgkbegmaffknbaaGreat
