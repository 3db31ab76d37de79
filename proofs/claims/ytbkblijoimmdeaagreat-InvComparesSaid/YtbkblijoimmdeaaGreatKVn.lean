import Derived.Deep.Slices
import Derived.Lib.SmallJoins
import Derived.ProofKit
import Derived.OpenShut
import Derived.Maps.OwnSet
import Derived.Deep.Cut
import Derived.Deep.CutRange
import Derived.Test.YtbkblijoimmdeaaGreatKNset
import Derived.Test.YtbkblijoimmdeaaGreatKNv
import Derived.Test.YtbkblijoimmdeaaGreatKVk
set_option linter.unusedVariables false
set_option linter.unusedSimpArgs false
set_option linter.unnecessarySimpa false
/- Nopen Vt Vp Vn -/
namespace Go.Proofs.YtbkblijoimmdeaaGreat
section
open Go.RowKit Go.Deep Go.WideShapes Go.ChangeShapes
section
variable {H : Type} {enc : TypeId × Value → H} {w : World}
theorem ocellsU : Tryz.prog.cellsOf 25 = 1 := by kernel_rfl
theorem ocellsN : Tryz.prog.cellsOf 2 = 1 := by kernel_rfl
theorem ocellsB : Tryz.prog.cellsOf 4 = 1 := by kernel_rfl
theorem ocellsG : Tryz.prog.cellsOf 27 = 2 := by kernel_rfl
theorem ocellsI : Tryz.prog.cellsOf 24 = 2 := by kernel_rfl
theorem ocellsM : Tryz.prog.cellsOf 29 = 5 := by kernel_rfl
theorem owf64 {v : Int} (h : (Lit.int .i64 v).wf = true) : In64 v := by
  simp only [Lit.wf, IntKind.min, IntKind.max, Bool.and_eq_true, decide_eq_true_eq] at h
  exact ⟨by simpa [IntKind.signed, IntKind.bits] using h.1, by simpa [IntKind.signed, IntKind.bits] using h.2⟩
theorem owfU {v : Int} (h : (Lit.int .u64 v).wf = true) : ∃ n : Nat, v = (n : Int) ∧ U64 n := by
  simp only [Lit.wf, IntKind.min, IntKind.max, Bool.and_eq_true, decide_eq_true_eq] at h
  have a : 0 ≤ v := by simpa [IntKind.signed, IntKind.bits] using h.1
  have b : v ≤ 18446744073709551615 := by simpa [IntKind.signed, IntKind.bits] using h.2
  exact ⟨v.toNat, by omega, by unfold U64; omega⟩
def ocgCells (M R : Nat) : List Value := [.int .u64 (M : Int), .int .u64 (R : Int)]
def oivCells (l h : Int) : List Value := [.int .i64 l, .int .i64 h]
def onCells (a : Int × Int × Nat × Nat × Bool) : List Value := [.bool a.2.2.2.2, .int .i64 a.1, .int .i64 a.2.1, .int .u64 (a.2.2.1 : Int), .int .u64 (a.2.2.2.1 : Int)]
def onData {H : Type} (a : Int × Int × Nat × Nat × Bool) : DataW H := .agg [.lit (.bool a.2.2.2.2), .agg [.lit (.int .i64 a.1), .lit (.int .i64 a.2.1)], .agg [.lit (.int .u64 (a.2.2.1 : Int)), .lit (.int .u64 (a.2.2.2.1 : Int))]]
set_option maxRecDepth 100000 in
theorem oopen_cgc {base fuel : Nat} {spare : Nat → Bool} {held : Bool} {cs : List Value} {x : DataW H × List MemPlace} (h : DataW.trod enc Tryz.prog w base spare held fuel 27 cs = some x) :
    ∃ M R : Nat, cs = ocgCells M R ∧ x = (.agg [.lit (.int .u64 (M : Int)), .lit (.int .u64 (R : Int))], []) ∧ U64 M ∧ U64 R := by
  obtain ⟨xs, m, _, rfl, hl, hlen, hf⟩ := DataW.trod_struct Tryz.underlying27 h
  rw [ocellsG] at hl
  match xs, hlen, cs, hl with
  | [y0, y1], _, [c0, c1], _ =>
    have h0 : DataW.trod enc Tryz.prog w base spare held m 25 (([c0, c1].drop 0).take (Tryz.prog.cellsOf 25)) = some y0 := hf 0 _ rfl
    rw [ocellsU, show ([c0, c1].drop 0).take 1 = [c0] from rfl] at h0
    have h1 : DataW.trod enc Tryz.prog w base spare held m 25 (([c0, c1].drop 1).take (Tryz.prog.cellsOf 25)) = some y1 := hf 1 _ rfl
    rw [ocellsU, show ([c0, c1].drop 1).take 1 = [c1] from rfl] at h1
    obtain ⟨d, e0, r0, w0⟩ := DataW.trod_int Tryz.underlying25 h0
    obtain ⟨k, e1, r1, w1⟩ := DataW.trod_int Tryz.underlying25 h1
    simp only [List.cons.injEq, and_true] at e0 e1
    obtain ⟨M, rfl, u0⟩ := owfU w0
    obtain ⟨R, rfl, u1⟩ := owfU w1
    subst e0 e1 r0 r1
    exact ⟨M, R, rfl, rfl, u0, u1⟩
set_option maxRecDepth 100000 in
theorem oopen_ivc {base fuel : Nat} {spare : Nat → Bool} {held : Bool} {cs : List Value} {x : DataW H × List MemPlace} (h : DataW.trod enc Tryz.prog w base spare held fuel 24 cs = some x) :
    ∃ l h : Int, cs = oivCells l h ∧ x = (.agg [.lit (.int .i64 l), .lit (.int .i64 h)], []) ∧ In64 l ∧ In64 h := by
  obtain ⟨xs, m, _, rfl, hl, hlen, hf⟩ := DataW.trod_struct Tryz.underlying24 h
  rw [ocellsI] at hl
  match xs, hlen, cs, hl with
  | [y0, y1], _, [c0, c1], _ =>
    have h0 : DataW.trod enc Tryz.prog w base spare held m 2 (([c0, c1].drop 0).take (Tryz.prog.cellsOf 2)) = some y0 := hf 0 _ rfl
    rw [ocellsN, show ([c0, c1].drop 0).take 1 = [c0] from rfl] at h0
    have h1 : DataW.trod enc Tryz.prog w base spare held m 2 (([c0, c1].drop 1).take (Tryz.prog.cellsOf 2)) = some y1 := hf 1 _ rfl
    rw [ocellsN, show ([c0, c1].drop 1).take 1 = [c1] from rfl] at h1
    obtain ⟨d, e0, r0, w0⟩ := DataW.trod_int Tryz.underlying2 h0
    obtain ⟨k, e1, r1, w1⟩ := DataW.trod_int Tryz.underlying2 h1
    simp only [List.cons.injEq, and_true] at e0 e1
    subst e0 e1 r0 r1
    exact ⟨d, k, rfl, rfl, owf64 w0, owf64 w1⟩
set_option maxRecDepth 100000 in
theorem oopen_nc {base fuel : Nat} {spare : Nat → Bool} {held : Bool} {cs : List Value} {x : DataW H × List MemPlace} (h : DataW.trod enc Tryz.prog w base spare held fuel 29 cs = some x) :
    ∃ a : Int × Int × Nat × Nat × Bool, cs = onCells a ∧ x = (onData a, []) ∧ RawN a := by
  obtain ⟨xs, m, _, rfl, hl, hlen, hf⟩ := DataW.trod_struct Tryz.underlying29 h
  rw [ocellsM] at hl
  match xs, hlen, cs, hl with
  | [y0, y1, y2], _, [c0, c1, c2, c3, c4], _ =>
    have h0 : DataW.trod enc Tryz.prog w base spare held m 4 (([c0, c1, c2, c3, c4].drop 0).take (Tryz.prog.cellsOf 4)) = some y0 := hf 0 _ rfl
    have h1 : DataW.trod enc Tryz.prog w base spare held m 24 (([c0, c1, c2, c3, c4].drop (Tryz.prog.cellsOf 4)).take (Tryz.prog.cellsOf 24)) = some y1 := hf 1 _ rfl
    have h2 : DataW.trod enc Tryz.prog w base spare held m 27 (([c0, c1, c2, c3, c4].drop (Tryz.prog.cellsOf 4 + Tryz.prog.cellsOf 24)).take (Tryz.prog.cellsOf 27)) = some y2 := hf 2 _ rfl
    rw [ocellsB, show ([c0, c1, c2, c3, c4].drop 0).take 1 = [c0] from rfl] at h0
    rw [ocellsB, ocellsI, show ([c0, c1, c2, c3, c4].drop 1).take 2 = [c1, c2] from rfl] at h1
    rw [ocellsB, ocellsI, ocellsG, show ([c0, c1, c2, c3, c4].drop (1 + 2)).take 2 = [c3, c4] from rfl] at h2
    obtain ⟨b, e0, r0⟩ := DataW.trod_bool Tryz.underlying4 h0
    obtain ⟨lo, hi, e1, r1, i1, i2⟩ := oopen_ivc h1
    obtain ⟨M, R, e2, r2, u1, u2⟩ := oopen_cgc h2
    simp only [oivCells, ocgCells, List.cons.injEq, and_true] at e0 e1 e2
    obtain ⟨rfl, rfl⟩ := e1
    obtain ⟨rfl, rfl⟩ := e2
    subst e0 r0 r1 r2
    exact ⟨(lo, hi, M, R, b), rfl, rfl, i1, i2, u1, u2⟩
set_option maxRecDepth 100000 in
/-- A Num that comes in. -/
theorem open_num {r : Reach} {b0 base : Nat} {spare : Nat → Bool} {held : Bool} {v : Value} {d : DataW H} {ps : List MemPlace} (hval : Value.okWide Tryz.prog w r b0 29 v) (hd : DataW.Trod enc Tryz.prog w base spare held 29 v d ps) :
    ∃ a : Int × Int × Nat × Nat × Bool, v = nv a ∧ RawN a := by
  obtain ⟨cs, rfl, _⟩ := okWide_struct Tryz.underlying29 hval
  obtain ⟨fuel, hf⟩ := hd
  obtain ⟨a, hp, _, h1⟩ := oopen_nc hf
  refine ⟨a, ?_, h1⟩
  have : cs.toList = onCells a := by simpa [Value.cells] using hp
  rw [show cs = (onCells a).toArray by rw [← this]]
  rfl
end
end
section
open Go.RowKit
theorem bot_meet (b : Int × Int × Nat × Nat × Bool) : meetN botN b = botN := by
  show meetRaw botN (normN b) = botN
  unfold meetRaw
  exact if_pos (Or.inl rfl)
end
section
open Go.RowKit
/-- The comparison that holds where another one doesn't. -/
def negF (op : Int) : Int := if op = 8 then 11 else if op = 9 then 10 else if op = 10 then 9 else if op = 11 then 8 else if op = 12 then 13 else 12
end
section
open Go.RowKit Go.Shelf
set_option maxHeartbeats 4000000 in
theorem vNegate_any (op : Int) (ho : OpC op) (w0 w : World) (hok : Ok w0 w) :
    Calls Tryz.prog 6 #[.int .i64 op] w fun e w' => e = .returned (.tuple #[.int .i64 (negF op), .int .i64 0]) ∧ Ok w0 w' := by
  rcases ho with rfl | rfl | rfl | rfl | rfl | rfl
  · go_enter Tryz.func6, Tryz.ntmps6
    go_wp2_with fail
    refine bodyPost_ret (results_tmp2 rfl _ _ _) rfl ?_
    exact ⟨rfl, hok⟩
  · go_enter Tryz.func6, Tryz.ntmps6
    go_wp2_with fail
    refine bodyPost_ret (results_tmp2 rfl _ _ _) rfl ?_
    exact ⟨rfl, hok⟩
  · go_enter Tryz.func6, Tryz.ntmps6
    go_wp2_with fail
    refine bodyPost_ret (results_tmp2 rfl _ _ _) rfl ?_
    exact ⟨rfl, hok⟩
  · go_enter Tryz.func6, Tryz.ntmps6
    go_wp2_with fail
    refine bodyPost_ret (results_tmp2 rfl _ _ _) rfl ?_
    exact ⟨rfl, hok⟩
  · go_enter Tryz.func6, Tryz.ntmps6
    go_wp2_with fail
    refine bodyPost_ret (results_tmp2 rfl _ _ _) rfl ?_
    exact ⟨rfl, hok⟩
  · go_enter Tryz.func6, Tryz.ntmps6
    go_wp2_with fail
    refine bodyPost_ret (results_tmp2 rfl _ _ _) rfl ?_
    exact ⟨rfl, hok⟩
set_option maxHeartbeats 4000000 in
theorem vNegate_no (op : Int) (ho : ¬ OpC op) (w0 w : World) (hok : Ok w0 w) :
    Calls Tryz.prog 6 #[.int .i64 op] w fun e w' => e = .returned (.tuple #[.int .i64 0, .int .i64 1]) ∧ Ok w0 w' := by
  have k8 : (op == 8) = false := by rw [beq_eq_false_iff_ne]; intro h; exact ho (Or.inl h)
  have k9 : (op == 9) = false := by rw [beq_eq_false_iff_ne]; intro h; exact ho (Or.inr (Or.inl h))
  have k10 : (op == 10) = false := by rw [beq_eq_false_iff_ne]; intro h; exact ho (Or.inr (Or.inr (Or.inl h)))
  have k11 : (op == 11) = false := by rw [beq_eq_false_iff_ne]; intro h; exact ho (Or.inr (Or.inr (Or.inr (Or.inl h))))
  have k12 : (op == 12) = false := by rw [beq_eq_false_iff_ne]; intro h; exact ho (Or.inr (Or.inr (Or.inr (Or.inr (Or.inl h)))))
  have k13 : (op == 13) = false := by rw [beq_eq_false_iff_ne]; intro h; exact ho (Or.inr (Or.inr (Or.inr (Or.inr (Or.inr h)))))
  clear ho
  go_enter Tryz.func6, Tryz.ntmps6
  go_wp2_with fail
  refine bodyPost_ret (results_tmp2 rfl _ _ _) rfl ?_
  exact ⟨rfl, hok⟩
end
end Go.Proofs.YtbkblijoimmdeaaGreat
