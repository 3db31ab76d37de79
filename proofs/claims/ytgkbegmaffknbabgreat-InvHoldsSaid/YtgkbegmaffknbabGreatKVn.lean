import Derived.Deep.Slices
import Derived.Lib.SmallJoins
import Derived.ProofKit
import Derived.OpenShut
import Derived.Deep.Cut
import Derived.Deep.CutRange
import Derived.Test.YtgkbegmaffknbabGreatKNset
import Derived.Test.YtgkbegmaffknbabGreatKNv
import Derived.Test.YtgkbegmaffknbabGreatKVk
import Derived.Test.YtgkbegmaffknbabGreatKVp
set_option linter.unusedVariables false
set_option linter.unusedSimpArgs false
set_option linter.unnecessarySimpa false
/- Nopen Vo Vn -/
namespace Go.Proofs.YtgkbegmaffknbabGreat
section
open Go.RowKit Go.Deep Go.WideShapes Go.ChangeShapes
section
variable {H : Type} {enc : TypeId × Value → H} {w : World}
theorem ocellsU : Tryz.prog.cellsOf 25 = 1 := by kernel_rfl
theorem ocellsN : Tryz.prog.cellsOf 2 = 1 := by kernel_rfl
theorem ocellsB : Tryz.prog.cellsOf 4 = 1 := by kernel_rfl
theorem ocellsG : Tryz.prog.cellsOf 27 = 2 := by kernel_rfl
theorem ocellsI : Tryz.prog.cellsOf 24 = 2 := by kernel_rfl
theorem ocellsM : Tryz.prog.cellsOf 29 = 5 := by kernel_rfl
theorem owf64 {v : Int} (h : (Lit.int .i64 v).wf = true) : In64 v := by
  simp only [Lit.wf, IntKind.min, IntKind.max, Bool.and_eq_true, decide_eq_true_eq] at h
  exact ⟨by simpa [IntKind.signed, IntKind.bits] using h.1, by simpa [IntKind.signed, IntKind.bits] using h.2⟩
theorem owfU {v : Int} (h : (Lit.int .u64 v).wf = true) : ∃ n : Nat, v = (n : Int) ∧ U64 n := by
  simp only [Lit.wf, IntKind.min, IntKind.max, Bool.and_eq_true, decide_eq_true_eq] at h
  have a : 0 ≤ v := by simpa [IntKind.signed, IntKind.bits] using h.1
  have b : v ≤ 18446744073709551615 := by simpa [IntKind.signed, IntKind.bits] using h.2
  exact ⟨v.toNat, by omega, by unfold U64; omega⟩
def ocgCells (M R : Nat) : List Value := [.int .u64 (M : Int), .int .u64 (R : Int)]
def oivCells (l h : Int) : List Value := [.int .i64 l, .int .i64 h]
def onCells (a : Int × Int × Nat × Nat × Bool) : List Value := [.bool a.2.2.2.2, .int .i64 a.1, .int .i64 a.2.1, .int .u64 (a.2.2.1 : Int), .int .u64 (a.2.2.2.1 : Int)]
def onData {H : Type} (a : Int × Int × Nat × Nat × Bool) : DataW H := .agg [.lit (.bool a.2.2.2.2), .agg [.lit (.int .i64 a.1), .lit (.int .i64 a.2.1)], .agg [.lit (.int .u64 (a.2.2.1 : Int)), .lit (.int .u64 (a.2.2.2.1 : Int))]]
set_option maxRecDepth 100000 in
theorem oopen_cgc {base fuel : Nat} {spare : Nat → Bool} {held : Bool} {cs : List Value} {x : DataW H × List MemPlace} (h : DataW.trod enc Tryz.prog w base spare held fuel 27 cs = some x) :
    ∃ M R : Nat, cs = ocgCells M R ∧ x = (.agg [.lit (.int .u64 (M : Int)), .lit (.int .u64 (R : Int))], []) ∧ U64 M ∧ U64 R := by
  obtain ⟨xs, m, _, rfl, hl, hlen, hf⟩ := DataW.trod_struct Tryz.underlying27 h
  rw [ocellsG] at hl
  match xs, hlen, cs, hl with
  | [y0, y1], _, [c0, c1], _ =>
    have h0 : DataW.trod enc Tryz.prog w base spare held m 25 (([c0, c1].drop 0).take (Tryz.prog.cellsOf 25)) = some y0 := hf 0 _ rfl
    rw [ocellsU, show ([c0, c1].drop 0).take 1 = [c0] from rfl] at h0
    have h1 : DataW.trod enc Tryz.prog w base spare held m 25 (([c0, c1].drop 1).take (Tryz.prog.cellsOf 25)) = some y1 := hf 1 _ rfl
    rw [ocellsU, show ([c0, c1].drop 1).take 1 = [c1] from rfl] at h1
    obtain ⟨d, e0, r0, w0⟩ := DataW.trod_int Tryz.underlying25 h0
    obtain ⟨k, e1, r1, w1⟩ := DataW.trod_int Tryz.underlying25 h1
    simp only [List.cons.injEq, and_true] at e0 e1
    obtain ⟨M, rfl, u0⟩ := owfU w0
    obtain ⟨R, rfl, u1⟩ := owfU w1
    subst e0 e1 r0 r1
    exact ⟨M, R, rfl, rfl, u0, u1⟩
set_option maxRecDepth 100000 in
theorem oopen_ivc {base fuel : Nat} {spare : Nat → Bool} {held : Bool} {cs : List Value} {x : DataW H × List MemPlace} (h : DataW.trod enc Tryz.prog w base spare held fuel 24 cs = some x) :
    ∃ l h : Int, cs = oivCells l h ∧ x = (.agg [.lit (.int .i64 l), .lit (.int .i64 h)], []) ∧ In64 l ∧ In64 h := by
  obtain ⟨xs, m, _, rfl, hl, hlen, hf⟩ := DataW.trod_struct Tryz.underlying24 h
  rw [ocellsI] at hl
  match xs, hlen, cs, hl with
  | [y0, y1], _, [c0, c1], _ =>
    have h0 : DataW.trod enc Tryz.prog w base spare held m 2 (([c0, c1].drop 0).take (Tryz.prog.cellsOf 2)) = some y0 := hf 0 _ rfl
    rw [ocellsN, show ([c0, c1].drop 0).take 1 = [c0] from rfl] at h0
    have h1 : DataW.trod enc Tryz.prog w base spare held m 2 (([c0, c1].drop 1).take (Tryz.prog.cellsOf 2)) = some y1 := hf 1 _ rfl
    rw [ocellsN, show ([c0, c1].drop 1).take 1 = [c1] from rfl] at h1
    obtain ⟨d, e0, r0, w0⟩ := DataW.trod_int Tryz.underlying2 h0
    obtain ⟨k, e1, r1, w1⟩ := DataW.trod_int Tryz.underlying2 h1
    simp only [List.cons.injEq, and_true] at e0 e1
    subst e0 e1 r0 r1
    exact ⟨d, k, rfl, rfl, owf64 w0, owf64 w1⟩
set_option maxRecDepth 100000 in
theorem oopen_nc {base fuel : Nat} {spare : Nat → Bool} {held : Bool} {cs : List Value} {x : DataW H × List MemPlace} (h : DataW.trod enc Tryz.prog w base spare held fuel 29 cs = some x) :
    ∃ a : Int × Int × Nat × Nat × Bool, cs = onCells a ∧ x = (onData a, []) ∧ RawN a := by
  obtain ⟨xs, m, _, rfl, hl, hlen, hf⟩ := DataW.trod_struct Tryz.underlying29 h
  rw [ocellsM] at hl
  match xs, hlen, cs, hl with
  | [y0, y1, y2], _, [c0, c1, c2, c3, c4], _ =>
    have h0 : DataW.trod enc Tryz.prog w base spare held m 4 (([c0, c1, c2, c3, c4].drop 0).take (Tryz.prog.cellsOf 4)) = some y0 := hf 0 _ rfl
    have h1 : DataW.trod enc Tryz.prog w base spare held m 24 (([c0, c1, c2, c3, c4].drop (Tryz.prog.cellsOf 4)).take (Tryz.prog.cellsOf 24)) = some y1 := hf 1 _ rfl
    have h2 : DataW.trod enc Tryz.prog w base spare held m 27 (([c0, c1, c2, c3, c4].drop (Tryz.prog.cellsOf 4 + Tryz.prog.cellsOf 24)).take (Tryz.prog.cellsOf 27)) = some y2 := hf 2 _ rfl
    rw [ocellsB, show ([c0, c1, c2, c3, c4].drop 0).take 1 = [c0] from rfl] at h0
    rw [ocellsB, ocellsI, show ([c0, c1, c2, c3, c4].drop 1).take 2 = [c1, c2] from rfl] at h1
    rw [ocellsB, ocellsI, ocellsG, show ([c0, c1, c2, c3, c4].drop (1 + 2)).take 2 = [c3, c4] from rfl] at h2
    obtain ⟨b, e0, r0⟩ := DataW.trod_bool Tryz.underlying4 h0
    obtain ⟨lo, hi, e1, r1, i1, i2⟩ := oopen_ivc h1
    obtain ⟨M, R, e2, r2, u1, u2⟩ := oopen_cgc h2
    simp only [oivCells, ocgCells, List.cons.injEq, and_true] at e0 e1 e2
    obtain ⟨rfl, rfl⟩ := e1
    obtain ⟨rfl, rfl⟩ := e2
    subst e0 r0 r1 r2
    exact ⟨(lo, hi, M, R, b), rfl, rfl, i1, i2, u1, u2⟩
end
end
section
open Go.RowKit Go.Deep Go.WideShapes Go.ChangeShapes
section
variable {H : Type} {enc : TypeId × Value → H} {w : World}
theorem ocellsP14 : Tryz.prog.cellsOf 31 = 17 := by kernel_rfl
set_option maxRecDepth 100000 in
/-- Three Nums and two numbers that come in. -/
theorem oopen_case14 {r : Reach} {b0 base : Nat} {spare : Nat → Bool} {held : Bool} {v : Value} {d : DataW H} {ps : List MemPlace} (hval : Value.okWide Tryz.prog w r b0 31 v) (hd : DataW.Trod enc Tryz.prog w base spare held 31 v d ps) :
    ∃ (a b c : Int × Int × Nat × Nat × Bool) (x y : Int), v = .agg #[.bool a.2.2.2.2, .int .i64 a.1, .int .i64 a.2.1, .int .u64 (a.2.2.1 : Int), .int .u64 (a.2.2.2.1 : Int), .bool b.2.2.2.2, .int .i64 b.1, .int .i64 b.2.1, .int .u64 (b.2.2.1 : Int), .int .u64 (b.2.2.2.1 : Int), .bool c.2.2.2.2, .int .i64 c.1, .int .i64 c.2.1, .int .u64 (c.2.2.1 : Int), .int .u64 (c.2.2.2.1 : Int), .int .i64 x, .int .i64 y] ∧ RawN a ∧ RawN b ∧ RawN c ∧ In64 x ∧ In64 y := by
  obtain ⟨cs, rfl, hcs⟩ := okWide_struct Tryz.underlying31 hval
  obtain ⟨fuel, hf⟩ := hd
  obtain ⟨xs, m, _, hxx, hl, hlen, hg⟩ := DataW.trod_struct Tryz.underlying31 hf
  have hl2 : cs.toList.length = 17 := by rw [ocellsP14] at hcs; simpa using hcs
  have hcc : (Value.agg cs).cells.toList = cs.toList := by simp [Value.cells]
  obtain ⟨L, hL⟩ : ∃ L, L = cs.toList := ⟨_, rfl⟩
  have hca : cs = L.toArray := by rw [hL]
  rw [← hL] at hl2 hcc
  match xs, hlen, L, hl2 with
  | [y0, y1, y2, y3, y4], _, [c0, c1, c2, c3, c4, c5, c6, c7, c8, c9, c10, c11, c12, c13, c14, c15, c16], _ =>
    have h0 : DataW.trod enc Tryz.prog w base spare held m 29 (((Value.agg cs).cells.toList.drop 0).take (Tryz.prog.cellsOf 29)) = some y0 := hg 0 _ rfl
    have h1 : DataW.trod enc Tryz.prog w base spare held m 29 (((Value.agg cs).cells.toList.drop (Tryz.prog.cellsOf 29)).take (Tryz.prog.cellsOf 29)) = some y1 := hg 1 _ rfl
    have h2 : DataW.trod enc Tryz.prog w base spare held m 29 (((Value.agg cs).cells.toList.drop (Tryz.prog.cellsOf 29 + Tryz.prog.cellsOf 29)).take (Tryz.prog.cellsOf 29)) = some y2 := hg 2 _ rfl
    have h3 : DataW.trod enc Tryz.prog w base spare held m 2 (((Value.agg cs).cells.toList.drop (Tryz.prog.cellsOf 29 + Tryz.prog.cellsOf 29 + Tryz.prog.cellsOf 29)).take (Tryz.prog.cellsOf 2)) = some y3 := hg 3 _ rfl
    have h4 : DataW.trod enc Tryz.prog w base spare held m 2 (((Value.agg cs).cells.toList.drop (Tryz.prog.cellsOf 29 + Tryz.prog.cellsOf 29 + Tryz.prog.cellsOf 29 + Tryz.prog.cellsOf 2)).take (Tryz.prog.cellsOf 2)) = some y4 := hg 4 _ rfl
    rw [hcc, ocellsM] at h0 h1 h2
    rw [hcc, ocellsM, ocellsN] at h3 h4
    obtain ⟨a, e0, _, a1⟩ := oopen_nc h0
    obtain ⟨b, e1, _, a2⟩ := oopen_nc h1
    obtain ⟨c, e2, _, a3⟩ := oopen_nc h2
    obtain ⟨x, e3, _, w3⟩ := DataW.trod_int Tryz.underlying2 h3
    obtain ⟨y, e4, _, w4⟩ := DataW.trod_int Tryz.underlying2 h4
    simp [onCells] at e0 e1 e2 e3 e4
    obtain ⟨rfl, rfl, rfl, rfl, rfl⟩ := e0
    obtain ⟨rfl, rfl, rfl, rfl, rfl⟩ := e1
    obtain ⟨rfl, rfl, rfl, rfl, rfl⟩ := e2
    subst e3 e4
    refine ⟨a, b, c, x, y, ?_, a1, a2, a3, owf64 w3, owf64 w4⟩
    rw [hca]
end
end
section
open Go.RowKit Go.Shelf
theorem row17_facts {w : World} {g : Nat} {c0 c1 c2 c3 c4 c5 c6 c7 c8 c9 c10 c11 c12 c13 c14 c15 c16 : Value} {t : TypeId} (h : w.heap[g]? = some (.cells #[c0, c1, c2, c3, c4, c5, c6, c7, c8, c9, c10, c11, c12, c13, c14, c15, c16] t (0, 0))) :
    w.cell? ⟨g, 0, none⟩ = some c0 ∧ w.cell? ⟨g, 1, none⟩ = some c1 ∧ w.cell? ⟨g, 2, none⟩ = some c2 ∧ w.cell? ⟨g, 3, none⟩ = some c3 ∧ w.cell? ⟨g, 4, none⟩ = some c4 ∧ w.cell? ⟨g, 5, none⟩ = some c5 ∧ w.cell? ⟨g, 6, none⟩ = some c6 ∧ w.cell? ⟨g, 7, none⟩ = some c7 ∧ w.cell? ⟨g, 8, none⟩ = some c8 ∧ w.cell? ⟨g, 9, none⟩ = some c9 ∧ w.cell? ⟨g, 10, none⟩ = some c10 ∧ w.cell? ⟨g, 11, none⟩ = some c11 ∧ w.cell? ⟨g, 12, none⟩ = some c12 ∧ w.cell? ⟨g, 13, none⟩ = some c13 ∧ w.cell? ⟨g, 14, none⟩ = some c14 ∧ w.cell? ⟨g, 15, none⟩ = some c15 ∧ w.cell? ⟨g, 16, none⟩ = some c16 := by
  refine ⟨?_, ?_, ?_, ?_, ?_, ?_, ?_, ?_, ?_, ?_, ?_, ?_, ?_, ?_, ?_, ?_, ?_⟩
  · exact (cell_of_row _ _ 0 _ _ _ h).trans (by simp)
  · exact (cell_of_row _ _ 1 _ _ _ h).trans (by simp)
  · exact (cell_of_row _ _ 2 _ _ _ h).trans (by simp)
  · exact (cell_of_row _ _ 3 _ _ _ h).trans (by simp)
  · exact (cell_of_row _ _ 4 _ _ _ h).trans (by simp)
  · exact (cell_of_row _ _ 5 _ _ _ h).trans (by simp)
  · exact (cell_of_row _ _ 6 _ _ _ h).trans (by simp)
  · exact (cell_of_row _ _ 7 _ _ _ h).trans (by simp)
  · exact (cell_of_row _ _ 8 _ _ _ h).trans (by simp)
  · exact (cell_of_row _ _ 9 _ _ _ h).trans (by simp)
  · exact (cell_of_row _ _ 10 _ _ _ h).trans (by simp)
  · exact (cell_of_row _ _ 11 _ _ _ h).trans (by simp)
  · exact (cell_of_row _ _ 12 _ _ _ h).trans (by simp)
  · exact (cell_of_row _ _ 13 _ _ _ h).trans (by simp)
  · exact (cell_of_row _ _ 14 _ _ _ h).trans (by simp)
  · exact (cell_of_row _ _ 15 _ _ _ h).trans (by simp)
  · exact (cell_of_row _ _ 16 _ _ _ h).trans (by simp)
set_option maxHeartbeats 4000000 in
theorem vholds_any (op x y : Int) (ho : OpC op) (w0 w : World) (hok : Ok w0 w) :
    Calls Tryz.prog 12 #[.int .i64 op, .int .i64 x, .int .i64 y] w fun e w' => e = .returned (.bool (holdsV op x y)) ∧ Ok w0 w' := by
  rcases ho with rfl | rfl | rfl | rfl | rfl | rfl
  · go_enter Tryz.func12, Tryz.ntmps12
    go_wp2_with fail
    go_ret
    exact ⟨by first | rfl | (simp [holdsV]; done) | (simp [holdsV, bne]; done), hok⟩
  · go_enter Tryz.func12, Tryz.ntmps12
    go_wp2_with fail
    go_ret
    exact ⟨by first | rfl | (simp [holdsV]; done) | (simp [holdsV, bne]; done), hok⟩
  · go_enter Tryz.func12, Tryz.ntmps12
    go_wp2_with fail
    go_ret
    exact ⟨by first | rfl | (simp [holdsV]; done) | (simp [holdsV, bne]; done), hok⟩
  · go_enter Tryz.func12, Tryz.ntmps12
    go_wp2_with fail
    go_ret
    exact ⟨by first | rfl | (simp [holdsV]; done) | (simp [holdsV, bne]; done), hok⟩
  · go_enter Tryz.func12, Tryz.ntmps12
    go_wp2_with fail
    go_ret
    exact ⟨by first | rfl | (simp [holdsV]; done) | (simp [holdsV, bne]; done), hok⟩
  · go_enter Tryz.func12, Tryz.ntmps12
    go_wp2_with fail
    go_ret
    exact ⟨by first | rfl | (simp [holdsV]; done) | (simp [holdsV, bne]; done), hok⟩
set_option maxHeartbeats 4000000 in
theorem vNegate_any (op : Int) (ho : OpC op) (w0 w : World) (hok : Ok w0 w) :
    Calls Tryz.prog 7 #[.int .i64 op] w fun e w' => e = .returned (.tuple #[.int .i64 (negF op), .int .i64 0]) ∧ Ok w0 w' := by
  rcases ho with rfl | rfl | rfl | rfl | rfl | rfl
  · go_enter Tryz.func7, Tryz.ntmps7
    go_wp2_with fail
    refine bodyPost_ret (results_tmp2 rfl _ _ _) rfl ?_
    exact ⟨rfl, hok⟩
  · go_enter Tryz.func7, Tryz.ntmps7
    go_wp2_with fail
    refine bodyPost_ret (results_tmp2 rfl _ _ _) rfl ?_
    exact ⟨rfl, hok⟩
  · go_enter Tryz.func7, Tryz.ntmps7
    go_wp2_with fail
    refine bodyPost_ret (results_tmp2 rfl _ _ _) rfl ?_
    exact ⟨rfl, hok⟩
  · go_enter Tryz.func7, Tryz.ntmps7
    go_wp2_with fail
    refine bodyPost_ret (results_tmp2 rfl _ _ _) rfl ?_
    exact ⟨rfl, hok⟩
  · go_enter Tryz.func7, Tryz.ntmps7
    go_wp2_with fail
    refine bodyPost_ret (results_tmp2 rfl _ _ _) rfl ?_
    exact ⟨rfl, hok⟩
  · go_enter Tryz.func7, Tryz.ntmps7
    go_wp2_with fail
    refine bodyPost_ret (results_tmp2 rfl _ _ _) rfl ?_
    exact ⟨rfl, hok⟩
set_option maxHeartbeats 4000000 in
theorem vNegate_no (op : Int) (ho : ¬ OpC op) (w0 w : World) (hok : Ok w0 w) :
    Calls Tryz.prog 7 #[.int .i64 op] w fun e w' => e = .returned (.tuple #[.int .i64 0, .int .i64 1]) ∧ Ok w0 w' := by
  have k8 : (op == 8) = false := by rw [beq_eq_false_iff_ne]; intro h; exact ho (Or.inl h)
  have k9 : (op == 9) = false := by rw [beq_eq_false_iff_ne]; intro h; exact ho (Or.inr (Or.inl h))
  have k10 : (op == 10) = false := by rw [beq_eq_false_iff_ne]; intro h; exact ho (Or.inr (Or.inr (Or.inl h)))
  have k11 : (op == 11) = false := by rw [beq_eq_false_iff_ne]; intro h; exact ho (Or.inr (Or.inr (Or.inr (Or.inl h))))
  have k12 : (op == 12) = false := by rw [beq_eq_false_iff_ne]; intro h; exact ho (Or.inr (Or.inr (Or.inr (Or.inr (Or.inl h)))))
  have k13 : (op == 13) = false := by rw [beq_eq_false_iff_ne]; intro h; exact ho (Or.inr (Or.inr (Or.inr (Or.inr (Or.inr h)))))
  clear ho
  go_enter Tryz.func7, Tryz.ntmps7
  go_wp2_with fail
  refine bodyPost_ret (results_tmp2 rfl _ _ _) rfl ?_
  exact ⟨rfl, hok⟩
end
end Go.Proofs.YtgkbegmaffknbabGreat
