import Derived.Test.YtklkpaekdpaloaaDoorRows
import Derived.Test.YtklkpaekdpaloaaDoorCards
import Derived.Test.YtklkpaekdpaloaaDoorTie
import Derived.WalkKit
import Derived.ProofKit
import Derived.OpenShut
import Derived.LaidMore
import Derived.MakeChecks
import Derived.Stop.Joined
import Derived.SevenTiedAt
import Derived.Stop.LaidErr
import Derived.Lib.LaidTab
import Derived.Test.YtklkpaekdpaloaaDoorKSc
import Derived.Test.YtklkpaekdpaloaaDoorKZe
set_option linter.unusedVariables false
namespace Go.Proofs.YtklkpaekdpaloaaDoor
section
set_option linter.unusedVariables false
set_option linter.unusedSimpArgs false
open Go.ChangeShapes Go.WideShapes Go.ChangeAt Go.RowKit
theorem own : ownKnob Tryd.prog.godebug = none := by kernel_rfl
set_option maxRecDepth 100000 in
theorem door_met (os : Os) (args : Array Value) : laidMetH Tryd.prog Rows.cfgBehindRow.laid ((World.doorLaid Tryd.prog 4000 os).forCall (fun _ _ => 0) ⟨#[], args, []⟩).memory :=
 laidMetH_of_parts3 (fuel := 12) (laidMet_of_run' 12 (by kernel_rfl) (by kernel_rfl)) (by kernel_rfl) (by kernel_rfl)
section
variable {H : Type} {enc : TypeId × Value → H} {w : World} {base : Nat} {sp : Nat → Bool} {held : Bool}
theorem cellsA : Tryd.prog.cellsOf 137 = 1 ∧ Tryd.prog.cellsOf 4 = 1 ∧ Tryd.prog.cellsOf 2 = 1 ∧ Tryd.prog.cellsOf 138 = 2 ∧ Tryd.prog.cellsOf 139 = 3 ∧ Tryd.prog.cellsOf 5 = 1 ∧ Tryd.prog.cellsOf 141 = 9 ∧ Tryd.prog.cellsOf 56 = 1 := by
 refine ⟨?_, ?_, ?_, ?_, ?_, ?_, ?_, ?_⟩ <;> kernel_rfl
theorem cellsB : Tryd.prog.cellsOf 53 = 2 ∧ Tryd.prog.cellsOf 37 = 1 := by
 refine ⟨?_, ?_⟩ <;> kernel_rfl
set_option maxRecDepth 100000 in
theorem step_of {fuel : Nat} {cs : List Value} {s : Bool} {l : Int} {p : List MemPlace} (h : DataW.trod enc Tryd.prog w base sp held fuel 53 cs = some (.agg [.lit (.bool s), .lit (.int .i64 l)], p)) :
  cs = [.bool s, .int .i64 l] := by
 obtain ⟨xs, m, _, hx, hl, hlen, hf⟩ := DataW.trod_struct Tryd.underlying53 h
 rw [cellsB.1] at hl
 match xs, hlen, cs, hl with
 | [y0, y1], _, [c0, c1], _ =>
  have h0 : DataW.trod enc Tryd.prog w base sp held m 4 (([c0, c1].drop 0).take (Tryd.prog.cellsOf 4)) = some y0 := hf 0 _ rfl
  rw [cellsA.2.1, show ([c0, c1].drop 0).take 1 = [c0] from rfl] at h0
  have h1 : DataW.trod enc Tryd.prog w base sp held m 37 (([c0, c1].drop 1).take (Tryd.prog.cellsOf 37)) = some y1 := hf 1 _ rfl
  rw [cellsB.2, show ([c0, c1].drop 1).take 1 = [c1] from rfl] at h1
  obtain ⟨s', e0, r0⟩ := DataW.trod_bool Tryd.underlying4 h0
  obtain ⟨l', e1, r1, _⟩ := DataW.trod_int Tryd.underlying37 h1
  simp only [List.cons.injEq, and_true] at e0 e1
  subst e0 e1 r0 r1
  simp only [List.map_cons, List.map_nil, Prod.mk.injEq, DataW.agg.injEq, List.cons.injEq, DataW.lit.injEq, Lit.bool.injEq, Lit.int.injEq, and_true, true_and] at hx
  obtain ⟨⟨rfl, rfl⟩, _⟩ := hx
  rfl
set_option maxRecDepth 100000 in
theorem rule_of {fuel : Nat} {cs : List Value} {a0 a2 a3 a4 a5 a6 a7 a8 : Int} {a1 : Bool} {p : List MemPlace}
  (h : DataW.trod enc Tryd.prog w base sp held fuel 141 cs = some (.agg [.lit (.int .u8 a0), .lit (.bool a1), .lit (.int .i64 a2), .agg [.lit (.int .i64 a3), .lit (.int .i64 a4)], .agg [.lit (.int .u8 a5), .lit (.int .u8 a6), .lit (.int .u8 a7)], .lit (.int .u8 a8)], p)) :
  cs = [.int .u8 a0, .bool a1, .int .i64 a2, .int .i64 a3, .int .i64 a4, .int .u8 a5, .int .u8 a6, .int .u8 a7, .int .u8 a8] := by
 obtain ⟨xs, m, _, hx, hl, hlen, hf⟩ := DataW.trod_struct Tryd.underlying141 h
 obtain ⟨c71, c4, c2, c72, c73, c5, c75, c29⟩ := cellsA
 rw [c75] at hl
 match xs, hlen, cs, hl with
 | [y0, y1, y2, y3, y4, y5], _, [k0, k1, k2, k3, k4, k5, k6, k7, k8], _ =>
  have h0 : DataW.trod enc Tryd.prog w base sp held m 137 (([k0, k1, k2, k3, k4, k5, k6, k7, k8].drop 0).take (Tryd.prog.cellsOf 137)) = some y0 := hf 0 _ rfl
  rw [c71, show ([k0, k1, k2, k3, k4, k5, k6, k7, k8].drop 0).take 1 = [k0] from rfl] at h0
  have h1 : DataW.trod enc Tryd.prog w base sp held m 4 (([k0, k1, k2, k3, k4, k5, k6, k7, k8].drop 1).take (Tryd.prog.cellsOf 4)) = some y1 := hf 1 _ rfl
  rw [c4, show ([k0, k1, k2, k3, k4, k5, k6, k7, k8].drop 1).take 1 = [k1] from rfl] at h1
  have h2 : DataW.trod enc Tryd.prog w base sp held m 2 (([k0, k1, k2, k3, k4, k5, k6, k7, k8].drop 2).take (Tryd.prog.cellsOf 2)) = some y2 := hf 2 _ rfl
  rw [c2, show ([k0, k1, k2, k3, k4, k5, k6, k7, k8].drop 2).take 1 = [k2] from rfl] at h2
  have h3 : DataW.trod enc Tryd.prog w base sp held m 138 (([k0, k1, k2, k3, k4, k5, k6, k7, k8].drop 3).take (Tryd.prog.cellsOf 138)) = some y3 := hf 3 _ rfl
  rw [c72, show ([k0, k1, k2, k3, k4, k5, k6, k7, k8].drop 3).take 2 = [k3, k4] from rfl] at h3
  have h4 : DataW.trod enc Tryd.prog w base sp held m 139 (([k0, k1, k2, k3, k4, k5, k6, k7, k8].drop 5).take (Tryd.prog.cellsOf 139)) = some y4 := hf 4 _ rfl
  rw [c73, show ([k0, k1, k2, k3, k4, k5, k6, k7, k8].drop 5).take 3 = [k5, k6, k7] from rfl] at h4
  have h5 : DataW.trod enc Tryd.prog w base sp held m 5 (([k0, k1, k2, k3, k4, k5, k6, k7, k8].drop 8).take (Tryd.prog.cellsOf 5)) = some y5 := hf 5 _ rfl
  rw [c5, show ([k0, k1, k2, k3, k4, k5, k6, k7, k8].drop 8).take 1 = [k8] from rfl] at h5
  obtain ⟨z0, e0, r0, _⟩ := DataW.trod_int Tryd.underlying137 h0
  obtain ⟨z1, e1, r1⟩ := DataW.trod_bool Tryd.underlying4 h1
  obtain ⟨z2, e2, r2, _⟩ := DataW.trod_int Tryd.underlying2 h2
  obtain ⟨z8, e8, r8, _⟩ := DataW.trod_int Tryd.underlying5 h5
  simp only [List.map_cons, List.map_nil, Prod.mk.injEq, DataW.agg.injEq, List.cons.injEq, and_true] at hx
  obtain ⟨⟨hx0, hx1, hx2, hx3, hx4, hx5⟩, _⟩ := hx
  have g3 : [k3, k4] = [a3, a4].map fun z => Value.int .i64 z := Lib.cells_of_tab (p := y3.2) Tryd.underlying138 Tryd.underlying56 c29 c72 (by rw [h3, show Lib.tabData .i64 [a3, a4] = y3.1 from hx3])
  have g4 : [k5, k6, k7] = [a5, a6, a7].map fun z => Value.int .u8 z := Lib.cells_of_tab (p := y4.2) Tryd.underlying139 Tryd.underlying137 c71 c73 (by rw [h4, show Lib.tabData .u8 [a5, a6, a7] = y4.1 from hx4])
  simp only [List.map_cons, List.map_nil, List.cons.injEq, and_true] at g3 g4 e0 e1 e2 e8
  obtain ⟨rfl, rfl⟩ := g3
  obtain ⟨rfl, rfl, rfl⟩ := g4
  subst e0 e1 e2 e8 r0 r1 r2 r8
  simp only [DataW.lit.injEq, Lit.int.injEq, Lit.bool.injEq, true_and] at hx0 hx1 hx2 hx5
  subst hx0 hx1 hx2 hx5
  rfl
end
def stepData {H : Type} : DataW H := .agg ((List.range 16).map fun k => .agg [.lit (.bool (decide (2 ≤ k) && decide (k ≤ 8))), .lit (.int .i64 (opT.getD k 0))])
def ruleData {H : Type} : DataW H := .agg ((List.range 16).map fun k => .agg [.lit (.int .u8 (rSort k)), .lit (.bool (rNamed k)), .lit (.int .i64 (rMost k)), .agg [.lit (.int .i64 (rOp0 k)), .lit (.int .i64 (rOp1 k))], .agg [.lit (.int .u8 (rH0 k)), .lit (.int .u8 (rH1 k)), .lit (.int .u8 (rH2 k))], .lit (.int .u8 (rWant k))])
theorem stepData_eq : Rows.laid_winnow_cfg_steps (H := Unit) = stepData := rfl
theorem ruleData_eq : Rows.laid_winnow_parse_rules (H := Unit) = ruleData := rfl
theorem chunk_of {P : Program} {W : World} {name : String} {ds : List (DataW Unit)} {rest : List (String × DataW Unit)} {g : Nat} {t e : TypeId} {n c : Nat}
  (hg : P.globalNamed name = some g) (hty : (P.globals[g]?).map (·.type) = some t) (ht : P.underlying t = some (.array n e)) (hce : P.cellsOf e = c)
  (h : laidMet P ((name, .agg ds) :: rest) W) : ∃ (cs : Array Value) (enc : TypeId × Value → Unit) (base : Nat) (sp : Nat → Bool) (held : Bool) (m : Nat), W.var? P name = some cs ∧ ds.length = n ∧
   ∀ i d, ds[i]? = some d → ∃ p, DataW.trod enc P W base sp held m e ((cs.toList.drop (i * c)).take c) = some (d, p) := by
 obtain ⟨ps, ⟨g', t', cs, fuel, p, q, hg', ht', hvar, hd, _, _⟩, _⟩ := h
 obtain rfl := Option.some.inj (hg.symm.trans hg')
 obtain rfl := Option.some.inj (hty.symm.trans ht')
 obtain ⟨xs, m, _, hx, _, hlen, hel⟩ := DataW.trod_array ht hd
 have hds : ds = xs.map (·.1) := by
  have := congrArg Prod.fst hx
  simpa using this
 refine ⟨cs, fun _ => (), 0, fun _ => true, false, m, hvar, by rw [hds]; simpa using hlen, ?_⟩
 intro i d hi
 have hi' : i < xs.length := by
  have := (List.getElem?_eq_some_iff.1 hi).1
  rw [hds] at this
  simpa using this
 have h9 := hel i (by omega)
 rw [hce] at h9
 refine ⟨xs[i].2, ?_⟩
 rw [h9, List.getElem?_eq_getElem hi']
 rw [hds, List.getElem?_map, List.getElem?_eq_getElem hi'] at hi
 have : xs[i].1 = d := by simpa using hi
 rw [← this]
theorem chunk_at {cs : List Value} {i c j : Nat} {l : List Value} {v : Value} (h : (cs.drop (i * c)).take c = l) (hj : l[j]? = some v) : cs[i * c + j]? = some v := by
 rw [← h, List.getElem?_take] at hj
 split at hj
 ·rw [List.getElem?_drop] at hj; exact hj
 ·cases hj
theorem cell_lt {W : World} {b o : Nat} {v : Value} (h : W.cell? ⟨b, o, none⟩ = some v) : b < W.heap.size := by
 rcases Nat.lt_or_ge b W.heap.size with hh | hh
 ·exact hh
 ·simp [World.cell?, Array.getElem?_eq_none hh] at h
theorem steps_of_laid {W : World} {rest : List (String × DataW Unit)} (h : laidMet Tryd.prog (("winnow/cfg.steps", Rows.laid_winnow_cfg_steps) :: rest) W) : StepsIs W := by
 rw [stepData_eq] at h
 have hg : Tryd.prog.globalNamed "winnow/cfg.steps" = some 0 := by kernel_rfl
 obtain ⟨cs, enc, base, sp, held, m, hvar, _, hel⟩ := chunk_of (g := 0) (t := 54) hg (by kernel_rfl) Tryd.underlying54 cellsB.1 h
 have key : ∀ k, k < 16 → (cs.toList.drop (k * 2)).take 2 = [.bool (decide (2 ≤ k) && decide (k ≤ 8)), .int .i64 (opT.getD k 0)] := by
  intro k hk
  obtain ⟨p, hp⟩ := hel k _ (by rw [List.getElem?_map, List.getElem?_range hk]; rfl)
  exact step_of hp
 have cell : ∀ (j : Nat) (v : Value), cs.toList[j]? = some v → W.cell? ⟨0, j, none⟩ = some v := by
  intro j v hv
  rw [World.var?_cell hg hvar j, ← Array.getElem?_toList]
  exact hv
 exact ⟨cell_lt (cell _ _ (chunk_at (j := 0) (key 0 (by decide)) rfl)), fun k hk => cell _ _ (chunk_at (j := 0) (key k hk) rfl), fun k hk => cell _ _ (chunk_at (j := 1) (key k hk) rfl)⟩
theorem rules_of_laid {W : World} {rest : List (String × DataW Unit)} (h : laidMet Tryd.prog (("winnow/parse.rules", Rows.laid_winnow_parse_rules) :: rest) W) : RulesIs W := by
 rw [ruleData_eq] at h
 have hg : Tryd.prog.globalNamed "winnow/parse.rules" = some 2 := by kernel_rfl
 obtain ⟨cs, enc, base, sp, held, m, hvar, _, hel⟩ := chunk_of (g := 2) (t := 142) hg (by kernel_rfl) Tryd.underlying142 cellsA.2.2.2.2.2.2.1 h
 have key : ∀ k, k < 16 → (cs.toList.drop (k * 9)).take 9 = [.int .u8 (rSort k), .bool (rNamed k), .int .i64 (rMost k), .int .i64 (rOp0 k), .int .i64 (rOp1 k), .int .u8 (rH0 k), .int .u8 (rH1 k), .int .u8 (rH2 k), .int .u8 (rWant k)] := by
  intro k hk
  obtain ⟨p, hp⟩ := hel k _ (by rw [List.getElem?_map, List.getElem?_range hk]; rfl)
  exact rule_of hp
 have cell : ∀ (j : Nat) (v : Value), cs.toList[j]? = some v → W.cell? ⟨2, j, none⟩ = some v := by
  intro j v hv
  rw [World.var?_cell hg hvar j, ← Array.getElem?_toList]
  exact hv
 exact ⟨cell_lt (cell _ _ (chunk_at (j := 0) (key 0 (by decide)) rfl)), fun k hk => cell _ _ (chunk_at (j := 0) (key k hk) rfl), fun k hk => cell _ _ (chunk_at (j := 1) (key k hk) rfl), fun k hk => cell _ _ (chunk_at (j := 2) (key k hk) rfl), fun k hk => cell _ _ (chunk_at (j := 3) (key k hk) rfl),
  fun k hk => cell _ _ (chunk_at (j := 4) (key k hk) rfl), fun k hk => cell _ _ (chunk_at (j := 5) (key k hk) rfl), fun k hk => cell _ _ (chunk_at (j := 6) (key k hk) rfl), fun k hk => cell _ _ (chunk_at (j := 7) (key k hk) rfl), fun k hk => cell _ _ (chunk_at (j := 8) (key k hk) rfl)⟩
theorem vars_of_laid {W : World} (h : laidMetH Tryd.prog Rows.cfgBehindRow.laid W) : RulesIs W ∧ StepsIs W := by
 rw [MakeChecks.laidMetH_plain _ _ _ (by kernel_rfl)] at h
 have h1 : laidMet Tryd.prog [("winnow/parse.rules", Rows.laid_winnow_parse_rules), ("winnow/cfg.steps", Rows.laid_winnow_cfg_steps)] W := laidMet.tail h
 exact ⟨rules_of_laid h1, steps_of_laid (laidMet.tail h1)⟩
end
section
theorem zroot : True := trivial
end
end Go.Proofs.YtklkpaekdpaloaaDoor
