import Derived.Test.YtklkpaekdpaloaaGreatDoorRows
import Derived.Test.YtklkpaekdpaloaaGreatDoorCards
import Derived.Test.YtklkpaekdpaloaaGreatDoorTie
import Derived.WalkKit
import Derived.ProofKit
import Derived.OpenShut
import Derived.LaidMore
import Derived.MakeChecks
import Derived.Stop.Joined
import Derived.SevenTiedAt
import Derived.Stop.LaidErr
import Derived.Lib.LaidTab
import Derived.Deep.Slices
import Derived.Deep.Strs
import Derived.Lib.SmallJoins
import Derived.Deep.DeepHandedRow
import Derived.Test.YtklkpaekdpaloaaGreatDoorMSc
import Derived.Test.YtklkpaekdpaloaaGreatDoorMUb
set_option linter.unusedVariables false
set_option linter.unusedSimpArgs false
namespace Go.Proofs.YtklkpaekdpaloaaGreatDoor
section
set_option linter.unusedVariables false
set_option linter.unusedSimpArgs false
open Go.ChangeShapes Go.WideShapes Go.ChangeAt Go.RowKit
theorem own : ownKnob Tryz.prog.godebug = none := by kernel_rfl
set_option maxRecDepth 100000 in
theorem door_met (os : Os) (args : Array Value) : laidMetH Tryz.prog Rows.cfgLowersRow.laid ((World.doorLaid Tryz.prog 4000 os).forCall (fun _ _ => 0) ⟨#[], args, []⟩).memory :=
 laidMetH_of_parts3 (fuel := 12) (laidMet_of_run' 12 (by kernel_rfl) (by kernel_rfl)) (by kernel_rfl) (by kernel_rfl)
section
variable {H : Type} {enc : TypeId × Value → H} {w : World} {base : Nat} {sp : Nat → Bool} {held : Bool}
theorem cellsA : Tryz.prog.cellsOf 157 = 1 ∧ Tryz.prog.cellsOf 4 = 1 ∧ Tryz.prog.cellsOf 2 = 1 ∧ Tryz.prog.cellsOf 158 = 2 ∧ Tryz.prog.cellsOf 159 = 3 ∧ Tryz.prog.cellsOf 5 = 1 ∧ Tryz.prog.cellsOf 161 = 9 ∧ Tryz.prog.cellsOf 29 = 1 := by
 refine ⟨?_, ?_, ?_, ?_, ?_, ?_, ?_, ?_⟩ <;> kernel_rfl
theorem cellsB : Tryz.prog.cellsOf 75 = 2 ∧ Tryz.prog.cellsOf 51 = 1 := by
 refine ⟨?_, ?_⟩ <;> kernel_rfl
set_option maxRecDepth 100000 in
theorem step_of {fuel : Nat} {cs : List Value} {s : Bool} {l : Int} {p : List MemPlace} (h : DataW.trod enc Tryz.prog w base sp held fuel 75 cs = some (.agg [.lit (.bool s), .lit (.int .i64 l)], p)) :
  cs = [.bool s, .int .i64 l] := by
 obtain ⟨xs, m, _, hx, hl, hlen, hf⟩ := DataW.trod_struct Tryz.underlying75 h
 rw [cellsB.1] at hl
 match xs, hlen, cs, hl with
 | [y0, y1], _, [c0, c1], _ =>
  have h0 : DataW.trod enc Tryz.prog w base sp held m 4 (([c0, c1].drop 0).take (Tryz.prog.cellsOf 4)) = some y0 := hf 0 _ rfl
  rw [cellsA.2.1, show ([c0, c1].drop 0).take 1 = [c0] from rfl] at h0
  have h1 : DataW.trod enc Tryz.prog w base sp held m 51 (([c0, c1].drop 1).take (Tryz.prog.cellsOf 51)) = some y1 := hf 1 _ rfl
  rw [cellsB.2, show ([c0, c1].drop 1).take 1 = [c1] from rfl] at h1
  obtain ⟨s', e0, r0⟩ := DataW.trod_bool Tryz.underlying4 h0
  obtain ⟨l', e1, r1, _⟩ := DataW.trod_int Tryz.underlying51 h1
  simp only [List.cons.injEq, and_true] at e0 e1
  subst e0 e1 r0 r1
  simp only [List.map_cons, List.map_nil, Prod.mk.injEq, DataW.agg.injEq, List.cons.injEq, DataW.lit.injEq, Lit.bool.injEq, Lit.int.injEq, and_true, true_and] at hx
  obtain ⟨⟨rfl, rfl⟩, _⟩ := hx
  rfl
set_option maxRecDepth 100000 in
theorem rule_of {fuel : Nat} {cs : List Value} {a0 a2 a3 a4 a5 a6 a7 a8 : Int} {a1 : Bool} {p : List MemPlace}
  (h : DataW.trod enc Tryz.prog w base sp held fuel 161 cs = some (.agg [.lit (.int .u8 a0), .lit (.bool a1), .lit (.int .i64 a2), .agg [.lit (.int .i64 a3), .lit (.int .i64 a4)], .agg [.lit (.int .u8 a5), .lit (.int .u8 a6), .lit (.int .u8 a7)], .lit (.int .u8 a8)], p)) :
  cs = [.int .u8 a0, .bool a1, .int .i64 a2, .int .i64 a3, .int .i64 a4, .int .u8 a5, .int .u8 a6, .int .u8 a7, .int .u8 a8] := by
 obtain ⟨xs, m, _, hx, hl, hlen, hf⟩ := DataW.trod_struct Tryz.underlying161 h
 obtain ⟨c71, c4, c2, c72, c73, c5, c75, c29⟩ := cellsA
 rw [c75] at hl
 match xs, hlen, cs, hl with
 | [y0, y1, y2, y3, y4, y5], _, [k0, k1, k2, k3, k4, k5, k6, k7, k8], _ =>
  have h0 : DataW.trod enc Tryz.prog w base sp held m 157 (([k0, k1, k2, k3, k4, k5, k6, k7, k8].drop 0).take (Tryz.prog.cellsOf 157)) = some y0 := hf 0 _ rfl
  rw [c71, show ([k0, k1, k2, k3, k4, k5, k6, k7, k8].drop 0).take 1 = [k0] from rfl] at h0
  have h1 : DataW.trod enc Tryz.prog w base sp held m 4 (([k0, k1, k2, k3, k4, k5, k6, k7, k8].drop 1).take (Tryz.prog.cellsOf 4)) = some y1 := hf 1 _ rfl
  rw [c4, show ([k0, k1, k2, k3, k4, k5, k6, k7, k8].drop 1).take 1 = [k1] from rfl] at h1
  have h2 : DataW.trod enc Tryz.prog w base sp held m 2 (([k0, k1, k2, k3, k4, k5, k6, k7, k8].drop 2).take (Tryz.prog.cellsOf 2)) = some y2 := hf 2 _ rfl
  rw [c2, show ([k0, k1, k2, k3, k4, k5, k6, k7, k8].drop 2).take 1 = [k2] from rfl] at h2
  have h3 : DataW.trod enc Tryz.prog w base sp held m 158 (([k0, k1, k2, k3, k4, k5, k6, k7, k8].drop 3).take (Tryz.prog.cellsOf 158)) = some y3 := hf 3 _ rfl
  rw [c72, show ([k0, k1, k2, k3, k4, k5, k6, k7, k8].drop 3).take 2 = [k3, k4] from rfl] at h3
  have h4 : DataW.trod enc Tryz.prog w base sp held m 159 (([k0, k1, k2, k3, k4, k5, k6, k7, k8].drop 5).take (Tryz.prog.cellsOf 159)) = some y4 := hf 4 _ rfl
  rw [c73, show ([k0, k1, k2, k3, k4, k5, k6, k7, k8].drop 5).take 3 = [k5, k6, k7] from rfl] at h4
  have h5 : DataW.trod enc Tryz.prog w base sp held m 5 (([k0, k1, k2, k3, k4, k5, k6, k7, k8].drop 8).take (Tryz.prog.cellsOf 5)) = some y5 := hf 5 _ rfl
  rw [c5, show ([k0, k1, k2, k3, k4, k5, k6, k7, k8].drop 8).take 1 = [k8] from rfl] at h5
  obtain ⟨z0, e0, r0, _⟩ := DataW.trod_int Tryz.underlying157 h0
  obtain ⟨z1, e1, r1⟩ := DataW.trod_bool Tryz.underlying4 h1
  obtain ⟨z2, e2, r2, _⟩ := DataW.trod_int Tryz.underlying2 h2
  obtain ⟨z8, e8, r8, _⟩ := DataW.trod_int Tryz.underlying5 h5
  simp only [List.map_cons, List.map_nil, Prod.mk.injEq, DataW.agg.injEq, List.cons.injEq, and_true] at hx
  obtain ⟨⟨hx0, hx1, hx2, hx3, hx4, hx5⟩, _⟩ := hx
  have g3 : [k3, k4] = [a3, a4].map fun z => Value.int .i64 z := Lib.cells_of_tab (p := y3.2) Tryz.underlying158 Tryz.underlying29 c29 c72 (by rw [h3, show Lib.tabData .i64 [a3, a4] = y3.1 from hx3])
  have g4 : [k5, k6, k7] = [a5, a6, a7].map fun z => Value.int .u8 z := Lib.cells_of_tab (p := y4.2) Tryz.underlying159 Tryz.underlying157 c71 c73 (by rw [h4, show Lib.tabData .u8 [a5, a6, a7] = y4.1 from hx4])
  simp only [List.map_cons, List.map_nil, List.cons.injEq, and_true] at g3 g4 e0 e1 e2 e8
  obtain ⟨rfl, rfl⟩ := g3
  obtain ⟨rfl, rfl, rfl⟩ := g4
  subst e0 e1 e2 e8 r0 r1 r2 r8
  simp only [DataW.lit.injEq, Lit.int.injEq, Lit.bool.injEq, true_and] at hx0 hx1 hx2 hx5
  subst hx0 hx1 hx2 hx5
  rfl
end
def stepData {H : Type} : DataW H := .agg ((List.range 16).map fun k => .agg [.lit (.bool (decide (2 ≤ k) && decide (k ≤ 8))), .lit (.int .i64 (opT.getD k 0))])
def ruleData {H : Type} : DataW H := .agg ((List.range 16).map fun k => .agg [.lit (.int .u8 (rSort k)), .lit (.bool (rNamed k)), .lit (.int .i64 (rMost k)), .agg [.lit (.int .i64 (rOp0 k)), .lit (.int .i64 (rOp1 k))], .agg [.lit (.int .u8 (rH0 k)), .lit (.int .u8 (rH1 k)), .lit (.int .u8 (rH2 k))], .lit (.int .u8 (rWant k))])
theorem stepData_eq : Rows.laid_winnow_cfg_steps (H := Unit) = stepData := rfl
theorem ruleData_eq : Rows.laid_winnow_parse_rules (H := Unit) = ruleData := rfl
theorem chunk_of {P : Program} {W : World} {name : String} {ds : List (DataW Unit)} {rest : List (String × DataW Unit)} {g : Nat} {t e : TypeId} {n c : Nat}
  (hg : P.globalNamed name = some g) (hty : (P.globals[g]?).map (·.type) = some t) (ht : P.underlying t = some (.array n e)) (hce : P.cellsOf e = c)
  (h : laidMet P ((name, .agg ds) :: rest) W) : ∃ (cs : Array Value) (enc : TypeId × Value → Unit) (base : Nat) (sp : Nat → Bool) (held : Bool) (m : Nat), W.var? P name = some cs ∧ ds.length = n ∧
   ∀ i d, ds[i]? = some d → ∃ p, DataW.trod enc P W base sp held m e ((cs.toList.drop (i * c)).take c) = some (d, p) := by
 obtain ⟨ps, ⟨g', t', cs, fuel, p, q, hg', ht', hvar, hd, _, _⟩, _⟩ := h
 obtain rfl := Option.some.inj (hg.symm.trans hg')
 obtain rfl := Option.some.inj (hty.symm.trans ht')
 obtain ⟨xs, m, _, hx, _, hlen, hel⟩ := DataW.trod_array ht hd
 have hds : ds = xs.map (·.1) := by
  have := congrArg Prod.fst hx
  simpa using this
 refine ⟨cs, fun _ => (), 0, fun _ => true, false, m, hvar, by rw [hds]; simpa using hlen, ?_⟩
 intro i d hi
 have hi' : i < xs.length := by
  have := (List.getElem?_eq_some_iff.1 hi).1
  rw [hds] at this
  simpa using this
 have h9 := hel i (by omega)
 rw [hce] at h9
 refine ⟨xs[i].2, ?_⟩
 rw [h9, List.getElem?_eq_getElem hi']
 rw [hds, List.getElem?_map, List.getElem?_eq_getElem hi'] at hi
 have : xs[i].1 = d := by simpa using hi
 rw [← this]
theorem chunk_at {cs : List Value} {i c j : Nat} {l : List Value} {v : Value} (h : (cs.drop (i * c)).take c = l) (hj : l[j]? = some v) : cs[i * c + j]? = some v := by
 rw [← h, List.getElem?_take] at hj
 split at hj
 ·rw [List.getElem?_drop] at hj; exact hj
 ·cases hj
theorem cell_lt {W : World} {b o : Nat} {v : Value} (h : W.cell? ⟨b, o, none⟩ = some v) : b < W.heap.size := by
 rcases Nat.lt_or_ge b W.heap.size with hh | hh
 ·exact hh
 ·simp [World.cell?, Array.getElem?_eq_none hh] at h
theorem steps_of_laid {W : World} {rest : List (String × DataW Unit)} (h : laidMet Tryz.prog (("winnow/cfg.steps", Rows.laid_winnow_cfg_steps) :: rest) W) : StepsIs W := by
 rw [stepData_eq] at h
 have hg : Tryz.prog.globalNamed "winnow/cfg.steps" = some 0 := by kernel_rfl
 obtain ⟨cs, enc, base, sp, held, m, hvar, _, hel⟩ := chunk_of (g := 0) (t := 76) hg (by kernel_rfl) Tryz.underlying76 cellsB.1 h
 have key : ∀ k, k < 16 → (cs.toList.drop (k * 2)).take 2 = [.bool (decide (2 ≤ k) && decide (k ≤ 8)), .int .i64 (opT.getD k 0)] := by
  intro k hk
  obtain ⟨p, hp⟩ := hel k _ (by rw [List.getElem?_map, List.getElem?_range hk]; rfl)
  exact step_of hp
 have cell : ∀ (j : Nat) (v : Value), cs.toList[j]? = some v → W.cell? ⟨0, j, none⟩ = some v := by
  intro j v hv
  rw [World.var?_cell hg hvar j, ← Array.getElem?_toList]
  exact hv
 exact ⟨cell_lt (cell _ _ (chunk_at (j := 0) (key 0 (by decide)) rfl)), fun k hk => cell _ _ (chunk_at (j := 0) (key k hk) rfl), fun k hk => cell _ _ (chunk_at (j := 1) (key k hk) rfl)⟩
theorem rules_of_laid {W : World} {rest : List (String × DataW Unit)} (h : laidMet Tryz.prog (("winnow/parse.rules", Rows.laid_winnow_parse_rules) :: rest) W) : RulesIs W := by
 rw [ruleData_eq] at h
 have hg : Tryz.prog.globalNamed "winnow/parse.rules" = some 2 := by kernel_rfl
 obtain ⟨cs, enc, base, sp, held, m, hvar, _, hel⟩ := chunk_of (g := 2) (t := 162) hg (by kernel_rfl) Tryz.underlying162 cellsA.2.2.2.2.2.2.1 h
 have key : ∀ k, k < 16 → (cs.toList.drop (k * 9)).take 9 = [.int .u8 (rSort k), .bool (rNamed k), .int .i64 (rMost k), .int .i64 (rOp0 k), .int .i64 (rOp1 k), .int .u8 (rH0 k), .int .u8 (rH1 k), .int .u8 (rH2 k), .int .u8 (rWant k)] := by
  intro k hk
  obtain ⟨p, hp⟩ := hel k _ (by rw [List.getElem?_map, List.getElem?_range hk]; rfl)
  exact rule_of hp
 have cell : ∀ (j : Nat) (v : Value), cs.toList[j]? = some v → W.cell? ⟨2, j, none⟩ = some v := by
  intro j v hv
  rw [World.var?_cell hg hvar j, ← Array.getElem?_toList]
  exact hv
 exact ⟨cell_lt (cell _ _ (chunk_at (j := 0) (key 0 (by decide)) rfl)), fun k hk => cell _ _ (chunk_at (j := 0) (key k hk) rfl), fun k hk => cell _ _ (chunk_at (j := 1) (key k hk) rfl), fun k hk => cell _ _ (chunk_at (j := 2) (key k hk) rfl), fun k hk => cell _ _ (chunk_at (j := 3) (key k hk) rfl),
  fun k hk => cell _ _ (chunk_at (j := 4) (key k hk) rfl), fun k hk => cell _ _ (chunk_at (j := 5) (key k hk) rfl), fun k hk => cell _ _ (chunk_at (j := 6) (key k hk) rfl), fun k hk => cell _ _ (chunk_at (j := 7) (key k hk) rfl), fun k hk => cell _ _ (chunk_at (j := 8) (key k hk) rfl)⟩
theorem vars_of_laid {W : World} (h : laidMetH Tryz.prog Rows.cfgLowersRow.laid W) : RulesIs W ∧ StepsIs W := by
 rw [MakeChecks.laidMetH_plain _ _ _ (by kernel_rfl)] at h
 have h1 : laidMet Tryz.prog [("winnow/parse.rules", Rows.laid_winnow_parse_rules), ("winnow/cfg.steps", Rows.laid_winnow_cfg_steps)] W := laidMet.tail h
 exact ⟨rules_of_laid h1, steps_of_laid (laidMet.tail h1)⟩
end
section
open Go.RowKit Go.Deep Go.WideShapes Go.ChangeShapes
theorem in_list {P : Program} {H : Type} {enc : TypeId × Value → H} {w : World} {α : Type} {G : α → Prop} (V : α → List Value) (a0 : α) {t e sz bts : Nat} (ht : P.underlying t = some (.slice e)) (hc : P.cellsOf e = sz) (hby : P.bytesOf e = bts) (hs : 0 < sz) (hV : ∀ a, (V a).length = sz)
  (el : ∀ (m : Nat) (cs : List Value) (x : DataW H × List MemPlace), DataW.trod enc P w 0 (fun _ => true) true m e cs = some x → ∃ a, cs = V a ∧ G a)
  {fuel : Nat} {c : Value} {x : DataW H × List MemPlace} (h : DataW.trod enc P w 0 (fun _ => true) true fuel t [c] = some x) (hk : (DataW.weights P t x.1).all (· ≤ reachBytes) = true) :
  ∃ (l : List α) (ao : Option Addr) (cap : Nat), c = .slice ao l.length cap ∧ l.length ≤ cap ∧ cap ≤ maxLen ∧ l.length * bts ≤ 140737488351232 ∧ (∀ a ∈ l, G a) ∧ (l = [] ∨ ∃ b o, ao = some ⟨b, o, none⟩ ∧ b < w.heap.size ∧ ∀ i (hi : i < l.length) j v, (V l[i])[j]? = some v → w.cell? ⟨b, o + i * sz + j, none⟩ = some v) := by
 rcases open_slice ht h with ⟨h0, _⟩ | ⟨a, len, cap, m, n, D, Pl, hcs, _, hl, hm, hme, hx, hel⟩
 ·exact ⟨[], none, 0, by simpa using h0, Nat.le_refl _, Nat.zero_le _, by simp, by simp, .inl rfl⟩
 simp only [if_true] at hme
 subst hme
 rw [hc] at hel
 have hb9 : len * bts ≤ 140737488351232 := by
  rw [hx] at hk
  simp only [DataW.weights, ht, hby, List.all_cons, Bool.and_eq_true, List.length_map, List.length_range] at hk
  have h1 := of_decide_eq_true hk.1
  have h2 : len * bts ≤ (len + (m - len)) * bts := Nat.mul_le_mul_right _ (Nat.le_add_right _ _)
  exact Nat.le_trans h2 h1
 have hex : ∀ i, ∃ y : α, i < len → w.cells? 0 (a.add (i * sz)) sz = some (V y) ∧ G y := by
  intro i
  by_cases hi : i < len
  ·obtain ⟨cs', h1, h2⟩ := hel i (by omega)
   obtain ⟨y, rfl, h4⟩ := el _ _ _ h2
   exact ⟨y, fun _ => ⟨h1, h4⟩⟩
  ·exact ⟨a0, fun hh => absurd hh hi⟩
 obtain ⟨f, hf⟩ := Classical.axiomOfChoice hex
 have hc' : c = .slice (some a) len m := by simpa using hcs
 refine ⟨(List.range len).map f, some a, m, by simpa using hc', by simpa using hl, hm, by simpa using hb9, ?_, ?_⟩
 ·intro y hy
  obtain ⟨i, hi, rfl⟩ := List.mem_map.1 hy
  exact (hf i (List.mem_range.1 hi)).2
 ·rcases Nat.eq_zero_or_pos len with e0 | hpos
  ·left; subst e0; rfl
  right
  have hcell : ∀ i, i < len → ∀ j, j < sz → w.cell? ((a.add (i * sz)).add j) = (V (f i))[j]? := fun i hi j hj => (World.cells?_some (hf i hi).1).2.2 j hj
  obtain ⟨b, o, y⟩ := a
  have h00 := hcell 0 hpos 0 hs
  obtain ⟨v0, hv0⟩ : ∃ v0, (V (f 0))[0]? = some v0 := ⟨_, List.getElem?_eq_getElem (by rw [hV]; exact hs)⟩
  rw [hv0] at h00
  have hy : y = none := by simpa [Addr.add] using World.cell?_spot h00
  subst hy
  have key : ∀ i, i < len → ∀ j, j < sz → w.cell? ⟨b, o + i * sz + j, none⟩ = (V (f i))[j]? := fun i hi j hj => by
   have h9 := hcell i hi j hj
   rw [Go.WideShapes.add_plain, Go.WideShapes.add_plain] at h9
   exact h9
  refine ⟨b, o, rfl, ?_, ?_⟩
  ·rcases Nat.lt_or_ge b w.heap.size with hh | hh
   ·exact hh
   ·have h9 := key 0 hpos 0 hs
    rw [hv0] at h9
    simp [World.cell?, Array.getElem?_eq_none hh] at h9
  ·intro i hi j v hv
   have hi' : i < len := by simpa using hi
   have e : ((List.range len).map f)[i] = f i := by simp
   rw [e] at hv
   have hj : j < sz := by have := (List.getElem?_eq_some_iff.1 hv).1; rw [hV] at this; exact this
   rw [key i hi' j hj]; exact hv
theorem ucells : Tryz.prog.cellsOf 3 = 1 ∧ Tryz.prog.cellsOf 28 = 1 ∧ Tryz.prog.cellsOf 9 = 1 ∧ Tryz.prog.cellsOf 2 = 1 ∧ Tryz.prog.cellsOf 29 = 1 ∧ Tryz.prog.cellsOf 31 = 6 ∧ Tryz.prog.cellsOf 56 = 2 ∧ Tryz.prog.cellsOf 27 = 6 ∧ Tryz.prog.cellsOf 22 = 1 ∧ Tryz.prog.cellsOf 23 = 1 ∧ Tryz.prog.cellsOf 24 = 1 ∧ Tryz.prog.cellsOf 25 = 1 := by
 refine ⟨?_, ?_, ?_, ?_, ?_, ?_, ?_, ?_, ?_, ?_, ?_, ?_⟩ <;> kernel_rfl
theorem ubytes : Tryz.prog.bytesOf 31 = 56 ∧ Tryz.prog.bytesOf 9 = 16 ∧ Tryz.prog.bytesOf 56 = 24 ∧ Tryz.prog.bytesOf 3 = 8 := by
 refine ⟨?_, ?_, ?_, ?_⟩ <;> kernel_rfl
section
variable {H : Type} {enc : TypeId × Value → H} {w : World}
theorem uwf64 {v : Int} (h : (Lit.int .i64 v).wf = true) : -9223372036854775808 ≤ v ∧ v ≤ 9223372036854775807 := by
 simp only [Lit.wf, IntKind.min, IntKind.max, Bool.and_eq_true, decide_eq_true_eq] at h
 exact ⟨by simpa [IntKind.signed, IntKind.bits] using h.1, by simpa [IntKind.signed, IntKind.bits] using h.2⟩
set_option maxRecDepth 100000 in
theorem open_node {base fuel : Nat} {spare : Nat → Bool} {held : Bool} {cs : List Value} {x : DataW H × List MemPlace} (h : DataW.trod enc Tryz.prog w base spare held fuel 31 cs = some x) :
  ∃ n : Nd, cs = ndV n ∧ n.Ok := by
 obtain ⟨xs, m, _, rfl, hl, hlen, hf⟩ := DataW.trod_struct Tryz.underlying31 h
 obtain ⟨u3, uk, u9, u6, uo, un, _⟩ := ucells
 rw [un] at hl
 match xs, hlen, cs, hl with
 | [y0, y1, y2, y3, y4, y5], _, [c0, c1, c2, c3, c4, c5], _ =>
  have h0 : DataW.trod enc Tryz.prog w base spare held m 3 (([c0, c1, c2, c3, c4, c5].drop 0).take (Tryz.prog.cellsOf 3)) = some y0 := hf 0 _ rfl
  rw [u3, show ([c0, c1, c2, c3, c4, c5].drop 0).take 1 = [c0] from rfl] at h0
  have h1 : DataW.trod enc Tryz.prog w base spare held m 28 (([c0, c1, c2, c3, c4, c5].drop 1).take (Tryz.prog.cellsOf 28)) = some y1 := hf 1 _ rfl
  rw [uk, show ([c0, c1, c2, c3, c4, c5].drop 1).take 1 = [c1] from rfl] at h1
  have h2 : DataW.trod enc Tryz.prog w base spare held m 9 (([c0, c1, c2, c3, c4, c5].drop 2).take (Tryz.prog.cellsOf 9)) = some y2 := hf 2 _ rfl
  rw [u9, show ([c0, c1, c2, c3, c4, c5].drop 2).take 1 = [c2] from rfl] at h2
  have h3 : DataW.trod enc Tryz.prog w base spare held m 2 (([c0, c1, c2, c3, c4, c5].drop 3).take (Tryz.prog.cellsOf 2)) = some y3 := hf 3 _ rfl
  rw [u6, show ([c0, c1, c2, c3, c4, c5].drop 3).take 1 = [c3] from rfl] at h3
  have h4 : DataW.trod enc Tryz.prog w base spare held m 29 (([c0, c1, c2, c3, c4, c5].drop 4).take (Tryz.prog.cellsOf 29)) = some y4 := hf 4 _ rfl
  rw [uo, show ([c0, c1, c2, c3, c4, c5].drop 4).take 1 = [c4] from rfl] at h4
  have h5 : DataW.trod enc Tryz.prog w base spare held m 3 (([c0, c1, c2, c3, c4, c5].drop 5).take (Tryz.prog.cellsOf 3)) = some y5 := hf 5 _ rfl
  rw [u3, show ([c0, c1, c2, c3, c4, c5].drop 5).take 1 = [c5] from rfl] at h5
  obtain ⟨d, e0, r0, w0⟩ := DataW.trod_int Tryz.underlying3 h0
  obtain ⟨k, e1, r1, w1⟩ := DataW.trod_int Tryz.underlying28 h1
  obtain ⟨s, e2, r2, w2⟩ := DataW.trod_string Tryz.underlying9 h2
  obtain ⟨u, e3, r3, w3⟩ := DataW.trod_int Tryz.underlying2 h3
  obtain ⟨p, e4, r4, w4⟩ := DataW.trod_int Tryz.underlying29 h4
  obtain ⟨a, e5, r5, w5⟩ := DataW.trod_int Tryz.underlying3 h5
  simp only [List.cons.injEq, and_true] at e0 e1 e2 e3 e4 e5
  subst e0 e1 e2 e3 e4 e5
  exact ⟨⟨d, k, s, u, p, a⟩, rfl, ⟨w2, (uwf64 w0).1, (uwf64 w0).2, (uwf64 w3).2⟩⟩
set_option maxRecDepth 100000 in
theorem open_arr {base fuel : Nat} {spare : Nat → Bool} {held : Bool} {cs : List Value} {x : DataW H × List MemPlace} (h : DataW.trod enc Tryz.prog w base spare held fuel 56 cs = some x) :
  ∃ n : ByteArray × Int, cs = [.string n.1, .int .i64 n.2] ∧ True := by
 obtain ⟨xs, m, _, rfl, hl, hlen, hf⟩ := DataW.trod_struct Tryz.underlying56 h
 obtain ⟨u3, uk, u9, u6, uo, un, ua, _⟩ := ucells
 rw [ua] at hl
 match xs, hlen, cs, hl with
 | [y0, y1], _, [c0, c1], _ =>
  have h0 : DataW.trod enc Tryz.prog w base spare held m 9 (([c0, c1].drop 0).take (Tryz.prog.cellsOf 9)) = some y0 := hf 0 _ rfl
  rw [u9, show ([c0, c1].drop 0).take 1 = [c0] from rfl] at h0
  have h1 : DataW.trod enc Tryz.prog w base spare held m 3 (([c0, c1].drop 1).take (Tryz.prog.cellsOf 3)) = some y1 := hf 1 _ rfl
  rw [u3, show ([c0, c1].drop 1).take 1 = [c1] from rfl] at h1
  obtain ⟨s, e0, r0, w0⟩ := DataW.trod_string Tryz.underlying9 h0
  obtain ⟨k, e1, r1, w1⟩ := DataW.trod_int Tryz.underlying3 h1
  simp only [List.cons.injEq, and_true] at e0 e1
  subst e0 e1
  exact ⟨(s, k), rfl, trivial⟩
theorem in_nds {fuel : Nat} {c : Value} {x : DataW H × List MemPlace} (h : DataW.trod enc Tryz.prog w 0 (fun _ => true) true fuel 22 [c] = some x) (hk : (DataW.weights Tryz.prog 22 x.1).all (· ≤ reachBytes) = true) :
  ∃ l : List Nd, SNds w c l ∧ l.length * 56 ≤ 140737488351232 := by
 obtain ⟨l, ao, cap, e, h1, h2, h3, h4, h5⟩ := in_list (G := fun n : Nd => n.Ok) ndV ⟨0, 0, ⟨#[]⟩, 0, 0, 0⟩ Tryz.underlying22 ucells.2.2.2.2.2.1 ubytes.1 (by decide) (fun _ => rfl) (fun _ _ _ h => open_node h) h hk
 refine ⟨l, ⟨h4, ao, cap, e, h1, h2, h5.imp id fun ⟨b, o, e1, e2, e3⟩ => ⟨b, o, e1, e2, ?_, ?_, ?_, ?_, ?_, ?_⟩⟩, h3⟩
 ·exact fun i hi => e3 i hi 0 _ rfl
 ·exact fun i hi => e3 i hi 1 _ rfl
 ·exact fun i hi => e3 i hi 2 _ rfl
 ·exact fun i hi => e3 i hi 3 _ rfl
 ·exact fun i hi => e3 i hi 4 _ rfl
 ·exact fun i hi => e3 i hi 5 _ rfl
theorem in_strs {fuel : Nat} {c : Value} {x : DataW H × List MemPlace} (h : DataW.trod enc Tryz.prog w 0 (fun _ => true) true fuel 23 [c] = some x) (hk : (DataW.weights Tryz.prog 23 x.1).all (· ≤ reachBytes) = true) :
  ∃ l : List ByteArray, SStr w c l ∧ l.length * 16 ≤ 140737488351232 := by
 obtain ⟨l, ao, cap, e, h1, h2, h3, h4, h5⟩ := in_list (G := fun _ : ByteArray => True) (fun s => [Value.string s]) ⟨#[]⟩ Tryz.underlying23 ucells.2.2.1 ubytes.2.1 (by decide) (fun _ => rfl) (fun _ _ _ h => by
  obtain ⟨s, e0, _⟩ := DataW.trod_string Tryz.underlying9 h
  exact ⟨s, e0, trivial⟩) h hk
 refine ⟨l, ⟨by omega, ao, cap, e, h5.imp id fun ⟨b, o, e1, e2, e3⟩ => ⟨b, o, e1, e2, fun i hi => ?_⟩⟩, h3⟩
 have := e3 i hi 0 _ rfl
 rw [Nat.mul_one, Nat.add_zero] at this
 exact this
theorem in_ints {fuel : Nat} {c : Value} {x : DataW H × List MemPlace} (h : DataW.trod enc Tryz.prog w 0 (fun _ => true) true fuel 25 [c] = some x) (hk : (DataW.weights Tryz.prog 25 x.1).all (· ≤ reachBytes) = true) :
  ∃ l : List Int, SInt w c l ∧ l.length * 8 ≤ 140737488351232 := by
 obtain ⟨l, ao, cap, e, h1, h2, h3, h4, h5⟩ := in_list (G := fun _ : Int => True) (fun s => [Value.int .i64 s]) 0 Tryz.underlying25 ucells.1 ubytes.2.2.2 (by decide) (fun _ => rfl) (fun _ _ _ h => by
  obtain ⟨s, e0, _⟩ := DataW.trod_int Tryz.underlying3 h
  exact ⟨s, e0, trivial⟩) h hk
 refine ⟨l, ⟨by omega, ao, cap, e, h5.imp id fun ⟨b, o, e1, e2, e3⟩ => ⟨b, o, e1, e2, fun i hi => ?_⟩⟩, h3⟩
 have := e3 i hi 0 _ rfl
 rw [Nat.mul_one, Nat.add_zero] at this
 exact this
theorem in_ars {fuel : Nat} {c : Value} {x : DataW H × List MemPlace} (h : DataW.trod enc Tryz.prog w 0 (fun _ => true) true fuel 24 [c] = some x) (hk : (DataW.weights Tryz.prog 24 x.1).all (· ≤ reachBytes) = true) :
  ∃ l : List (ByteArray × Int), SArr w c l ∧ l.length * 24 ≤ 140737488351232 := by
 obtain ⟨l, ao, cap, e, h1, h2, h3, h4, h5⟩ := in_list (G := fun _ : ByteArray × Int => True) (fun s => [Value.string s.1, Value.int .i64 s.2]) (⟨#[]⟩, 0) Tryz.underlying24 ucells.2.2.2.2.2.2.1 ubytes.2.2.1 (by decide) (fun _ => rfl) (fun _ _ _ h => open_arr h) h hk
 refine ⟨l, ⟨by omega, ao, cap, e, h5.imp id fun ⟨b, o, e1, e2, e3⟩ => ⟨b, o, e1, e2, fun i hi => ?_, fun i hi => ?_⟩⟩, h3⟩
 ·exact e3 i hi 0 _ rfl
 ·exact e3 i hi 1 _ rfl
set_option maxRecDepth 100000 in
theorem open_prog {r : Reach} {b0 : Nat} {v : Value} {d : DataW H} {ps : List MemPlace} (hval : Value.okWide Tryz.prog w r b0 27 v) (hd : DataW.Trod enc Tryz.prog w 0 (fun _ => true) true 27 v d ps) (hk : (DataW.weights Tryz.prog 27 d).all (· ≤ reachBytes) = true) :
  ∃ (v0 v1 v2 v3 v4 v5 : Value) (ns : List Nd) (l : Ls), v = .agg #[v0, v1, v2, v3, v4, v5] ∧ ProgIs w v0 v1 v2 v3 v4 v5 ns l ∧ ns.length * 56 ≤ 140737488351232 ∧ l.sc.length * 16 ≤ 140737488351232 ∧ l.ar.length * 24 ≤ 140737488351232 ∧ l.sy.length * 8 ≤ 140737488351232 ∧ l.si.length * 8 ≤ 140737488351232 ∧ l.so.length * 8 ≤ 140737488351232 := by
 obtain ⟨cs, rfl, hcs⟩ := okWide_struct Tryz.underlying27 hval
 obtain ⟨fuel, hf⟩ := hd
 obtain ⟨xs, m, _, hxx, hl, hlen, hg⟩ := DataW.trod_struct Tryz.underlying27 hf
 obtain ⟨_, _, _, _, _, _, _, up, un, us, ua, ui⟩ := ucells
 have hl2 : cs.toList.length = 6 := by rw [up] at hcs; simpa using hcs
 have hcc : (Value.agg cs).cells.toList = cs.toList := by simp [Value.cells]
 obtain ⟨L, hL⟩ : ∃ L, L = cs.toList := ⟨_, rfl⟩
 have hca : cs = L.toArray := by rw [hL]
 rw [← hL] at hl2 hcc
 match xs, hlen, L, hl2 with
 | [y0, y1, y2, y3, y4, y5], _, [c0, c1, c2, c3, c4, c5], _ =>
  have h0 : DataW.trod enc Tryz.prog w 0 (fun _ => true) true m 22 (((Value.agg cs).cells.toList.drop 0).take (Tryz.prog.cellsOf 22)) = some y0 := hg 0 _ rfl
  have h1 : DataW.trod enc Tryz.prog w 0 (fun _ => true) true m 23 (((Value.agg cs).cells.toList.drop 1).take (Tryz.prog.cellsOf 23)) = some y1 := hg 1 _ rfl
  have h2 : DataW.trod enc Tryz.prog w 0 (fun _ => true) true m 24 (((Value.agg cs).cells.toList.drop 2).take (Tryz.prog.cellsOf 24)) = some y2 := hg 2 _ rfl
  have h3 : DataW.trod enc Tryz.prog w 0 (fun _ => true) true m 25 (((Value.agg cs).cells.toList.drop 3).take (Tryz.prog.cellsOf 25)) = some y3 := hg 3 _ rfl
  have h4 : DataW.trod enc Tryz.prog w 0 (fun _ => true) true m 25 (((Value.agg cs).cells.toList.drop 4).take (Tryz.prog.cellsOf 25)) = some y4 := hg 4 _ rfl
  have h5 : DataW.trod enc Tryz.prog w 0 (fun _ => true) true m 25 (((Value.agg cs).cells.toList.drop 5).take (Tryz.prog.cellsOf 25)) = some y5 := hg 5 _ rfl
  rw [hcc, un] at h0
  rw [hcc, us] at h1
  rw [hcc, ua] at h2
  rw [hcc, ui] at h3 h4 h5
  have hd : d = .agg [y0.1, y1.1, y2.1, y3.1, y4.1, y5.1] := by injection hxx
  rw [hd] at hk
  simp only [DataW.weights, Tryz.underlying27, List.map_cons, List.map_nil] at hk
  simp only [DataW.weightsEach, List.all_append, Bool.and_eq_true] at hk
  obtain ⟨k0, k1, k2, k3, k4, k5, _⟩ := hk
  obtain ⟨l0, s0, b0⟩ := in_nds (c := c0) h0 k0
  obtain ⟨l1, s1, b1⟩ := in_strs (c := c1) h1 k1
  obtain ⟨l2, s2, b2⟩ := in_ars (c := c2) h2 k2
  obtain ⟨l3, s3, b3⟩ := in_ints (c := c3) h3 k3
  obtain ⟨l4, s4, b4⟩ := in_ints (c := c4) h4 k4
  obtain ⟨l5, s5, b5⟩ := in_ints (c := c5) h5 k5
  exact ⟨c0, c1, c2, c3, c4, c5, l0, ⟨l1, l2, l3, l4, l5⟩, by rw [hca], ⟨s0, ⟨s1, s2, s3, s4, s5⟩⟩, b0, b1, b2, b3, b4, b5⟩
end
end
section
theorem uroot : True := trivial
end
end Go.Proofs.YtklkpaekdpaloaaGreatDoor
