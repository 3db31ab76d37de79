import Derived.Test.YtjngjanheoeojaaDoorLaid
import Derived.Test.YtjngjanheoeojaaDoorPlines
import Derived.Test.YtjngjanheoeojaaDoorOpen
import Derived.Deep.DeepHandedRow
import Derived.Deep.DeepWitnessRowRef
/- The row of PrintLines, both forms, and their cards. -/
namespace Go.Proofs.YtjngjanheoeojaaDoor
set_option linter.unusedVariables false
set_option linter.unusedSimpArgs false
open Go.ChangeShapes Go.WideShapes Go.ChangeAt Go.RowKit Go.Deep
theorem bytes31 : Tryd.prog.bytesOf 31 = 56 := by kernel_rfl
theorem weight_nodes {H : Type} {a b : List (DataW H)} {ts : List TypeId} {r : List (DataW H)} (h : (DataW.weightsEach Tryd.prog (22 :: ts) (.slice a b :: r)).all (· ≤ reachBytes) = true) : (a.length + b.length) * 56 ≤ reachBytes := by
  simp only [DataW.weightsEach, DataW.weights, Tryd.underlying22, bytes31, List.cons_append, List.all_cons, Bool.and_eq_true, decide_eq_true_eq] at h
  exact h.1
theorem NodesAt.take {w : World} {b o : Nat} {ns : List Nd} (h : NodesAt w b o ns) (k : Nat) : NodesAt w b o (ns.take k) := by
  obtain ⟨h0, h1, h2, h3, h4, h5, h6⟩ := h
  refine ⟨h0, ?_, ?_, ?_, ?_, ?_, ?_⟩ <;> intro i hi <;> (have hi' : i < ns.length := by rw [List.length_take] at hi; omega) <;> rw [List.getElem_take] <;> first | exact h1 i hi' | exact h2 i hi' | exact h3 i hi' | exact h4 i hi' | exact h5 i hi' | exact h6 i hi'
theorem NodesAt.cells {w : World} {b o : Nat} {ns : List Nd} (h : NodesAt w b o ns) : ∀ (j : Nat) (u : Value), (flatN ns)[j]? = some u → w.cell? (Addr.add ⟨b, o, .none⟩ j) = some u := by
  intro j u hj
  have hlt : j < ns.length * 6 := by have := (List.getElem?_eq_some_iff.1 hj).1; rw [flatN_len] at this; exact this
  obtain ⟨h0, h1, h2, h3, h4, h5, h6⟩ := h
  have hi : j / 6 < ns.length := by omega
  obtain ⟨k0, k1, k2, k3, k4, k5⟩ := flatN_get ns (j / 6) hi
  rw [add_plain]
  rcases (by omega : j % 6 = 0 ∨ j % 6 = 1 ∨ j % 6 = 2 ∨ j % 6 = 3 ∨ j % 6 = 4 ∨ j % 6 = 5) with e | e | e | e | e | e
  · have ej : j = j / 6 * 6 := by omega
    rw [ej] at hj; rw [k0] at hj; rw [ej, ← Option.some.inj hj]; exact h1 _ hi
  · have ej : j = j / 6 * 6 + 1 := by omega
    rw [ej] at hj; rw [k1] at hj; rw [ej, ← Option.some.inj hj, ← Nat.add_assoc]; exact h2 _ hi
  · have ej : j = j / 6 * 6 + 2 := by omega
    rw [ej] at hj; rw [k2] at hj; rw [ej, ← Option.some.inj hj, ← Nat.add_assoc]; exact h3 _ hi
  · have ej : j = j / 6 * 6 + 3 := by omega
    rw [ej] at hj; rw [k3] at hj; rw [ej, ← Option.some.inj hj, ← Nat.add_assoc]; exact h4 _ hi
  · have ej : j = j / 6 * 6 + 4 := by omega
    rw [ej] at hj; rw [k4] at hj; rw [ej, ← Option.some.inj hj, ← Nat.add_assoc]; exact h5 _ hi
  · have ej : j = j / 6 * 6 + 5 := by omega
    rw [ej] at hj; rw [k5] at hj; rw [ej, ← Option.some.inj hj, ← Nat.add_assoc]; exact h6 _ hi
theorem flatN_one (ns : List Nd) : ∀ u ∈ flatN ns, u.oneCell' = true := by
  induction ns with
  | nil => intro u hu; cases hu
  | cons n t ih =>
    intro u hu
    simp only [flatN, List.mem_cons] at hu
    rcases hu with rfl | rfl | rfl | rfl | rfl | rfl | hu
    all_goals first | rfl | exact ih u hu
/-- PrintLines of every list that comes in. -/
theorem printLines_any (a : Addr) (len cap : Nat) (ns : List Nd) (W : World) (hG : G0 W) (hl : len ≤ cap) (hlen : ns.length = cap) (hsm : len * 56 ≤ 140737488355328) (hwf : ∀ n ∈ ns, NdWf n) (hat : 0 < cap → ∃ b o, a = ⟨b, o, none⟩ ∧ NodesAt W b o ns) :
    Calls Tryd.prog 3 #[.slice (some a) len cap] W fun e w' => e = .returned (.bool true) ∧ Below W.heap.size W w' := by
  rcases Nat.eq_zero_or_pos len with rfl | hpos
  · exact lines_empty (some a) cap (fun h => by cases h) W hG
  obtain ⟨b, o, rfl, hN⟩ := hat (by omega)
  have hN' := hN.take len
  have hnl : (ns.take len).length = len := by rw [List.length_take]; omega
  obtain ⟨T, E, hTE, _, hT⟩ := text_lines (ns.take len) (fun n hn => (hwf n (List.mem_of_mem_take hn)).ok)
  refine lines_full ⟨b, o, none⟩ len cap hpos hsm (flatN (ns.take len)) (by rw [flatN_len, hnl]) W (fun w' hb => (hN'.below hb).cells) (flatN_one _) T E hTE ?_ (fixed_any W hG)
  intro w' g cap2 hb hown
  have h9 := hown.2
  rcases h9 with ⟨h0, _⟩ | ⟨g', cap', cur, hv, hbg, hheap, hc1, hc2, _, htake⟩
  · cases h0
  · have hv' := hv
    injection hv' with e1 e2 e3
    injection e1 with e1
    injection e1 with e1
    subst e1 e3
    have hN2 : NodesAt w' g 0 (ns.take len) := nodes_row hheap (by rw [hnl]; exact htake)
    have h8 := hT g 0 cap2 w' (hG.below hb) hN2 (by rw [hnl]; exact hc1) hc2
    rw [hnl] at h8
    exact h8
namespace printLines
set_option maxRecDepth 100000 in
theorem laidOut : laidOutB Tryd.prog = true := by kernel_rfl
set_option maxRecDepth 100000 in
theorem contract (H : Type) (enc : TypeId × Value → H) (W : World) (base : Nat) (args : Array Value) (ds gs : List (DataW H)) (before : List MemPlace)
    (hval : ∀ (j : Nat) t v, Tryd.f3.params[j]? = some t → args[j]? = some v → Value.okWide Tryd.prog W .any base t v)
    (hW : DataW.Whole enc Tryd.prog Tryd.f3.params.toList Rows.printLinesSpec.vars false W args.toList ds gs before) (hk : (DataW.weightsEach Tryd.prog (Tryd.f3.params.toList ++ (OpenSpec.ofChange Rows.printLinesSpec).bare.plain.varTypes Tryd.prog) (ds ++ gs)).all (· ≤ reachBytes) = true) (hL : laidMetH Tryd.prog Rows.printLinesRow.laid W) :
    Calls Tryd.prog 3 args W fun e W' => ∃ v, e = .returned v ∧ Rows.printLinesSpec.post enc Tryd.prog Tryd.f3 false true false false W args v W' := by
  have hW' := hW
  obtain ⟨p, q, hA0, hV, rfl, hfz, hnd⟩ := hW
  have hA : DataW.TrodAll enc Tryd.prog W 0 (fun _ => true) true Tryd.f3.params.toList args.toList ds p := hA0
  rw [Tryd.params3] at hA hval hk
  obtain ⟨v0, vs0, d0, ds0, p0, q0, hargs, rfl, rfl, h0, r0⟩ := trodAll_cons hA
  obtain ⟨rfl, rfl, rfl⟩ := trodAll_nil r0
  obtain rfl : args = #[v0] := by cases args; simp_all
  obtain ⟨rfl, rfl⟩ := trodVars_none hV
  obtain ⟨a0, len, cap, rfl⟩ := okWide_slice Tryd.underlying22 (hval 0 22 v0 rfl rfl)
  have h0k := h0
  obtain ⟨fuel, hf⟩ := h0
  clear hA0
  simp only [List.append_nil] at hW' hk
  have hlt : ∀ x ∈ p0, x.block < W.heap.size := fun x hx => by simpa using hW'.lt x hx
  have hG : G0 W := g0_of_laid hL
  have walk : Calls Tryd.prog 3 #[.slice a0 len cap] W fun e w' => e = .returned (.bool true) ∧ Below W.heap.size W w' := by
    rcases open_nodes (x := (d0, p0)) hf with ⟨hcs, hx⟩ | ⟨a, len', cap', ns, hcs, hl, hcm, hnl, hwf, hat, hx⟩
    · have hcs' : Value.slice a0 len cap = .slice none 0 0 := by simpa [Value.cells] using hcs
      rw [hcs']
      exact lines_empty none 0 (fun _ => rfl) W hG
    · have hcs' : Value.slice a0 len cap = .slice (some a) len' cap' := by simpa [Value.cells] using hcs
      rw [hcs']
      have hx' : d0 = .slice ((ns.take len').map ndData) ((ns.drop len').map ndData) := hx
      rw [hx'] at hk
      have hb := weight_nodes (ts := []) (r := []) hk
      simp only [List.length_map, List.length_take, List.length_drop, reachBytes] at hb
      exact printLines_any a len' cap' ns W hG hl hnl (by omega) hwf hat
  refine walk.mono fun e W' ⟨he, bel⟩ => ?_
  subst he
  refine ⟨_, rfl, _, _, _, [], p0 ++ [], [], hW', ?_, ?_, rfl, bel.frame _, fun h => by cases h⟩
  · exact trodAll_cons_mk (shut_bool Tryd.underlying4 _) trodAll_mk0
  · exact trodAll_cons_mk (Below.trod laidOut (by kernel_rfl) (of_decide_eq_true (by kernel_rfl)) h0k bel hlt) trodAll_mk0
set_option maxRecDepth 100000 in
theorem reads (os : Os) {H : Type} (enc : TypeId × Value → H) : ∃ places, DataW.whole enc Tryd.prog ((World.doorLaid Tryd.prog 4000 os).forCall (fun _ _ => 0) ⟨#[], #[.slice none 0 0], []⟩).memory Tryd.f3.params.toList Rows.printLinesSpec.vars false #[Value.slice none 0 0].toList 8 = some ([.nil], [], places) :=
  ⟨[], by kernel_rfl⟩
set_option maxRecDepth 100000 in
theorem lifted (os : Os) (started : os.Started) (H : Type) (enc : TypeId × Value → H) (F : Stop.Interp) :
    ReturnsInHanded {} Tryd.checked os 3 .any ((OpenSpec.ofChange Rows.printLinesSpec).preRow enc Tryd.prog Tryd.f3 Rows.printLinesRow.domain false Rows.printLinesRow.laid) (((OpenSpec.ofChange Rows.printLinesSpec).at F).post enc Tryd.prog Tryd.f3 false true false false) := by
  obtain ⟨places, hx⟩ := reads os enc
  refine returnsInHanded_of_row (C := Tryd.checked) (s := OpenSpec.ofChange Rows.printLinesSpec) own started (by kernel_rfl) Tryd.func3
    (witness_row_atRef (enc := enc) (C := Tryd.checked) false (World.doorLaid Tryd.prog 4000 os) #[.slice none 0 0] rfl (by kernel_rfl) (by kernel_rfl) (by kernel_rfl)
      (OpenSpec.preRow_of_cond 8 hx (by kernel_rfl) (fun k hk => by cases hk) (by kernel_rfl) (door_met os _))) ?_
  intro W base args ds gs before hval hW _ _ hk hL _ _
  exact contract H enc W base args ds gs before hval hW hk hL
set_option maxRecDepth 100000 in
theorem liftedUpto (os : Os) (started : os.Started) (H : Type) (enc : TypeId × Value → H) (F : Stop.Interp) :
    ReturnsInHanded {} Tryd.checked os 3 .any ((Rows.OpenSpec.upto Rows.printLinesSpec).preRow enc Tryd.prog Tryd.f3 Rows.printLinesUptoRow.domain false Rows.printLinesUptoRow.laid) (((Rows.OpenSpec.upto Rows.printLinesSpec).at F).post enc Tryd.prog Tryd.f3 false true false false) := by
  obtain ⟨places, hx⟩ := reads os enc
  refine returnsInHanded_of_row (C := Tryd.checked) (s := Rows.OpenSpec.upto Rows.printLinesSpec) own started (by kernel_rfl) Tryd.func3
    (witness_row_atRef (enc := enc) (C := Tryd.checked) false (World.doorLaid Tryd.prog 4000 os) #[.slice none 0 0] rfl (by kernel_rfl) (by kernel_rfl) (by kernel_rfl)
      (OpenSpec.preRow_of_cond 8 hx (by kernel_rfl) (fun k hk => by cases hk; kernel_rfl) (by kernel_rfl) (door_met os _))) ?_
  intro W base args ds gs before hval hW _ _ hk hL _ _
  exact contract H enc W base args ds gs before hval hW hk hL
set_option maxRecDepth 100000 in
theorem said : Rows.PrintLinesSaid :=
  OpenClaim.holds_of_cond 3 Tryd.f3 rfl rfl rfl rfl rfl rfl rfl ⟨rfl, rfl, rfl, rfl, rfl⟩ rfl rfl rfl rfl rfl (by kernel_rfl) Tryd.func3 (by kernel_rfl)
    (of_decide_eq_true (by kernel_rfl)) (by unfold Func.isWrapper; first | (rw [if_pos (by decide +kernel)]; kernel_rfl) | (rw [if_neg (by decide +kernel)]; exact ⟨rfl, rfl⟩))
    (fun os started H enc _ F => by rw [OpenClaim.pre_eq_preRow]; exact lifted os started H enc F)
set_option maxRecDepth 100000 in
theorem saidUpto : Rows.PrintLinesUptoSaid :=
  OpenClaim.holds_of_cond 3 Tryd.f3 rfl rfl rfl rfl rfl rfl rfl ⟨rfl, rfl, rfl, rfl, rfl⟩ rfl rfl rfl rfl rfl (by kernel_rfl) Tryd.func3 (by kernel_rfl)
    (of_decide_eq_true (by kernel_rfl)) (by unfold Func.isWrapper; first | (rw [if_pos (by decide +kernel)]; kernel_rfl) | (rw [if_neg (by decide +kernel)]; exact ⟨rfl, rfl⟩))
    (fun os started H enc _ F => by rw [OpenClaim.pre_eq_preRow]; exact liftedUpto os started H enc F)
set_option maxRecDepth 100000 in
theorem plain (f : FuncId) (fn : Func) (hf : Tryd.pinned.checked.prog.funcNamed "winnow/winnowlaw05.PrintLines" = some f) (hfn : Tryd.pinned.checked.prog.funcs[f]? = some fn) :
    false = Tryd.pinned.checked.prog.looks [] ∧ ∀ (j : Nat) t, fn.params[j]? = some t → Tryd.pinned.checked.prog.wantsStandIn t = false := by
  obtain rfl : f = 3 := Option.some.inj ((show Tryd.prog.funcNamed "winnow/winnowlaw05.PrintLines" = some 3 by kernel_rfl).symm.trans hf) |>.symm
  obtain rfl : fn = Tryd.f3 := (Option.some.inj (Tryd.func3.symm.trans hfn)).symm
  refine ⟨by kernel_rfl, fun j t ht => ?_⟩
  rw [Tryd.params3] at ht
  obtain rfl : t = 22 := by simpa using Array.mem_of_getElem? ht
  exact (show Tryd.prog.wantsStandIn 22 = false by kernel_rfl)
end printLines
set_option maxRecDepth 100000 in
/-- The tied card of PrintLines. -/
theorem printLines_card : Rows.PrintLinesCardSaid :=
  Claim7.holds_tied_plain_at .later [] _ _ _ _ printLines.said (fun _ h => by cases h) (by kernel_rfl) (fun _ h => by cases h) printLines_row_tie rfl ⟨rfl, rfl⟩ (by kernel_rfl) rfl printLines.plain (by kernel_rfl)
set_option maxRecDepth 100000 in
/-- The tied card of PrintLines, the second form. -/
theorem printLinesUpto_card : Rows.PrintLinesUptoCardSaid :=
  Claim7.holds_tied_plain_at .later [] _ _ _ _ printLines.saidUpto (fun _ h => by cases h) (by kernel_rfl) (fun _ h => by cases h) printLinesUpto_row_tie rfl ⟨rfl, rfl⟩ (by kernel_rfl) rfl printLines.plain (by kernel_rfl)
#print axioms printLines_card
#print axioms printLinesUpto_card
end Go.Proofs.YtjngjanheoeojaaDoor
