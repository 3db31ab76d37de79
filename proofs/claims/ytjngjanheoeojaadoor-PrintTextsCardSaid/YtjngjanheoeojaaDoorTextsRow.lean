import Derived.Test.YtjngjanheoeojaaDoorLaid
import Derived.Test.YtjngjanheoeojaaDoorPtx
import Derived.Test.YtjngjanheoeojaaDoorRlines
import Derived.Test.YtjngjanheoeojaaDoorRtx
import Derived.Deep.DeepHandedRow
import Derived.Deep.DeepWitnessRowRef
/- The row of PrintTexts, both forms, and their cards. -/
namespace Go.Proofs.YtjngjanheoeojaaDoor
open Go.ChangeShapes Go.WideShapes Go.ChangeAt Go.RowKit Go.Deep
set_option linter.unusedVariables false
set_option linter.unusedSimpArgs false
theorem both_any (ms : List Nd) (hok : ∀ n ∈ ms, n.Ok) : ∃ T E, Both ms T E := by
  by_cases hs : (shapeD ms).1 = 0
  · obtain ⟨h300, P, rfl, hP⟩ := tree_of hs
    exact ⟨outT P, outE P, ⟨fun b o cap w hG hN hl hc => text_ok b o cap P w hok hG hN hl hc hs h300 hP, fun b o cap w hG hN hl hc => rtext_ok b o cap P (rlines_any P) w hok hG hN hl hc hs h300 hP⟩⟩
  · exact ⟨[], (shapeD ms).1, ⟨fun b o cap w hG hN hl hc => text_no b o cap ms w hok hG hN hl hc hs, fun b o cap w hG hN hl hc => rtext_no b o cap ms w hok hN hl hc hs⟩⟩
theorem dev_empty (b o cap : Nat) (w : World) (hG : G0 w) (hN : NodesAt w b o []) (hc : cap ≤ maxLen) :
    Calls Tryd.prog 6 #[.slice (some ⟨b, o, none⟩) 0 cap] w fun y w' => y = .returned (.tuple #[.string ⟨#[]⟩, .int .i64 0]) ∧ Below w.heap.size w w' :=
  text_ok b o cap [] w (fun n hn => by cases hn) hG hN (Nat.zero_le _) hc (by decide) (by decide) (fun p hp => by cases hp)
theorem bytes31t : Tryd.prog.bytesOf 31 = 56 := by kernel_rfl
theorem weight_nodes3 {H : Type} {a b : List (DataW H)} {ts : List TypeId} {r : List (DataW H)} (h : (DataW.weightsEach Tryd.prog (22 :: ts) (.slice a b :: r)).all (· ≤ reachBytes) = true) : (a.length + b.length) * 56 ≤ reachBytes := by
  simp only [DataW.weightsEach, DataW.weights, Tryd.underlying22, bytes31t, List.cons_append, List.all_cons, Bool.and_eq_true, decide_eq_true_eq] at h
  exact h.1
theorem NodesAt.taken {w : World} {b o : Nat} {ns : List Nd} (h : NodesAt w b o ns) (k : Nat) : NodesAt w b o (ns.take k) := by
  have h9 : NodesAt w b o (ns.take k ++ ns.drop k) := by rw [List.take_append_drop]; exact h
  exact h9.take'
/-- PrintTexts of every list that comes in. -/
theorem printTexts_any (a : Addr) (len cap : Nat) (x : Int) (nd : Nd) (ns : List Nd) (W : World) (hG : G0 W) (hl : len ≤ cap) (hcm : cap ≤ maxLen) (hlen : ns.length = cap) (hsm : (len + 1) * 56 ≤ 140737488355328) (hwf : ∀ n ∈ ns, NdWf n) (hnd : NdWf nd) (hx0 : -9223372036854775808 ≤ x) (hx1 : x ≤ 9223372036854775807) (hat : 0 < cap → ∃ b o, a = ⟨b, o, none⟩ ∧ NodesAt W b o ns) :
    Calls Tryd.prog 4 #[.slice (some a) len cap, .int .i64 x, .agg #[.int .i64 nd.depth, .int .i64 nd.kind, .string nd.name, .int .i64 nd.num, .int .i64 nd.op, .int .i64 nd.pos]] W fun e w' => e = .returned (.bool true) ∧ Below W.heap.size W w' := by
  rcases Nat.eq_zero_or_pos len with rfl | hpos
  · exact texts_empty (some a) cap (fun h => by cases h) x nd W hG dev_empty
  obtain ⟨b, o, rfl, hN⟩ := hat (by omega)
  exact texts_full b o len cap x nd (ns.take len) W hG both_any (fun n hn => (hwf n (List.mem_of_mem_take hn)).ok) hnd.ok (by rw [List.length_take]; omega) hpos hsm hl hcm hx0 hx1 (hN.taken len)
namespace printTexts
set_option maxRecDepth 100000 in
theorem laidOut : laidOutB Tryd.prog = true := by kernel_rfl
set_option maxRecDepth 100000 in
theorem contract (H : Type) (enc : TypeId × Value → H) (W : World) (base : Nat) (args : Array Value) (ds gs : List (DataW H)) (before : List MemPlace)
    (hval : ∀ (j : Nat) t v, Tryd.f4.params[j]? = some t → args[j]? = some v → Value.okWide Tryd.prog W .any base t v)
    (hW : DataW.Whole enc Tryd.prog Tryd.f4.params.toList Rows.printTextsSpec.vars false W args.toList ds gs before) (hk : (DataW.weightsEach Tryd.prog (Tryd.f4.params.toList ++ (OpenSpec.ofChange Rows.printTextsSpec).bare.plain.varTypes Tryd.prog) (ds ++ gs)).all (· ≤ reachBytes) = true) (hL : laidMetH Tryd.prog Rows.printTextsRow.laid W) :
    Calls Tryd.prog 4 args W fun e W' => ∃ v, e = .returned v ∧ Rows.printTextsSpec.post enc Tryd.prog Tryd.f4 false true false false W args v W' := by
  have hW' := hW
  obtain ⟨p, q, hA0, hV, rfl, hfz, hnd⟩ := hW
  have hA : DataW.TrodAll enc Tryd.prog W 0 (fun _ => true) true Tryd.f4.params.toList args.toList ds p := hA0
  rw [Tryd.params4] at hA hval hk
  obtain ⟨v0, vs0, d0, ds0, p0, q0, hargs, rfl, rfl, h0, r0⟩ := trodAll_cons hA
  obtain ⟨v1, vs1, d1, ds1, p1, q1, rfl, rfl, rfl, h1, r1⟩ := trodAll_cons r0
  obtain ⟨v2, vs2, d2, ds2, p2, q2, rfl, rfl, rfl, h2, r2⟩ := trodAll_cons r1
  obtain ⟨rfl, rfl, rfl⟩ := trodAll_nil r2
  obtain rfl : args = #[v0, v1, v2] := by cases args; simp_all
  obtain ⟨rfl, rfl⟩ := trodVars_none hV
  obtain ⟨x, rfl, rfl, rfl, wx⟩ := open_int Tryd.underlying3 (hval 1 3 v1 rfl rfl) h1
  obtain ⟨a0, len, cap, rfl⟩ := okWide_slice Tryd.underlying22 (hval 0 22 v0 rfl rfl)
  obtain ⟨cs, rfl, _⟩ := okWide_struct Tryd.underlying31 (hval 2 31 v2 rfl rfl)
  have h0k := h0
  have h2k := h2
  obtain ⟨fuel, hf⟩ := h0
  obtain ⟨fuel2, hf2⟩ := h2
  obtain ⟨nd, hcs, hx2, hwn⟩ := open_node (x := (d2, p2)) hf2
  have hcs' : cs = #[.int .i64 nd.depth, .int .i64 nd.kind, .string nd.name, .int .i64 nd.num, .int .i64 nd.op, .int .i64 nd.pos] := by
    have h9 : cs.toList = ndCells nd := hcs
    apply Array.toList_inj.1
    rw [h9]; rfl
  subst hcs'
  clear hA0
  simp only [List.append_nil] at hW' hk
  have hlt0 : ∀ y ∈ p0, y.block < W.heap.size := fun y hy => hW'.lt y (by simp [hy])
  have hlt2 : ∀ y ∈ p2, y.block < W.heap.size := fun y hy => hW'.lt y (by simp [hy])
  have hG : G0 W := g0_of_laid hL
  have hb := bounds_i64 wx
  have walk : Calls Tryd.prog 4 #[.slice a0 len cap, .int .i64 x, .agg #[.int .i64 nd.depth, .int .i64 nd.kind, .string nd.name, .int .i64 nd.num, .int .i64 nd.op, .int .i64 nd.pos]] W fun e w' => e = .returned (.bool true) ∧ Below W.heap.size W w' := by
    rcases open_nodes (x := (d0, p0)) hf with ⟨hcs, hx⟩ | ⟨a, len', cap', ns, hcs, hl, hcm, hnl, hwf, hat, hx⟩
    · have hcs' : Value.slice a0 len cap = .slice none 0 0 := by simpa [Value.cells] using hcs
      rw [hcs']
      exact texts_empty none 0 (fun _ => rfl) x nd W hG dev_empty
    · have hcs' : Value.slice a0 len cap = .slice (some a) len' cap' := by simpa [Value.cells] using hcs
      rw [hcs']
      have hx' : d0 = .slice ((ns.take len').map ndData) ((ns.drop len').map ndData) := hx
      rw [hx'] at hk
      have hb9 := weight_nodes3 hk
      simp only [List.length_map, List.length_take, List.length_drop, reachBytes] at hb9
      exact printTexts_any a len' cap' x nd ns W hG hl hcm hnl (by omega) hwf hwn hb.1 hb.2 hat
  refine walk.mono fun e W' ⟨he, bel⟩ => ?_
  subst he
  refine ⟨_, rfl, _, _, _, [], p0 ++ ([] ++ (p2 ++ [])), [], hW', ?_, ?_, rfl, bel.frame _, fun h => by cases h⟩
  · exact trodAll_cons_mk (shut_bool Tryd.underlying4 _) trodAll_mk0
  · exact trodAll_cons_mk (Below.trod laidOut (by kernel_rfl) (of_decide_eq_true (by kernel_rfl)) h0k bel hlt0) (trodAll_cons_mk (shut_int Tryd.underlying3 wx) (trodAll_cons_mk (Below.trod laidOut (by kernel_rfl) (of_decide_eq_true (by kernel_rfl)) h2k bel hlt2) trodAll_mk0))
set_option maxRecDepth 100000 in
theorem door_met4 (os : Os) (args : Array Value) : laidMetH Tryd.prog Rows.printTextsRow.laid ((World.doorLaid Tryd.prog 4000 os).forCall (fun _ _ => 0) ⟨#[], args, []⟩).memory := door_met os args
set_option maxRecDepth 100000 in
theorem reads (os : Os) {H : Type} (enc : TypeId × Value → H) : ∃ places, DataW.whole enc Tryd.prog ((World.doorLaid Tryd.prog 4000 os).forCall (fun _ _ => 0) ⟨#[], #[.slice none 0 0, .int .i64 0, .agg #[.int .i64 0, .int .i64 0, .string ⟨#[]⟩, .int .i64 0, .int .i64 0, .int .i64 0]], []⟩).memory Tryd.f4.params.toList Rows.printTextsSpec.vars false #[Value.slice none 0 0, .int .i64 0, .agg #[.int .i64 0, .int .i64 0, .string ⟨#[]⟩, .int .i64 0, .int .i64 0, .int .i64 0]].toList 12 = some ([.nil, .lit (.int .i64 0), .agg [.lit (.int .i64 0), .lit (.int .i64 0), .lit (.string []), .lit (.int .i64 0), .lit (.int .i64 0), .lit (.int .i64 0)]], [], places) :=
  ⟨[], by kernel_rfl⟩
set_option maxRecDepth 100000 in
theorem lifted (os : Os) (started : os.Started) (H : Type) (enc : TypeId × Value → H) (F : Stop.Interp) :
    ReturnsInHanded {} Tryd.checked os 4 .any ((OpenSpec.ofChange Rows.printTextsSpec).preRow enc Tryd.prog Tryd.f4 Rows.printTextsRow.domain false Rows.printTextsRow.laid) (((OpenSpec.ofChange Rows.printTextsSpec).at F).post enc Tryd.prog Tryd.f4 false true false false) := by
  obtain ⟨places, hx⟩ := reads os enc
  refine returnsInHanded_of_row (C := Tryd.checked) (s := OpenSpec.ofChange Rows.printTextsSpec) own started (by kernel_rfl) Tryd.func4
    (witness_row_atRef (enc := enc) (C := Tryd.checked) false (World.doorLaid Tryd.prog 4000 os) #[.slice none 0 0, .int .i64 0, .agg #[.int .i64 0, .int .i64 0, .string ⟨#[]⟩, .int .i64 0, .int .i64 0, .int .i64 0]] rfl (by kernel_rfl) (by kernel_rfl) (by kernel_rfl)
      (OpenSpec.preRow_of_cond 12 hx (by kernel_rfl) (fun k hk => by cases hk) (by kernel_rfl) (door_met4 os _))) ?_
  intro W base args ds gs before hval hW _ _ hk hL _ _
  exact contract H enc W base args ds gs before hval hW hk hL
set_option maxRecDepth 100000 in
theorem liftedUpto (os : Os) (started : os.Started) (H : Type) (enc : TypeId × Value → H) (F : Stop.Interp) :
    ReturnsInHanded {} Tryd.checked os 4 .any ((Rows.OpenSpec.upto Rows.printTextsSpec).preRow enc Tryd.prog Tryd.f4 Rows.printTextsUptoRow.domain false Rows.printTextsUptoRow.laid) (((Rows.OpenSpec.upto Rows.printTextsSpec).at F).post enc Tryd.prog Tryd.f4 false true false false) := by
  obtain ⟨places, hx⟩ := reads os enc
  refine returnsInHanded_of_row (C := Tryd.checked) (s := Rows.OpenSpec.upto Rows.printTextsSpec) own started (by kernel_rfl) Tryd.func4
    (witness_row_atRef (enc := enc) (C := Tryd.checked) false (World.doorLaid Tryd.prog 4000 os) #[.slice none 0 0, .int .i64 0, .agg #[.int .i64 0, .int .i64 0, .string ⟨#[]⟩, .int .i64 0, .int .i64 0, .int .i64 0]] rfl (by kernel_rfl) (by kernel_rfl) (by kernel_rfl)
      (OpenSpec.preRow_of_cond 12 hx (by kernel_rfl) (fun k hk => by cases hk; kernel_rfl) (by kernel_rfl) (door_met4 os _))) ?_
  intro W base args ds gs before hval hW _ _ hk hL _ _
  exact contract H enc W base args ds gs before hval hW hk hL
set_option maxRecDepth 100000 in
theorem said : Rows.PrintTextsSaid :=
  OpenClaim.holds_of_cond 4 Tryd.f4 rfl rfl rfl rfl rfl rfl rfl ⟨rfl, rfl, rfl, rfl, rfl⟩ rfl rfl rfl rfl rfl (by kernel_rfl) Tryd.func4 (by kernel_rfl)
    (of_decide_eq_true (by kernel_rfl)) (by unfold Func.isWrapper; first | (rw [if_pos (by decide +kernel)]; kernel_rfl) | (rw [if_neg (by decide +kernel)]; exact ⟨rfl, rfl⟩))
    (fun os started H enc _ F => by rw [OpenClaim.pre_eq_preRow]; exact lifted os started H enc F)
set_option maxRecDepth 100000 in
theorem saidUpto : Rows.PrintTextsUptoSaid :=
  OpenClaim.holds_of_cond 4 Tryd.f4 rfl rfl rfl rfl rfl rfl rfl ⟨rfl, rfl, rfl, rfl, rfl⟩ rfl rfl rfl rfl rfl (by kernel_rfl) Tryd.func4 (by kernel_rfl)
    (of_decide_eq_true (by kernel_rfl)) (by unfold Func.isWrapper; first | (rw [if_pos (by decide +kernel)]; kernel_rfl) | (rw [if_neg (by decide +kernel)]; exact ⟨rfl, rfl⟩))
    (fun os started H enc _ F => by rw [OpenClaim.pre_eq_preRow]; exact liftedUpto os started H enc F)
set_option maxRecDepth 100000 in
theorem plain (f : FuncId) (fn : Func) (hf : Tryd.pinned.checked.prog.funcNamed "winnow/winnowlaw05.PrintTexts" = some f) (hfn : Tryd.pinned.checked.prog.funcs[f]? = some fn) :
    false = Tryd.pinned.checked.prog.looks [] ∧ ∀ (j : Nat) t, fn.params[j]? = some t → Tryd.pinned.checked.prog.wantsStandIn t = false := by
  obtain rfl : f = 4 := Option.some.inj ((show Tryd.prog.funcNamed "winnow/winnowlaw05.PrintTexts" = some 4 by kernel_rfl).symm.trans hf) |>.symm
  obtain rfl : fn = Tryd.f4 := (Option.some.inj (Tryd.func4.symm.trans hfn)).symm
  refine ⟨by kernel_rfl, fun j t ht => ?_⟩
  rw [Tryd.params4] at ht
  have hm : t ∈ [22, 3, 31] := by simpa using Array.mem_of_getElem? ht
  have hall : ([22, 3, 31].all fun u => !Tryd.prog.wantsStandIn u) = true := by kernel_rfl
  exact (show Tryd.prog.wantsStandIn t = false by simpa using List.all_eq_true.1 hall t hm)
end printTexts
set_option maxRecDepth 100000 in
/-- The tied card of PrintTexts. -/
theorem printTexts_card : Rows.PrintTextsCardSaid :=
  Claim7.holds_tied_plain_at .later [] _ _ _ _ printTexts.said (fun _ h => by cases h) (by kernel_rfl) (fun _ h => by cases h) printTexts_row_tie rfl ⟨rfl, rfl⟩ (by kernel_rfl) rfl printTexts.plain (by kernel_rfl)
set_option maxRecDepth 100000 in
/-- The tied card of PrintTexts, the second form. -/
theorem printTextsUpto_card : Rows.PrintTextsUptoCardSaid :=
  Claim7.holds_tied_plain_at .later [] _ _ _ _ printTexts.saidUpto (fun _ h => by cases h) (by kernel_rfl) (fun _ h => by cases h) printTextsUpto_row_tie rfl ⟨rfl, rfl⟩ (by kernel_rfl) rfl printTexts.plain (by kernel_rfl)
#print axioms printTexts_card
#print axioms printTextsUpto_card
end Go.Proofs.YtjngjanheoeojaaDoor
