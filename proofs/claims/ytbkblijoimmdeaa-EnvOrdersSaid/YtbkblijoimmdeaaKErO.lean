import Derived.Test.YtbkblijoimmdeaaKEall
import Derived.Deep.DeepHandedRow
import Derived.Deep.DeepWitnessRowRef
import Derived.JoinedCond
import Derived.Stop.Joined
set_option linter.unusedVariables false
set_option linter.unusedSimpArgs false
/- The row of EnvOrders. -/
namespace Go.Proofs.Ytbkblijoimmdeaa
open Go.ChangeShapes Go.WideShapes Go.ChangeAt Go.RowKit Go.Deep
theorem own : ownKnob Try.prog.godebug = none := by kernel_rfl
set_option maxRecDepth 100000 in
theorem laidOut : laidOutB Try.prog = true := by kernel_rfl
theorem weight_each {H : Type} {t0 t1 t2 t3 : TypeId} {d0 d1 d2 d3 : DataW H} {ts : List TypeId} {r : List (DataW H)} (h : (DataW.weightsEach Try.prog (t0 :: t1 :: t2 :: t3 :: ts) (d0 :: d1 :: d2 :: d3 :: r)).all (· ≤ reachBytes) = true) : (DataW.weights Try.prog t0 d0).all (· ≤ reachBytes) = true ∧ (DataW.weights Try.prog t1 d1).all (· ≤ reachBytes) = true ∧ (DataW.weights Try.prog t2 d2).all (· ≤ reachBytes) = true ∧ (DataW.weights Try.prog t3 d3).all (· ≤ reachBytes) = true := by
  simp only [DataW.weightsEach, List.all_append, Bool.and_eq_true] at h
  exact ⟨h.1, h.2.1, h.2.2.1, h.2.2.2.1⟩
namespace envOrders
set_option maxRecDepth 100000 in
theorem contract (H : Type) (enc : TypeId × Value → H) (W : World) (base : Nat) (args : Array Value) (ds gs : List (DataW H)) (before : List MemPlace)
    (hval : ∀ (j : Nat) t v, Try.f4.params[j]? = some t → args[j]? = some v → Value.okWide Try.prog W .any base t v)
    (hW : DataW.Whole enc Try.prog Try.f4.params.toList Rows.envOrdersSpec.vars false W args.toList ds gs before) (hk : (DataW.weightsEach Try.prog (Try.f4.params.toList ++ (OpenSpec.ofChange Rows.envOrdersSpec).bare.plain.varTypes Try.prog) (ds ++ gs)).all (· ≤ reachBytes) = true) :
    Calls Try.prog 4 args W fun e W' => ∃ v, e = .returned v ∧ Rows.envOrdersSpec.post enc Try.prog Try.f4 false true false false W args v W' := by
  have hW' := hW
  obtain ⟨p, q, hA0, hV, rfl, hfz, hnd⟩ := hW
  have hA : DataW.TrodAll enc Try.prog W 0 (fun _ => true) true Try.f4.params.toList args.toList ds p := hA0
  rw [Try.params4] at hA hval hk
  obtain ⟨v0, vs0, d0, ds0, p0, q0, hargs, rfl, rfl, h0, r0⟩ := trodAll_cons hA
  obtain ⟨v1, vs1, d1, ds1, p1, q1, rfl, rfl, rfl, h1, r1⟩ := trodAll_cons r0
  obtain ⟨v2, vs2, d2, ds2, p2, q2, rfl, rfl, rfl, h2, r2⟩ := trodAll_cons r1
  obtain ⟨v3, vs3, d3, ds3, p3, q3, rfl, rfl, rfl, h3, r3⟩ := trodAll_cons r2
  obtain ⟨rfl, rfl, rfl⟩ := trodAll_nil r3
  obtain rfl : args = #[v0, v1, v2, v3] := by cases args; simp_all
  obtain ⟨rfl, rfl⟩ := trodVars_none hV
  have h0k := h0
  have h1k := h1
  have h2k := h2
  have h3k := h3
  clear hA0
  simp only [List.append_nil] at hW' hk
  have hk2 := weight_each hk
  have k0 : (DataW.weights Try.prog 24 d0).all (· ≤ reachBytes) = true := hk2.1
  have k1 : (DataW.weights Try.prog 24 d1).all (· ≤ reachBytes) = true := hk2.2.1
  have k2 : (DataW.weights Try.prog 24 d2).all (· ≤ reachBytes) = true := hk2.2.2.1
  have k3 : (DataW.weights Try.prog 25 d3).all (· ≤ reachBytes) = true := hk2.2.2.2
  obtain ⟨e0, E0, r0⟩ := open_env (hval 0 24 v0 rfl rfl) h0 k0
  obtain ⟨e1, E1, r1⟩ := open_env (hval 1 24 v1 rfl rfl) h1 k1
  obtain ⟨e2, E2, r2⟩ := open_env (hval 2 24 v2 rfl rfl) h2 k2
  obtain ⟨a3, len3, cap3, hvv3⟩ := okWide_slice Try.underlying25 (hval 3 25 v3 rfl rfl)
  obtain ⟨fuel3, hf3⟩ := h3
  have hc3 : v3.cells.toList = [v3] := by rw [hvv3]; rfl
  rw [hc3] at hf3
  obtain ⟨t3, s3, l3, i3⟩ := in_nums hf3 k3
  have hlt0 : ∀ y ∈ p0, y.block < W.heap.size := fun y hy => hW'.lt y (by simp [hy])
  have hlt1 : ∀ y ∈ p1, y.block < W.heap.size := fun y hy => hW'.lt y (by simp [hy])
  have hlt2 : ∀ y ∈ p2, y.block < W.heap.size := fun y hy => hW'.lt y (by simp [hy])
  have hlt3 : ∀ y ∈ p3, y.block < W.heap.size := fun y hy => hW'.lt y (by simp [hy])
  have walk : Calls Try.prog 4 #[v0, v1, v2, v3] W fun e w' => e = .returned (.bool true) ∧ Below W.heap.size W w' :=
    orders_any e0 e1 e2 v0 v1 v2 v3 t3 r0 r1 r2 W s3 E0 E1 E2
  refine walk.mono fun e W' ⟨he, bel⟩ => ?_
  subst he
  refine ⟨_, rfl, _, _, _, [], (p0 ++ (p1 ++ (p2 ++ (p3 ++ [])))), [], hW', ?_, ?_, rfl, bel.frame _, fun h => by cases h⟩
  · exact trodAll_cons_mk (shut_bool Try.underlying4 _) trodAll_mk0
  · exact (trodAll_cons_mk (Below.trod laidOut (by kernel_rfl) (of_decide_eq_true (by kernel_rfl)) h0k bel hlt0) (trodAll_cons_mk (Below.trod laidOut (by kernel_rfl) (of_decide_eq_true (by kernel_rfl)) h1k bel hlt1) (trodAll_cons_mk (Below.trod laidOut (by kernel_rfl) (of_decide_eq_true (by kernel_rfl)) h2k bel hlt2) (trodAll_cons_mk (Below.trod laidOut (by kernel_rfl) (of_decide_eq_true (by kernel_rfl)) h3k bel hlt3) trodAll_mk0))))
set_option maxRecDepth 100000 in
theorem lifted (os : Os) (started : os.Started) (H : Type) (enc : TypeId × Value → H) (F : Stop.Interp) :
    ReturnsInHanded {} Try.checked os 4 .any ((OpenSpec.ofChange Rows.envOrdersSpec).preRow enc Try.prog Try.f4 Rows.envOrdersRow.domain false Rows.envOrdersRow.laid) (((OpenSpec.ofChange Rows.envOrdersSpec).at F).post enc Try.prog Try.f4 false true false false) := by
  obtain ⟨w, tape, i, g1, g2, g3, g4, g5, g6, _⟩ := OpenSpec.witness_stopped (enc := enc) (C := Try.checked) (os := os) (f := 4) (fn := Try.f4) (s := OpenSpec.ofChange Rows.envOrdersSpec) (conds := Rows.envOrdersRow.domain) (apart := false) false ⟨#[], #[.agg #[.bool false, .slice none 0 0, .slice none 0 0], .agg #[.bool false, .slice none 0 0, .slice none 0 0], .agg #[.bool false, .slice none 0 0, .slice none 0 0], .slice none 0 0], []⟩ 8 (by kernel_rfl) (by kernel_rfl) (by kernel_rfl) (by kernel_rfl) (by kernel_rfl) rfl F
  refine returnsInHanded_of_row (C := Try.checked) (s := OpenSpec.ofChange Rows.envOrdersSpec) own started (by kernel_rfl) Try.func4 ⟨w, tape, i, g1, g2, g3, g4, g5, g6⟩ ?_
  intro W base args ds gs before hval hW _ _ hk hL _ _
  exact contract H enc W base args ds gs before hval hW hk
set_option maxRecDepth 100000 in
theorem said : Rows.EnvOrdersSaid :=
  OpenClaim.holds_of_cond 4 Try.f4 rfl rfl rfl rfl rfl rfl rfl ⟨rfl, rfl, rfl, rfl, rfl⟩ rfl rfl rfl rfl rfl (by kernel_rfl) Try.func4 (by kernel_rfl)
    (of_decide_eq_true (by kernel_rfl)) (by unfold Func.isWrapper; first | (rw [if_pos (by decide +kernel)]; kernel_rfl) | (rw [if_neg (by decide +kernel)]; exact ⟨rfl, rfl⟩))
    (fun os started H enc _ F => by rw [OpenClaim.pre_eq_preRow]; exact lifted os started H enc F)
#print axioms said
end envOrders
theorem envOrders_said : Rows.EnvOrdersSaid := envOrders.said
end Go.Proofs.Ytbkblijoimmdeaa
