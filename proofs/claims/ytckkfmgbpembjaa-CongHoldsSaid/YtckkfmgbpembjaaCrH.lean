import Derived.Test.YtckkfmgbpembjaaCopen
import Derived.Test.YtckkfmgbpembjaaChld
import Derived.Deep.DeepHandedRow
import Derived.Deep.DeepWitnessRowRef
import Derived.JoinedCond
import Derived.Stop.Joined
set_option linter.unusedVariables false
set_option linter.unusedSimpArgs false
/- The rows of stage 12's laws. -/
namespace Go.Proofs.Ytckkfmgbpembjaa
open Go.ChangeShapes Go.WideShapes Go.ChangeAt Go.RowKit Go.Deep
theorem own : ownKnob Try.prog.godebug = none := by kernel_rfl
set_option maxRecDepth 100000 in
theorem laidOut : laidOutB Try.prog = true := by kernel_rfl
namespace congHolds
set_option maxRecDepth 100000 in
theorem contract (H : Type) (enc : TypeId × Value → H) (W : World) (base : Nat) (args : Array Value) (ds gs : List (DataW H)) (before : List MemPlace)
    (hval : ∀ (j : Nat) t v, Try.f5.params[j]? = some t → args[j]? = some v → Value.okWide Try.prog W .any base t v)
    (hW : DataW.Whole enc Try.prog Try.f5.params.toList Rows.congHoldsSpec.vars false W args.toList ds gs before) (hk : (DataW.weightsEach Try.prog (Try.f5.params.toList ++ (OpenSpec.ofChange Rows.congHoldsSpec).bare.plain.varTypes Try.prog) (ds ++ gs)).all (· ≤ reachBytes) = true) :
    Calls Try.prog 5 args W fun e W' => ∃ v, e = .returned v ∧ Rows.congHoldsSpec.post enc Try.prog Try.f5 false true false false W args v W' := by
  have hW' := hW
  obtain ⟨p, q, hA0, hV, rfl, hfz, hnd⟩ := hW
  have hA : DataW.TrodAll enc Try.prog W 0 (fun _ => true) true Try.f5.params.toList args.toList ds p := hA0
  rw [Try.params5] at hA hval hk
  obtain ⟨v0, vs0, d0, ds0, p0, q0, hargs, rfl, rfl, h0, r0⟩ := trodAll_cons hA
  obtain ⟨rfl, rfl, rfl⟩ := trodAll_nil r0
  obtain rfl : args = #[v0] := by cases args; simp_all
  obtain ⟨rfl, rfl⟩ := trodVars_none hV
  have h0k := h0
  obtain ⟨cM, cR, dM, dR, x, y, rfl, k0, k1, k2, k3, k4, k5⟩ := open_case (hval 0 37 v0 rfl rfl) h0
  clear hA0
  simp only [List.append_nil] at hW' hk
  have hlt0 : ∀ y ∈ p0, y.block < W.heap.size := fun y hy => hW'.lt y (by simp [hy])
  have walk : Calls Try.prog 5 #[.agg #[.int .u64 (cM : Int), .int .u64 (cR : Int), .int .u64 (dM : Int), .int .u64 (dR : Int), .int .i64 x, .int .i64 y]] W fun e w' => e = .returned (.bool true) ∧ Below W.heap.size W w' := by
    exact holds_any cM cR dM dR x y k0 k1 k2 k3 k4 k5 W W (Ok.refl _)
  refine walk.mono fun e W' ⟨he, bel⟩ => ?_
  subst he
  refine ⟨_, rfl, _, _, _, [], (p0 ++ []), [], hW', ?_, ?_, rfl, bel.frame _, fun h => by cases h⟩
  · exact trodAll_cons_mk (shut_bool Try.underlying4 _) trodAll_mk0
  · exact (trodAll_cons_mk (Below.trod laidOut (by kernel_rfl) (of_decide_eq_true (by kernel_rfl)) h0k bel hlt0) trodAll_mk0)
set_option maxRecDepth 100000 in
theorem lifted (os : Os) (started : os.Started) (H : Type) (enc : TypeId × Value → H) (F : Stop.Interp) :
    ReturnsInHanded {} Try.checked os 5 .any ((OpenSpec.ofChange Rows.congHoldsSpec).preRow enc Try.prog Try.f5 Rows.congHoldsRow.domain false Rows.congHoldsRow.laid) (((OpenSpec.ofChange Rows.congHoldsSpec).at F).post enc Try.prog Try.f5 false true false false) := by
  obtain ⟨w, tape, i, g1, g2, g3, g4, g5, g6, _⟩ := OpenSpec.witness_stopped (enc := enc) (C := Try.checked) (os := os) (f := 5) (fn := Try.f5) (s := OpenSpec.ofChange Rows.congHoldsSpec) (conds := Rows.congHoldsRow.domain) (apart := false) false ⟨#[], #[.agg #[.int .u64 0, .int .u64 0, .int .u64 0, .int .u64 0, .int .i64 0, .int .i64 0]], []⟩ 8 (by kernel_rfl) (by kernel_rfl) (by kernel_rfl) (by kernel_rfl) (by kernel_rfl) rfl F
  refine returnsInHanded_of_row (C := Try.checked) (s := OpenSpec.ofChange Rows.congHoldsSpec) own started (by kernel_rfl) Try.func5 ⟨w, tape, i, g1, g2, g3, g4, g5, g6⟩ ?_
  intro W base args ds gs before hval hW _ _ hk hL _ _
  exact contract H enc W base args ds gs before hval hW hk
set_option maxRecDepth 100000 in
theorem said : Rows.CongHoldsSaid :=
  OpenClaim.holds_of_cond 5 Try.f5 rfl rfl rfl rfl rfl rfl rfl ⟨rfl, rfl, rfl, rfl, rfl⟩ rfl rfl rfl rfl rfl (by kernel_rfl) Try.func5 (by kernel_rfl)
    (of_decide_eq_true (by kernel_rfl)) (by unfold Func.isWrapper; first | (rw [if_pos (by decide +kernel)]; kernel_rfl) | (rw [if_neg (by decide +kernel)]; exact ⟨rfl, rfl⟩))
    (fun os started H enc _ F => by rw [OpenClaim.pre_eq_preRow]; exact lifted os started H enc F)
#print axioms said
end congHolds
theorem congHolds_said : Rows.CongHoldsSaid := congHolds.said
end Go.Proofs.Ytckkfmgbpembjaa
