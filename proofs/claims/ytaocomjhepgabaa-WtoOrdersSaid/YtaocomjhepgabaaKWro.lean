import Derived.Deep.DeepHandedRow
import Derived.Deep.DeepWitnessRowRef
import Derived.JoinedCond
import Derived.Stop.Joined
import Derived.Test.YtaocomjhepgabaaKDl
import Derived.Test.YtaocomjhepgabaaKWopn
set_option linter.unusedVariables false
set_option linter.unusedSimpArgs false
/- Wro -/
namespace Go.Proofs.Ytaocomjhepgabaa
open Go.ChangeShapes Go.WideShapes Go.ChangeAt Go.RowKit Go.Deep
theorem own : ownKnob Try.prog.godebug = none := by kernel_rfl
set_option maxRecDepth 100000 in
theorem laidOut : laidOutB Try.prog = true := by kernel_rfl
theorem bytesA : Try.prog.bytesOf 29 = 16 := by kernel_rfl
theorem weight_arcs {H : Type} {a b : List (DataW H)} {t0 : TypeId} {d0 : DataW H} {ts : List TypeId} {r : List (DataW H)} (h : (DataW.weightsEach Try.prog (t0 :: 22 :: ts) (d0 :: .slice a b :: r)).all (· ≤ reachBytes) = true) : (a.length + b.length) * 16 ≤ reachBytes := by
  simp only [DataW.weightsEach, DataW.weights, Try.underlying22, bytesA, List.cons_append, List.all_cons, List.all_append, Bool.and_eq_true, decide_eq_true_eq] at h
  exact h.2.1
namespace wtoOrders
set_option maxRecDepth 100000 in
theorem contract (H : Type) (enc : TypeId × Value → H) (W : World) (base : Nat) (args : Array Value) (ds gs : List (DataW H)) (before : List MemPlace)
    (hval : ∀ (j : Nat) t v, Try.f6.params[j]? = some t → args[j]? = some v → Value.okWide Try.prog W .any base t v)
    (hW : DataW.Whole enc Try.prog Try.f6.params.toList Rows.wtoOrdersSpec.vars false W args.toList ds gs before) (hk : (DataW.weightsEach Try.prog (Try.f6.params.toList ++ (OpenSpec.ofChange Rows.wtoOrdersSpec).bare.plain.varTypes Try.prog) (ds ++ gs)).all (· ≤ reachBytes) = true) :
    Calls Try.prog 6 args W fun e W' => ∃ v, e = .returned v ∧ Rows.wtoOrdersSpec.post enc Try.prog Try.f6 false true false false W args v W' := by
  have hW' := hW
  obtain ⟨p, q, hA0, hV, rfl, hfz, hnd⟩ := hW
  have hA : DataW.TrodAll enc Try.prog W 0 (fun _ => true) true Try.f6.params.toList args.toList ds p := hA0
  rw [Try.params6] at hA hval hk
  obtain ⟨v0, vs0, d0, ds0, p0, q0, hargs, rfl, rfl, h0, r0⟩ := trodAll_cons hA
  obtain ⟨v1, vs1, d1, ds1, p1, q1, rfl, rfl, rfl, h1, r1⟩ := trodAll_cons r0
  obtain ⟨v2, vs2, d2, ds2, p2, q2, rfl, rfl, rfl, h2, r2⟩ := trodAll_cons r1
  obtain ⟨v3, vs3, d3, ds3, p3, q3, rfl, rfl, rfl, h3, r3⟩ := trodAll_cons r2
  obtain ⟨rfl, rfl, rfl⟩ := trodAll_nil r3
  obtain rfl : args = #[v0, v1, v2, v3] := by cases args; simp_all
  obtain ⟨rfl, rfl⟩ := trodVars_none hV
  have h0k := h0
  have h1k := h1
  have h2k := h2
  have h3k := h3
  obtain ⟨x0, rfl, rfl, rfl, w0⟩ := open_int Try.underlying3 (hval 0 3 v0 rfl rfl) h0
  obtain ⟨a1, len1, cap1, rfl⟩ := okWide_slice Try.underlying22 (hval 1 22 v1 rfl rfl)
  obtain ⟨fuel1, hf1⟩ := h1
  obtain ⟨x2, rfl, rfl, rfl, w2⟩ := open_int Try.underlying3 (hval 2 3 v2 rfl rfl) h2
  obtain ⟨x3, rfl, rfl, rfl, w3⟩ := open_int Try.underlying3 (hval 3 3 v3 rfl rfl) h3
  clear hA0
  simp only [List.append_nil] at hW' hk
  have hlt1 : ∀ y ∈ p1, y.block < W.heap.size := fun y hy => hW'.lt y (by simp [hy])
  have walk : Calls Try.prog 6 #[.int .i64 x0, .slice a1 len1 cap1, .int .i64 x2, .int .i64 x3] W fun e w' => e = .returned (.bool true) ∧ Below W.heap.size W w' := by
    obtain ⟨ars, hr1, hr2, hr3, hr4, hr5, hr6⟩ : ∃ ars : List (Int × Int), ars.length = len1 ∧ ars.length ≤ cap1 ∧ SAr W a1 ars ∧ (∀ p ∈ ars, in64 p.1 ∧ in64 p.2) ∧ (a1 = none → cap1 = 0) ∧ cap1 ≤ 140737488355328 := by
      rcases open_arcs (x := (d1, p1)) hf1 with ⟨hcs, hx⟩ | ⟨a, len', cap', ns, hcs, hl, hcm, hnl, hwf, hat, hx⟩
      · have hcs' : Value.slice a1 len1 cap1 = .slice none 0 0 := by simpa [Value.cells] using hcs
        injection hcs' with e1 e2 e3
        subst e1 e2 e3
        exact ⟨[], rfl, by simp, fun h => absurd rfl h, by simp, fun _ => rfl, by omega⟩
      · have hcs' : Value.slice a1 len1 cap1 = .slice (some a) len' cap' := by simpa [Value.cells] using hcs
        injection hcs' with e1 e2 e3
        subst e1 e2 e3
        have hx' : d1 = .slice ((ns.take len1).map arData) ((ns.drop len1).map arData) := hx
        rw [hx'] at hk
        have hb9 := weight_arcs hk
        simp only [List.length_map, List.length_take, List.length_drop, reachBytes] at hb9
        have hlen : (ns.take len1).length = len1 := by rw [List.length_take]; omega
        refine ⟨ns.take len1, hlen, by rw [hlen]; omega, ?_, fun p hp => hwf p (List.mem_of_mem_take hp), (by intro h; cases h), by omega⟩
        intro hne
        have h0 : len1 ≠ 0 := by intro h; apply hne; apply List.length_eq_zero_iff.1; omega
        obtain ⟨b, o, rfl, hlt9, hc9⟩ := hat (by omega)
        refine ⟨b, o, rfl, hlt9, ?_⟩
        intro i x hi
        obtain ⟨hi1, hi2⟩ := List.getElem?_eq_some_iff.1 hi
        rw [List.getElem_take] at hi2
        have := hc9 i (by rw [hlen] at hi1; omega)
        rw [hi2] at this
        exact this
    rw [← hr1]
    exact ord_any hr3 hr5 hr2 (wf64 w2) (wf64 w3) hr4 hr6
  refine walk.mono fun e W' ⟨he, bel⟩ => ?_
  subst he
  refine ⟨_, rfl, _, _, _, [], ([] ++ (p1 ++ ([] ++ ([] ++ [])))), [], hW', ?_, ?_, rfl, bel.frame _, fun h => by cases h⟩
  · exact trodAll_cons_mk (shut_bool Try.underlying4 _) trodAll_mk0
  · exact (trodAll_cons_mk (shut_int Try.underlying3 w0) (trodAll_cons_mk (Below.trod laidOut (by kernel_rfl) (of_decide_eq_true (by kernel_rfl)) h1k bel hlt1) (trodAll_cons_mk (shut_int Try.underlying3 w2) (trodAll_cons_mk (shut_int Try.underlying3 w3) trodAll_mk0))))
set_option maxRecDepth 100000 in
theorem lifted (os : Os) (started : os.Started) (H : Type) (enc : TypeId × Value → H) (F : Stop.Interp) :
    ReturnsInHanded {} Try.checked os 6 .any ((OpenSpec.ofChange Rows.wtoOrdersSpec).preRow enc Try.prog Try.f6 Rows.wtoOrdersRow.domain false Rows.wtoOrdersRow.laid) (((OpenSpec.ofChange Rows.wtoOrdersSpec).at F).post enc Try.prog Try.f6 false true false false) := by
  obtain ⟨w, tape, i, g1, g2, g3, g4, g5, g6, _⟩ := OpenSpec.witness_stopped (enc := enc) (C := Try.checked) (os := os) (f := 6) (fn := Try.f6) (s := OpenSpec.ofChange Rows.wtoOrdersSpec) (conds := Rows.wtoOrdersRow.domain) (apart := false) false ⟨#[], #[.int .i64 0, .slice none 0 0, .int .i64 0, .int .i64 0], []⟩ 8 (by kernel_rfl) (by kernel_rfl) (by kernel_rfl) (by kernel_rfl) (by kernel_rfl) rfl F
  refine returnsInHanded_of_row (C := Try.checked) (s := OpenSpec.ofChange Rows.wtoOrdersSpec) own started (by kernel_rfl) Try.func6 ⟨w, tape, i, g1, g2, g3, g4, g5, g6⟩ ?_
  intro W base args ds gs before hval hW _ _ hk hL _ _
  exact contract H enc W base args ds gs before hval hW hk
set_option maxRecDepth 100000 in
theorem said : Rows.WtoOrdersSaid :=
  OpenClaim.holds_of_cond 6 Try.f6 rfl rfl rfl rfl rfl rfl rfl ⟨rfl, rfl, rfl, rfl, rfl⟩ rfl rfl rfl rfl rfl (by kernel_rfl) Try.func6 (by kernel_rfl)
    (of_decide_eq_true (by kernel_rfl)) (by unfold Func.isWrapper; first | (rw [if_pos (by decide +kernel)]; kernel_rfl) | (rw [if_neg (by decide +kernel)]; exact ⟨rfl, rfl⟩))
    (fun os started H enc _ F => by rw [OpenClaim.pre_eq_preRow]; exact lifted os started H enc F)
#print axioms said
end wtoOrders
theorem wtoOrders_said : Rows.WtoOrdersSaid := wtoOrders.said
#print axioms wtoOrders_said
end Go.Proofs.Ytaocomjhepgabaa
