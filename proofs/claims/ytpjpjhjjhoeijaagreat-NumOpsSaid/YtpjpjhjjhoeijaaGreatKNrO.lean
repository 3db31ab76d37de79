import Derived.Deep.DeepHandedRow
import Derived.Deep.DeepWitnessRowRef
import Derived.JoinedCond
import Derived.Stop.Joined
import Derived.Test.YtpjpjhjjhoeijaaGreatKKB
import Derived.Test.YtpjpjhjjhoeijaaGreatKNop
set_option linter.unusedVariables false
set_option linter.unusedSimpArgs false
/- The rows of stage 13's laws. -/
namespace Go.Proofs.YtpjpjhjjhoeijaaGreat
open Go.ChangeShapes Go.WideShapes Go.ChangeAt Go.RowKit Go.Deep
theorem own : ownKnob Tryz.prog.godebug = none := by kernel_rfl
set_option maxRecDepth 100000 in
theorem laidOut : laidOutB Tryz.prog = true := by kernel_rfl
theorem bytesN : Tryz.prog.bytesOf 2 = 8 := by kernel_rfl
theorem weight_nums {H : Type} {a b : List (DataW H)} {t0 t1 t2 : TypeId} {d0 d1 d2 : DataW H} {ts : List TypeId} {r : List (DataW H)} (h : (DataW.weightsEach Tryz.prog (t0 :: t1 :: t2 :: 30 :: ts) (d0 :: d1 :: d2 :: .slice a b :: r)).all (· ≤ reachBytes) = true) : (a.length + b.length) * 8 ≤ reachBytes := by
  simp only [DataW.weightsEach, DataW.weights, Tryz.underlying30, bytesN, List.cons_append, List.all_cons, List.all_append, Bool.and_eq_true, decide_eq_true_eq] at h
  exact h.2.2.2.1
namespace numOps
set_option maxRecDepth 100000 in
theorem contract (H : Type) (enc : TypeId × Value → H) (W : World) (base : Nat) (args : Array Value) (ds gs : List (DataW H)) (before : List MemPlace)
    (hval : ∀ (j : Nat) t v, Tryz.f3.params[j]? = some t → args[j]? = some v → Value.okWide Tryz.prog W .any base t v)
    (hW : DataW.Whole enc Tryz.prog Tryz.f3.params.toList Rows.numOpsSpec.vars false W args.toList ds gs before) (hk : (DataW.weightsEach Tryz.prog (Tryz.f3.params.toList ++ (OpenSpec.ofChange Rows.numOpsSpec).bare.plain.varTypes Tryz.prog) (ds ++ gs)).all (· ≤ reachBytes) = true) :
    Calls Tryz.prog 3 args W fun e W' => ∃ v, e = .returned v ∧ Rows.numOpsSpec.post enc Tryz.prog Tryz.f3 false true false false W args v W' := by
  have hW' := hW
  obtain ⟨p, q, hA0, hV, rfl, hfz, hnd⟩ := hW
  have hA : DataW.TrodAll enc Tryz.prog W 0 (fun _ => true) true Tryz.f3.params.toList args.toList ds p := hA0
  rw [Tryz.params3] at hA hval hk
  obtain ⟨v0, vs0, d0, ds0, p0, q0, hargs, rfl, rfl, h0, r0⟩ := trodAll_cons hA
  obtain ⟨v1, vs1, d1, ds1, p1, q1, rfl, rfl, rfl, h1, r1⟩ := trodAll_cons r0
  obtain ⟨v2, vs2, d2, ds2, p2, q2, rfl, rfl, rfl, h2, r2⟩ := trodAll_cons r1
  obtain ⟨v3, vs3, d3, ds3, p3, q3, rfl, rfl, rfl, h3, r3⟩ := trodAll_cons r2
  obtain ⟨rfl, rfl, rfl⟩ := trodAll_nil r3
  obtain rfl : args = #[v0, v1, v2, v3] := by cases args; simp_all
  obtain ⟨rfl, rfl⟩ := trodVars_none hV
  have h0k := h0
  have h1k := h1
  have h2k := h2
  have h3k := h3
  obtain ⟨x0, rfl, rfl, rfl, w0⟩ := open_int Tryz.underlying22 (hval 0 22 v0 rfl rfl) h0
  obtain ⟨a1, rfl, i1⟩ := open_num (hval 1 29 v1 rfl rfl) h1
  obtain ⟨a2, rfl, i2⟩ := open_num (hval 2 29 v2 rfl rfl) h2
  obtain ⟨a3, len3, cap3, rfl⟩ := okWide_slice Tryz.underlying30 (hval 3 30 v3 rfl rfl)
  obtain ⟨fuel3, hf3⟩ := h3
  clear hA0
  simp only [List.append_nil] at hW' hk
  have hlt1 : ∀ y ∈ p1, y.block < W.heap.size := fun y hy => hW'.lt y (by simp [hy])
  have hlt2 : ∀ y ∈ p2, y.block < W.heap.size := fun y hy => hW'.lt y (by simp [hy])
  have hlt3 : ∀ y ∈ p3, y.block < W.heap.size := fun y hy => hW'.lt y (by simp [hy])
  have walk : Calls Tryz.prog 3 #[.int .i64 x0, nv a1, nv a2, .slice a3 len3 cap3] W fun e w' => e = .returned (.bool true) ∧ Below W.heap.size W w' := by
    obtain ⟨ts, ht1, ht2, ht3, ht4⟩ : ∃ ts : List Int, ts.length = len3 ∧ (ts.length + 1) * 8 ≤ 140737488355328 ∧ SInts W (.slice a3 ts.length cap3) ts ∧ (a3 = none → cap3 = 0) := by
      rcases oopen_nums (x := (d3, p3)) hf3 with ⟨hcs, hx⟩ | ⟨a, len', cap', ns, hcs, hl, hcm, hnl, hwf, hat, hx⟩
      · have hcs' : Value.slice a3 len3 cap3 = .slice none 0 0 := by simpa [Value.cells] using hcs
        injection hcs' with e1 e2 e3
        subst e1 e2 e3
        exact ⟨[], rfl, by simp, Or.inr ⟨_, _, rfl, rfl⟩, fun _ => rfl⟩
      · have hcs' : Value.slice a3 len3 cap3 = .slice (some a) len' cap' := by simpa [Value.cells] using hcs
        injection hcs' with e1 e2 e3
        subst e1 e2 e3
        have hx' : d3 = .slice ((ns.take len3).map onumData) ((ns.drop len3).map onumData) := hx
        rw [hx'] at hk
        have hb9 := weight_nums hk
        simp only [List.length_map, List.length_take, List.length_drop, reachBytes] at hb9
        have hlen : (ns.take len3).length = len3 := by rw [List.length_take]; omega
        refine ⟨ns.take len3, hlen, by rw [hlen]; omega, ?_, fun h => by cases h⟩
        by_cases h0 : len3 = 0
        · subst h0
          exact Or.inr ⟨some a, cap3, by simp, by simp⟩
        · obtain ⟨b, o, rfl, hlt9, hc9⟩ := hat (by omega)
          refine Or.inl ⟨b, o, cap3, rfl, ?_, hlt9, by rw [hlen]; omega⟩
          intro i hi
          rw [List.getElem_take]
          exact hc9 i (by rw [hlen] at hi; omega)
    rw [← ht1]
    exact numops_any x0 a1 a2 a3 cap3 ts i1 i2 ht2 W ht3 ht4
  refine walk.mono fun e W' ⟨he, bel⟩ => ?_
  subst he
  refine ⟨_, rfl, _, _, _, [], ([] ++ (p1 ++ (p2 ++ (p3 ++ [])))), [], hW', ?_, ?_, rfl, bel.frame _, fun h => by cases h⟩
  · exact trodAll_cons_mk (shut_bool Tryz.underlying4 _) trodAll_mk0
  · exact (trodAll_cons_mk (shut_int Tryz.underlying22 w0) (trodAll_cons_mk (Below.trod laidOut (by kernel_rfl) (of_decide_eq_true (by kernel_rfl)) h1k bel hlt1) (trodAll_cons_mk (Below.trod laidOut (by kernel_rfl) (of_decide_eq_true (by kernel_rfl)) h2k bel hlt2) (trodAll_cons_mk (Below.trod laidOut (by kernel_rfl) (of_decide_eq_true (by kernel_rfl)) h3k bel hlt3) trodAll_mk0))))
set_option maxRecDepth 100000 in
theorem lifted (os : Os) (started : os.Started) (H : Type) (enc : TypeId × Value → H) (F : Stop.Interp) :
    ReturnsInHanded {} Tryz.checked os 3 .any ((OpenSpec.ofChange Rows.numOpsSpec).preRow enc Tryz.prog Tryz.f3 Rows.numOpsRow.domain false Rows.numOpsRow.laid) (((OpenSpec.ofChange Rows.numOpsSpec).at F).post enc Tryz.prog Tryz.f3 false true false false) := by
  obtain ⟨w, tape, i, g1, g2, g3, g4, g5, g6, _⟩ := OpenSpec.witness_stopped (enc := enc) (C := Tryz.checked) (os := os) (f := 3) (fn := Tryz.f3) (s := OpenSpec.ofChange Rows.numOpsSpec) (conds := Rows.numOpsRow.domain) (apart := false) false ⟨#[], #[.int .i64 0, .agg #[.bool false, .int .i64 0, .int .i64 0, .int .u64 0, .int .u64 0], .agg #[.bool false, .int .i64 0, .int .i64 0, .int .u64 0, .int .u64 0], .slice none 0 0], []⟩ 8 (by kernel_rfl) (by kernel_rfl) (by kernel_rfl) (by kernel_rfl) (by kernel_rfl) rfl F
  refine returnsInHanded_of_row (C := Tryz.checked) (s := OpenSpec.ofChange Rows.numOpsSpec) own started (by kernel_rfl) Tryz.func3 ⟨w, tape, i, g1, g2, g3, g4, g5, g6⟩ ?_
  intro W base args ds gs before hval hW _ _ hk hL _ _
  exact contract H enc W base args ds gs before hval hW hk
set_option maxRecDepth 100000 in
theorem said : Rows.NumOpsSaid :=
  OpenClaim.holds_of_cond 3 Tryz.f3 rfl rfl rfl rfl rfl rfl rfl ⟨rfl, rfl, rfl, rfl, rfl⟩ rfl rfl rfl rfl rfl (by kernel_rfl) Tryz.func3 (by kernel_rfl)
    (of_decide_eq_true (by kernel_rfl)) (by unfold Func.isWrapper; first | (rw [if_pos (by decide +kernel)]; kernel_rfl) | (rw [if_neg (by decide +kernel)]; exact ⟨rfl, rfl⟩))
    (fun os started H enc _ F => by rw [OpenClaim.pre_eq_preRow]; exact lifted os started H enc F)
#print axioms said
end numOps
theorem numOps_said : Rows.NumOpsSaid := numOps.said
end Go.Proofs.YtpjpjhjjhoeijaaGreat
