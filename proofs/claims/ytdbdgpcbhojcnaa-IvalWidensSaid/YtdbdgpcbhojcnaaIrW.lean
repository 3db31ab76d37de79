import Derived.Test.YtdbdgpcbhojcnaaIrc
import Derived.Test.YtdbdgpcbhojcnaaIwd
set_option linter.unusedVariables false
set_option linter.unusedSimpArgs false
/- The statement IvalWidens itself, for a plain seat (first form). -/
namespace Go.Proofs.Ytdbdgpcbhojcnaa
open Go.ChangeShapes Go.WideShapes Go.ChangeAt Go.RowKit Go.Deep
namespace ivalWidens
set_option maxRecDepth 100000 in
theorem contract (H : Type) (enc : TypeId × Value → H) (W : World) (base : Nat) (args : Array Value) (ds gs : List (DataW H)) (before : List MemPlace)
    (hval : ∀ (j : Nat) t v, Try.f3.params[j]? = some t → args[j]? = some v → Value.okWide Try.prog W .any base t v)
    (hW : DataW.Whole enc Try.prog Try.f3.params.toList Rows.ivalWidensSpec.vars false W args.toList ds gs before) (hk : (DataW.weightsEach Try.prog (Try.f3.params.toList ++ (OpenSpec.ofChange Rows.ivalWidensSpec).bare.plain.varTypes Try.prog) (ds ++ gs)).all (· ≤ reachBytes) = true) :
    Calls Try.prog 3 args W fun e W' => ∃ v, e = .returned v ∧ Rows.ivalWidensSpec.post enc Try.prog Try.f3 false true false false W args v W' := by
  have hW' := hW
  obtain ⟨p, q, hA0, hV, rfl, hfz, hnd⟩ := hW
  have hA : DataW.TrodAll enc Try.prog W 0 (fun _ => true) true Try.f3.params.toList args.toList ds p := hA0
  rw [Try.params3] at hA hval hk
  obtain ⟨v0, vs0, d0, ds0, p0, q0, hargs, rfl, rfl, h0, r0⟩ := trodAll_cons hA
  obtain ⟨v1, vs1, d1, ds1, p1, q1, rfl, rfl, rfl, h1, r1⟩ := trodAll_cons r0
  obtain ⟨v2, vs2, d2, ds2, p2, q2, rfl, rfl, rfl, h2, r2⟩ := trodAll_cons r1
  obtain ⟨rfl, rfl, rfl⟩ := trodAll_nil r2
  obtain rfl : args = #[v0, v1, v2] := by cases args; simp_all
  obtain ⟨rfl, rfl⟩ := trodVars_none hV
  have h0k := h0
  have h1k := h1
  have h2k := h2
  obtain ⟨l0, u0, rfl, i0, j0⟩ := open_iv (hval 0 23 v0 rfl rfl) h0
  obtain ⟨a1, len1, cap1, rfl⟩ := okWide_slice Try.underlying24 (hval 1 24 v1 rfl rfl)
  obtain ⟨fuel1, hf1⟩ := h1
  obtain ⟨a2, len2, cap2, rfl⟩ := okWide_slice Try.underlying25 (hval 2 25 v2 rfl rfl)
  obtain ⟨fuel2, hf2⟩ := h2
  clear hA0
  simp only [List.append_nil] at hW' hk
  have hlt0 : ∀ y ∈ p0, y.block < W.heap.size := fun y hy => hW'.lt y (by simp [hy])
  have hlt1 : ∀ y ∈ p1, y.block < W.heap.size := fun y hy => hW'.lt y (by simp [hy])
  have hlt2 : ∀ y ∈ p2, y.block < W.heap.size := fun y hy => hW'.lt y (by simp [hy])
  have walk : Calls Try.prog 3 #[.agg #[.int .i64 l0, .int .i64 u0], .slice a1 len1 cap1, .slice a2 len2 cap2] W fun e w' => e = .returned (.bool true) ∧ Below W.heap.size W w' := by
    obtain ⟨ts, ht1, ht2, ht3, ht4⟩ : ∃ ts : List Int, ts.length = len1 ∧ (ts.length + 1) * 8 ≤ 140737488355328 ∧ SInts W (.slice a1 ts.length cap1) ts ∧ (a1 = none → cap1 = 0) := by
      rcases open_nums (x := (d1, p1)) hf1 with ⟨hcs, hx⟩ | ⟨a, len', cap', ns, hcs, hl, hcm, hnl, hwf, hat, hx⟩
      · have hcs' : Value.slice a1 len1 cap1 = .slice none 0 0 := by simpa [Value.cells] using hcs
        injection hcs' with e1 e2 e3
        subst e1 e2 e3
        exact ⟨[], rfl, by simp, Or.inr ⟨_, _, rfl, rfl⟩, fun _ => rfl⟩
      · have hcs' : Value.slice a1 len1 cap1 = .slice (some a) len' cap' := by simpa [Value.cells] using hcs
        injection hcs' with e1 e2 e3
        subst e1 e2 e3
        have hx' : d1 = .slice ((ns.take len1).map nData) ((ns.drop len1).map nData) := hx
        rw [hx'] at hk
        have hb9 := weight_nums hk
        simp only [List.length_map, List.length_take, List.length_drop, reachBytes] at hb9
        have hlen : (ns.take len1).length = len1 := by rw [List.length_take]; omega
        refine ⟨ns.take len1, hlen, by rw [hlen]; omega, ?_, fun h => by cases h⟩
        by_cases h0 : len1 = 0
        · subst h0
          exact Or.inr ⟨some a, cap1, by simp, by simp⟩
        · obtain ⟨b, o, rfl, hlt9, hc9⟩ := hat (by omega)
          refine Or.inl ⟨b, o, cap1, rfl, ?_, hlt9, by rw [hlen]; omega⟩
          intro i hi
          rw [List.getElem_take]
          exact hc9 i (by rw [hlen] at hi; omega)
    obtain ⟨rs, hr1, hr2, hr3, hr4⟩ : ∃ rs : List (Int × Int), rs.length = len2 ∧ rs.length ≤ 140737488355328 ∧ SIv W a2 rs ∧ (∀ p ∈ rs, In64 p.1 ∧ In64 p.2) := by
      rcases open_ivs (x := (d2, p2)) hf2 with ⟨hcs, hx⟩ | ⟨a, len', cap', ns, hcs, hl, hcm, hnl, hwf, hat, hx⟩
      · have hcs' : Value.slice a2 len2 cap2 = .slice none 0 0 := by simpa [Value.cells] using hcs
        injection hcs' with e1 e2 e3
        subst e1 e2 e3
        exact ⟨[], rfl, by simp, fun h => absurd rfl h, by simp⟩
      · have hcs' : Value.slice a2 len2 cap2 = .slice (some a) len' cap' := by simpa [Value.cells] using hcs
        injection hcs' with e1 e2 e3
        subst e1 e2 e3
        have hx' : d2 = .slice ((ns.take len2).map ivData) ((ns.drop len2).map ivData) := hx
        rw [hx'] at hk
        have hb9 := weight_ivs hk
        simp only [List.length_map, List.length_take, List.length_drop, reachBytes] at hb9
        have hlen : (ns.take len2).length = len2 := by rw [List.length_take]; omega
        refine ⟨ns.take len2, hlen, by rw [hlen]; omega, ?_, fun p hp => hwf p (List.mem_of_mem_take hp)⟩
        intro hne
        have h0 : len2 ≠ 0 := by intro h; apply hne; apply List.length_eq_zero_iff.1; omega
        obtain ⟨b, o, rfl, hlt9, hc9⟩ := hat (by omega)
        refine ⟨b, o, rfl, hlt9, ?_⟩
        intro i hi
        rw [List.getElem_take]
        exact hc9 i (by rw [hlen] at hi; omega)
    rw [← ht1, ← hr1]
    exact widens_any l0 u0 a1 cap1 ts a2 cap2 rs hr4 ht2 hr2 W ht3 ht4 hr3
  refine walk.mono fun e W' ⟨he, bel⟩ => ?_
  subst he
  refine ⟨_, rfl, _, _, _, [], (p0 ++ (p1 ++ (p2 ++ []))), [], hW', ?_, ?_, rfl, bel.frame _, fun h => by cases h⟩
  · exact trodAll_cons_mk (shut_bool Try.underlying4 _) trodAll_mk0
  · exact (trodAll_cons_mk (Below.trod laidOut (by kernel_rfl) (of_decide_eq_true (by kernel_rfl)) h0k bel hlt0) (trodAll_cons_mk (Below.trod laidOut (by kernel_rfl) (of_decide_eq_true (by kernel_rfl)) h1k bel hlt1) (trodAll_cons_mk (Below.trod laidOut (by kernel_rfl) (of_decide_eq_true (by kernel_rfl)) h2k bel hlt2) trodAll_mk0)))
set_option maxRecDepth 100000 in
theorem lifted (os : Os) (started : os.Started) (H : Type) (enc : TypeId × Value → H) (F : Stop.Interp) :
    ReturnsInHanded {} Try.checked os 3 .any ((OpenSpec.ofChange Rows.ivalWidensSpec).preRow enc Try.prog Try.f3 Rows.ivalWidensRow.domain false Rows.ivalWidensRow.laid) (((OpenSpec.ofChange Rows.ivalWidensSpec).at F).post enc Try.prog Try.f3 false true false false) := by
  obtain ⟨w, tape, i, g1, g2, g3, g4, g5, g6, _⟩ := OpenSpec.witness_stopped (enc := enc) (C := Try.checked) (os := os) (f := 3) (fn := Try.f3) (s := OpenSpec.ofChange Rows.ivalWidensSpec) (conds := Rows.ivalWidensRow.domain) (apart := false) false ⟨#[], #[.agg #[.int .i64 0, .int .i64 0], .slice none 0 0, .slice none 0 0], []⟩ 8 (by kernel_rfl) (by kernel_rfl) (by kernel_rfl) (by kernel_rfl) (by kernel_rfl) rfl F
  refine returnsInHanded_of_row (C := Try.checked) (s := OpenSpec.ofChange Rows.ivalWidensSpec) own started (by kernel_rfl) Try.func3 ⟨w, tape, i, g1, g2, g3, g4, g5, g6⟩ ?_
  intro W base args ds gs before hval hW _ _ hk hL _ _
  exact contract H enc W base args ds gs before hval hW hk
set_option maxRecDepth 100000 in
theorem said : Rows.IvalWidensSaid :=
  OpenClaim.holds_of_cond 3 Try.f3 rfl rfl rfl rfl rfl rfl rfl ⟨rfl, rfl, rfl, rfl, rfl⟩ rfl rfl rfl rfl rfl (by kernel_rfl) Try.func3 (by kernel_rfl)
    (of_decide_eq_true (by kernel_rfl)) (by unfold Func.isWrapper; first | (rw [if_pos (by decide +kernel)]; kernel_rfl) | (rw [if_neg (by decide +kernel)]; exact ⟨rfl, rfl⟩))
    (fun os started H enc _ F => by rw [OpenClaim.pre_eq_preRow]; exact lifted os started H enc F)
#print axioms said
end ivalWidens
theorem ivalWidens_said : Rows.IvalWidensSaid := ivalWidens.said
#print axioms ivalWidens_said
end Go.Proofs.Ytdbdgpcbhojcnaa
