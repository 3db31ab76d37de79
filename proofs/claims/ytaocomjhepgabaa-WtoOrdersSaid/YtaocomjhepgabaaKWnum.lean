import Derived.Maps.OwnSet
import Derived.Test.YtaocomjhepgabaaKWvis
set_option linter.unusedVariables false
set_option linter.unusedSimpArgs false
set_option linter.unnecessarySimpa false
/- Wnum -/
namespace Go.Proofs.Ytaocomjhepgabaa
open Go.RowKit Go.Maps
theorem wf_of {v : Int} (h0 : -9223372036854775808 ≤ v) (h1 : v ≤ 9223372036854775807) : (Lit.int .i64 v).wf = true := by
  have e1 : IntKind.i64.min = -9223372036854775808 := by decide
  have e2 : IntKind.i64.max = 9223372036854775807 := by decide
  simp only [Lit.wf, e1, e2]
  simp [h0, h1]
theorem law3 : Keyed Try.prog 3 := int_keyed Try.underlying3
theorem zero3 (w : World) : (zeroValue 3).run Try.prog w = .ok (.int .i64 0) w := by kernel_rfl
def numb (vs : List Int) (v : Int) : List Int × Nat := if v ∈ vs then (vs, vs.idxOf v) else (vs ++ [v], vs.length)
/-- The map of the numbers. -/
structure MapIs (D : DataW Unit) (vs : List Int) : Prop where
  mp : IsMap D
  yes : ∀ v, v ∈ vs → has D (.int .i64 v) = true ∧ D.atKey (.int .i64 v) (.lit (.int .i64 0)) = .lit (.int .i64 (vs.idxOf v : Nat))
  no : ∀ v, v ∉ vs → has D (.int .i64 v) = false
theorem MapIs.nil : MapIs (.map []) [] := ⟨⟨[], rfl⟩, fun v h => (by cases h), fun v _ => rfl⟩
theorem MapIs.put {D : DataW Unit} {vs : List Int} (h : MapIs D vs) {v : Int} (hv : v ∉ vs) : MapIs (D.put (.int .i64 v) (.lit (.int .i64 (vs.length : Nat)))) (vs ++ [v]) := by
  have hk : WideAt.IsKeyLit (.int .i64 v) := by simp [WideAt.IsKeyLit]
  refine ⟨?_, fun u hu => ?_, fun u hu => ?_⟩
  · obtain ⟨es, rfl⟩ := h.mp
    exact ⟨_, DataW.put_eq _ _ _⟩
  · by_cases e : u = v
    · subst e
      refine ⟨has_put_same h.mp hk _, ?_⟩
      rw [atKey_put_same h.mp hk]
      rw [List.idxOf_append, if_neg hv]
      simp
    · have hne : (Lit.int .i64 u) ≠ .int .i64 v := fun h => by injection h with _ h; exact e h
      have hu' : u ∈ vs := by
        rcases List.mem_append.1 hu with h | h
        · exact h
        · simp at h; exact absurd h e
      rw [has_put_other hne, atKey_put_other hne, List.idxOf_append, if_pos hu']
      exact h.yes u hu'
  · have hne : (Lit.int .i64 u) ≠ .int .i64 v := fun h => by injection h with _ h; exact hu (by simp [h])
    rw [has_put_other hne]
    exact h.no u (fun h => hu (List.mem_append_left _ h))
def ints (vs : List Int) : List Value := vs.map (fun x => Value.int .i64 x)
/-- The state of numbered's numbers. -/
structure NS (H : Nat) (wS w : World) (vv : Value) (vs : List Int) : Prop where
  ok : Ok wS w
  hH : wS.heap.size ≤ H
  b0 : w.heap[H]? = some (.cells #[.slice none 0 0, .slice none 0 0, .slice none 0 0] 51 (0, 0))
  b1 : w.heap[H + 1]? = some (.cells #[vv, .slice none 0 0, .slice none 0 0] 51 (0, 0))
  mp : ∃ D, w.ownsMap Try.prog 3 (plainElem Try.prog 3) (H + 2) vs.length D ∧ MapIs D vs
  b3 : w.heap[H + 3]? = some (.cells #[.map (some (H + 2))] 33 (0, 0))
  vo : w.ownsRow (H + 4) 3 1 vv vs.length (ints vs)
  lt : H + 4 ≤ w.heap.size
/-- What number may change. -/
structure Numd (H : Nat) (vv vv' : Value) (w w' : World) : Prop where
  size : w.heap.size ≤ w'.heap.size
  far : ∀ k, k < w.heap.size → k ≠ H + 1 → k ≠ H + 2 → some k ≠ vv.ownBlock → w'.heap[k]? = w.heap[k]?
  at_ : vv'.ownBlock = vv.ownBlock ∨ ∃ b, vv'.ownBlock = some b ∧ w.heap.size ≤ b
set_option maxHeartbeats 4000000 in
theorem num_any {H : Nat} {wS w : World} {vv : Value} {vs : List Int} (h : NS H wS w vv vs) (v : Int) (hv0 : -9223372036854775808 ≤ v) (hv1 : v ≤ 9223372036854775807) (hl : vs.length ≤ 1000000) :
    Calls Try.prog 32 #[.int .i64 v, .pointer (some ⟨H + 3, 0, none⟩), .pointer (some ⟨H + 1, 0, none⟩)] w fun e w' => e = .returned (.int .i64 ((numb vs v).2 : Nat)) ∧ ∃ vv', NS H wS w' vv' (numb vs v).1 ∧ Numd H vv vv' w w' := by
  obtain ⟨D, hD, hI⟩ := h.mp
  obtain ⟨ao, cap, rfl⟩ := own_form h.vo
  have hlt := h.lt
  have hH := h.hH
  obtain ⟨m0, m1, m2⟩ := box_cell h.b3
  have g0 : w.cell? ⟨H + 1, 0, none⟩ = some (.slice ao vs.length cap) := (cell_of_row _ _ 0 _ _ _ h.b1).trans (by simp)
  have g1 : w.frozen? ⟨H + 1, 0, none⟩ = false := frozen_of_row _ _ _ _ _ h.b1
  have hkey : keyOf Try.prog 3 (.int .i64 v) = some (.int .i64 v) := keyOf_int_mk Try.underlying3 (wf_of hv0 hv1)
  have HM : Hid (NS H wS w (.slice ao vs.length cap) vs) := h
  have HD : Hid (w.ownsMap Try.prog 3 (plainElem Try.prog 3) (H + 2) vs.length D) := hD
  have HI : Hid (MapIs D vs) := hI
  have HKY : Hid (keyOf Try.prog 3 (.int .i64 v) = some (.int .i64 v)) := hkey
  clear h hD hI hkey
  by_cases hv : v ∈ vs
  · have HN : Hid (numb vs v = (vs, vs.idxOf v)) := by unfold Hid numb; rw [if_pos hv]
    obtain ⟨y1, y2⟩ := HI.out.yes v hv
    have HY2 : Hid _ := y2
    clear y2 hv
    go_enter Try.func32, Try.ntmps32
    go_wp2_with (at_lookup; refine wpList_lookup_own_ok_int _ rfl _ _ 33 rfl 3 3 .i64 law3 Try.underlying33 Try.underlying3 (zero3 _) (H + 2) vs.length D rfl HD.out _ _ rfl HKY.out ?_; intro c hat hwc; rw [HY2.out] at hat; simp only [DataW.lit.injEq, Lit.int.injEq, true_and] at hat; subst hat)
    go_ret
    rw [HN.out]
    exact ⟨rfl, _, HM.out, ⟨Nat.le_refl _, fun _ _ _ _ _ => rfl, .inl rfl⟩⟩
  · have HN : Hid (numb vs v = (vs ++ [v], vs.length)) := by unfold Hid numb; rw [if_neg hv]
    have y1 := HI.out.no v hv
    have HNV : Hid (v ∉ vs) := hv
    clear hv
    obtain ⟨i0, hi0, hy0, hy1, hy2⟩ := info_of Try.info3
    have HL63 : Hid (vs.length + 1 ≤ maxLen) := by simp [maxLen, Hid]; omega
    have HLby : Hid ((vs.length + 1) * 8 ≤ 140737488355328) := by simp [Hid]; omega
    have HVL : Hid (plainElem (H := Unit) Try.prog 3 (.int .i64 (vs.length : Nat)) = some (.lit (.int .i64 (vs.length : Nat)), [])) := plainElem_int Try.underlying3 (wf_of (by omega) (by omega))
    go_enter Try.func32, Try.ntmps32
    go_wp2_with (first
      | (at_lookup; refine wpList_lookup_own_ok_int _ rfl _ _ 33 rfl 3 3 .i64 law3 Try.underlying33 Try.underlying3 (zero3 _) (H + 2) vs.length D rfl HD.out _ _ rfl HKY.out ?_; intro c hat hwc; clear hat hwc)
      | (at_mapUpdate; refine wpList_mapUpdate_own _ rfl _ _ _ 33 rfl 3 3 law3 Try.underlying33 _ (H + 2) vs.length D rfl HD.out (by unfold maxLen; omega) _ _ _ rfl rfl HKY.out _ [] HVL.out ?_; intro w1 hown1 hgrow1; clear m0 m1 m2 g0 g1; have b1 := (hgrow1.block (H + 1) (by omega) (by simp)).trans HM.out.b1; have g0 : w1.cell? ⟨H + 1, 0, none⟩ = some (.slice ao vs.length cap) := (cell_of_row _ _ 0 _ _ _ b1).trans (by simp); have g1 : w1.frozen? ⟨H + 1, 0, none⟩ = false := frozen_of_row _ _ _ _ _ b1; have z1 := hgrow1.size; have HG1 : Hid _ := hgrow1; have HO1 : Hid (w1.ownsMap _ _ _ _ _ _) := hown1; have HV1 : Hid (w1.ownsRow (H + 4) 3 1 (.slice ao vs.length cap) vs.length (ints vs)) := HM.out.vo.kept hgrow1 (ne_low HM.out.vo (by omega)); clear b1 hown1 hgrow1)
      | (at_builtin; refine wpList_append_lies _ rfl _ _ 32 rfl (H + 4) 3 i0 _ 1 8 Try.underlying32 hi0 hy0 hy1 hy2 rfl (by decide) _ vs.length (ints vs) (by rfl) (World.ownsRow.alloc HV1.out _) ⟨w1.heap.size, 0, none⟩ 1 1 [.int .i64 v] (by rfl) rfl (by intro j u hj; exact news_row (heap_at _ _ _ (by simp)) j u hj) (by simp [Value.oneCell']) (by decide) HL63.out HLby.out (by simp; omega) (w1.heap.size + 1) (by simp) ?_; intro gg capg w2 hown2 hgrow2 hat2 hlt2; have hq := (hgrow2.block (H + 1) (by simp; omega) (fun e => by have := (World.ownsRow.lt HV1.out _ e.symm).1; omega)).trans ((heap_past w1 _ _ (by omega) ((HG1.out.block (H + 1) (by omega) (by simp)).trans HM.out.b1))); clear g0 g1; have g0 : w2.cell? ⟨H + 1, 0, none⟩ = some (.slice ao vs.length cap) := (cell_of_row _ _ 0 _ _ _ hq).trans (by simp); have g1 : w2.frozen? ⟨H + 1, 0, none⟩ = false := frozen_of_row _ _ _ _ _ hq; have HG2 : Hid _ := hgrow2; have HO2 : Hid (w2.ownsRow _ _ _ _ _ _) := hown2; have HQ : Hid _ := hq; clear hq hgrow2 hown2)
      | fail)
    go_ret
    have hg2 := HG2.out
    have hs2 := hg2.size
    have hs2' : w1.heap.size + 1 ≤ w2.heap.size := by simpa using hs2
    have hlow : ∀ k, k < H + 4 → w2.heap[k]? = w1.heap[k]? := fun k hk => (hg2.block k (by simp; omega) (fun e => by have := (World.ownsRow.lt HV1.out _ e.symm).1; omega)).trans (Below.heap_alloc _ _ _ (by omega))
    have hlow1 : ∀ k, k < H + 4 → k ≠ H + 2 → w1.heap[k]? = w.heap[k]? := fun k hk hne => HG1.out.block k (by omega) (fun e => by injection e with e; exact hne e)
    rw [HN.out]
    refine ⟨rfl, .slice (some ⟨gg, 0, none⟩) (vs.length + 1) capg, ⟨?_, HM.out.hH, ?_, ?_, ?_, ?_, ?_, by simp; omega⟩, ⟨by simp; omega, ?_, ?_⟩⟩
    · refine Ok.set (p := ⟨H + 1, 0, none⟩) ?_ (by show wS.heap.size ≤ H + 1; omega) _
      refine Below.grown (Ok.alloc (Below.grown HM.out.ok HG1.out HM.out.ok.le (fun k e => by injection e with e; omega)) _) hg2 (by simp; omega) (fun k e => by have := (World.ownsRow.lt HV1.out _ e).1; omega)
    · exact (heap_setCell_other _ _ _ _ (by show H ≠ H + 1; omega)).trans ((hlow H (by omega)).trans ((hlow1 H (by omega) (by omega)).trans HM.out.b0))
    · exact (heap_setCell_same _ _ _ _ _ _ HQ.out).trans (by simp)
    · refine ⟨_, ?_, HI.out.put HNV.out⟩
      have h1 : w2.ownsMap Try.prog 3 (plainElem Try.prog 3) (H + 2) (vs.length + 1) (D.put (.int .i64 v) (.lit (.int .i64 (vs.length : Nat)))) := World.ownsMap.kept (World.ownsMap.alloc HO1.out _) hg2 (fun e => by have := (World.ownsRow.lt HV1.out _ e.symm).1; omega)
      rw [show (vs ++ [v]).length = vs.length + 1 by simp]
      exact h1.setCell (by show H + 2 ≠ H + 1; omega) _
    · exact (heap_setCell_other _ _ _ _ (by show H + 3 ≠ H + 1; omega)).trans ((hlow (H + 3) (by omega)).trans ((hlow1 (H + 3) (by omega) (by omega)).trans HM.out.b3))
    · have h1 := HO2.out
      rw [show (vs ++ [v]).length = vs.length + 1 by simp, show ints (vs ++ [v]) = ints vs ++ [.int .i64 v] by simp [ints]]
      exact h1.kept (grown_set _ _ _) (ne_low h1 (by show H + 1 < H + 4; omega))
    · intro k hk h1 h2 h3
      exact (heap_setCell_other _ _ _ _ h1).trans ((hg2.block k (by simp; omega) h3).trans ((Below.heap_alloc _ _ _ (by omega)).trans (HG1.out.block k hk (fun e => by injection e with e; exact h2 e))))
    · rcases hat2 with e | e
      · exact .inl e.symm
      · exact .inr ⟨gg, rfl, by omega⟩
end Go.Proofs.Ytaocomjhepgabaa
