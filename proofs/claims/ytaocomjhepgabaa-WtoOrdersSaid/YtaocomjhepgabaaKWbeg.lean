import Derived.Test.YtaocomjhepgabaaKWor
set_option linter.unusedVariables false
set_option linter.unusedSimpArgs false
set_option linter.unnecessarySimpa false
/- Wbeg -/
namespace Go.Proofs.Ytaocomjhepgabaa
open Go.RowKit
theorem run_ints (N : Nat) (h : N ≤ 10000000) (w : World) : (Instr.makeSlice 32 (.int .i64 (N : Int)) (.int .i64 (N : Int))).run Try.prog w = .ok (.slice (some ⟨w.heap.size, 0, none⟩) N N) (w.alloc (.cells (mkRow N (fun _ => 0)) 3)) := by
  obtain ⟨i, hi, hz, hs, hb⟩ := info_of Try.info3
  have := run_make (P := Try.prog) w 32 3 i (.int .i64 0) Try.underlying32 hi hz .i64 .i64 N N (by omega) (Int.le_refl _) (by rw [hb]; omega) (by omega)
  rw [this]
  simp only [Int.toNat_natCast, hs, Nat.mul_one]
  show Result.ok _ (w.alloc (.cells (madeCells #[.int .i64 0] N) 3)) = _
  rw [made_row]
/-- Arcs as they lie at a block. -/
def ArcsAt (w : World) (b : Nat) (own : List (Nat × Nat)) : Prop := b < w.heap.size ∧ ∀ i x, own[i]? = some x → w.cell? ⟨b, i * 2, none⟩ = some (.int .i64 (x.1 : Nat)) ∧ w.cell? ⟨b, i * 2 + 1, none⟩ = some (.int .i64 (x.2 : Nat))
theorem ArcsAt.ok {w w' : World} {b : Nat} {own : List (Nat × Nat)} (h : ArcsAt w b own) (hb : Ok w w') : ArcsAt w' b own :=
  ⟨Nat.lt_of_lt_of_le h.1 hb.le, fun i x hx => ⟨hb.cell (p := ⟨b, i * 2, none⟩) h.1 (h.2 i x hx).1, hb.cell (p := ⟨b, i * 2 + 1, none⟩) h.1 (h.2 i x hx).2⟩⟩
def cnt1 (own : List (Nat × Nat)) (k : Nat) : Nat := own.countP (fun a => decide (a.1 + 1 = k))
def begF (own : List (Nat × Nat)) (k : Nat) : Nat := own.countP (fun a => decide (a.1 < k))
theorem begF_succ (own : List (Nat × Nat)) (k : Nat) : begF own (k + 1) = cnt1 own (k + 1) + begF own k := by
  unfold begF cnt1
  induction own with
  | nil => rfl
  | cons a own ih =>
    simp only [List.countP_cons]
    rw [ih]
    by_cases h1 : a.1 < k
    · rw [if_pos (by simp; omega), if_neg (by simp; omega), if_pos (by simp; omega)]; omega
    · by_cases h4 : a.1 = k
      · rw [if_pos (by simp; omega), if_pos (by simp; omega), if_neg (by simp; omega)]; omega
      · rw [if_neg (by simp; omega), if_neg (by simp; omega), if_neg (by simp; omega)]; omega
theorem begF_zero (own : List (Nat × Nat)) : begF own 0 = 0 := by unfold begF; simp
theorem cnt1_zero (own : List (Nat × Nat)) : cnt1 own 0 = 0 := by unfold cnt1; simp
theorem cnt1_le (own : List (Nat × Nat)) (k : Nat) : cnt1 own k ≤ own.length := List.countP_le_length
theorem begF_le (own : List (Nat × Nat)) (k : Nat) : begF own k ≤ own.length := List.countP_le_length
theorem cnt1_step (own : List (Nat × Nat)) {i : Nat} {x : Nat × Nat} (h : own[i]? = some x) : cnt1 (own.take (i + 1)) = upd (cnt1 (own.take i)) (x.1 + 1) (cnt1 (own.take i) (x.1 + 1) + 1) := by
  funext k
  have e : own.take (i + 1) = own.take i ++ [x] := by rw [List.take_add_one, h]; rfl
  unfold cnt1 upd
  rw [e, List.countP_append]
  by_cases hk : k = x.1 + 1
  · subst hk; simp
  · have : ¬ x.1 + 1 = k := fun h => hk h.symm
    simp [hk, this]
def mid2 (own : List (Nat × Nat)) (i k : Nat) : Nat := if k ≤ i then begF own k else cnt1 own k
theorem mid2_zero (own : List (Nat × Nat)) : mid2 own 0 = cnt1 own := by
  funext k
  unfold mid2
  split
  · have : k = 0 := by omega
    subst this; rw [begF_zero, cnt1_zero]
  · rfl
theorem mid2_step (own : List (Nat × Nat)) (i : Nat) : mid2 own (i + 1) = upd (mid2 own i) (i + 1) (mid2 own i (i + 1) + mid2 own i i) := by
  funext k
  unfold mid2 upd
  by_cases hk : k = i + 1
  · subst hk
    have h1 : ¬ i + 1 ≤ i := by omega
    simp [h1, begF_succ]
  · by_cases h2 : k ≤ i
    · have h3 : k ≤ i + 1 := by omega
      simp [hk, h2, h3]
    · have h3 : ¬ k ≤ i + 1 := by omega
      simp [hk, h2, h3]
theorem mkRow_congr {N : Nat} {f f' : Nat → Nat} (h : ∀ k, k < N → f k = f' k) : mkRow N f = mkRow N f' := by
  unfold mkRow
  congr 1
  apply List.map_congr_left
  intro k hk
  rw [h k (by simpa using hk)]
set_option maxHeartbeats 4000000 in
theorem begins_any {w : World} {bo n cap : Nat} {own : List (Nat × Nat)} (h : ArcsAt w bo own) (ho : ∀ x ∈ own, x.1 < n) (hl : own.length ≤ 1000000) (hn : n ≤ 1000000) :
    Calls Try.prog 33 #[.slice (some ⟨bo, 0, none⟩) own.length cap, .int .i64 (n : Nat)] w fun e w' => e = .returned (.slice (some ⟨w.heap.size, 0, none⟩) (n + 1) (n + 1)) ∧ Ok w w' ∧ w'.heap[w.heap.size]? = some (.cells (mkRow (n + 1) (begF own)) 3 (0, 0)) := by
  obtain ⟨m, hm⟩ : ∃ m, m = n + 1 := ⟨_, rfl⟩
  have hw1 : IntKind.i64.wrap ((n : Int) + 1) = (m : Int) := wrap_nat (by omega) (by omega)
  have hmk := fun w => run_ints m (by omega) w
  have HMM : Hid (m = n + 1) := hm
  rw [← hm]
  obtain ⟨B, hB⟩ : ∃ B, B = w.heap.size := ⟨_, rfl⟩
  have HA : Hid (ArcsAt w bo own) := h
  have HO : Hid (∀ x ∈ own, x.1 < n) := ho
  have hbo : bo < B := by rw [hB]; exact h.1
  have HB : Hid (B = w.heap.size) := hB
  clear h ho hm
  go_enter Try.func33, Try.ntmps33
  go_wp2_with fail
  rw [← hB]
  clear hB hmk
  have hmn : n < m := by rw [HMM.out]; omega
  go_loopw [14] (fun a wr => ∃ i : Nat, i ≤ own.length ∧ a = .int .i64 (i : Nat) ∧ Hid (Ok w wr) ∧ Hid (wr.heap[B]? = some (.cells (mkRow m (cnt1 (own.take i))) 3 (0, 0)))) (fun a _ => own.length - (intOf a).toNat)
  case atStart =>
    refine ⟨0, by omega, rfl, (Ok.refl w).alloc _, ?_⟩
    have e : cnt1 (own.take 0) = fun _ => 0 := by funext k; simp [cnt1]
    unfold Hid
    rw [e, HB.out]
    exact heap_new0 _ _
  case round =>
    obtain ⟨i, hi, rfl, HK, HR⟩ := hrel
    have hlt := lt_row HR.out
    by_cases hil : i < own.length
    · have hil' : (i : Int) < (own.length : Int) := by omega
      obtain ⟨x, hx⟩ : ∃ x, own[i]? = some x := ⟨own[i], List.getElem?_eq_getElem hil⟩
      have hxn : x.1 < n := HO.out x (List.mem_of_getElem? hx)
      obtain ⟨a0, a1⟩ := (HA.out.ok HK.out).2 i x hx
      have hxw : IntKind.i64.wrap ((x.1 : Int) + 1) = ((x.1 + 1 : Nat) : Int) := wrap_nat (by omega) (by omega)
      have hx1 : x.1 + 1 < m := by omega
      have r0 : wr.cell? ⟨B, x.1 + 1, none⟩ = some (.int .i64 (cnt1 (own.take i) (x.1 + 1) : Nat)) := (cell_of_row _ _ _ _ _ _ HR.out).trans (mkRow_get _ _ _ (by omega))
      have r1 : wr.frozen? ⟨B, x.1 + 1, none⟩ = false := frozen_of_row _ _ _ _ _ HR.out
      have hcl := cnt1_le (own.take i) (x.1 + 1)
      have hcl2 : cnt1 (own.take i) (x.1 + 1) ≤ 1000000 := by simp at hcl; omega
      obtain ⟨cc, hcc⟩ : ∃ cc, cc = cnt1 (own.take i) (x.1 + 1) := ⟨_, rfl⟩
      have HCS : Hid (cnt1 (own.take (i + 1)) = upd (cnt1 (own.take i)) (x.1 + 1) (cc + 1)) := by unfold Hid; rw [hcc]; exact cnt1_step own hx
      rw [← hcc] at r0 hcl2
      clear hcc hcl hx
      have hcw : IntKind.i64.wrap ((cc : Int) + 1) = ((cc + 1 : Nat) : Int) := wrap_nat (by omega) (by omega)
      have hiw : IntKind.i64.wrap ((i : Int) + 1) = ((i + 1 : Nat) : Int) := wrap_nat (by omega) (by omega)
      have n1 : ¬ bo = wr.heap.size := by omega
      have n2 : ¬ B = wr.heap.size := by omega
      have hbl : bo < wr.heap.size := by omega
      go_wp2_with fail
      refine ⟨⟨i + 1, by omega, rfl, ?_, ?_⟩, by simp only [intOf]; simp; omega⟩
      · exact (HK.out.set (p := ⟨B, x.1 + 1, none⟩) (by show w.heap.size ≤ B; rw [← HB.out]; exact Nat.le_refl _) _).alloc _
      · unfold Hid
        rw [HCS.out, ← mkRow_set]
        exact heap_past _ _ _ (by simpa using hlt) (heap_setCell_same _ _ _ _ _ _ HR.out)
    · have hil' : ¬ (i : Int) < (own.length : Int) := by omega
      have hie : i = own.length := by omega
      have HR2 : Hid (wr.heap[B]? = some (.cells (mkRow m (mid2 own 0)) 3 (0, 0))) := by
        unfold Hid; rw [mid2_zero]; have := HR.out; rw [hie, List.take_length] at this; exact this
      clear hie HR
      go_wp2_with fail
      obtain ⟨W, hW⟩ : ∃ W, W = wr := ⟨_, rfl⟩
      subst hW
      go_loopw [28] (fun a wr => ∃ j : Nat, j ≤ n ∧ a = .int .i64 (j : Nat) ∧ Hid (Ok w wr) ∧ Hid (wr.heap[B]? = some (.cells (mkRow m (mid2 own j)) 3 (0, 0)))) (fun a _ => n - (intOf a).toNat)
      case atStart => exact ⟨0, by omega, rfl, HK, HR2⟩
      case round =>
        clear HK HR2
        obtain ⟨j, hj, rfl, HK, HR⟩ := hrel
        have hlt := lt_row HR.out
        by_cases hjn : j < n
        · have hjn' : (j : Int) < (n : Int) := by omega
          have hjw : IntKind.i64.wrap ((j : Int) + 1) = ((j + 1 : Nat) : Int) := wrap_nat (by omega) (by omega)
          have r0 : wr.cell? ⟨B, j + 1, none⟩ = some (.int .i64 (mid2 own j (j + 1) : Nat)) := (cell_of_row _ _ _ _ _ _ HR.out).trans (mkRow_get _ _ _ (by omega))
          have r1 : wr.frozen? ⟨B, j + 1, none⟩ = false := frozen_of_row _ _ _ _ _ HR.out
          have r2 : wr.cell? ⟨B, j, none⟩ = some (.int .i64 (mid2 own j j : Nat)) := (cell_of_row _ _ _ _ _ _ HR.out).trans (mkRow_get _ _ _ (by omega))
          have hb1 : mid2 own j (j + 1) ≤ 1000000 := by have := cnt1_le own (j + 1); unfold mid2; rw [if_neg (by omega)]; omega
          have hb2 : mid2 own j j ≤ 1000000 := by have := begF_le own j; unfold mid2; rw [if_pos (Nat.le_refl _)]; omega
          obtain ⟨c1, hc1⟩ : ∃ c, c = mid2 own j (j + 1) := ⟨_, rfl⟩
          obtain ⟨c2, hc2⟩ : ∃ c, c = mid2 own j j := ⟨_, rfl⟩
          have HCS : Hid (mid2 own (j + 1) = upd (mid2 own j) (j + 1) (c1 + c2)) := by unfold Hid; rw [hc1, hc2]; exact mid2_step own j
          rw [← hc1] at r0 hb1
          rw [← hc2] at r2 hb2
          clear hc1 hc2
          have hsw : IntKind.i64.wrap ((c1 : Int) + (c2 : Int)) = ((c1 + c2 : Nat) : Int) := wrap_nat (by omega) (by omega)
          have j1 : j + 1 < m := by omega
          have j2 : j < m := by omega
          go_wp2_with fail
          go_region
          all_goals
            go_wp2_with fail
            refine ⟨⟨j + 1, by omega, rfl, ?_, ?_⟩, by simp only [intOf]; simp; omega⟩
            · have hh := HK.out.set (p := ⟨B, j + 1, none⟩) (by show w.heap.size ≤ B; rw [← HB.out]; exact Nat.le_refl _) (.int .i64 ((c1 + c2 : Nat) : Int))
              first | exact hh | exact hh.draws _ | exact Below.drew hh
            · unfold Hid
              rw [HCS.out, ← mkRow_set]
              exact heap_setCell_same _ _ _ _ _ _ HR.out
        · have hjn' : ¬ (j : Int) < (n : Int) := by omega
          go_wp2_with fail
          go_ret
          rw [← HB.out]
          refine ⟨rfl, HK.out, ?_⟩
          have := HR.out
          rw [show mkRow m (mid2 own j) = mkRow m (begF own) from mkRow_congr (fun k hk => by unfold mid2; rw [if_pos (by have := HMM.out; omega)])] at this
          exact this
end Go.Proofs.Ytaocomjhepgabaa
