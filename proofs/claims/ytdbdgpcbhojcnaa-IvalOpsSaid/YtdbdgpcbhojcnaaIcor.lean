import Derived.Test.YtdbdgpcbhojcnaaImul
set_option linter.unusedVariables false
set_option linter.unusedSimpArgs false
set_option linter.unnecessarySimpa false
/- The document's corners (winnowref11): contract. -/
namespace Go.Proofs.Ytdbdgpcbhojcnaa
open Go.RowKit
def two (a b : Int) : Nat → Int
  | 0 => a
  | _ => b
def quoI (x y : Int) : Int := wrap64 (x.tdiv y)
/-- The join of the first quotients, two a number. -/
def corF (al ah bl bh : Int) : Nat → Int × Int
  | 0 => (1, 0)
  | m + 1 => joinI (corF al ah bl bh m).1 (corF al ah bl bh m).2 (quoI (two al ah (m / 2)) (two bl bh (m % 2))) (quoI (two al ah (m / 2)) (two bl bh (m % 2)))
def rowI (l h : Int) : Obj := .cells #[.int .i64 l, .int .i64 h] 23
def CorInv (al ah bl bh : Int) (w wr : World) (O : Int × Int) : Prop :=
  Ok w wr ∧ wr.heap[w.heap.size + 1]? = some (rowI bl bh) ∧ wr.heap[w.heap.size + 2]? = some (rowI 0 0) ∧ wr.heap[w.heap.size + 6]? = some (rowI O.1 O.2) ∧ wr.heap[w.heap.size + 7]? = some (.cells #[.int .i64 al, .int .i64 ah] 2)
theorem CorInv.ok {al ah bl bh : Int} {w wr w1 : World} {O : Int × Int} (h : CorInv al ah bl bh w wr O) (hb : Ok wr w1) : CorInv al ah bl bh w w1 O :=
  ⟨h.1.step hb, Ok.row' hb h.2.1, Ok.row' hb h.2.2.1, Ok.row' hb h.2.2.2.1, Ok.row' hb h.2.2.2.2⟩
theorem CorInv.set {al ah bl bh : Int} {w wr : World} {O : Int × Int} (h : CorInv al ah bl bh w wr O) (l k : Int) : CorInv al ah bl bh w ((wr.setCell ⟨w.heap.size + 6, 0, none⟩ (.int .i64 l)).setCell ⟨w.heap.size + 6, 1, none⟩ (.int .i64 k)) (l, k) := by
  obtain ⟨h1, h2, h3, h4, h5⟩ := h
  refine ⟨(h1.set (show w.heap.size ≤ w.heap.size + 6 by omega) _).set (show w.heap.size ≤ w.heap.size + 6 by omega) _, ?_, ?_, row_set2 h4 _ _, ?_⟩
  · rw [heap_setCell_other _ _ _ _ (by simp), heap_setCell_other _ _ _ _ (by simp)]; exact h2
  · rw [heap_setCell_other _ _ _ _ (by simp), heap_setCell_other _ _ _ _ (by simp)]; exact h3
  · rw [heap_setCell_other _ _ _ _ (by simp), heap_setCell_other _ _ _ _ (by simp)]; exact h5
theorem two_cell {w : World} {g k : Nat} {a b : Int} {t : TypeId} (h : w.heap[g]? = some (.cells #[.int .i64 a, .int .i64 b] t (0, 0))) (hk : k < 2) : w.cell? ⟨g, k, none⟩ = some (.int .i64 (two a b k)) := by
  rw [cell_of_row _ _ _ _ _ _ h]
  match k, hk with
  | 0, _ => rfl
  | 1, _ => rfl
set_option maxHeartbeats 2000000 in
theorem rcorners_c (al ah bl bh : Int) (w : World) (ha : al ≤ ah) (hb : bl ≤ bh) (hb0 : bl ≠ 0) (hb1 : bh ≠ 0) :
    Calls Try.prog 68 #[.agg #[.int .i64 al, .int .i64 ah], .agg #[.int .i64 bl, .int .i64 bh]] w fun e w' => e = .returned (.agg #[.int .i64 (corF al ah bl bh 4).1, .int .i64 (corF al ah bl bh 4).2]) ∧ Ok w w' := by
  have d : decide (ah < al) = false := decide_eq_false (by omega)
  have d2 : decide (bh < bl) = false := decide_eq_false (by omega)
  go_enter Try.func68, Try.ntmps68
  go_wp2_with (first | (go_at_call 40; refine (rempty_ex _ _ _).mono ?_; rintro e w' ⟨rfl, rfl⟩) | (go_at_call 43; refine (rnone_any _).mono ?_; rintro e w' ⟨rfl, rfl⟩) | fail)
  have HS : Hid (CorInv al ah bl bh w ((((((((w.alloc (.cells #[.int .i64 al, .int .i64 ah] 23)).alloc (.cells #[.int .i64 bl, .int .i64 bh] 23)).alloc (.cells #[.int .i64 0, .int .i64 0] 23)).alloc (.cells #[.int .i64 al, .int .i64 ah] 23)).alloc (.cells #[.int .i64 bl, .int .i64 bh] 23)).alloc (.cells #[.int .i64 1, .int .i64 0] 23)).alloc (.cells #[.int .i64 1, .int .i64 0] 23)).alloc (.cells #[.int .i64 al, .int .i64 ah] 2)) (corF al ah bl bh 0)) :=
    ⟨(by repeat (first | exact Ok.refl _ | refine Ok.alloc ?_ _ | fail)), (by repeat (first | (refine heap_at _ _ _ ?hx; case hx => (first | (simp; done) | (simp; omega))) | (refine heap_past _ _ _ ?hy ?_; case hy => (first | (simp; done) | (simp; omega))) | fail)), (by repeat (first | (refine heap_at _ _ _ ?hx; case hx => (first | (simp; done) | (simp; omega))) | (refine heap_past _ _ _ ?hy ?_; case hy => (first | (simp; done) | (simp; omega))) | fail)), (by repeat (first | (refine heap_at _ _ _ ?hx; case hx => (first | (simp; done) | (simp; omega))) | (refine heap_past _ _ _ ?hy ?_; case hy => (first | (simp; done) | (simp; omega))) | fail)), (by repeat (first | (refine heap_at _ _ _ ?hx; case hx => (first | (simp; done) | (simp; omega))) | (refine heap_past _ _ _ ?hy ?_; case hy => (first | (simp; done) | (simp; omega))) | fail))⟩
  go_loopw [24] (fun i wr => ∃ k : Nat, k ≤ 2 ∧ i = .int .i64 k ∧ Hid (CorInv al ah bl bh w wr (corF al ah bl bh (2 * k)))) (fun i _ => (2 - intOf i).toNat)
  case atStart => exact ⟨0, by omega, rfl, HS⟩
  case round =>
    obtain ⟨k, hk, rfl, HI⟩ := hrel
    clear HS
    by_cases hk1 : k < 2
    · have hk2 : (k : Int) < 2 := by omega
      have cx := two_cell HI.out.2.2.2.2 hk1
      obtain ⟨b0, b1, _, _⟩ := row_facts HI.out.2.1
      have sz := lt_row HI.out.2.2.2.2
      have HY : Hid (∀ j, two bl bh j ≠ 0) := by
        intro j; unfold two; split <;> assumption
      generalize hx : two al ah k = x at *
      have HX : Hid _ := hx
      clear hx
      go_wp2_with fail
      obtain ⟨g2, hg2⟩ : ∃ g2, g2 = wr.heap.size := ⟨_, rfl⟩
      have HS : Hid (CorInv al ah bl bh w (wr.alloc (.cells #[.int .i64 bl, .int .i64 bh] 2)) (corF al ah bl bh (2 * k + 0)) ∧ (wr.alloc (.cells #[.int .i64 bl, .int .i64 bh] 2)).heap[g2]? = some (.cells #[.int .i64 bl, .int .i64 bh] 2)) :=
        ⟨HI.out.ok ((Ok.refl _).alloc _), heap_at _ _ _ hg2⟩
      have HG : Hid (w.heap.size + 7 < g2) := by rw [hg2]; exact sz
      rw [← hg2]
      clear hg2 sz b0 b1 cx HI
      obtain ⟨W1, hW1⟩ : ∃ W1, W1 = wr.alloc (.cells #[.int .i64 bl, .int .i64 bh] 2) := ⟨_, rfl⟩
      rw [← hW1] at HS ⊢
      clear hW1
      go_loopw [34] (fun i v => ∃ j : Nat, j ≤ 2 ∧ i = .int .i64 j ∧ Hid (CorInv al ah bl bh w v (corF al ah bl bh (2 * k + j)) ∧ v.heap[g2]? = some (.cells #[.int .i64 bl, .int .i64 bh] 2))) (fun i _ => (2 - intOf i).toNat)
      case atStart => exact ⟨0, by omega, rfl, HS⟩
      case round =>
        obtain ⟨j, hj, rfl, HJ⟩ := hrel
        clear HS
        by_cases hj1 : j < 2
        · have hj2 : (j : Int) < 2 := by omega
          have cy := two_cell HJ.out.2 hj1
          obtain ⟨o0, o1, o2, o3⟩ := row_facts HJ.out.1.2.2.2.1
          have hy0 : ¬ two bl bh j = 0 := HY.out j
          have hy1 : (two bl bh j == 0) = false := by rw [beq_eq_false_iff_ne]; exact hy0
          have HSt : Hid (corF al ah bl bh (2 * k + (j + 1)) = joinI (corF al ah bl bh (2 * k + j)).1 (corF al ah bl bh (2 * k + j)).2 (quoI x (two bl bh j)) (quoI x (two bl bh j))) := by
            unfold Hid
            rw [show 2 * k + (j + 1) = (2 * k + j) + 1 by omega, corF, show (2 * k + j) / 2 = k by omega, show (2 * k + j) % 2 = j by omega, HX.out]
          obtain ⟨O, hO⟩ : ∃ O, O = corF al ah bl bh (2 * k + j) := ⟨_, rfl⟩
          rw [← hO] at HJ HSt o0 o1
          have HO : Hid _ := hO
          clear hO
          generalize two bl bh j = y at *
          have hbx : Ok wr wr := Ok.refl _
          have hby : Ok wr wr.drew := Below.drew (Ok.refl _)
          have hsz := lt_row HJ.out.2
          go_wp2_with fail
          go_region_with (first | (go_at_call 17; refine (rjoin_any _ _ _ _ wr _ (by assumption)).mono ?_; rintro e w3 ⟨rfl, hb3⟩; have HK : Hid _ := And.intro (CorInv.ok HJ.out.1 hb3) (Ok.row' hb3 HJ.out.2); obtain ⟨o0', o1', o2', o3'⟩ := row_facts HK.out.1.2.2.2.1) | fail)
          go_wp2_with fail
          go_roundw
          case rel =>
            refine ⟨j + 1, by omega, rfl, ?_⟩
            rw [HSt.out]
            have hq : IntKind.i64.wrap (x.tdiv y) = quoI x y := Go.IntWalk.i64_left _
            try rw [hq]
            have hq2 : wrap64 (x.tdiv y) = quoI x y := rfl
            try rw [hq2]
            refine ⟨HK.out.1.set _ _, ?_⟩
            rw [heap_setCell_other _ _ _ _ (show g2 ≠ w.heap.size + 6 by have := HG.out; omega), heap_setCell_other _ _ _ _ (show g2 ≠ w.heap.size + 6 by have := HG.out; omega)]
            exact HK.out.2
          case measure => simp only [intOf]; omega
        · have hj2 : j = 2 := by omega
          subst hj2
          go_wp2_with fail
          refine ⟨⟨k + 1, by omega, rfl, ?_⟩, by simp only [intOf]; omega⟩
          exact HJ.out.1
    · have hk2 : k = 2 := by omega
      subst hk2
      obtain ⟨o0, o1, o2, o3⟩ := row_facts HI.out.2.2.2.1
      obtain ⟨p0, p1, p2, p3⟩ := row_facts HI.out.2.2.1
      go_wp2_with fail
      (try simp only [Exit.inBlock, Exit.then])
      refine bodyPost_ret (results_cell_row rfl _ _ (w.heap.size + 2) 23 #[_, _] (0, 0) _ rfl (row_set2 HI.out.2.2.1 _ _) Try.underlying23 rfl infoI) rfl ?_
      exact ⟨rfl, (HI.out.1.set (show w.heap.size ≤ w.heap.size + 2 by omega) _).set (show w.heap.size ≤ w.heap.size + 2 by omega) _⟩
theorem joinI_one (q : Int) : joinI 1 0 q q = (q, q) := by unfold joinI normI; simp
theorem joinI_two (l h q : Int) (hl : l ≤ h) : joinI l h q q = (min l q, max h q) := by
  unfold joinI; rw [if_neg (by omega), if_neg (by omega)]
def cornersI (al ah bl bh : Int) : Int × Int :=
  if ah < al ∨ bh < bl then (1, 0) else (min4 (quoI al bl) (quoI al bh) (quoI ah bl) (quoI ah bh), max4 (quoI al bl) (quoI al bh) (quoI ah bl) (quoI ah bh))
theorem corF_end (al ah bl bh : Int) : corF al ah bl bh 4 = (min4 (quoI al bl) (quoI al bh) (quoI ah bl) (quoI ah bh), max4 (quoI al bl) (quoI al bh) (quoI ah bl) (quoI ah bh)) := by
  have h1 : corF al ah bl bh 1 = (quoI al bl, quoI al bl) := joinI_one _
  have h2 : corF al ah bl bh 2 = (min (quoI al bl) (quoI al bh), max (quoI al bl) (quoI al bh)) := by
    rw [corF, h1]; exact joinI_two _ _ _ (Int.le_refl _)
  have h3 : corF al ah bl bh 3 = (min (min (quoI al bl) (quoI al bh)) (quoI ah bl), max (max (quoI al bl) (quoI al bh)) (quoI ah bl)) := by
    rw [corF, h2]; exact joinI_two _ _ _ (by simp only; omega)
  rw [corF, h3]
  refine (joinI_two _ _ _ (by simp only; omega)).trans ?_
  show (min (min (min (quoI al bl) (quoI al bh)) (quoI ah bl)) (quoI ah bh), max (max (max (quoI al bl) (quoI al bh)) (quoI ah bl)) (quoI ah bh)) = _
  unfold min4 max4
  congr 1 <;> omega
set_option maxHeartbeats 2000000 in
theorem rcorners_any (al ah bl bh : Int) (w0 w : World) (hok : Ok w0 w) (hb0 : bl ≤ bh → bl ≠ 0 ∧ bh ≠ 0) :
    Calls Try.prog 68 #[.agg #[.int .i64 al, .int .i64 ah], .agg #[.int .i64 bl, .int .i64 bh]] w fun e w' => e = .returned (.agg #[.int .i64 (cornersI al ah bl bh).1, .int .i64 (cornersI al ah bl bh).2]) ∧ Ok w0 w' := by
  by_cases ha : ah < al
  · have E : Hid (cornersI al ah bl bh = (1, 0)) := by unfold Hid cornersI; rw [if_pos (Or.inl ha)]
    have d : decide (ah < al) = true := decide_eq_true ha
    go_enter Try.func68, Try.ntmps68
    go_wp2_with (first | (go_at_call 40; refine (rempty_ex _ _ _).mono ?_; rintro e w' ⟨rfl, rfl⟩) | (go_at_call 43; refine (rnone_any _).mono ?_; rintro e w' ⟨rfl, rfl⟩) | fail)
    (try simp only [Exit.inBlock, Exit.then]); refine bodyPost_ret (results_cell_row rfl _ _ (w.heap.size + 2) 23 #[_, _] (0, 0) _ rfl (by repeat (first | (refine heap_at _ _ _ ?hx; case hx => (first | (simp; done) | (simp; omega))) | (refine heap_past _ _ _ ?hy ?_; case hy => (first | (simp; done) | (simp; omega))) | fail)) Try.underlying23 rfl infoI) rfl ?_
    exact ⟨reti E.out, (by repeat (first | exact hok | refine Ok.alloc ?_ _ | refine Ok.draws ?_ _ | fail))⟩
  · by_cases hb : bh < bl
    · have E : Hid (cornersI al ah bl bh = (1, 0)) := by unfold Hid cornersI; rw [if_pos (Or.inr hb)]
      have d : decide (ah < al) = false := decide_eq_false ha
      have d2 : decide (bh < bl) = true := decide_eq_true hb
      go_enter Try.func68, Try.ntmps68
      go_wp2_with (first | (go_at_call 40; refine (rempty_ex _ _ _).mono ?_; rintro e w' ⟨rfl, rfl⟩) | (go_at_call 43; refine (rnone_any _).mono ?_; rintro e w' ⟨rfl, rfl⟩) | fail)
      (try simp only [Exit.inBlock, Exit.then]); refine bodyPost_ret (results_cell_row rfl _ _ (w.heap.size + 2) 23 #[_, _] (0, 0) _ rfl (by repeat (first | (refine heap_at _ _ _ ?hx; case hx => (first | (simp; done) | (simp; omega))) | (refine heap_past _ _ _ ?hy ?_; case hy => (first | (simp; done) | (simp; omega))) | fail)) Try.underlying23 rfl infoI) rfl ?_
      exact ⟨reti E.out, (by repeat (first | exact hok | refine Ok.alloc ?_ _ | refine Ok.draws ?_ _ | fail))⟩
    · obtain ⟨h0, h1⟩ := hb0 (by omega)
      have E : cornersI al ah bl bh = corF al ah bl bh 4 := by rw [corF_end]; unfold cornersI; rw [if_neg (by omega)]
      rw [E]
      exact (rcorners_c al ah bl bh w (by omega) (by omega) h0 h1).mono (fun e w' h => ⟨h.1, hok.step h.2⟩)
end Go.Proofs.Ytdbdgpcbhojcnaa
