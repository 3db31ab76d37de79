import Derived.Test.YtbkblijoimmdeaaGreatKCint
import Derived.Test.YtbkblijoimmdeaaGreatKCjn
set_option linter.unusedVariables false
set_option linter.unusedSimpArgs false
set_option linter.unnecessarySimpa false
/- Cset -/
namespace Go.Proofs.YtbkblijoimmdeaaGreat
open Go.RowKit
set_option maxHeartbeats 400000 in
theorem cconst_any (v : Int) (w0 w : World) (hok : Ok w0 w) :
    Calls Tryz.prog 43 #[.int .i64 v] w fun e w' => e = .returned (cv 0 (bitsN v)) ∧ Ok w0 w' := by
  have E : Hid ((bitsN v : Int) = IntKind.u64.wrap v) := by unfold Hid bitsN; rw [u64w]; omega
  unfold cv
  go_enter Tryz.func43, Tryz.ntmps43
  go_wp2
  (try simp only [Exit.inBlock, Exit.then]); refine bodyPost_ret (results_cell_row rfl _ _ (w.heap.size) 27 #[_, _] (0, 0) _ rfl (by repeat (first | (refine heap_at _ _ _ ?hx; case hx => (first | (simp; done) | (simp; omega))) | (refine heap_past _ _ _ ?hy ?_; case hy => (first | (simp; done) | (simp; omega))) | fail)) Tryz.underlying27 rfl infoCg) rfl ?_
  rw [E.out]
  exact ⟨rfl, (by repeat (first | exact hok | refine Ok.alloc ?_ _ | refine Ok.draws ?_ _ | fail))⟩
set_option maxHeartbeats 400000 in
theorem cnorm_any (M R : Nat) (w0 w : World) (hok : Ok w0 w) :
    Calls Tryz.prog 57 #[cv M R] w fun e w' => e = .returned (cv (normC M R).1 (normC M R).2) ∧ Ok w0 w' := by
  unfold cv
  by_cases h : 0 < M
  · have E : Hid (normC M R = (M, R % M)) := by unfold Hid normC; rw [if_pos h]
    have h1 : (0 : Int) < (M : Int) := by omega
    have h2 : ¬ (M : Int) = 0 := by omega
    have h3 : ((M : Int) == 0) = false := by simp; omega
    clear h
    go_enter Tryz.func57, Tryz.ntmps57
    go_wp2
    (try simp only [Exit.inBlock, Exit.then]); refine bodyPost_ret (results_cell_row rfl _ _ (w.heap.size + 1) 27 #[_, _] (0, 0) _ rfl (by repeat (first | (refine heap_at _ _ _ ?hx; case hx => (first | (simp; done) | (simp; omega))) | (refine heap_past _ _ _ ?hy ?_; case hy => (first | (simp; done) | (simp; omega))) | fail)) Tryz.underlying27 rfl infoCg) rfl ?_
    rw [E.out, Int.natCast_emod]
    exact ⟨rfl, (by repeat (first | exact hok | refine Ok.alloc ?_ _ | refine Ok.draws ?_ _ | fail))⟩
  · have E : Hid (normC M R = (M, R)) := by unfold Hid normC; rw [if_neg h]
    have h1 : ¬ (0 : Int) < (M : Int) := by omega
    clear h
    go_enter Tryz.func57, Tryz.ntmps57
    go_wp2
    (try simp only [Exit.inBlock, Exit.then]); refine bodyPost_ret (results_cell_row rfl _ _ (w.heap.size + 1) 27 #[_, _] (0, 0) _ rfl (by repeat (first | (refine heap_at _ _ _ ?hx; case hx => (first | (simp; done) | (simp; omega))) | (refine heap_past _ _ _ ?hy ?_; case hy => (first | (simp; done) | (simp; omega))) | fail)) Tryz.underlying27 rfl infoCg) rfl ?_
    rw [E.out]
    exact ⟨rfl, (by repeat (first | exact hok | refine Ok.alloc ?_ _ | refine Ok.draws ?_ _ | fail))⟩
set_option maxRecDepth 100000 in
set_option maxHeartbeats 4000000 in
theorem cleq_any (cM cR dM dR : Nat) (h1 : U64 cM) (h2 : U64 cR) (h3 : U64 dM) (h4 : U64 dR) (w0 w : World) (hok : Ok w0 w) :
    Calls Tryz.prog 58 #[cv cM cR, cv dM dR] w fun e w' => e = .returned (.bool (leqC cM cR dM dR)) ∧ Ok w0 w' := by
  have hle := hok.le
  have HU : Hid _ := And.intro h1 (And.intro h2 (And.intro h3 h4))
  clear h1 h2 h3 h4
  by_cases hd : dM = 0
  · have E : Hid (leqC cM cR dM dR = (decide (cM = 0) && decide (cR = dR))) := by unfold Hid leqC; rw [if_pos hd]
    have hd1 : (dM : Int) = 0 := by omega
    unfold cv
    by_cases hc : cM = 0
    · have hc1 : (cM : Int) = 0 := by omega
      have E2 : Hid (((cR : Int) == (dR : Int)) = leqC cM cR dM dR) := by
        unfold Hid; rw [E.out, decide_eq_true hc, Bool.true_and]
        by_cases e : cR = dR
        · simp [e]
        · simp [e]; omega
      clear hd hc
      rw [hd1, hc1]
      clear hd1 hc1
      go_enter Tryz.func58, Tryz.ntmps58
      go_wp2_with fail
      go_ret
      exact ⟨retb E2.out, (by repeat (first | exact hok | refine Ok.alloc ?_ _ | refine Ok.draws ?_ _ | fail))⟩
    · have hc1 : ((cM : Int) == 0) = false := by simp; omega
      have E2 : Hid (false = leqC cM cR dM dR) := by unfold Hid; rw [E.out, decide_eq_false hc, Bool.false_and]
      clear hd hc
      rw [hd1]
      clear hd1
      go_enter Tryz.func58, Tryz.ntmps58
      go_wp2_with fail
      go_ret
      exact ⟨retb E2.out, (by repeat (first | exact hok | refine Ok.alloc ?_ _ | refine Ok.draws ?_ _ | fail))⟩
  · have E : Hid (leqC cM cR dM dR = (decide (cM % dM = 0) && decide (restN (rF cM cR) (rS cM cR) dM = restN (rF dM dR) (rS dM dR) dM))) := by unfold Hid leqC; rw [if_neg hd]
    have hd1 : ((dM : Int) == 0) = false := by simp; omega
    have hd2 : ¬ (dM : Int) = 0 := by omega
    have hd3 : ¬ dM = 0 := hd
    have hd4 : (dM == 0) = false := by simp [hd]
    have hd5 : (0 : Int) ≤ (dM : Int) := by omega
    have hd6 : (0 : Int) ≤ (cM : Int) := by omega
    have hd7 : (cM : Int).tmod (dM : Int) = (cM : Int) % (dM : Int) := Int.tmod_eq_emod_of_nonneg (by omega)
    have HD : Hid (0 < dM) := by unfold Hid; omega
    have HB : Hid (Big dM ∧ Big (rF cM cR) ∧ Big (rF dM dR)) := by
      have a := rF_rng HU.out.1 HU.out.2.1
      have b := rF_rng HU.out.2.2.1 HU.out.2.2.2
      have c := HU.out.2.2.1
      unfold U64 at c; unfold Hid Big; omega
    obtain ⟨f1, hf1⟩ : ∃ f, f = rF cM cR := ⟨_, rfl⟩
    obtain ⟨s1, hs1⟩ : ∃ s, s = rS cM cR := ⟨_, rfl⟩
    obtain ⟨f2, hf2⟩ : ∃ f, f = rF dM dR := ⟨_, rfl⟩
    obtain ⟨s2, hs2⟩ : ∃ s, s = rS dM dR := ⟨_, rfl⟩
    obtain ⟨t1, ht1⟩ : ∃ t, t = restN f1 s1 dM := ⟨_, rfl⟩
    obtain ⟨t2, ht2⟩ : ∃ t, t = restN f2 s2 dM := ⟨_, rfl⟩
    rw [← hf1, ← hs1, ← hf2, ← hs2, ← ht1, ← ht2] at E
    rw [← hf1, ← hf2] at HB
    have HF : Hid _ := And.intro hf1 (And.intro hs1 (And.intro hf2 (And.intro hs2 (And.intro ht1 ht2))))
    clear hf1 hs1 hf2 hs2 ht1 ht2 hd
    by_cases hc : cM % dM = 0
    · have hc1 : ((cM : Int) % (dM : Int) == 0) = true := by rw [← Int.natCast_emod, hc]; rfl
      have hc2 : (cM : Int) % (dM : Int) = 0 := by rw [← Int.natCast_emod, hc]; rfl
      rw [decide_eq_true hc, Bool.true_and] at E
      have E2 : Hid ((loB t1 == loB t2) = leqC cM cR dM dR) := by
        have a := restN_lt (f := f1) (s := s1) HD.out
        have b := restN_lt (f := f2) (s := s2) HD.out
        have c := HU.out.2.2.1
        rw [← HF.out.2.2.2.2.1] at a
        rw [← HF.out.2.2.2.2.2] at b
        unfold U64 at c
        unfold Hid
        rw [E.out, (big_small (n := t1) (by omega)).2, (big_small (n := t2) (by omega)).2]
        by_cases e : t1 = t2
        · simp [e]
        · simp [e]; omega
      have p1 : hiB t1 = 0 := by
        have a := restN_lt (f := f1) (s := s1) HD.out
        have c := HU.out.2.2.1
        rw [← HF.out.2.2.2.2.1] at a
        unfold U64 at c
        exact (big_small (by omega)).1
      have p2 : hiB t2 = 0 := by
        have b := restN_lt (f := f2) (s := s2) HD.out
        have c := HU.out.2.2.1
        rw [← HF.out.2.2.2.2.2] at b
        unfold U64 at c
        exact (big_small (by omega)).1
      clear hc
      by_cases ee : loB t1 = loB t2
      · have e1 : (loB t1 == loB t2) = true := by simp [ee]
        rw [e1] at E2
        unfold cv
        go_enter Tryz.func58, Tryz.ntmps58
        go_wp2_with fail
        obtain ⟨W, hW⟩ : ∃ W, W = (w.alloc (.cells #[.int .u64 (cM : Int), .int .u64 (cR : Int)] 27)).alloc (.cells #[.int .u64 (dM : Int), .int .u64 (dR : Int)] 27) := ⟨_, rfl⟩
        have ra : W.heap[w.heap.size]? = some (.cells #[.int .u64 (cM : Int), .int .u64 (cR : Int)] 27) := by rw [hW]; exact (by repeat (first | (refine heap_at _ _ _ ?hx; case hx => (first | (simp; done) | (simp; omega))) | (refine heap_past _ _ _ ?hy ?_; case hy => (first | (simp; done) | (simp; omega))) | fail))
        have rr : W.heap[w.heap.size + 1]? = some (.cells #[.int .u64 (dM : Int), .int .u64 (dR : Int)] 27) := by rw [hW]; exact (by repeat (first | (refine heap_at _ _ _ ?hx; case hx => (first | (simp; done) | (simp; omega))) | (refine heap_past _ _ _ ?hy ?_; case hy => (first | (simp; done) | (simp; omega))) | fail))
        have HW : Hid (Ok w0 W) := by rw [hW]; exact (by repeat (first | exact hok | refine Ok.alloc ?_ _ | refine Ok.draws ?_ _ | fail))
        rw [← hW]
        clear hW hok
        obtain ⟨g0, g1, _, _⟩ := row_facts ra
        obtain ⟨g2, g3, _, _⟩ := row_facts rr
        have z0 := lt_row ra
        have z1 := lt_row rr
        clear ra rr
        have bz : Ok W W := Ok.refl _
        go_region_held3 (fun w' => w'.cell? ⟨w.heap.size, 0, none⟩ = some (.int .u64 (cM : Int)) ∧ w'.cell? ⟨w.heap.size, 1, none⟩ = some (.int .u64 (cR : Int)) ∧ w'.cell? ⟨w.heap.size + 1, 0, none⟩ = some (.int .u64 (dM : Int)) ∧ w'.cell? ⟨w.heap.size + 1, 1, none⟩ = some (.int .u64 (dR : Int))) (go_keep)
          (first
          | (go_at_call 98; refine (cr_any _ _ (by first | exact HU.out.1 | exact HU.out.2.2.1) (by first | exact HU.out.2.1 | exact HU.out.2.2.2) W _ (by repeat (first | assumption | refine Ok.alloc ?_ _ | refine Below.drew ?_))).mono ?_; rintro e w' ⟨rfl, hb⟩; (first | rw [← HF.out.1, ← HF.out.2.1] | rw [← HF.out.2.2.1, ← HF.out.2.2.2.1]); have q0 := Ok.cell hb z0 g0; have q1 := Ok.cell hb z0 g1; have q2 := Ok.cell hb z1 g2; have q3 := Ok.cell hb z1 g3)
          | (go_at_call 60; refine (bof_any dM HU.out.2.2.1 W _ (by repeat (first | assumption | refine Ok.alloc ?_ _ | refine Below.drew ?_))).mono ?_; rintro e w' ⟨rfl, hb⟩; have q0 := Ok.cell hb z0 g0; have q1 := Ok.cell hb z0 g1; have q2 := Ok.cell hb z1 g2; have q3 := Ok.cell hb z1 g3)
          | (go_at_call 97; refine (crest_any _ _ dM (by first | exact HB.out.2.1 | exact HB.out.2.2) HB.out.1 HD.out W _ (by repeat (first | assumption | refine Ok.alloc ?_ _ | refine Below.drew ?_))).mono ?_; rintro e w' ⟨rfl, hb⟩; (first | rw [← HF.out.2.2.2.2.1] | rw [← HF.out.2.2.2.2.2]); unfold bv; have q0 := Ok.cell hb z0 g0; have q1 := Ok.cell hb z0 g1; have q2 := Ok.cell hb z1 g2; have q3 := Ok.cell hb z1 g3)
          | fail)
        go_wp2_with fail
        go_ret
        exact ⟨retb E2.out, by repeat (first | exact HW.out.step hb | refine Ok.draws ?_ _)⟩
      · have e1 : (loB t1 == loB t2) = false := by simp [ee]
        rw [e1] at E2
        unfold cv
        go_enter Tryz.func58, Tryz.ntmps58
        go_wp2_with fail
        obtain ⟨W, hW⟩ : ∃ W, W = (w.alloc (.cells #[.int .u64 (cM : Int), .int .u64 (cR : Int)] 27)).alloc (.cells #[.int .u64 (dM : Int), .int .u64 (dR : Int)] 27) := ⟨_, rfl⟩
        have ra : W.heap[w.heap.size]? = some (.cells #[.int .u64 (cM : Int), .int .u64 (cR : Int)] 27) := by rw [hW]; exact (by repeat (first | (refine heap_at _ _ _ ?hx; case hx => (first | (simp; done) | (simp; omega))) | (refine heap_past _ _ _ ?hy ?_; case hy => (first | (simp; done) | (simp; omega))) | fail))
        have rr : W.heap[w.heap.size + 1]? = some (.cells #[.int .u64 (dM : Int), .int .u64 (dR : Int)] 27) := by rw [hW]; exact (by repeat (first | (refine heap_at _ _ _ ?hx; case hx => (first | (simp; done) | (simp; omega))) | (refine heap_past _ _ _ ?hy ?_; case hy => (first | (simp; done) | (simp; omega))) | fail))
        have HW : Hid (Ok w0 W) := by rw [hW]; exact (by repeat (first | exact hok | refine Ok.alloc ?_ _ | refine Ok.draws ?_ _ | fail))
        rw [← hW]
        clear hW hok
        obtain ⟨g0, g1, _, _⟩ := row_facts ra
        obtain ⟨g2, g3, _, _⟩ := row_facts rr
        have z0 := lt_row ra
        have z1 := lt_row rr
        clear ra rr
        have bz : Ok W W := Ok.refl _
        go_region_held3 (fun w' => w'.cell? ⟨w.heap.size, 0, none⟩ = some (.int .u64 (cM : Int)) ∧ w'.cell? ⟨w.heap.size, 1, none⟩ = some (.int .u64 (cR : Int)) ∧ w'.cell? ⟨w.heap.size + 1, 0, none⟩ = some (.int .u64 (dM : Int)) ∧ w'.cell? ⟨w.heap.size + 1, 1, none⟩ = some (.int .u64 (dR : Int))) (go_keep)
          (first
          | (go_at_call 98; refine (cr_any _ _ (by first | exact HU.out.1 | exact HU.out.2.2.1) (by first | exact HU.out.2.1 | exact HU.out.2.2.2) W _ (by repeat (first | assumption | refine Ok.alloc ?_ _ | refine Below.drew ?_))).mono ?_; rintro e w' ⟨rfl, hb⟩; (first | rw [← HF.out.1, ← HF.out.2.1] | rw [← HF.out.2.2.1, ← HF.out.2.2.2.1]); have q0 := Ok.cell hb z0 g0; have q1 := Ok.cell hb z0 g1; have q2 := Ok.cell hb z1 g2; have q3 := Ok.cell hb z1 g3)
          | (go_at_call 60; refine (bof_any dM HU.out.2.2.1 W _ (by repeat (first | assumption | refine Ok.alloc ?_ _ | refine Below.drew ?_))).mono ?_; rintro e w' ⟨rfl, hb⟩; have q0 := Ok.cell hb z0 g0; have q1 := Ok.cell hb z0 g1; have q2 := Ok.cell hb z1 g2; have q3 := Ok.cell hb z1 g3)
          | (go_at_call 97; refine (crest_any _ _ dM (by first | exact HB.out.2.1 | exact HB.out.2.2) HB.out.1 HD.out W _ (by repeat (first | assumption | refine Ok.alloc ?_ _ | refine Below.drew ?_))).mono ?_; rintro e w' ⟨rfl, hb⟩; (first | rw [← HF.out.2.2.2.2.1] | rw [← HF.out.2.2.2.2.2]); unfold bv; have q0 := Ok.cell hb z0 g0; have q1 := Ok.cell hb z0 g1; have q2 := Ok.cell hb z1 g2; have q3 := Ok.cell hb z1 g3)
          | fail)
        go_wp2_with fail
        go_ret
        exact ⟨retb E2.out, by repeat (first | exact HW.out.step hb | refine Ok.draws ?_ _)⟩
    · have hc1 : ((cM : Int) % (dM : Int) == 0) = false := by rw [← Int.natCast_emod]; simp; omega
      rw [decide_eq_false hc, Bool.false_and] at E
      have hc2 : ¬ (cM : Int) % (dM : Int) = 0 := by rw [← Int.natCast_emod]; omega
      clear hc
      unfold cv
      go_enter Tryz.func58, Tryz.ntmps58
      go_wp2_with fail
      go_quiet (fail)
      go_wp2_with fail
      go_ret
      exact ⟨retb E.out.symm, by repeat (first | exact hok | refine Ok.draws ?_ _ | refine Ok.alloc ?_ _)⟩
end Go.Proofs.YtbkblijoimmdeaaGreat
