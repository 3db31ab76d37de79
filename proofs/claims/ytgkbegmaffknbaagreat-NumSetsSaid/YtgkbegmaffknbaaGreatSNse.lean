import Derived.Deep.Cut
import Derived.Test.YtgkbegmaffknbaaGreatSNx
import Derived.Test.YtgkbegmaffknbaaGreatSRm
import Derived.Test.YtgkbegmaffknbaaGreatSRz
set_option linter.unusedVariables false
set_option linter.unusedSimpArgs false
set_option linter.unnecessarySimpa false
/- Nse -/
namespace Go.Proofs.YtgkbegmaffknbaaGreat
open Go.RowKit

set_option maxRecDepth 100000 in
set_option maxHeartbeats 40000000 in
theorem sets13_any (a b : Int × Int × Nat × Nat × Bool) (v : Int) (ha : RawN a) (hb : RawN b) (hv : In64 v) (w0 w : World) (hok : Ok w0 w) :
    Calls Tryz.prog 6 #[nv a, nv b, .int .i64 v] w fun e w' => e = .returned (.bool true) ∧ Ok w0 w' := by
  have hle := hok.le
  have HU : Hid (RawN a ∧ RawN b ∧ In64 v) := ⟨ha, hb, hv⟩
  clear ha hb hv
  obtain ⟨tp, htp⟩ : ∃ t, t = topN := ⟨_, rfl⟩
  have HTP : Hid _ := htp
  obtain ⟨bo, hbo⟩ : ∃ t, t = botN := ⟨_, rfl⟩
  have HBO : Hid _ := hbo
  obtain ⟨mk, hmk⟩ : ∃ t, t = makeN a.1 a.2.1 b.2.2.1 b.2.2.2.1 := ⟨_, rfl⟩
  have HMK : Hid _ := hmk
  obtain ⟨na, hna⟩ : ∃ t, t = normN a := ⟨_, rfl⟩
  have HNA : Hid _ := hna
  obtain ⟨co, hco⟩ : ∃ t, t = constN v := ⟨_, rfl⟩
  have HCO : Hid _ := hco
  obtain ⟨rg, hrg⟩ : ∃ t, t = makeN a.1 b.2.1 1 0 := ⟨_, rfl⟩
  have HRG : Hid _ := hrg
  obtain ⟨ip, hip⟩ : ∃ t, t = insN a v := ⟨_, rfl⟩
  have HIP : Hid _ := hip
  obtain ⟨lq, hlq⟩ : ∃ t, t = lqN a b := ⟨_, rfl⟩
  have HLQ : Hid _ := hlq
  obtain ⟨nz, hnz⟩ : ∃ t, t = nonZeroN a := ⟨_, rfl⟩
  have HNZ : Hid _ := hnz
  obtain ⟨jo, hjo⟩ : ∃ t, t = joinN a b := ⟨_, rfl⟩
  have HJO : Hid _ := hjo
  obtain ⟨me, hme⟩ : ∃ t, t = meetN a b := ⟨_, rfl⟩
  have HME : Hid _ := hme
  clear htp hbo hmk hna hco hrg hip hlq hnz hjo hme
  unfold nv
  go_enter Tryz.func6, Tryz.ntmps6
  go_wp2_with fail
  obtain ⟨W0, hW0⟩ : ∃ W, W = ((w).alloc (.cells #[.bool a.2.2.2.2, .int .i64 a.1, .int .i64 a.2.1, .int .u64 (a.2.2.1 : Int), .int .u64 (a.2.2.2.1 : Int)] 28)).alloc (.cells #[.bool b.2.2.2.2, .int .i64 b.1, .int .i64 b.2.1, .int .u64 (b.2.2.1 : Int), .int .u64 (b.2.2.2.1 : Int)] 28) := ⟨_, rfl⟩
  have ra : Hid (W0.heap[w.heap.size]? = some (.cells #[.bool a.2.2.2.2, .int .i64 a.1, .int .i64 a.2.1, .int .u64 (a.2.2.1 : Int), .int .u64 (a.2.2.2.1 : Int)] 28)) := by unfold Hid; rw [hW0]; exact (by repeat (first | (refine heap_at _ _ _ ?hx; case hx => (first | (simp; done) | (simp; omega))) | (refine heap_past _ _ _ ?hy ?_; case hy => (first | (simp; done) | (simp; omega))) | fail))
  have rb : Hid (W0.heap[w.heap.size + 1]? = some (.cells #[.bool b.2.2.2.2, .int .i64 b.1, .int .i64 b.2.1, .int .u64 (b.2.2.1 : Int), .int .u64 (b.2.2.2.1 : Int)] 28)) := by unfold Hid; rw [hW0]; exact (by repeat (first | (refine heap_at _ _ _ ?hx; case hx => (first | (simp; done) | (simp; omega))) | (refine heap_past _ _ _ ?hy ?_; case hy => (first | (simp; done) | (simp; omega))) | fail))
  have HW0 : Hid (Ok w0 W0) := by unfold Hid; rw [hW0]; exact (by repeat (first | exact hok | refine Ok.alloc ?_ _ | refine Ok.draws ?_ _ | fail))
  rw [← hW0]
  clear hW0
  obtain ⟨gb, egb⟩ : ∃ g, g = w.heap.size + 1 := ⟨_, rfl⟩
  rw [← egb] at rb ⊢
  obtain ⟨ga, ega⟩ : ∃ g, g = w.heap.size := ⟨_, rfl⟩
  rw [← ega] at ra ⊢
  have lga : w0.heap.size ≤ ga := by omega
  have ngagb : ¬ ga = gb := by omega
  have lgb : w0.heap.size ≤ gb := by omega
  have ngbga : ¬ gb = ga := by omega
  clear ega egb
  refine (works13 W0 _ (Ok.refl _)).mono ?_
  rintro e W1 ⟨rfl, hb⟩
  replace ra : Hid _ := Ok.row' hb ra.out
  replace rb : Hid _ := Ok.row' hb rb.out
  have HW1 : Hid (Ok w0 W1) := HW0.out.step hb
  clear hb HW0
  go_wp2_with fail
  refine (ntop_any W1 _ (Ok.refl _)).mono ?_
  rintro e W2 ⟨rfl, hb⟩
  rw [← HTP.out]
  unfold nv
  replace ra : Hid _ := Ok.row' hb ra.out
  replace rb : Hid _ := Ok.row' hb rb.out
  have HW2 : Hid (Ok w0 W2) := HW1.out.step hb
  clear hb HW1
  go_wp2_with fail
  refine (rtop_any W2 _ (Ok.refl _)).mono ?_
  rintro e W3 ⟨rfl, hb⟩
  rw [← HTP.out]
  unfold nv
  replace ra : Hid _ := Ok.row' hb ra.out
  replace rb : Hid _ := Ok.row' hb rb.out
  have HW3 : Hid (Ok w0 W3) := HW2.out.step hb
  clear hb HW2
  go_wp2_with fail
  refine (nbot_any W3 _ (Ok.refl _)).mono ?_
  rintro e W4 ⟨rfl, hb⟩
  rw [← HBO.out]
  unfold nv
  replace ra : Hid _ := Ok.row' hb ra.out
  replace rb : Hid _ := Ok.row' hb rb.out
  have HW4 : Hid (Ok w0 W4) := HW3.out.step hb
  clear hb HW3
  go_wp2_with fail
  refine (rbot_any W4 _ (Ok.refl _)).mono ?_
  rintro e W5 ⟨rfl, hb⟩
  rw [← HBO.out]
  unfold nv
  replace ra : Hid _ := Ok.row' hb ra.out
  replace rb : Hid _ := Ok.row' hb rb.out
  have HW5 : Hid (Ok w0 W5) := HW4.out.step hb
  clear hb HW4
  go_wp2_with fail
  go_cut [60] from 19 to 60 (fun s60 u => Hid (s60 = .bool false ∧ Ok W5 u))
  case first =>
    as_aux_lemma =>
      have zz := row5_facts (ra.out)
      have aa0 := zz.1
      have aa1 := zz.2.1
      have aa2 := zz.2.2.1
      have aa3 := zz.2.2.2.1
      have aa4 := zz.2.2.2.2.1
      have aa5 := zz.2.2.2.2.2.1
      have aa6 := zz.2.2.2.2.2.2.1
      have aa7 := zz.2.2.2.2.2.2.2.1
      have aa8 := zz.2.2.2.2.2.2.2.2.1
      have aa9 := zz.2.2.2.2.2.2.2.2.2
      clear zz
      have za := lt_row ra.out
      have zz := row5_facts (rb.out)
      have bb0 := zz.1
      have bb1 := zz.2.1
      have bb2 := zz.2.2.1
      have bb3 := zz.2.2.2.1
      have bb4 := zz.2.2.2.2.1
      have bb5 := zz.2.2.2.2.2.1
      have bb6 := zz.2.2.2.2.2.2.1
      have bb7 := zz.2.2.2.2.2.2.2.1
      have bb8 := zz.2.2.2.2.2.2.2.2.1
      have bb9 := zz.2.2.2.2.2.2.2.2.2
      clear zz
      have zb := lt_row rb.out
      have bz : Ok W5 W5 := Ok.refl _
      go_region_held3 (fun w' => w'.cell? ⟨ga, 0, none⟩ = some (.bool a.2.2.2.2) ∧ w'.cell? ⟨ga, 1, none⟩ = some (.int .i64 a.1) ∧ w'.cell? ⟨ga, 2, none⟩ = some (.int .i64 a.2.1) ∧ w'.cell? ⟨ga, 3, none⟩ = some (.int .u64 (a.2.2.1 : Int)) ∧ w'.cell? ⟨ga, 4, none⟩ = some (.int .u64 (a.2.2.2.1 : Int)) ∧ w'.cell? ⟨gb, 0, none⟩ = some (.bool b.2.2.2.2) ∧ w'.cell? ⟨gb, 1, none⟩ = some (.int .i64 b.1) ∧ w'.cell? ⟨gb, 2, none⟩ = some (.int .i64 b.2.1) ∧ w'.cell? ⟨gb, 3, none⟩ = some (.int .u64 (b.2.2.1 : Int)) ∧ w'.cell? ⟨gb, 4, none⟩ = some (.int .u64 (b.2.2.2.1 : Int))) (go_keep)
        (first
        | (go_at_call 27; refine (nmake_any _ _ _ _ HU.out.1.1 HU.out.1.2.1 HU.out.2.1.2.2.1 HU.out.2.1.2.2.2 W5 _ (by repeat (first | assumption | refine Ok.alloc ?_ _ | refine Below.drew ?_))).mono ?_; rintro e w' ⟨rfl, hb⟩; rw [← HMK.out]; unfold nv; have q0 := Ok.cell hb za aa0; have q1 := Ok.cell hb za aa1; have q2 := Ok.cell hb za aa2; have q3 := Ok.cell hb za aa3; have q4 := Ok.cell hb za aa4; have q5 := Ok.cell hb zb bb0; have q6 := Ok.cell hb zb bb1; have q7 := Ok.cell hb zb bb2; have q8 := Ok.cell hb zb bb3; have q9 := Ok.cell hb zb bb4)
        | (go_at_call 28; refine (rmake_any _ _ _ _ HU.out.1.1 HU.out.1.2.1 HU.out.2.1.2.2.1 HU.out.2.1.2.2.2 W5 _ (by repeat (first | assumption | refine Ok.alloc ?_ _ | refine Below.drew ?_))).mono ?_; rintro e w' ⟨rfl, hb⟩; rw [← HMK.out]; unfold nv; have q0 := Ok.cell hb za aa0; have q1 := Ok.cell hb za aa1; have q2 := Ok.cell hb za aa2; have q3 := Ok.cell hb za aa3; have q4 := Ok.cell hb za aa4; have q5 := Ok.cell hb zb bb0; have q6 := Ok.cell hb zb bb1; have q7 := Ok.cell hb zb bb2; have q8 := Ok.cell hb zb bb3; have q9 := Ok.cell hb zb bb4)
        | (go_at_call 10; refine (nnorm_any a HU.out.1 W5 _ (by repeat (first | assumption | refine Ok.alloc ?_ _ | refine Below.drew ?_))).mono ?_; rintro e w' ⟨rfl, hb⟩; rw [← HNA.out]; unfold nv; have q0 := Ok.cell hb za aa0; have q1 := Ok.cell hb za aa1; have q2 := Ok.cell hb za aa2; have q3 := Ok.cell hb za aa3; have q4 := Ok.cell hb za aa4; have q5 := Ok.cell hb zb bb0; have q6 := Ok.cell hb zb bb1; have q7 := Ok.cell hb zb bb2; have q8 := Ok.cell hb zb bb3; have q9 := Ok.cell hb zb bb4)
        | (go_at_call 29; refine (rnorm_any a HU.out.1 W5 _ (by repeat (first | assumption | refine Ok.alloc ?_ _ | refine Below.drew ?_))).mono ?_; rintro e w' ⟨rfl, hb⟩; rw [← HNA.out]; unfold nv; have q0 := Ok.cell hb za aa0; have q1 := Ok.cell hb za aa1; have q2 := Ok.cell hb za aa2; have q3 := Ok.cell hb za aa3; have q4 := Ok.cell hb za aa4; have q5 := Ok.cell hb zb bb0; have q6 := Ok.cell hb zb bb1; have q7 := Ok.cell hb zb bb2; have q8 := Ok.cell hb zb bb3; have q9 := Ok.cell hb zb bb4)
        | (go_at_call 22; refine (nconst_any v W5 _ (by repeat (first | assumption | refine Ok.alloc ?_ _ | refine Below.drew ?_))).mono ?_; rintro e w' ⟨rfl, hb⟩; rw [← HCO.out]; unfold nv; have q0 := Ok.cell hb za aa0; have q1 := Ok.cell hb za aa1; have q2 := Ok.cell hb za aa2; have q3 := Ok.cell hb za aa3; have q4 := Ok.cell hb za aa4; have q5 := Ok.cell hb zb bb0; have q6 := Ok.cell hb zb bb1; have q7 := Ok.cell hb zb bb2; have q8 := Ok.cell hb zb bb3; have q9 := Ok.cell hb zb bb4)
        | (go_at_call 30; refine (rconst_any v W5 _ (by repeat (first | assumption | refine Ok.alloc ?_ _ | refine Below.drew ?_))).mono ?_; rintro e w' ⟨rfl, hb⟩; rw [← HCO.out]; unfold nv; have q0 := Ok.cell hb za aa0; have q1 := Ok.cell hb za aa1; have q2 := Ok.cell hb za aa2; have q3 := Ok.cell hb za aa3; have q4 := Ok.cell hb za aa4; have q5 := Ok.cell hb zb bb0; have q6 := Ok.cell hb zb bb1; have q7 := Ok.cell hb zb bb2; have q8 := Ok.cell hb zb bb3; have q9 := Ok.cell hb zb bb4)
        | (go_at_call 31; refine (nrange_any a.1 b.2.1 HU.out.1.1 HU.out.2.1.2.1 W5 _ (by repeat (first | assumption | refine Ok.alloc ?_ _ | refine Below.drew ?_))).mono ?_; rintro e w' ⟨rfl, hb⟩; rw [← HRG.out]; unfold nv; have q0 := Ok.cell hb za aa0; have q1 := Ok.cell hb za aa1; have q2 := Ok.cell hb za aa2; have q3 := Ok.cell hb za aa3; have q4 := Ok.cell hb za aa4; have q5 := Ok.cell hb zb bb0; have q6 := Ok.cell hb zb bb1; have q7 := Ok.cell hb zb bb2; have q8 := Ok.cell hb zb bb3; have q9 := Ok.cell hb zb bb4)
        | (go_at_call 32; refine (rrange_any a.1 b.2.1 HU.out.1.1 HU.out.2.1.2.1 W5 _ (by repeat (first | assumption | refine Ok.alloc ?_ _ | refine Below.drew ?_))).mono ?_; rintro e w' ⟨rfl, hb⟩; rw [← HRG.out]; unfold nv; have q0 := Ok.cell hb za aa0; have q1 := Ok.cell hb za aa1; have q2 := Ok.cell hb za aa2; have q3 := Ok.cell hb za aa3; have q4 := Ok.cell hb za aa4; have q5 := Ok.cell hb zb bb0; have q6 := Ok.cell hb zb bb1; have q7 := Ok.cell hb zb bb2; have q8 := Ok.cell hb zb bb3; have q9 := Ok.cell hb zb bb4)
        | fail)
      go_wp2_with fail
      go_meet
      case rel => exact ⟨rfl, hb⟩
  case rest =>
    obtain ⟨h60, hO⟩ := hcut.out
    subst h60
    obtain ⟨W6, ew⟩ : ∃ t, t = wc := ⟨_, rfl⟩
    rw [← ew] at hO ⊢
    clear hcut ew
    replace ra : Hid _ := Ok.row' hO ra.out
    replace rb : Hid _ := Ok.row' hO rb.out
    have HW6 : Hid (Ok w0 W6) := HW5.out.step hO
    clear hO HW5
    go_wp2_with fail
    go_cut [83] from 61 to 83 (fun s83 u => Hid (s83 = .bool false ∧ Ok W6 u))
    case first =>
      as_aux_lemma =>
        have zz := row5_facts (ra.out)
        have aa0 := zz.1
        have aa1 := zz.2.1
        have aa2 := zz.2.2.1
        have aa3 := zz.2.2.2.1
        have aa4 := zz.2.2.2.2.1
        have aa5 := zz.2.2.2.2.2.1
        have aa6 := zz.2.2.2.2.2.2.1
        have aa7 := zz.2.2.2.2.2.2.2.1
        have aa8 := zz.2.2.2.2.2.2.2.2.1
        have aa9 := zz.2.2.2.2.2.2.2.2.2
        clear zz
        have za := lt_row ra.out
        have zz := row5_facts (rb.out)
        have bb0 := zz.1
        have bb1 := zz.2.1
        have bb2 := zz.2.2.1
        have bb3 := zz.2.2.2.1
        have bb4 := zz.2.2.2.2.1
        have bb5 := zz.2.2.2.2.2.1
        have bb6 := zz.2.2.2.2.2.2.1
        have bb7 := zz.2.2.2.2.2.2.2.1
        have bb8 := zz.2.2.2.2.2.2.2.2.1
        have bb9 := zz.2.2.2.2.2.2.2.2.2
        clear zz
        have zb := lt_row rb.out
        have bz : Ok W6 W6 := Ok.refl _
        go_region_held3 (fun w' => w'.cell? ⟨ga, 0, none⟩ = some (.bool a.2.2.2.2) ∧ w'.cell? ⟨ga, 1, none⟩ = some (.int .i64 a.1) ∧ w'.cell? ⟨ga, 2, none⟩ = some (.int .i64 a.2.1) ∧ w'.cell? ⟨ga, 3, none⟩ = some (.int .u64 (a.2.2.1 : Int)) ∧ w'.cell? ⟨ga, 4, none⟩ = some (.int .u64 (a.2.2.2.1 : Int)) ∧ w'.cell? ⟨gb, 0, none⟩ = some (.bool b.2.2.2.2) ∧ w'.cell? ⟨gb, 1, none⟩ = some (.int .i64 b.1) ∧ w'.cell? ⟨gb, 2, none⟩ = some (.int .i64 b.2.1) ∧ w'.cell? ⟨gb, 3, none⟩ = some (.int .u64 (b.2.2.1 : Int)) ∧ w'.cell? ⟨gb, 4, none⟩ = some (.int .u64 (b.2.2.2.1 : Int))) (go_keep)
          (first
          | (go_at_call 15; refine (nhas_any a v HU.out.1 W6 _ (by repeat (first | assumption | refine Ok.alloc ?_ _ | refine Below.drew ?_))).mono ?_; rintro e w' ⟨rfl, hb⟩; rw [← HIP.out]; have q0 := Ok.cell hb za aa0; have q1 := Ok.cell hb za aa1; have q2 := Ok.cell hb za aa2; have q3 := Ok.cell hb za aa3; have q4 := Ok.cell hb za aa4; have q5 := Ok.cell hb zb bb0; have q6 := Ok.cell hb zb bb1; have q7 := Ok.cell hb zb bb2; have q8 := Ok.cell hb zb bb3; have q9 := Ok.cell hb zb bb4)
          | (go_at_call 33; refine (rnhas_any a v HU.out.1 W6 _ (by repeat (first | assumption | refine Ok.alloc ?_ _ | refine Below.drew ?_))).mono ?_; rintro e w' ⟨rfl, hb⟩; rw [← HIP.out]; have q0 := Ok.cell hb za aa0; have q1 := Ok.cell hb za aa1; have q2 := Ok.cell hb za aa2; have q3 := Ok.cell hb za aa3; have q4 := Ok.cell hb za aa4; have q5 := Ok.cell hb zb bb0; have q6 := Ok.cell hb zb bb1; have q7 := Ok.cell hb zb bb2; have q8 := Ok.cell hb zb bb3; have q9 := Ok.cell hb zb bb4)
          | (go_at_call 19; refine (nleq_any a b HU.out.1 HU.out.2.1 W6 _ (by repeat (first | assumption | refine Ok.alloc ?_ _ | refine Below.drew ?_))).mono ?_; rintro e w' ⟨rfl, hb⟩; rw [← HLQ.out]; have q0 := Ok.cell hb za aa0; have q1 := Ok.cell hb za aa1; have q2 := Ok.cell hb za aa2; have q3 := Ok.cell hb za aa3; have q4 := Ok.cell hb za aa4; have q5 := Ok.cell hb zb bb0; have q6 := Ok.cell hb zb bb1; have q7 := Ok.cell hb zb bb2; have q8 := Ok.cell hb zb bb3; have q9 := Ok.cell hb zb bb4)
          | (go_at_call 34; refine (rnleq_any a b HU.out.1 HU.out.2.1 W6 _ (by repeat (first | assumption | refine Ok.alloc ?_ _ | refine Below.drew ?_))).mono ?_; rintro e w' ⟨rfl, hb⟩; rw [← HLQ.out]; have q0 := Ok.cell hb za aa0; have q1 := Ok.cell hb za aa1; have q2 := Ok.cell hb za aa2; have q3 := Ok.cell hb za aa3; have q4 := Ok.cell hb za aa4; have q5 := Ok.cell hb zb bb0; have q6 := Ok.cell hb zb bb1; have q7 := Ok.cell hb zb bb2; have q8 := Ok.cell hb zb bb3; have q9 := Ok.cell hb zb bb4)
          | (go_at_call 13; refine (nnz_any a HU.out.1 W6 _ (by repeat (first | assumption | refine Ok.alloc ?_ _ | refine Below.drew ?_))).mono ?_; rintro e w' ⟨rfl, hb⟩; rw [← HNZ.out]; unfold nv; have q0 := Ok.cell hb za aa0; have q1 := Ok.cell hb za aa1; have q2 := Ok.cell hb za aa2; have q3 := Ok.cell hb za aa3; have q4 := Ok.cell hb za aa4; have q5 := Ok.cell hb zb bb0; have q6 := Ok.cell hb zb bb1; have q7 := Ok.cell hb zb bb2; have q8 := Ok.cell hb zb bb3; have q9 := Ok.cell hb zb bb4)
          | (go_at_call 35; refine (rnnz_any a HU.out.1 W6 _ (by repeat (first | assumption | refine Ok.alloc ?_ _ | refine Below.drew ?_))).mono ?_; rintro e w' ⟨rfl, hb⟩; rw [← HNZ.out]; unfold nv; have q0 := Ok.cell hb za aa0; have q1 := Ok.cell hb za aa1; have q2 := Ok.cell hb za aa2; have q3 := Ok.cell hb za aa3; have q4 := Ok.cell hb za aa4; have q5 := Ok.cell hb zb bb0; have q6 := Ok.cell hb zb bb1; have q7 := Ok.cell hb zb bb2; have q8 := Ok.cell hb zb bb3; have q9 := Ok.cell hb zb bb4)
          | fail)
        go_wp2_with fail
        go_meet
        case rel => exact ⟨rfl, hb⟩
    case rest =>
      obtain ⟨h83, hO⟩ := hcut.out
      subst h83
      obtain ⟨W7, ew⟩ : ∃ t, t = wc := ⟨_, rfl⟩
      rw [← ew] at hO ⊢
      clear hcut ew
      replace ra : Hid _ := Ok.row' hO ra.out
      replace rb : Hid _ := Ok.row' hO rb.out
      have HW7 : Hid (Ok w0 W7) := HW6.out.step hO
      clear hO HW6
      go_wp2_with fail
      go_cut [6] from 84 to 99 (fun s6 u => Hid (s6 = .bool true ∧ Ok W7 u))
      case first =>
        as_aux_lemma =>
          have zz := row5_facts (ra.out)
          have aa0 := zz.1
          have aa1 := zz.2.1
          have aa2 := zz.2.2.1
          have aa3 := zz.2.2.2.1
          have aa4 := zz.2.2.2.2.1
          have aa5 := zz.2.2.2.2.2.1
          have aa6 := zz.2.2.2.2.2.2.1
          have aa7 := zz.2.2.2.2.2.2.2.1
          have aa8 := zz.2.2.2.2.2.2.2.2.1
          have aa9 := zz.2.2.2.2.2.2.2.2.2
          clear zz
          have za := lt_row ra.out
          have zz := row5_facts (rb.out)
          have bb0 := zz.1
          have bb1 := zz.2.1
          have bb2 := zz.2.2.1
          have bb3 := zz.2.2.2.1
          have bb4 := zz.2.2.2.2.1
          have bb5 := zz.2.2.2.2.2.1
          have bb6 := zz.2.2.2.2.2.2.1
          have bb7 := zz.2.2.2.2.2.2.2.1
          have bb8 := zz.2.2.2.2.2.2.2.2.1
          have bb9 := zz.2.2.2.2.2.2.2.2.2
          clear zz
          have zb := lt_row rb.out
          have bz : Ok W7 W7 := Ok.refl _
          go_region_held3 (fun w' => w'.cell? ⟨ga, 0, none⟩ = some (.bool a.2.2.2.2) ∧ w'.cell? ⟨ga, 1, none⟩ = some (.int .i64 a.1) ∧ w'.cell? ⟨ga, 2, none⟩ = some (.int .i64 a.2.1) ∧ w'.cell? ⟨ga, 3, none⟩ = some (.int .u64 (a.2.2.1 : Int)) ∧ w'.cell? ⟨ga, 4, none⟩ = some (.int .u64 (a.2.2.2.1 : Int)) ∧ w'.cell? ⟨gb, 0, none⟩ = some (.bool b.2.2.2.2) ∧ w'.cell? ⟨gb, 1, none⟩ = some (.int .i64 b.1) ∧ w'.cell? ⟨gb, 2, none⟩ = some (.int .i64 b.2.1) ∧ w'.cell? ⟨gb, 3, none⟩ = some (.int .u64 (b.2.2.1 : Int)) ∧ w'.cell? ⟨gb, 4, none⟩ = some (.int .u64 (b.2.2.2.1 : Int))) (go_keep)
            (first
            | (go_at_call 11; refine (njoin_any a b HU.out.1 HU.out.2.1 W7 _ (by repeat (first | assumption | refine Ok.alloc ?_ _ | refine Below.drew ?_))).mono ?_; rintro e w' ⟨rfl, hb⟩; rw [← HJO.out]; unfold nv; have q0 := Ok.cell hb za aa0; have q1 := Ok.cell hb za aa1; have q2 := Ok.cell hb za aa2; have q3 := Ok.cell hb za aa3; have q4 := Ok.cell hb za aa4; have q5 := Ok.cell hb zb bb0; have q6 := Ok.cell hb zb bb1; have q7 := Ok.cell hb zb bb2; have q8 := Ok.cell hb zb bb3; have q9 := Ok.cell hb zb bb4)
            | (go_at_call 36; refine (rnjoin_any a b HU.out.1 HU.out.2.1 W7 _ (by repeat (first | assumption | refine Ok.alloc ?_ _ | refine Below.drew ?_))).mono ?_; rintro e w' ⟨rfl, hb⟩; rw [← HJO.out]; unfold nv; have q0 := Ok.cell hb za aa0; have q1 := Ok.cell hb za aa1; have q2 := Ok.cell hb za aa2; have q3 := Ok.cell hb za aa3; have q4 := Ok.cell hb za aa4; have q5 := Ok.cell hb zb bb0; have q6 := Ok.cell hb zb bb1; have q7 := Ok.cell hb zb bb2; have q8 := Ok.cell hb zb bb3; have q9 := Ok.cell hb zb bb4)
            | (go_at_call 12; refine (nmeet_any a b HU.out.1 HU.out.2.1 W7 _ (by repeat (first | assumption | refine Ok.alloc ?_ _ | refine Below.drew ?_))).mono ?_; rintro e w' ⟨rfl, hb⟩; rw [← HME.out]; unfold nv; have q0 := Ok.cell hb za aa0; have q1 := Ok.cell hb za aa1; have q2 := Ok.cell hb za aa2; have q3 := Ok.cell hb za aa3; have q4 := Ok.cell hb za aa4; have q5 := Ok.cell hb zb bb0; have q6 := Ok.cell hb zb bb1; have q7 := Ok.cell hb zb bb2; have q8 := Ok.cell hb zb bb3; have q9 := Ok.cell hb zb bb4)
            | (go_at_call 37; refine (rnmeet_any a b HU.out.1 HU.out.2.1 W7 _ (by repeat (first | assumption | refine Ok.alloc ?_ _ | refine Below.drew ?_))).mono ?_; rintro e w' ⟨rfl, hb⟩; rw [← HME.out]; unfold nv; have q0 := Ok.cell hb za aa0; have q1 := Ok.cell hb za aa1; have q2 := Ok.cell hb za aa2; have q3 := Ok.cell hb za aa3; have q4 := Ok.cell hb za aa4; have q5 := Ok.cell hb zb bb0; have q6 := Ok.cell hb zb bb1; have q7 := Ok.cell hb zb bb2; have q8 := Ok.cell hb zb bb3; have q9 := Ok.cell hb zb bb4)
            | fail)
          go_wp2_with fail
          go_meet
          case rel => exact ⟨rfl, hb⟩
      case rest =>
        obtain ⟨h6, hO⟩ := hcut.out
        subst h6
        obtain ⟨W8, ew⟩ : ∃ t, t = wc := ⟨_, rfl⟩
        rw [← ew] at hO ⊢
        clear hcut ew
        replace ra : Hid _ := Ok.row' hO ra.out
        replace rb : Hid _ := Ok.row' hO rb.out
        have HW8 : Hid (Ok w0 W8) := HW7.out.step hO
        clear hO HW7
        go_wp2_with fail
        go_ret
        exact ⟨rfl, HW8.out⟩
end Go.Proofs.YtgkbegmaffknbaaGreat
