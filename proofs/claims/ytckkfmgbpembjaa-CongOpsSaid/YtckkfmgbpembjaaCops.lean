import Derived.Test.YtckkfmgbpembjaaCwk
set_option linter.unusedVariables false
set_option linter.unusedSimpArgs false
set_option linter.unnecessarySimpa false
/- CongOps: the law's walk. -/
namespace Go.Proofs.Ytckkfmgbpembjaa
open Go.RowKit
set_option maxRecDepth 100000 in
set_option maxHeartbeats 8000000 in
theorem ops_any (cM cR dM dR : Nat) (ex : Bool) (h1 : U64 cM) (h2 : U64 cR) (h3 : U64 dM) (h4 : U64 dR) (w0 w : World) (hok : Ok w0 w) :
    Calls Try.prog 7 #[cv cM cR, cv dM dR, .bool ex] w fun e w' => e = .returned (.bool true) ∧ Ok w0 w' := by
  obtain ⟨Xn, hXn⟩ : ∃ x, x = negC cM cR ex := ⟨_, rfl⟩
  have HXn : Hid _ := hXn
  clear hXn
  obtain ⟨Xa, hXa⟩ : ∃ x, x = addC cM cR dM dR ex := ⟨_, rfl⟩
  have HXa : Hid _ := hXa
  clear hXa
  obtain ⟨Xs, hXs⟩ : ∃ x, x = subC cM cR dM dR ex := ⟨_, rfl⟩
  have HXs : Hid _ := hXs
  clear hXs
  obtain ⟨Xm, hXm⟩ : ∃ x, x = mulC cM cR dM dR ex := ⟨_, rfl⟩
  have HXm : Hid _ := hXm
  clear hXm
  obtain ⟨Xd, hXd⟩ : ∃ x, x = divC cM cR dM dR := ⟨_, rfl⟩
  have HXd : Hid _ := hXd
  clear hXd
  obtain ⟨Xr, hXr⟩ : ∃ x, x = remC cM cR dM dR := ⟨_, rfl⟩
  have HXr : Hid _ := hXr
  clear hXr
  have HU : Hid _ := And.intro h1 (And.intro h2 (And.intro h3 h4))
  clear h1 h2 h3 h4
  unfold cv
  go_enter Try.func7, Try.ntmps7
  go_wp2_with fail
  obtain ⟨W, hW⟩ : ∃ W, W = (w.alloc (.cells #[.int .u64 (cM : Int), .int .u64 (cR : Int)] 24)).alloc (.cells #[.int .u64 (dM : Int), .int .u64 (dR : Int)] 24) := ⟨_, rfl⟩
  have ra : W.heap[w.heap.size]? = some (.cells #[.int .u64 (cM : Int), .int .u64 (cR : Int)] 24) := by rw [hW]; exact (by repeat (first | (refine heap_at _ _ _ ?hx; case hx => (first | (simp; done) | (simp; omega))) | (refine heap_past _ _ _ ?hy ?_; case hy => (first | (simp; done) | (simp; omega))) | fail))
  have rb : W.heap[w.heap.size + 1]? = some (.cells #[.int .u64 (dM : Int), .int .u64 (dR : Int)] 24) := by rw [hW]; exact (by repeat (first | (refine heap_at _ _ _ ?hx; case hx => (first | (simp; done) | (simp; omega))) | (refine heap_past _ _ _ ?hy ?_; case hy => (first | (simp; done) | (simp; omega))) | fail))
  have HW : Hid (Ok w0 W) := by rw [hW]; exact (by repeat (first | exact hok | refine Ok.alloc ?_ _ | refine Ok.draws ?_ _ | fail))
  rw [← hW]
  clear hW hok
  have HRR : Hid _ := And.intro ra rb
  refine (works_any W W (Ok.refl _)).mono ?_
  rintro e V ⟨rfl, hbV⟩
  have HV : Hid (Ok w0 V) := HW.out.step hbV
  have HRV : Hid _ := And.intro (Ok.row' hbV ra) (Ok.row' hbV rb)
  clear hbV ra rb
  obtain ⟨c0, c1, _, _⟩ := row_facts HRV.out.1
  obtain ⟨c2, c3, _, _⟩ := row_facts HRV.out.2
  have g0 := lt_row HRV.out.1
  have g1 := lt_row HRV.out.2
  have bz : Ok V V := Ok.refl _
  go_wp2_with fail
  go_region_held3 (fun w' => w'.cell? ⟨w.heap.size, 0, none⟩ = some (.int .u64 (cM : Int)) ∧ w'.cell? ⟨w.heap.size, 1, none⟩ = some (.int .u64 (cR : Int)) ∧ w'.cell? ⟨w.heap.size + 1, 0, none⟩ = some (.int .u64 (dM : Int)) ∧ w'.cell? ⟨w.heap.size + 1, 1, none⟩ = some (.int .u64 (dR : Int))) (go_keep)
    (first
    | (go_at_call 18; refine (pneg_any cM cR ex HU.out.1 HU.out.2.1 V _ (by repeat (first | assumption | refine Ok.alloc ?_ _ | refine Below.drew ?_))).mono ?_; rintro e w' ⟨rfl, hb⟩; rw [← HXn.out]; unfold cv; have q0 := Ok.cell hb g0 c0; have q1 := Ok.cell hb g0 c1; have q2 := Ok.cell hb g1 c2; have q3 := Ok.cell hb g1 c3)
    | (go_at_call 34; refine (cneg_any cM cR ex HU.out.1 HU.out.2.1 V _ (by repeat (first | assumption | refine Ok.alloc ?_ _ | refine Below.drew ?_))).mono ?_; rintro e w' ⟨rfl, hb⟩; rw [← HXn.out]; unfold cv; have q0 := Ok.cell hb g0 c0; have q1 := Ok.cell hb g0 c1; have q2 := Ok.cell hb g1 c2; have q3 := Ok.cell hb g1 c3)
    | (go_at_call 20; refine (padd_any cM cR dM dR ex HU.out.1 HU.out.2.1 HU.out.2.2.1 HU.out.2.2.2 V _ (by repeat (first | assumption | refine Ok.alloc ?_ _ | refine Below.drew ?_))).mono ?_; rintro e w' ⟨rfl, hb⟩; rw [← HXa.out]; unfold cv; have q0 := Ok.cell hb g0 c0; have q1 := Ok.cell hb g0 c1; have q2 := Ok.cell hb g1 c2; have q3 := Ok.cell hb g1 c3)
    | (go_at_call 35; refine (cadd_any cM cR dM dR ex HU.out.1 HU.out.2.1 HU.out.2.2.1 HU.out.2.2.2 V _ (by repeat (first | assumption | refine Ok.alloc ?_ _ | refine Below.drew ?_))).mono ?_; rintro e w' ⟨rfl, hb⟩; rw [← HXa.out]; unfold cv; have q0 := Ok.cell hb g0 c0; have q1 := Ok.cell hb g0 c1; have q2 := Ok.cell hb g1 c2; have q3 := Ok.cell hb g1 c3)
    | (go_at_call 21; refine (psub_any cM cR dM dR ex HU.out.1 HU.out.2.1 HU.out.2.2.1 HU.out.2.2.2 V _ (by repeat (first | assumption | refine Ok.alloc ?_ _ | refine Below.drew ?_))).mono ?_; rintro e w' ⟨rfl, hb⟩; rw [← HXs.out]; unfold cv; have q0 := Ok.cell hb g0 c0; have q1 := Ok.cell hb g0 c1; have q2 := Ok.cell hb g1 c2; have q3 := Ok.cell hb g1 c3)
    | (go_at_call 36; refine (csub_any cM cR dM dR ex HU.out.1 HU.out.2.1 HU.out.2.2.1 HU.out.2.2.2 V _ (by repeat (first | assumption | refine Ok.alloc ?_ _ | refine Below.drew ?_))).mono ?_; rintro e w' ⟨rfl, hb⟩; rw [← HXs.out]; unfold cv; have q0 := Ok.cell hb g0 c0; have q1 := Ok.cell hb g0 c1; have q2 := Ok.cell hb g1 c2; have q3 := Ok.cell hb g1 c3)
    | fail)
  have HB1 : Hid (Ok w0 w') := HV.out.step hb
  have HRY : Hid _ := And.intro (Ok.row' hb HRV.out.1) (Ok.row' hb HRV.out.2)
  obtain ⟨Y, hY⟩ : ∃ Y, Y = w' := ⟨_, rfl⟩
  rw [← hY] at HB1 HRY ⊢
  clear hY hb c0 c1 c2 c3 g0 g1 bz q0 q1 q2 q3
  obtain ⟨c0, c1, _, _⟩ := row_facts HRY.out.1
  obtain ⟨c2, c3, _, _⟩ := row_facts HRY.out.2
  have g0 := lt_row HRY.out.1
  have g1 := lt_row HRY.out.2
  have bz : Ok Y Y := Ok.refl _
  go_wp2_with fail
  go_region_held3 (fun w' => w'.cell? ⟨w.heap.size, 0, none⟩ = some (.int .u64 (cM : Int)) ∧ w'.cell? ⟨w.heap.size, 1, none⟩ = some (.int .u64 (cR : Int)) ∧ w'.cell? ⟨w.heap.size + 1, 0, none⟩ = some (.int .u64 (dM : Int)) ∧ w'.cell? ⟨w.heap.size + 1, 1, none⟩ = some (.int .u64 (dR : Int))) (go_keep)
    (first
    | (go_at_call 22; refine (pmul_any cM cR dM dR ex HU.out.1 HU.out.2.1 HU.out.2.2.1 HU.out.2.2.2 Y _ (by repeat (first | assumption | refine Ok.alloc ?_ _ | refine Below.drew ?_))).mono ?_; rintro e w' ⟨rfl, hb⟩; rw [← HXm.out]; unfold cv; have q0 := Ok.cell hb g0 c0; have q1 := Ok.cell hb g0 c1; have q2 := Ok.cell hb g1 c2; have q3 := Ok.cell hb g1 c3)
    | (go_at_call 37; refine (cmul_any cM cR dM dR ex HU.out.1 HU.out.2.1 HU.out.2.2.1 HU.out.2.2.2 Y _ (by repeat (first | assumption | refine Ok.alloc ?_ _ | refine Below.drew ?_))).mono ?_; rintro e w' ⟨rfl, hb⟩; rw [← HXm.out]; unfold cv; have q0 := Ok.cell hb g0 c0; have q1 := Ok.cell hb g0 c1; have q2 := Ok.cell hb g1 c2; have q3 := Ok.cell hb g1 c3)
    | (go_at_call 24; refine (pdiv_any cM cR dM dR HU.out.1 HU.out.2.1 HU.out.2.2.1 HU.out.2.2.2 Y _ (by repeat (first | assumption | refine Ok.alloc ?_ _ | refine Below.drew ?_))).mono ?_; rintro e w' ⟨rfl, hb⟩; rw [← HXd.out]; unfold cv; have q0 := Ok.cell hb g0 c0; have q1 := Ok.cell hb g0 c1; have q2 := Ok.cell hb g1 c2; have q3 := Ok.cell hb g1 c3)
    | (go_at_call 38; refine (cdiv_any cM cR dM dR HU.out.1 HU.out.2.1 HU.out.2.2.1 HU.out.2.2.2 Y _ (by repeat (first | assumption | refine Ok.alloc ?_ _ | refine Below.drew ?_))).mono ?_; rintro e w' ⟨rfl, hb⟩; rw [← HXd.out]; unfold cv; have q0 := Ok.cell hb g0 c0; have q1 := Ok.cell hb g0 c1; have q2 := Ok.cell hb g1 c2; have q3 := Ok.cell hb g1 c3)
    | (go_at_call 25; refine (prem_any cM cR dM dR HU.out.1 HU.out.2.1 HU.out.2.2.1 HU.out.2.2.2 Y _ (by repeat (first | assumption | refine Ok.alloc ?_ _ | refine Below.drew ?_))).mono ?_; rintro e w' ⟨rfl, hb⟩; rw [← HXr.out]; unfold cv; have q0 := Ok.cell hb g0 c0; have q1 := Ok.cell hb g0 c1; have q2 := Ok.cell hb g1 c2; have q3 := Ok.cell hb g1 c3)
    | (go_at_call 39; refine (crem_any cM cR dM dR HU.out.1 HU.out.2.1 HU.out.2.2.1 HU.out.2.2.2 Y _ (by repeat (first | assumption | refine Ok.alloc ?_ _ | refine Below.drew ?_))).mono ?_; rintro e w' ⟨rfl, hb⟩; rw [← HXr.out]; unfold cv; have q0 := Ok.cell hb g0 c0; have q1 := Ok.cell hb g0 c1; have q2 := Ok.cell hb g1 c2; have q3 := Ok.cell hb g1 c3)
    | fail)
  go_wp2_with fail
  go_ret
  exact ⟨rfl, HB1.out.step hb⟩
end Go.Proofs.Ytckkfmgbpembjaa
