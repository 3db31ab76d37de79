import Derived.Test.YtckkfmgbpembjaaCwk
set_option linter.unusedVariables false
set_option linter.unusedSimpArgs false
set_option linter.unnecessarySimpa false
/- CongSets: the law's walk. -/
namespace Go.Proofs.Ytckkfmgbpembjaa
open Go.RowKit
set_option maxRecDepth 100000 in
set_option maxHeartbeats 8000000 in
theorem sets_any (cM cR dM dR : Nat) (v : Int) (h1 : U64 cM) (h2 : U64 cR) (h3 : U64 dM) (h4 : U64 dR) (hv : In64 v) (w0 w : World) (hok : Ok w0 w) :
    Calls Try.prog 6 #[cv cM cR, cv dM dR, .int .i64 v] w fun e w' => e = .returned (.bool true) ∧ Ok w0 w' := by
  have HVI : Hid _ := hv
  clear hv
  obtain ⟨Xn, hXn⟩ : ∃ x, x = normC cM cR := ⟨_, rfl⟩
  have HXn : Hid _ := hXn
  clear hXn
  obtain ⟨Xc, hXc⟩ : ∃ x, x = bitsN v := ⟨_, rfl⟩
  have HXc : Hid _ := hXc
  clear hXc
  obtain ⟨Xh, hXh⟩ : ∃ x, x = hasC cM cR v := ⟨_, rfl⟩
  have HXh : Hid _ := hXh
  clear hXh
  obtain ⟨Xl, hXl⟩ : ∃ x, x = leqC cM cR dM dR := ⟨_, rfl⟩
  have HXl : Hid _ := hXl
  clear hXl
  obtain ⟨Xj, hXj⟩ : ∃ x, x = joinC cM cR dM dR := ⟨_, rfl⟩
  have HXj : Hid _ := hXj
  clear hXj
  obtain ⟨Xm, hXm⟩ : ∃ x, x = meetC cM cR dM dR := ⟨_, rfl⟩
  have HXm : Hid _ := hXm
  clear hXm
  obtain ⟨Xu, hXu⟩ : ∃ x, x = upC cM cR v := ⟨_, rfl⟩
  have HXu : Hid _ := hXu
  clear hXu
  obtain ⟨Xd, hXd⟩ : ∃ x, x = downC cM cR v := ⟨_, rfl⟩
  have HXd : Hid _ := hXd
  clear hXd
  have HU : Hid _ := And.intro h1 (And.intro h2 (And.intro h3 h4))
  clear h1 h2 h3 h4
  unfold cv
  go_enter Try.func6, Try.ntmps6
  go_wp2_with fail
  obtain ⟨W, hW⟩ : ∃ W, W = (w.alloc (.cells #[.int .u64 (cM : Int), .int .u64 (cR : Int)] 24)).alloc (.cells #[.int .u64 (dM : Int), .int .u64 (dR : Int)] 24) := ⟨_, rfl⟩
  have ra : W.heap[w.heap.size]? = some (.cells #[.int .u64 (cM : Int), .int .u64 (cR : Int)] 24) := by rw [hW]; exact (by repeat (first | (refine heap_at _ _ _ ?hx; case hx => (first | (simp; done) | (simp; omega))) | (refine heap_past _ _ _ ?hy ?_; case hy => (first | (simp; done) | (simp; omega))) | fail))
  have rb : W.heap[w.heap.size + 1]? = some (.cells #[.int .u64 (dM : Int), .int .u64 (dR : Int)] 24) := by rw [hW]; exact (by repeat (first | (refine heap_at _ _ _ ?hx; case hx => (first | (simp; done) | (simp; omega))) | (refine heap_past _ _ _ ?hy ?_; case hy => (first | (simp; done) | (simp; omega))) | fail))
  have HW : Hid (Ok w0 W) := by rw [hW]; exact (by repeat (first | exact hok | refine Ok.alloc ?_ _ | refine Ok.draws ?_ _ | fail))
  rw [← hW]
  clear hW hok
  have HRR : Hid _ := And.intro ra rb
  refine (works_any W W (Ok.refl _)).mono ?_
  rintro e V ⟨rfl, hbV⟩
  have HV : Hid (Ok w0 V) := HW.out.step hbV
  have HRV : Hid _ := And.intro (Ok.row' hbV ra) (Ok.row' hbV rb)
  clear hbV ra rb
  obtain ⟨c0, c1, _, _⟩ := row_facts HRV.out.1
  obtain ⟨c2, c3, _, _⟩ := row_facts HRV.out.2
  have g0 := lt_row HRV.out.1
  have g1 := lt_row HRV.out.2
  have bz : Ok V V := Ok.refl _
  go_wp2_with fail
  go_region_held3 (fun w' => w'.cell? ⟨w.heap.size, 0, none⟩ = some (.int .u64 (cM : Int)) ∧ w'.cell? ⟨w.heap.size, 1, none⟩ = some (.int .u64 (cR : Int)) ∧ w'.cell? ⟨w.heap.size + 1, 0, none⟩ = some (.int .u64 (dM : Int)) ∧ w'.cell? ⟨w.heap.size + 1, 1, none⟩ = some (.int .u64 (dR : Int))) (go_keep)
    (first
    | (go_at_call 14; refine (pnorm_any cM cR HU.out.1 HU.out.2.1 V _ (by repeat (first | assumption | refine Ok.alloc ?_ _ | refine Below.drew ?_))).mono ?_; rintro e w' ⟨rfl, hb⟩; rw [← HXn.out]; unfold cv; have q0 := Ok.cell hb g0 c0; have q1 := Ok.cell hb g0 c1; have q2 := Ok.cell hb g1 c2; have q3 := Ok.cell hb g1 c3)
    | (go_at_call 26; refine (cnorm_any cM cR V _ (by repeat (first | assumption | refine Ok.alloc ?_ _ | refine Below.drew ?_))).mono ?_; rintro e w' ⟨rfl, hb⟩; rw [← HXn.out]; unfold cv; have q0 := Ok.cell hb g0 c0; have q1 := Ok.cell hb g0 c1; have q2 := Ok.cell hb g1 c2; have q3 := Ok.cell hb g1 c3)
    | (go_at_call 23; refine (pconst_any v V _ (by repeat (first | assumption | refine Ok.alloc ?_ _ | refine Below.drew ?_))).mono ?_; rintro e w' ⟨rfl, hb⟩; rw [← HXc.out]; unfold cv; have q0 := Ok.cell hb g0 c0; have q1 := Ok.cell hb g0 c1; have q2 := Ok.cell hb g1 c2; have q3 := Ok.cell hb g1 c3)
    | (go_at_call 27; refine (cconst_any v V _ (by repeat (first | assumption | refine Ok.alloc ?_ _ | refine Below.drew ?_))).mono ?_; rintro e w' ⟨rfl, hb⟩; rw [← HXc.out]; unfold cv; have q0 := Ok.cell hb g0 c0; have q1 := Ok.cell hb g0 c1; have q2 := Ok.cell hb g1 c2; have q3 := Ok.cell hb g1 c3)
    | (go_at_call 12; refine (phas_any cM cR v HU.out.1 HU.out.2.1 V _ (by repeat (first | assumption | refine Ok.alloc ?_ _ | refine Below.drew ?_))).mono ?_; rintro e w' ⟨rfl, hb⟩; rw [← HXh.out]; have q0 := Ok.cell hb g0 c0; have q1 := Ok.cell hb g0 c1; have q2 := Ok.cell hb g1 c2; have q3 := Ok.cell hb g1 c3)
    | (go_at_call 28; refine (chas_any cM cR v HU.out.1 HU.out.2.1 V _ (by repeat (first | assumption | refine Ok.alloc ?_ _ | refine Below.drew ?_))).mono ?_; rintro e w' ⟨rfl, hb⟩; rw [← HXh.out]; have q0 := Ok.cell hb g0 c0; have q1 := Ok.cell hb g0 c1; have q2 := Ok.cell hb g1 c2; have q3 := Ok.cell hb g1 c3)
    | (go_at_call 13; refine (pleq_any cM cR dM dR HU.out.1 HU.out.2.1 HU.out.2.2.1 HU.out.2.2.2 V _ (by repeat (first | assumption | refine Ok.alloc ?_ _ | refine Below.drew ?_))).mono ?_; rintro e w' ⟨rfl, hb⟩; rw [← HXl.out]; have q0 := Ok.cell hb g0 c0; have q1 := Ok.cell hb g0 c1; have q2 := Ok.cell hb g1 c2; have q3 := Ok.cell hb g1 c3)
    | (go_at_call 29; refine (cleq_any cM cR dM dR HU.out.1 HU.out.2.1 HU.out.2.2.1 HU.out.2.2.2 V _ (by repeat (first | assumption | refine Ok.alloc ?_ _ | refine Below.drew ?_))).mono ?_; rintro e w' ⟨rfl, hb⟩; rw [← HXl.out]; have q0 := Ok.cell hb g0 c0; have q1 := Ok.cell hb g0 c1; have q2 := Ok.cell hb g1 c2; have q3 := Ok.cell hb g1 c3)
    | (go_at_call 10; refine (pjoin_any cM cR dM dR HU.out.1 HU.out.2.1 HU.out.2.2.1 HU.out.2.2.2 V _ (by repeat (first | assumption | refine Ok.alloc ?_ _ | refine Below.drew ?_))).mono ?_; rintro e w' ⟨rfl, hb⟩; rw [← HXj.out]; unfold cv; have q0 := Ok.cell hb g0 c0; have q1 := Ok.cell hb g0 c1; have q2 := Ok.cell hb g1 c2; have q3 := Ok.cell hb g1 c3)
    | (go_at_call 30; refine (cjoin_any cM cR dM dR HU.out.1 HU.out.2.1 HU.out.2.2.1 HU.out.2.2.2 V _ (by repeat (first | assumption | refine Ok.alloc ?_ _ | refine Below.drew ?_))).mono ?_; rintro e w' ⟨rfl, hb⟩; rw [← HXj.out]; unfold cv; have q0 := Ok.cell hb g0 c0; have q1 := Ok.cell hb g0 c1; have q2 := Ok.cell hb g1 c2; have q3 := Ok.cell hb g1 c3)
    | fail)
  have HB1 : Hid (Ok w0 w') := HV.out.step hb
  have HRY : Hid _ := And.intro (Ok.row' hb HRV.out.1) (Ok.row' hb HRV.out.2)
  obtain ⟨Y, hY⟩ : ∃ Y, Y = w' := ⟨_, rfl⟩
  rw [← hY] at HB1 HRY ⊢
  clear hY hb c0 c1 c2 c3 g0 g1 bz q0 q1 q2 q3
  obtain ⟨c0, c1, _, _⟩ := row_facts HRY.out.1
  obtain ⟨c2, c3, _, _⟩ := row_facts HRY.out.2
  go_wp2_with fail
  refine (pmeet_any cM cR dM dR HU.out.1 HU.out.2.1 HU.out.2.2.1 HU.out.2.2.2 Y _ (Ok.refl _)).mono ?_
  rintro e w2 ⟨rfl, hb2⟩
  rw [← HXm.out]
  have HR2 : Hid (_ ∧ _ ∧ _) := And.intro (Ok.row' hb2 HRY.out.1) (And.intro (Ok.row' hb2 HRY.out.2) (HB1.out.step hb2))
  clear hb2 c0 c1 c2 c3
  obtain ⟨c0, c1, _, _⟩ := row_facts HR2.out.1
  obtain ⟨c2, c3, _, _⟩ := row_facts HR2.out.2.1
  have l0 := lt_row HR2.out.1
  have l1 := lt_row HR2.out.2.1
  have n0 : ¬ w2.heap.size = w.heap.size := by omega
  have n1 : ¬ w2.heap.size = w.heap.size + 1 := by omega
  unfold cv
  go_wp2_with fail
  refine (cmeet_any cM cR dM dR HU.out.1 HU.out.2.1 HU.out.2.2.1 HU.out.2.2.2 _ _ (Ok.refl _)).mono ?_
  rintro e w3 ⟨rfl, hb3⟩
  rw [← HXm.out]
  have HR3 : Hid (_ ∧ _ ∧ _) := And.intro (Ok.row' hb3 (heap_past _ _ _ l0 HR2.out.1)) (And.intro (Ok.row' hb3 (heap_new0 _ _)) ((HR2.out.2.2.alloc _).step hb3))
  obtain ⟨gm, hgm⟩ : ∃ g, g = w2.heap.size := ⟨_, rfl⟩
  rw [← hgm] at HR3 ⊢
  clear hb3 c0 c1 c2 c3 l0 l1 n0 n1 hgm
  obtain ⟨c0, c1, _, _⟩ := row_facts HR3.out.1
  have l0 := lt_row HR3.out.1
  have l1 := lt_row HR3.out.2.1
  have n0 : ¬ w3.heap.size = w.heap.size := by omega
  unfold cv
  go_wp2_with fail
  refine (pup_any cM cR v HU.out.1 HU.out.2.1 HVI.out _ _ (Ok.refl _)).mono ?_
  rintro e w4 ⟨rfl, hb4⟩
  rw [← HXu.out]
  have HR4 : Hid (_ ∧ _ ∧ _ ∧ _) := And.intro (Ok.row' hb4 (heap_past _ _ _ l0 HR3.out.1)) (And.intro (Ok.row' hb4 (heap_past _ _ _ l1 HR3.out.2.1)) (And.intro (Ok.row' hb4 (heap_new0 _ _)) ((HR3.out.2.2.alloc _).step hb4)))
  obtain ⟨gn, hgn⟩ : ∃ g, g = w3.heap.size := ⟨_, rfl⟩
  rw [← hgn] at HR4 ⊢
  clear hb4 c0 c1 l0 l1 n0 hgn
  obtain ⟨c0, c1, _, _⟩ := row_facts HR4.out.1
  go_wp2_with fail
  refine (cup_any cM cR v HU.out.1 HU.out.2.1 HVI.out _ _ (Ok.refl _)).mono ?_
  rintro e w5 ⟨rfl, hb5⟩
  rw [← HXu.out]
  have HR5 : Hid (_ ∧ _ ∧ _ ∧ _) := And.intro (Ok.row' hb5 HR4.out.1) (And.intro (Ok.row' hb5 HR4.out.2.1) (And.intro (Ok.row' hb5 HR4.out.2.2.1) (HR4.out.2.2.2.step hb5)))
  clear hb5 c0 c1
  obtain ⟨c0, c1, _, _⟩ := row_facts HR5.out.1
  go_wp2_with fail
  refine (pdown_any cM cR v HU.out.1 HU.out.2.1 HVI.out _ _ (Ok.refl _)).mono ?_
  rintro e w6 ⟨rfl, hb5⟩
  rw [← HXd.out]
  have HR6 : Hid (_ ∧ _ ∧ _ ∧ _) := And.intro (Ok.row' hb5 HR5.out.1) (And.intro (Ok.row' hb5 HR5.out.2.1) (And.intro (Ok.row' hb5 HR5.out.2.2.1) (HR5.out.2.2.2.step hb5)))
  clear hb5 c0 c1
  obtain ⟨c0, c1, _, _⟩ := row_facts HR6.out.1
  go_wp2_with fail
  refine (cdown_any cM cR v HU.out.1 HU.out.2.1 HVI.out _ _ (Ok.refl _)).mono ?_
  rintro e w7 ⟨rfl, hb5⟩
  rw [← HXd.out]
  have HR7 : Hid (_ ∧ _ ∧ _ ∧ _) := And.intro (Ok.row' hb5 HR6.out.1) (And.intro (Ok.row' hb5 HR6.out.2.1) (And.intro (Ok.row' hb5 HR6.out.2.2.1) (HR6.out.2.2.2.step hb5)))
  clear hb5 c0 c1
  obtain ⟨c0, c1, _, _⟩ := row_facts HR7.out.1
  obtain ⟨k0, k1, _, _⟩ := row_facts HR7.out.2.1
  obtain ⟨j0, j1, _, _⟩ := row_facts HR7.out.2.2.1
  go_wp2_with fail
  go_ret
  exact ⟨rfl, HR7.out.2.2.2⟩
end Go.Proofs.Ytckkfmgbpembjaa
