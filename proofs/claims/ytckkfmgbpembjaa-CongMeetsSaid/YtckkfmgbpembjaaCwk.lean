import Derived.Test.YtckkfmgbpembjaaCprog
set_option linter.unusedVariables false
set_option linter.unusedSimpArgs false
set_option linter.unnecessarySimpa false
/- The laws' fixed fact (winnowlaw12.works): it is true. -/
namespace Go.Proofs.Ytckkfmgbpembjaa
open Go.RowKit
theorem u64_of {a : Nat} (h : a < 18446744073709551616) : U64 a := h
theorem wk_meet : meetC 4 1 6 3 = (12, 9, true) := by
  have h : Comm 4 1 6 3 9 := ⟨by decide, by unfold MemC; decide, by unfold MemC; decide⟩
  rw [meetC_fin (by omega) (by omega) h]
  decide
theorem wk_up : upC 3 2 4 = (5, true) := by kernel_rfl
theorem wk_has : hasC 12 9 21 = true := by kernel_rfl
theorem wk_leq : leqC 12 9 3 0 = true := by decide
theorem wk_add : addC 0 (bitsN 2) 0 (bitsN 3) true = (0, 5) := by kernel_rfl
theorem wk_join : joinC 0 (bitsN 3) 0 (bitsN 9) = (6, 3) := by kernel_rfl
theorem wk_five : bitsN 5 = 5 := by decide
set_option maxRecDepth 100000 in
set_option maxHeartbeats 2000000 in
theorem works_any (w0 w : World) (hok : Ok w0 w) :
    Calls Try.prog 8 #[] w fun e w' => e = .returned (.bool true) ∧ Ok w0 w' := by
  have hle := hok.le
  have HK : Hid (Ok w0 w) := hok
  clear hok
  go_enter Try.func8, Try.ntmps8
  go_wp2_with fail
  refine (pmeet_any 4 1 6 3 (u64_of (by decide)) (u64_of (by decide)) (u64_of (by decide)) (u64_of (by decide)) w w (Ok.refl _)).mono ?_
  rintro e w1 ⟨rfl, hb1⟩
  rw [wk_meet]
  have HB1 : Hid (Ok w0 w1) := HK.out.step hb1
  clear hb1
  unfold cv
  go_wp2_with fail
  refine (pup_any 3 2 4 (u64_of (by decide)) (u64_of (by decide)) (by decide) _ _ (Ok.refl _)).mono ?_
  rintro e w2 ⟨rfl, hb2⟩
  rw [wk_up]
  have HR2 : Hid _ := Ok.row' hb2 (heap_new0 _ _)
  have HB2 : Hid (Ok w0 w2) := (HB1.out.alloc _).step hb2
  obtain ⟨g, hg⟩ : ∃ g, g = w1.heap.size := ⟨_, rfl⟩
  rw [← hg] at HR2 ⊢
  clear hb2 hg
  obtain ⟨a0, a1, _, _⟩ := row_facts HR2.out
  go_wp2_with fail
  refine (phas_any 12 9 21 (u64_of (by decide)) (u64_of (by decide)) w2 _ (Ok.refl _)).mono ?_
  rintro e w3 ⟨rfl, hb3⟩
  rw [wk_has]
  have HR3 : Hid _ := Ok.row' hb3 HR2.out
  have HB3 : Hid (Ok w0 w3) := HB2.out.step hb3
  clear hb3 a0 a1
  obtain ⟨a0, a1, _, _⟩ := row_facts HR3.out
  go_wp2_with fail
  refine (pleq_any 12 9 3 0 (u64_of (by decide)) (u64_of (by decide)) (u64_of (by decide)) (u64_of (by decide)) w3 _ (Ok.refl _)).mono ?_
  rintro e w4 ⟨rfl, hb4⟩
  rw [wk_leq]
  have HB4 : Hid (Ok w0 w4) := HB3.out.step hb4
  clear hb4 a0 a1
  go_wp2_with fail
  refine (pconst_any 2 w4 _ (Ok.refl _)).mono ?_
  rintro e w5 ⟨rfl, hb5⟩
  have HB5 : Hid (Ok w0 w5) := HB4.out.step hb5
  clear hb5
  go_wp2_with fail
  refine (pconst_any 3 w5 _ (Ok.refl _)).mono ?_
  rintro e w6 ⟨rfl, hb6⟩
  have HB6 : Hid (Ok w0 w6) := HB5.out.step hb6
  clear hb6
  go_wp2_with fail
  refine (padd_any 0 (bitsN 2) 0 (bitsN 3) true (u64_of (by decide)) (bitsN_u64 _) (u64_of (by decide)) (bitsN_u64 _) w6 _ (Ok.refl _)).mono ?_
  rintro e w7 ⟨rfl, hb7⟩
  rw [wk_add]
  have HB7 : Hid (Ok w0 w7) := HB6.out.step hb7
  clear hb7
  go_wp2_with fail
  refine (pconst_any 5 w7 _ (Ok.refl _)).mono ?_
  rintro e w8 ⟨rfl, hb8⟩
  rw [wk_five]
  have HB8 : Hid (Ok w0 w8) := HB7.out.step hb8
  clear hb8
  unfold cv
  go_wp2_with fail
  refine (pconst_any 3 w8 _ (Ok.refl _)).mono ?_
  rintro e w9 ⟨rfl, hb9⟩
  have HB9 : Hid (Ok w0 w9) := HB8.out.step hb9
  clear hb9
  go_wp2_with fail
  refine (pconst_any 9 w9 _ (Ok.refl _)).mono ?_
  rintro e w10 ⟨rfl, hb10⟩
  have HB10 : Hid (Ok w0 w10) := HB9.out.step hb10
  clear hb10
  go_wp2_with fail
  refine (pjoin_any 0 (bitsN 3) 0 (bitsN 9) (u64_of (by decide)) (bitsN_u64 _) (u64_of (by decide)) (bitsN_u64 _) w10 _ (Ok.refl _)).mono ?_
  rintro e w11 ⟨rfl, hb11⟩
  rw [wk_join]
  have HB11 : Hid (Ok w0 w11) := HB10.out.step hb11
  clear hb11
  unfold cv
  go_wp2_with fail
  go_ret
  exact ⟨rfl, HB11.out⟩
end Go.Proofs.Ytckkfmgbpembjaa
