import Derived.Test.YtckkfmgbpembjaaCwk
import Derived.Test.YtckkfmgbpembjaaCst
import Derived.Test.YtckkfmgbpembjaaClw
set_option linter.unusedVariables false
set_option linter.unusedSimpArgs false
set_option linter.unnecessarySimpa false
/- CongSteps: the law's walk. -/
namespace Go.Proofs.Ytckkfmgbpembjaa
open Go.RowKit
set_option maxRecDepth 100000 in
set_option maxHeartbeats 8000000 in
theorem steps_any (M R : Nat) (v x : Int) (h1 : U64 M) (h2 : U64 R) (hv : In64 v) (hx : In64 x) (w0 w : World) (hok : Ok w0 w) :
    Calls Try.prog 4 #[cv M R, .int .i64 v, .int .i64 x] w fun e w' => e = .returned (.bool true) ∧ Ok w0 w' := by
  have HU : Hid _ := And.intro h1 (And.intro h2 (And.intro hv hx))
  obtain ⟨Xu, hXu⟩ : ∃ y, y = upC M R v := ⟨_, rfl⟩
  obtain ⟨Xd, hXd⟩ : ∃ y, y = downC M R v := ⟨_, rfl⟩
  have FU := up_is (M := M) (R := R) hv
  have FD := down_is (M := M) (R := R) hv
  rw [← hXu] at FU
  rw [← hXd] at FD
  have HXu : Hid _ := hXu
  have HXd : Hid _ := hXd
  have HFU : Hid _ := FU
  have HFD : Hid _ := FD
  clear h1 h2 hv hx hXu hXd FU FD
  unfold cv
  go_enter Try.func4, Try.ntmps4
  go_wp2_with fail
  obtain ⟨W, hW⟩ : ∃ W, W = w.alloc (.cells #[.int .u64 (M : Int), .int .u64 (R : Int)] 24) := ⟨_, rfl⟩
  have ra : W.heap[w.heap.size]? = some (.cells #[.int .u64 (M : Int), .int .u64 (R : Int)] 24) := by rw [hW]; exact (by repeat (first | (refine heap_at _ _ _ ?hx; case hx => (first | (simp; done) | (simp; omega))) | (refine heap_past _ _ _ ?hy ?_; case hy => (first | (simp; done) | (simp; omega))) | fail))
  have hoW : Ok w0 W := by rw [hW]; exact (by repeat (first | exact hok | refine Ok.alloc ?_ _ | refine Ok.draws ?_ _ | fail))
  rw [← hW]
  clear hW hok
  refine (works_any W W (Ok.refl _)).mono ?_
  rintro e w1 ⟨rfl, hb1⟩
  have HR1 : Hid (_ ∧ _) := And.intro (Ok.row' hb1 ra) (hoW.step hb1)
  clear hb1 ra hoW
  obtain ⟨c0, c1, _, _⟩ := row_facts HR1.out.1
  go_wp2_with fail
  refine (pup_any M R v HU.out.1 HU.out.2.1 HU.out.2.2.1 w1 _ (Ok.refl _)).mono ?_
  rintro e w2 ⟨rfl, hb2⟩
  rw [← HXu.out]
  have HR2 : Hid (_ ∧ _) := And.intro (Ok.row' hb2 HR1.out.1) (HR1.out.2.step hb2)
  clear hb2 c0 c1
  obtain ⟨c0, c1, _, _⟩ := row_facts HR2.out.1
  go_wp2_with fail
  refine (pdown_any M R v HU.out.1 HU.out.2.1 HU.out.2.2.1 w2 _ (Ok.refl _)).mono ?_
  rintro e w3 ⟨rfl, hb3⟩
  rw [← HXd.out]
  have HR3 : Hid (_ ∧ _) := And.intro (Ok.row' hb3 HR2.out.1) (HR2.out.2.step hb3)
  clear hb3 c0 c1 HXu HXd
  obtain ⟨c0, c1, _, _⟩ := row_facts HR3.out.1
  obtain ⟨U, bu⟩ := Xu
  obtain ⟨Dn, bd⟩ := Xd
  simp only
  cases bu
  · cases bd
    · skip
      have GU : Hid (U = 0 ∧ ∀ y, MemC M R y → In64 y → y < v) := HFU.out.2 rfl
      have GD : Hid (Dn = 0 ∧ ∀ y, MemC M R y → In64 y → v < y) := HFD.out.2 rfl
      clear HFU HFD
      have u0 : U = 0 := GU.out.1
      subst u0
      have d0 : Dn = 0 := GD.out.1
      subst d0
      go_wp2_with fail
      refine (linside_any M R x HU.out.1 HU.out.2.1 HU.out.2.2.2 w3 _ (Ok.refl _)).mono ?_
      rintro e w4 ⟨⟨b, rfl, hbb⟩, hbN⟩
      have HR4 : Hid (_ ∧ _) := And.intro (Ok.row' hbN HR3.out.1) (HR3.out.2.step hbN)
      clear hbN c0 c1
      obtain ⟨c0, c1, _, _⟩ := row_facts HR4.out.1
      cases b
      · clear hbb
        go_wp2_with fail
        refine (linside_any M R v HU.out.1 HU.out.2.1 HU.out.2.2.1 w4 _ (Ok.refl _)).mono ?_
        rintro e w5 ⟨⟨b, rfl, hbb⟩, hbN⟩
        have HR5 : Hid (_ ∧ _) := And.intro (Ok.row' hbN HR4.out.1) (HR4.out.2.step hbN)
        clear hbN c0 c1
        obtain ⟨c0, c1, _, _⟩ := row_facts HR5.out.1
        cases b
        · clear hbb
          go_wp2_with fail
          go_ret
          exact ⟨rfl, HR5.out.2⟩
        · have hm := hbb.1 rfl
          exact absurd (GU.out.2 v hm HU.out.2.2.1) (by omega)
      · have hm := hbb.1 rfl
        clear hbb
        rcases Int.lt_trichotomy x v with o | o | o
        · skip
          exact absurd (GD.out.2 x hm HU.out.2.2.2) (by omega)
        · skip
          exact absurd (GD.out.2 x hm HU.out.2.2.2) (by omega)
        · skip
          exact absurd (GU.out.2 x hm HU.out.2.2.2) (by omega)
    · skip
      have GU : Hid (U = 0 ∧ ∀ y, MemC M R y → In64 y → y < v) := HFU.out.2 rfl
      have GD : Hid (MemC M R Dn ∧ Dn ≤ v ∧ In64 Dn ∧ ∀ y, MemC M R y → y ≤ v → y ≤ Dn) := HFD.out.1 rfl
      clear HFU HFD
      have u0 : U = 0 := GU.out.1
      subst u0
      have n2 : ¬ v < Dn := by have := GD.out.2.1; omega
      go_wp2_with fail
      refine (linside_any M R Dn HU.out.1 HU.out.2.1 GD.out.2.2.1 w3 _ (Ok.refl _)).mono ?_
      rintro e w4 ⟨⟨b, rfl, hbb⟩, hbN⟩
      have HR4 : Hid (_ ∧ _) := And.intro (Ok.row' hbN HR3.out.1) (HR3.out.2.step hbN)
      clear hbN c0 c1
      obtain ⟨c0, c1, _, _⟩ := row_facts HR4.out.1
      obtain rfl : b = true := hbb.2 GD.out.1
      clear hbb
      go_wp2_with fail
      refine (linside_any M R x HU.out.1 HU.out.2.1 HU.out.2.2.2 w4 _ (Ok.refl _)).mono ?_
      rintro e w5 ⟨⟨b, rfl, hbb⟩, hbN⟩
      have HR5 : Hid (_ ∧ _) := And.intro (Ok.row' hbN HR4.out.1) (HR4.out.2.step hbN)
      clear hbN c0 c1
      obtain ⟨c0, c1, _, _⟩ := row_facts HR5.out.1
      cases b
      · clear hbb
        go_wp2_with fail
        refine (linside_any M R v HU.out.1 HU.out.2.1 HU.out.2.2.1 w5 _ (Ok.refl _)).mono ?_
        rintro e w6 ⟨⟨b, rfl, hbb⟩, hbN⟩
        have HR6 : Hid (_ ∧ _) := And.intro (Ok.row' hbN HR5.out.1) (HR5.out.2.step hbN)
        clear hbN c0 c1
        obtain ⟨c0, c1, _, _⟩ := row_facts HR6.out.1
        cases b
        · clear hbb
          go_wp2_with fail
          go_ret
          exact ⟨rfl, HR6.out.2⟩
        · have hm := hbb.1 rfl
          exact absurd (GU.out.2 v hm HU.out.2.2.1) (by omega)
      · have hm := hbb.1 rfl
        clear hbb
        rcases Int.lt_trichotomy x v with o | o | o
        · skip
          have a1 : ¬ v ≤ x := by omega
          have a2 : x ≤ v := by omega
          have a3 : ¬ Dn < x := by have := GD.out.2.2.2 x hm a2; omega
          clear o hm
          go_wp2_with fail
          refine (linside_any M R v HU.out.1 HU.out.2.1 HU.out.2.2.1 w5 _ (Ok.refl _)).mono ?_
          rintro e w6 ⟨⟨b, rfl, hbb⟩, hbN⟩
          have HR6 : Hid (_ ∧ _) := And.intro (Ok.row' hbN HR5.out.1) (HR5.out.2.step hbN)
          clear hbN c0 c1
          obtain ⟨c0, c1, _, _⟩ := row_facts HR6.out.1
          cases b
          · clear hbb
            go_wp2_with fail
            go_ret
            exact ⟨rfl, HR6.out.2⟩
          · have hm := hbb.1 rfl
            exact absurd (GU.out.2 v hm HU.out.2.2.1) (by omega)
        · skip
          exact absurd (GU.out.2 x hm HU.out.2.2.2) (by omega)
        · skip
          exact absurd (GU.out.2 x hm HU.out.2.2.2) (by omega)
  · cases bd
    · skip
      have GU : Hid (MemC M R U ∧ v ≤ U ∧ In64 U ∧ ∀ y, MemC M R y → v ≤ y → U ≤ y) := HFU.out.1 rfl
      have GD : Hid (Dn = 0 ∧ ∀ y, MemC M R y → In64 y → v < y) := HFD.out.2 rfl
      clear HFU HFD
      have n1 : ¬ U < v := by have := GU.out.2.1; omega
      have d0 : Dn = 0 := GD.out.1
      subst d0
      go_wp2_with fail
      refine (linside_any M R U HU.out.1 HU.out.2.1 GU.out.2.2.1 w3 _ (Ok.refl _)).mono ?_
      rintro e w4 ⟨⟨b, rfl, hbb⟩, hbN⟩
      have HR4 : Hid (_ ∧ _) := And.intro (Ok.row' hbN HR3.out.1) (HR3.out.2.step hbN)
      clear hbN c0 c1
      obtain ⟨c0, c1, _, _⟩ := row_facts HR4.out.1
      obtain rfl : b = true := hbb.2 GU.out.1
      clear hbb
      go_wp2_with fail
      refine (linside_any M R x HU.out.1 HU.out.2.1 HU.out.2.2.2 w4 _ (Ok.refl _)).mono ?_
      rintro e w5 ⟨⟨b, rfl, hbb⟩, hbN⟩
      have HR5 : Hid (_ ∧ _) := And.intro (Ok.row' hbN HR4.out.1) (HR4.out.2.step hbN)
      clear hbN c0 c1
      obtain ⟨c0, c1, _, _⟩ := row_facts HR5.out.1
      cases b
      · clear hbb
        go_wp2_with fail
        refine (linside_any M R v HU.out.1 HU.out.2.1 HU.out.2.2.1 w5 _ (Ok.refl _)).mono ?_
        rintro e w6 ⟨⟨b, rfl, hbb⟩, hbN⟩
        have HR6 : Hid (_ ∧ _) := And.intro (Ok.row' hbN HR5.out.1) (HR5.out.2.step hbN)
        clear hbN c0 c1
        obtain ⟨c0, c1, _, _⟩ := row_facts HR6.out.1
        cases b
        · clear hbb
          go_wp2_with fail
          go_ret
          exact ⟨rfl, HR6.out.2⟩
        · have hm := hbb.1 rfl
          exact absurd (GD.out.2 v hm HU.out.2.2.1) (by omega)
      · have hm := hbb.1 rfl
        clear hbb
        rcases Int.lt_trichotomy x v with o | o | o
        · skip
          exact absurd (GD.out.2 x hm HU.out.2.2.2) (by omega)
        · skip
          exact absurd (GD.out.2 x hm HU.out.2.2.2) (by omega)
        · skip
          have a1 : v ≤ x := by omega
          have a2 : ¬ x ≤ v := by omega
          have a4 : ¬ x < U := by have := GU.out.2.2.2 x hm a1; omega
          clear o hm
          go_wp2_with fail
          refine (linside_any M R v HU.out.1 HU.out.2.1 HU.out.2.2.1 w5 _ (Ok.refl _)).mono ?_
          rintro e w6 ⟨⟨b, rfl, hbb⟩, hbN⟩
          have HR6 : Hid (_ ∧ _) := And.intro (Ok.row' hbN HR5.out.1) (HR5.out.2.step hbN)
          clear hbN c0 c1
          obtain ⟨c0, c1, _, _⟩ := row_facts HR6.out.1
          cases b
          · clear hbb
            go_wp2_with fail
            go_ret
            exact ⟨rfl, HR6.out.2⟩
          · have hm := hbb.1 rfl
            exact absurd (GD.out.2 v hm HU.out.2.2.1) (by omega)
    · skip
      have GU : Hid (MemC M R U ∧ v ≤ U ∧ In64 U ∧ ∀ y, MemC M R y → v ≤ y → U ≤ y) := HFU.out.1 rfl
      have GD : Hid (MemC M R Dn ∧ Dn ≤ v ∧ In64 Dn ∧ ∀ y, MemC M R y → y ≤ v → y ≤ Dn) := HFD.out.1 rfl
      clear HFU HFD
      have n1 : ¬ U < v := by have := GU.out.2.1; omega
      have n2 : ¬ v < Dn := by have := GD.out.2.1; omega
      go_wp2_with fail
      refine (linside_any M R U HU.out.1 HU.out.2.1 GU.out.2.2.1 w3 _ (Ok.refl _)).mono ?_
      rintro e w4 ⟨⟨b, rfl, hbb⟩, hbN⟩
      have HR4 : Hid (_ ∧ _) := And.intro (Ok.row' hbN HR3.out.1) (HR3.out.2.step hbN)
      clear hbN c0 c1
      obtain ⟨c0, c1, _, _⟩ := row_facts HR4.out.1
      obtain rfl : b = true := hbb.2 GU.out.1
      clear hbb
      go_wp2_with fail
      refine (linside_any M R Dn HU.out.1 HU.out.2.1 GD.out.2.2.1 w4 _ (Ok.refl _)).mono ?_
      rintro e w5 ⟨⟨b, rfl, hbb⟩, hbN⟩
      have HR5 : Hid (_ ∧ _) := And.intro (Ok.row' hbN HR4.out.1) (HR4.out.2.step hbN)
      clear hbN c0 c1
      obtain ⟨c0, c1, _, _⟩ := row_facts HR5.out.1
      obtain rfl : b = true := hbb.2 GD.out.1
      clear hbb
      go_wp2_with fail
      refine (linside_any M R x HU.out.1 HU.out.2.1 HU.out.2.2.2 w5 _ (Ok.refl _)).mono ?_
      rintro e w6 ⟨⟨b, rfl, hbb⟩, hbN⟩
      have HR6 : Hid (_ ∧ _) := And.intro (Ok.row' hbN HR5.out.1) (HR5.out.2.step hbN)
      clear hbN c0 c1
      obtain ⟨c0, c1, _, _⟩ := row_facts HR6.out.1
      cases b
      · clear hbb
        go_wp2_with fail
        refine (linside_any M R v HU.out.1 HU.out.2.1 HU.out.2.2.1 w6 _ (Ok.refl _)).mono ?_
        rintro e w7 ⟨⟨b, rfl, hbb⟩, hbN⟩
        have HR7 : Hid (_ ∧ _) := And.intro (Ok.row' hbN HR6.out.1) (HR6.out.2.step hbN)
        clear hbN c0 c1
        obtain ⟨c0, c1, _, _⟩ := row_facts HR7.out.1
        cases b
        · clear hbb
          go_wp2_with fail
          go_ret
          exact ⟨rfl, HR7.out.2⟩
        · have hm := hbb.1 rfl
          have hu : U = v := by have a := GU.out.2.2.2 v hm (by omega); have b := GU.out.2.1; omega
          have hd : Dn = v := by have a := GD.out.2.2.2 v hm (by omega); have b := GD.out.2.1; omega
          have e1 : (U == v) = true := by simp [hu]
          have e2 : (Dn == v) = true := by simp [hd]
          clear hm hu hd hbb
          go_wp2_with fail
          go_ret
          exact ⟨rfl, HR7.out.2⟩
      · have hm := hbb.1 rfl
        clear hbb
        rcases Int.lt_trichotomy x v with o | o | o
        · skip
          have a1 : ¬ v ≤ x := by omega
          have a2 : x ≤ v := by omega
          have a3 : ¬ Dn < x := by have := GD.out.2.2.2 x hm a2; omega
          clear o hm
          go_wp2_with fail
          refine (linside_any M R v HU.out.1 HU.out.2.1 HU.out.2.2.1 w6 _ (Ok.refl _)).mono ?_
          rintro e w7 ⟨⟨b, rfl, hbb⟩, hbN⟩
          have HR7 : Hid (_ ∧ _) := And.intro (Ok.row' hbN HR6.out.1) (HR6.out.2.step hbN)
          clear hbN c0 c1
          obtain ⟨c0, c1, _, _⟩ := row_facts HR7.out.1
          cases b
          · clear hbb
            go_wp2_with fail
            go_ret
            exact ⟨rfl, HR7.out.2⟩
          · have hm := hbb.1 rfl
            have hu : U = v := by have a := GU.out.2.2.2 v hm (by omega); have b := GU.out.2.1; omega
            have hd : Dn = v := by have a := GD.out.2.2.2 v hm (by omega); have b := GD.out.2.1; omega
            have e1 : (U == v) = true := by simp [hu]
            have e2 : (Dn == v) = true := by simp [hd]
            clear hm hu hd hbb
            go_wp2_with fail
            go_ret
            exact ⟨rfl, HR7.out.2⟩
        · skip
          have a1 : v ≤ x := by omega
          have a2 : x ≤ v := by omega
          have a3 : ¬ Dn < x := by have := GD.out.2.2.2 x hm a2; omega
          have a4 : ¬ x < U := by have := GU.out.2.2.2 x hm a1; omega
          clear o hm
          go_wp2_with fail
          refine (linside_any M R v HU.out.1 HU.out.2.1 HU.out.2.2.1 w6 _ (Ok.refl _)).mono ?_
          rintro e w7 ⟨⟨b, rfl, hbb⟩, hbN⟩
          have HR7 : Hid (_ ∧ _) := And.intro (Ok.row' hbN HR6.out.1) (HR6.out.2.step hbN)
          clear hbN c0 c1
          obtain ⟨c0, c1, _, _⟩ := row_facts HR7.out.1
          cases b
          · clear hbb
            go_wp2_with fail
            go_ret
            exact ⟨rfl, HR7.out.2⟩
          · have hm := hbb.1 rfl
            have hu : U = v := by have a := GU.out.2.2.2 v hm (by omega); have b := GU.out.2.1; omega
            have hd : Dn = v := by have a := GD.out.2.2.2 v hm (by omega); have b := GD.out.2.1; omega
            have e1 : (U == v) = true := by simp [hu]
            have e2 : (Dn == v) = true := by simp [hd]
            clear hm hu hd hbb
            go_wp2_with fail
            go_ret
            exact ⟨rfl, HR7.out.2⟩
        · skip
          have a1 : v ≤ x := by omega
          have a2 : ¬ x ≤ v := by omega
          have a4 : ¬ x < U := by have := GU.out.2.2.2 x hm a1; omega
          clear o hm
          go_wp2_with fail
          refine (linside_any M R v HU.out.1 HU.out.2.1 HU.out.2.2.1 w6 _ (Ok.refl _)).mono ?_
          rintro e w7 ⟨⟨b, rfl, hbb⟩, hbN⟩
          have HR7 : Hid (_ ∧ _) := And.intro (Ok.row' hbN HR6.out.1) (HR6.out.2.step hbN)
          clear hbN c0 c1
          obtain ⟨c0, c1, _, _⟩ := row_facts HR7.out.1
          cases b
          · clear hbb
            go_wp2_with fail
            go_ret
            exact ⟨rfl, HR7.out.2⟩
          · have hm := hbb.1 rfl
            have hu : U = v := by have a := GU.out.2.2.2 v hm (by omega); have b := GU.out.2.1; omega
            have hd : Dn = v := by have a := GD.out.2.2.2 v hm (by omega); have b := GD.out.2.1; omega
            have e1 : (U == v) = true := by simp [hu]
            have e2 : (Dn == v) = true := by simp [hd]
            clear hm hu hd hbb
            go_wp2_with fail
            go_ret
            exact ⟨rfl, HR7.out.2⟩
end Go.Proofs.Ytckkfmgbpembjaa
