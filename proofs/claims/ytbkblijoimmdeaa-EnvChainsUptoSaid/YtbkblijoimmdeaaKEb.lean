import Derived.Test.YtbkblijoimmdeaaKEa
set_option linter.unusedVariables false
set_option linter.unusedSimpArgs false
set_option linter.unnecessarySimpa false
/- Eb -/
namespace Go.Proofs.Ytbkblijoimmdeaa
open Go.RowKit
theorem infoE : (Try.prog.info? 24).map (·.size) = some 3 := by kernel_rfl
/-- An Env in memory, its lists' blocks at or behind B. -/
def EnvIs (B : Nat) (w : World) (v : Value) (e : ET) : Prop := ∃ vo vc ao ac, v = .agg #[.bool e.1, .slice vo e.2.1.length vc, .slice ao e.2.2.length ac] ∧ SNs B w vo e.2.1 ∧ SNs B w ao e.2.2 ∧ e.2.1.length ≤ 3518437208883 ∧ e.2.2.length ≤ 3518437208883
theorem EnvIs.mono {B C : Nat} {w : World} {v : Value} {e : ET} (h : EnvIs B w v e) (hc : C ≤ B) : EnvIs C w v e := by
  obtain ⟨vo, vc, ao, ac, h1, h2, h3, h4⟩ := h
  exact ⟨vo, vc, ao, ac, h1, h2.mono hc, h3.mono hc, h4⟩
theorem EnvIs.set {B : Nat} {w : World} {v : Value} {e : ET} (h : EnvIs B w v e) {g : Nat} (hg : g < B) (i : Nat) (u : Value) : EnvIs B (w.setCell ⟨g, i, none⟩ u) v e := by
  obtain ⟨vo, vc, ao, ac, h1, h2, h3, h4⟩ := h
  exact ⟨vo, vc, ao, ac, h1, h2.set hg i u, h3.set hg i u, h4⟩
theorem EnvIs.ok {B : Nat} {w w1 : World} {v : Value} {e : ET} (h : EnvIs B w v e) (hb : Ok w w1) : EnvIs B w1 v e := by
  obtain ⟨vo, vc, ao, ac, h1, h2, h3, h4⟩ := h
  exact ⟨vo, vc, ao, ac, h1, h2.ok hb, h3.ok hb, h4⟩
theorem erow3_facts {w : World} {g : Nat} {x y z : Value} {t : TypeId} (h : w.heap[g]? = some (.cells #[x, y, z] t (0, 0))) :
    w.cell? ⟨g, 0, none⟩ = some x ∧ w.cell? ⟨g, 1, none⟩ = some y ∧ w.cell? ⟨g, 2, none⟩ = some z ∧ w.frozen? ⟨g, 0, none⟩ = false ∧ w.frozen? ⟨g, 1, none⟩ = false ∧ w.frozen? ⟨g, 2, none⟩ = false := by
  refine ⟨?_, ?_, ?_, frozen_of_row _ _ _ _ _ h, frozen_of_row _ _ _ _ _ h, frozen_of_row _ _ _ _ _ h⟩
  · exact (cell_of_row _ _ 0 _ _ _ h).trans (by simp)
  · exact (cell_of_row _ _ 1 _ _ _ h).trans (by simp)
  · exact (cell_of_row _ _ 2 _ _ _ h).trans (by simp)
theorem erow_set3 {w : World} {g : Nat} {x y z : Value} {t : TypeId} (h : w.heap[g]? = some (.cells #[x, y, z] t (0, 0))) (x' y' z' : Value) :
    (((w.setCell ⟨g, 0, none⟩ x').setCell ⟨g, 1, none⟩ y').setCell ⟨g, 2, none⟩ z').heap[g]? = some (.cells #[x', y', z'] t (0, 0)) := by
  have h1 := heap_setCell_same w g 0 _ t x' h
  have h2 := heap_setCell_same _ g 1 _ t y' h1
  have h3 := heap_setCell_same _ g 2 _ t z' h2
  simpa using h3
set_option maxHeartbeats 4000000 in
theorem edead_any (w0 w : World) (hok : Ok w0 w) :
    Calls Try.prog 22 #[] w fun e w' => e = .returned (.agg #[.bool true, .slice none 0 0, .slice none 0 0]) ∧ Ok w0 w' := by
  go_enter Try.func22, Try.ntmps22
  go_wp2_with fail
  (try simp only [Exit.inBlock, Exit.then]); refine bodyPost_ret (results_cell_row rfl _ _ (w.heap.size) 24 #[_, _, _] (0, 0) _ rfl (by repeat (first | (refine heap_at _ _ _ ?hx; case hx => (first | (simp; done) | (simp; omega))) | (refine heap_past _ _ _ ?hy ?_; case hy => (first | (simp; done) | (simp; omega))) | fail)) Try.underlying24 rfl infoE) rfl ?_
  exact ⟨rfl, hok.alloc _⟩
set_option maxHeartbeats 4000000 in
theorem emade1_any (a : NT) (w0 w : World) (hok : Ok w0 w) :
    Calls Try.prog 41 #[nv a] w fun e w' => e = .returned (.bool a.2.2.2.2) ∧ Ok w0 w' := by
  unfold nv
  go_enter Try.func41, Try.ntmps41
  go_wp2_with fail
  go_ret
  exact ⟨rfl, hok.alloc _⟩
theorem any_take {l : List NT} {k : Nat} (hk : k < l.length) : (l.take (k + 1)).any (fun x => x.2.2.2.2) = ((l.take k).any (fun x => x.2.2.2.2) || l[k].2.2.2.2) := by
  rw [List.take_succ_eq_append_getElem hk, List.any_append]; simp
set_option maxRecDepth 100000 in
set_option maxHeartbeats 4000000 in
theorem eindex_any (l : List NT) (ro : Option Addr) (cap : Nat) (hn : l.length ≤ 3518437208883) {B : Nat} (w : World) (hR : SNs B w ro l) :
    Calls Try.prog 60 #[.slice ro l.length cap, .func (Fn.func 41) #[] #[]] w fun e w' => ∃ z : Int, e = .returned (.int .i64 z) ∧ decide (0 ≤ z) = l.any (fun x => x.2.2.2.2) ∧ Ok w w' := by
  obtain ⟨m, hmm⟩ : ∃ m, m = l.length := ⟨_, rfl⟩
  have HR : Hid (SNs B w ro l) := hR
  rw [← hmm] at hn ⊢
  have HM : Hid (m = l.length) := hmm
  obtain ⟨b, hbb⟩ : ∃ b, b = l.any (fun x => x.2.2.2.2) := ⟨_, rfl⟩
  rw [← hbb]
  have HBB : Hid _ := hbb
  clear hR hmm hbb
  have HB : Hid (m ≤ 4611686018427387904) := by unfold Hid; omega
  go_enter Try.func60, Try.ntmps60
  go_wp2_with fail
  go_loopw [8] (fun s8 wr => ∃ (k : Nat), k ≤ m ∧ s8 = .int .i64 (k : Int) ∧ Hid ((l.take k).any (fun x => x.2.2.2.2) = false) ∧ Hid (Ok w wr)) (fun s8 _ => m - (intOf s8).toNat)
  case atStart => exact ⟨0, by omega, rfl, by unfold Hid; simp, Ok.refl w⟩
  case round =>
    obtain ⟨k, hk, rfl, HI, HK⟩ := hrel
    by_cases k3 : k < m
    · have k3i : (k : Int) < (m : Int) := by omega
      have k0i : (0 : Int) ≤ (k : Int) := by omega
      obtain ⟨tb, o, ero, htb, p0, p1, p2, p3, p4⟩ := SNs.at HR.out HK.out (k := k) (by rw [← HM.out]; exact k3)
      obtain ⟨p, hp⟩ : ∃ p, p = (l[k]'(by rw [← HM.out]; exact k3)) := ⟨_, rfl⟩
      have HT : Hid ((l.take (k + 1)).any (fun x => x.2.2.2.2) = p.2.2.2.2) := by
        unfold Hid
        rw [any_take (by rw [← HM.out]; exact k3), HI.out, hp]; simp
      have HE : Hid (p.2.2.2.2 = true → b = true) := by
        intro h
        rw [HBB.out, List.any_eq_true]
        exact ⟨p, by rw [hp]; exact List.getElem_mem _, h⟩
      subst ero
      rw [← hp] at p0 p1 p2 p3 p4
      clear hp
      have s0 := HK.out.le
      have s2 : tb < wr.heap.size := by omega
      go_wp2_with fail
      refine (emade1_any p wr _ (Ok.refl _)).mono ?_
      rintro e w4 ⟨rfl, hb⟩
      have Hw4 : Hid (Ok w w4) := HK.out.step hb
      clear hb HK p0 p1 p2 p3 p4 s0 s2
      rcases Bool.eq_false_or_eq_true p.2.2.2.2 with hq | hq
      · have HF : Hid (b = true) := HE.out hq
        rw [hq]
        clear HE HT hq
        go_wp2_with fail
        go_ret
        exact ⟨_, rfl, by rw [HF.out]; exact decide_eq_true k0i, Hw4.out⟩
      · have HF : Hid ((l.take (k + 1)).any (fun x => x.2.2.2.2) = false) := by unfold Hid; rw [HT.out]; exact hq
        rw [hq]
        clear HE HT hq
        go_wp2_with fail
        exact ⟨⟨k + 1, by omega, by simp, HF.out, Hw4.out⟩, by simp [intOf]; omega⟩
    · have k3e : k = m := by omega
      subst k3e
      go_wp2_with fail
      go_ret
      refine ⟨_, rfl, ?_, HK.out⟩
      rw [HBB.out]
      have h := HI.out
      rw [List.take_of_length_le (by rw [← HM.out]; exact Nat.le_refl _)] at h
      rw [h]; decide
set_option maxRecDepth 100000 in
set_option maxHeartbeats 4000000 in
theorem econt_any (l : List NT) (ro : Option Addr) (cap : Nat) (hn : l.length ≤ 3518437208883) {B : Nat} (w : World) (hR : SNs B w ro l) :
    Calls Try.prog 42 #[.slice ro l.length cap, .func (Fn.func 41) #[] #[]] w fun e w' => e = .returned (.bool (l.any (fun x => x.2.2.2.2))) ∧ Ok w w' := by
  have HR : Hid (SNs B w ro l) := hR
  clear hR
  obtain ⟨b, hbb⟩ : ∃ b, b = l.any (fun x => x.2.2.2.2) := ⟨_, rfl⟩
  rw [← hbb]
  have HBB : Hid _ := hbb
  clear hbb
  go_enter Try.func42, Try.ntmps42
  go_wp2_with fail
  refine (eindex_any l ro cap hn w HR.out).mono ?_
  rintro e w1 ⟨z, rfl, hz, hb⟩
  have HZ : Hid (decide (0 ≤ z) = b) := by unfold Hid; rw [HBB.out]; exact hz
  have Hb : Hid (Ok w w1) := hb
  clear hz hb
  go_wp2_with fail
  go_ret
  exact ⟨by rw [← HZ.out]; rfl, Hb.out⟩
set_option maxRecDepth 100000 in
set_option maxHeartbeats 4000000 in
theorem emade_any (v a : List NT) (vo ao : Option Addr) (vc ac : Nat) (nv' : v.length ≤ 3518437208883) (na : a.length ≤ 3518437208883) {B : Nat} (w : World) (hV : SNs B w vo v) (hA : SNs B w ao a) :
    Calls Try.prog 23 #[.slice vo v.length vc, .slice ao a.length ac] w fun e w' => ∃ r, e = .returned r ∧ EnvIs B w' r (madE v a) ∧ Ok w w' := by
  have HV : Hid (SNs B w vo v) := hV
  have HA : Hid (SNs B w ao a) := hA
  have HN : Hid (v.length ≤ 3518437208883 ∧ a.length ≤ 3518437208883) := ⟨nv', na⟩
  clear hV hA nv' na
  obtain ⟨b, hb0⟩ : ∃ b, b = v.any (fun x => x.2.2.2.2) := ⟨_, rfl⟩
  obtain ⟨c, hc0⟩ : ∃ b, b = a.any (fun x => x.2.2.2.2) := ⟨_, rfl⟩
  have HM : Hid (madE v a = if (b || c) = true then dedE else (false, v, a)) := by unfold Hid; rw [hb0, hc0]; rfl
  have HB : Hid _ := hb0
  have HC : Hid _ := hc0
  clear hb0 hc0
  go_enter Try.func23, Try.ntmps23
  go_wp2_with fail
  obtain ⟨W, hW⟩ : ∃ W, W = w.alloc (.cells #[.bool false, .slice none 0 0, .slice none 0 0] 24) := ⟨_, rfl⟩
  have rz : Hid (W.heap[w.heap.size]? = some (.cells #[.bool false, .slice none 0 0, .slice none 0 0] 24)) := by unfold Hid; rw [hW]; exact heap_new0 _ _
  have HW : Hid (Ok w W) := by unfold Hid; rw [hW]; exact (Ok.refl _).alloc _
  rw [← hW]
  obtain ⟨g, eg⟩ : ∃ g, g = w.heap.size := ⟨_, rfl⟩
  have lg : w.heap.size ≤ g := by omega
  rw [← eg] at rz ⊢
  clear hW eg
  refine (econt_any v vo vc HN.out.1 W (HV.out.ok HW.out)).mono ?_
  rintro e w1 ⟨rfl, hb⟩
  rw [← HB.out]
  replace rz : Hid _ := Ok.row' hb rz.out
  have H1 : Hid (Ok w w1) := HW.out.step hb
  clear hb HW
  cases b
  · go_wp2_with fail
    refine (econt_any a ao ac HN.out.2 w1 (HA.out.ok H1.out)).mono ?_
    rintro e w2 ⟨rfl, hb⟩
    rw [← HC.out]
    replace rz : Hid _ := Ok.row' hb rz.out
    have H2 : Hid (Ok w w2) := H1.out.step hb
    clear hb H1
    cases c
    · have HD : Hid (madE v a = (false, v, a)) := by unfold Hid; rw [HM.out]; rfl
      obtain ⟨k0, k1, k2, k3, k4, k5⟩ := erow3_facts rz.out
      go_wp2_with fail
      refine bodyPost_ret (results_cell_row rfl _ _ g 24 #[_, _, _] (0, 0) _ rfl (erow_set3 rz.out _ _ _) Try.underlying24 rfl infoE) rfl ?_
      have hO := Ok.set (Ok.set (Ok.set H2.out (p := ⟨g, 0, none⟩) lg (.bool false)) (p := ⟨g, 1, none⟩) lg (.slice vo v.length vc)) (p := ⟨g, 2, none⟩) lg (.slice ao a.length ac)
      refine ⟨_, rfl, ?_, hO⟩
      rw [HD.out]
      exact ⟨vo, vc, ao, ac, rfl, HV.out.ok hO, HA.out.ok hO, HN.out.1, HN.out.2⟩
    · have HD : Hid (madE v a = dedE) := by unfold Hid; rw [HM.out]; rfl
      go_wp2_with fail
      refine (edead_any w2 _ (Ok.refl _)).mono ?_
      rintro e u1 ⟨rfl, hb⟩
      have hr : Hid _ := Ok.row' hb rz.out
      have Hu : Hid (Ok w u1) := H2.out.step hb
      clear hb
      obtain ⟨k0, k1, k2, k3, k4, k5⟩ := erow3_facts hr.out
      go_wp2_with fail
      refine bodyPost_ret (results_cell_row rfl _ _ g 24 #[_, _, _] (0, 0) _ rfl (erow_set3 hr.out _ _ _) Try.underlying24 rfl infoE) rfl ?_
      refine ⟨_, rfl, ?_, Ok.set (Ok.set (Ok.set Hu.out lg _) lg _) lg _⟩
      rw [HD.out]
      exact ⟨none, 0, none, 0, rfl, SNs.nil _ _ _, SNs.nil _ _ _, by simp [dedE], by simp [dedE]⟩
  · have HD : Hid (madE v a = dedE) := by unfold Hid; rw [HM.out]; rfl
    go_wp2_with fail
    refine (edead_any w1 _ (Ok.refl _)).mono ?_
    rintro e u1 ⟨rfl, hb⟩
    have hr : Hid _ := Ok.row' hb rz.out
    have Hu : Hid (Ok w u1) := H1.out.step hb
    clear hb
    obtain ⟨k0, k1, k2, k3, k4, k5⟩ := erow3_facts hr.out
    go_wp2_with fail
    refine bodyPost_ret (results_cell_row rfl _ _ g 24 #[_, _, _] (0, 0) _ rfl (erow_set3 hr.out _ _ _) Try.underlying24 rfl infoE) rfl ?_
    refine ⟨_, rfl, ?_, Ok.set (Ok.set (Ok.set Hu.out lg _) lg _) lg _⟩
    rw [HD.out]
    exact ⟨none, 0, none, 0, rfl, SNs.nil _ _ _, SNs.nil _ _ _, by simp [dedE], by simp [dedE]⟩
end Go.Proofs.Ytbkblijoimmdeaa
