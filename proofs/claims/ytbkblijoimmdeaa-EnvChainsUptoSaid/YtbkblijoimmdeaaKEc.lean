import Derived.Deep.RegionHeld3
import Derived.Test.YtbkblijoimmdeaaKEb
import Derived.Test.YtbkblijoimmdeaaKNq
set_option linter.unusedVariables false
set_option linter.unusedSimpArgs false
set_option linter.unnecessarySimpa false
/- Ec -/
namespace Go.Proofs.Ytbkblijoimmdeaa
open Go.RowKit
theorem enormal_at (l : List NT) (ro : Option Addr) (cap : Nat) (hl : ∀ a ∈ l, RawN a) (hn : l.length ≤ 3518437208883) {B : Nat} (W w : World) (hok : Ok W w) (hR : SNs B W ro l) :
    Calls Try.prog 24 #[.slice ro l.length cap] w fun e w' => ∃ g, e = .returned (.slice (some ⟨g, 0, none⟩) l.length l.length) ∧ SNs W.heap.size w' (some ⟨g, 0, none⟩) (l.map normN) ∧ Ok w w' ∧ Ok W w' := by
  refine (enormal_any l ro cap hl hn w (hR.ok hok)).mono ?_
  rintro e w' ⟨g, rfl, h, hb⟩
  exact ⟨g, rfl, h.mono hok.le, hb, hok.step hb⟩
theorem emade_at (v a : List NT) (vo ao : Option Addr) (vc ac n m : Nat) (hn : n = v.length) (hm : m = a.length) (nv' : n ≤ 3518437208883) (na : m ≤ 3518437208883) {B : Nat} (W w : World) (hok : Ok W w) (hV : SNs B w vo v) (hA : SNs B w ao a) :
    Calls Try.prog 23 #[.slice vo n vc, .slice ao m ac] w fun e w' => ∃ r, e = .returned r ∧ EnvIs B w' r (madE v a) ∧ Ok W w' := by
  subst hn hm
  refine (emade_any v a vo ao vc ac nv' na w hV hA).mono ?_
  rintro e w' ⟨r, rfl, h, hb⟩
  exact ⟨r, rfl, h, hok.step hb⟩
/-- An Env that is stored into a row ahead of it and returned. -/
theorem EnvIs.set3 {B : Nat} {w : World} {v : Value} {e : ET} (h : EnvIs B w v e) {g : Nat} (hg : g < B) (x y z : Value) : EnvIs B (((w.setCell ⟨g, 0, none⟩ x).setCell ⟨g, 1, none⟩ y).setCell ⟨g, 2, none⟩ z) v e :=
  ((h.set hg 0 x).set hg 1 y).set hg 2 z
theorem set3_ok {w0 w : World} (h : Ok w0 w) {g : Nat} (hg : w0.heap.size ≤ g) (x y z : Value) : Ok w0 (((w.setCell ⟨g, 0, none⟩ x).setCell ⟨g, 1, none⟩ y).setCell ⟨g, 2, none⟩ z) :=
  Ok.set (Ok.set (Ok.set h hg _) hg _) hg _
theorem EnvIs.ded (B : Nat) (w : World) : EnvIs B w (.agg #[.bool true, .slice none 0 0, .slice none 0 0]) dedE := ⟨none, 0, none, 0, rfl, SNs.nil _ _ _, SNs.nil _ _ _, by simp [dedE], by simp [dedE]⟩
set_option maxRecDepth 100000 in
set_option maxHeartbeats 4000000 in
theorem eNorm_any (x : ET) (xv : Value) (hx : RawE x) {B : Nat} (w : World) (hE : EnvIs B w xv x) :
    Calls Try.prog 8 #[xv] w fun e w' => ∃ r, e = .returned r ∧ EnvIs w.heap.size w' r (normE x) ∧ Ok w w' := by
  obtain ⟨vo, vc, ao, ac, rfl, hV, hA, hn, hm⟩ := hE
  obtain ⟨d, v, a⟩ := x
  simp only at hV hA hn hm ⊢
  have HX : Hid ((∀ p ∈ v, RawN p) ∧ (∀ p ∈ a, RawN p)) := hx
  have HV : Hid (SNs B w vo v) := hV
  have HA : Hid (SNs B w ao a) := hA
  have HN : Hid (v.length ≤ 3518437208883 ∧ a.length ≤ 3518437208883) := ⟨hn, hm⟩
  clear hx hV hA hn hm
  have hok : Ok w w := Ok.refl w
  cases d
  · have HD : Hid (normE (false, v, a) = madE (v.map normN) (a.map normN)) := rfl
    go_enter Try.func8, Try.ntmps8
    go_wp2_with fail
    obtain ⟨W, hW⟩ : ∃ W, W = (w.alloc (.cells #[.bool false, .slice vo v.length vc, .slice ao a.length ac] 24)).alloc (.cells #[.bool false, .slice none 0 0, .slice none 0 0] 24) := ⟨_, rfl⟩
    have ra : Hid (W.heap[w.heap.size]? = some (.cells #[.bool false, .slice vo v.length vc, .slice ao a.length ac] 24)) := by unfold Hid; rw [hW]; exact (by repeat (first | (refine heap_at _ _ _ ?hx; case hx => (first | (simp; done) | (simp; omega))) | (refine heap_past _ _ _ ?hy ?_; case hy => (first | (simp; done) | (simp; omega))) | fail))
    have rz : Hid (W.heap[w.heap.size + 1]? = some (.cells #[.bool false, .slice none 0 0, .slice none 0 0] 24)) := by unfold Hid; rw [hW]; exact (by repeat (first | (refine heap_at _ _ _ ?hx; case hx => (first | (simp; done) | (simp; omega))) | (refine heap_past _ _ _ ?hy ?_; case hy => (first | (simp; done) | (simp; omega))) | fail))
    have HW : Hid (Ok w W) := by unfold Hid; rw [hW]; exact (by repeat (first | exact hok | refine Ok.alloc ?_ _ | refine Ok.draws ?_ _ | fail))
    rw [← hW]
    clear hW
    obtain ⟨gz, egz⟩ : ∃ g, g = w.heap.size + 1 := ⟨_, rfl⟩
    rw [← egz] at rz ⊢
    obtain ⟨ga, ega⟩ : ∃ g, g = w.heap.size := ⟨_, rfl⟩
    rw [← ega] at ra ⊢
    have lgz : w.heap.size ≤ gz := by omega
    have nza : ¬ gz = ga := by omega
    have naz : ¬ ga = gz := by omega
    clear egz ega hok
    obtain ⟨a0, a1, a2, a3, a4, a5⟩ := erow3_facts ra.out
    obtain ⟨k0, k1, k2, k3, k4, k5⟩ := erow3_facts rz.out
    have za := lt_row ra.out
    have bz : Ok W W := Ok.refl _
    have HVW : Hid (SNs B W vo v) := HV.out.ok HW.out
    have HAW : Hid (SNs B W ao a) := HA.out.ok HW.out
    have LZ : Hid (gz < W.heap.size) := lt_row rz.out
    go_region_held3 (fun w' => w'.cell? ⟨ga, 1, none⟩ = some (.slice vo v.length vc) ∧ w'.cell? ⟨ga, 2, none⟩ = some (.slice ao a.length ac)) (go_keep)
      (first
      | (go_at_call_of 24 (Value.slice vo v.length vc); refine (enormal_at v vo vc HX.out.1 HN.out.1 W _ (by repeat (first | assumption | refine Below.drew ?_)) HVW.out).mono ?_; rintro e w1 ⟨g1, rfl, sn1, hx1, hb⟩; have z1 := Ok.refl w1; have S1 : Hid (SNs W.heap.size w1 (some ⟨g1, 0, none⟩) (v.map normN)) := sn1; clear sn1; have q1 := Ok.cell hb za a1; have q2 := Ok.cell hb za a2; obtain ⟨k0, k1, k2, k3, k4, k5⟩ := erow3_facts (Ok.row' hb rz.out))
      | (go_at_call_of 24 (Value.slice ao a.length ac); refine (enormal_at a ao ac HX.out.2 HN.out.2 W _ (by repeat (first | assumption | refine Below.drew ?_)) HAW.out).mono ?_; rintro e w2 ⟨g2, rfl, sn2, hx2, hb⟩; have z2 := Ok.refl w2; have z12 : Ok w1 w2 := Ok.step (by repeat (first | assumption | refine Below.drew ?_)) hx2; have S2 : Hid (SNs W.heap.size w2 (some ⟨g2, 0, none⟩) (a.map normN)) := sn2; clear sn2; have q1 := Ok.cell hb za a1; have q2 := Ok.cell hb za a2; obtain ⟨k0, k1, k2, k3, k4, k5⟩ := erow3_facts (Ok.row' hb rz.out))
      | (go_at_call 23; refine (emade_at (v.map normN) (a.map normN) _ _ _ _ _ _ (by simp) (by simp) HN.out.1 HN.out.2 W _ (by repeat (first | assumption | refine Below.drew ?_)) (S1.out.ok (z12.step (by repeat (first | assumption | refine Below.drew ?_)))) (S2.out.ok (by repeat (first | assumption | refine Below.drew ?_)))).mono ?_; rintro e w3 ⟨r, rfl, hE, hb⟩; have E3 : Hid (EnvIs W.heap.size w3 r (madE (v.map normN) (a.map normN))) := hE; obtain ⟨vo3, vc3, ao3, ac3, e3, _, _, _, _⟩ := hE; subst e3; have O3 : Hid (Ok W w3) := hb; have hr : Hid _ := Ok.row' hb rz.out; have q1 := Ok.cell hb za a1; have q2 := Ok.cell hb za a2; obtain ⟨k0, k1, k2, k3, k4, k5⟩ := erow3_facts hr.out)
      | fail)
    go_wp2_with fail
    refine bodyPost_ret (results_cell_row rfl _ _ gz 24 #[_, _, _] (0, 0) _ rfl (erow_set3 hr.out _ _ _) Try.underlying24 rfl infoE) rfl ?_
    refine ⟨_, rfl, ?_, set3_ok (HW.out.step O3.out) lgz _ _ _⟩
    rw [HD.out]
    exact (E3.out.set3 LZ.out _ _ _).mono HW.out.le
  · have HD : Hid (normE (true, v, a) = dedE) := rfl
    go_enter Try.func8, Try.ntmps8
    go_wp2_with fail
    obtain ⟨W, hW⟩ : ∃ W, W = (w.alloc (.cells #[.bool true, .slice vo v.length vc, .slice ao a.length ac] 24)).alloc (.cells #[.bool false, .slice none 0 0, .slice none 0 0] 24) := ⟨_, rfl⟩
    have rz : Hid (W.heap[w.heap.size + 1]? = some (.cells #[.bool false, .slice none 0 0, .slice none 0 0] 24)) := by unfold Hid; rw [hW]; exact (by repeat (first | (refine heap_at _ _ _ ?hx; case hx => (first | (simp; done) | (simp; omega))) | (refine heap_past _ _ _ ?hy ?_; case hy => (first | (simp; done) | (simp; omega))) | fail))
    have HW : Hid (Ok w W) := by unfold Hid; rw [hW]; exact (by repeat (first | exact hok | refine Ok.alloc ?_ _ | refine Ok.draws ?_ _ | fail))
    rw [← hW]
    clear hW
    obtain ⟨gz, egz⟩ : ∃ g, g = w.heap.size + 1 := ⟨_, rfl⟩
    have lgz : w.heap.size ≤ gz := by omega
    rw [← egz] at rz ⊢
    refine (edead_any W _ (Ok.refl _)).mono ?_
    rintro e u1 ⟨rfl, hb⟩
    have hr : Hid _ := Ok.row' hb rz.out
    have Hu : Hid (Ok w u1) := HW.out.step hb
    clear hb egz
    obtain ⟨k0, k1, k2, k3, k4, k5⟩ := erow3_facts hr.out
    go_wp2_with fail
    refine bodyPost_ret (results_cell_row rfl _ _ gz 24 #[_, _, _] (0, 0) _ rfl (erow_set3 hr.out _ _ _) Try.underlying24 rfl infoE) rfl ?_
    refine ⟨_, rfl, ?_, set3_ok Hu.out lgz _ _ _⟩
    rw [HD.out]
    exact EnvIs.ded _ _
end Go.Proofs.Ytbkblijoimmdeaa
