import Derived.Test.YtbkblijoimmdeaaKEf
import Derived.Test.YtbkblijoimmdeaaKEg
set_option linter.unusedVariables false
set_option linter.unusedSimpArgs false
set_option linter.unnecessarySimpa false
/- Eh -/
namespace Go.Proofs.Ytbkblijoimmdeaa
open Go.RowKit
theorem ne_len {n m : Nat} (h : ¬ n = m) : ((n : Int) != (m : Int)) = true := by simp; omega
theorem ne_len' {n m : Nat} (h : n = m) : ((n : Int) != (m : Int)) = false := by simp; omega
theorem pair_off {p : NT → NT → NT} {e f : ET} (h : ¬ (e.2.1.length = f.2.1.length ∧ e.2.2.length = f.2.2.length)) : pairE p e f = dedE := by
  unfold pairE
  rw [if_pos]
  rcases Nat.decEq e.2.1.length f.2.1.length with q | q
  · exact Or.inl q
  · exact Or.inr (fun r => h ⟨q, r⟩)
theorem pair_on {p : NT → NT → NT} {e f : ET} (h1 : e.2.1.length = f.2.1.length) (h2 : e.2.2.length = f.2.2.length) : pairE p e f = madE (List.zipWith p e.2.1 f.2.1) (List.zipWith p e.2.2 f.2.2) := by
  unfold pairE
  rw [if_neg]
  rintro (h | h)
  · exact h h1
  · exact h h2
set_option maxRecDepth 100000 in
set_option maxHeartbeats 8000000 in
theorem epairJ_any (x y : ET) (xv yv : Value) (hx : RawE x) (hy : RawE y) {B C : Nat} (w : World) (hX : EnvIs B w xv x) (hY : EnvIs C w yv y) :
    Calls Try.prog 27 #[xv, yv, .func (Fn.func 30) #[] #[]] w fun e w' => ∃ r, e = .returned r ∧ EnvIs w.heap.size w' r (pairE (joinN) x y) ∧ Ok w w' := by
  have Ex0 := hX
  obtain ⟨po, pc, pp, pd, ex, _, _, _, _⟩ := hX
  subst ex
  have Ex : Hid (EnvIs B w (.agg #[.bool x.1, .slice po x.2.1.length pc, .slice pp x.2.2.length pd]) x) := Ex0
  have Rx : Hid (RawE x) := hx
  clear Ex0 hx
  have Ey0 := hY
  obtain ⟨qo, qc, qp, qd, ey, _, _, _, _⟩ := hY
  subst ey
  have Ey : Hid (EnvIs C w (.agg #[.bool y.1, .slice qo y.2.1.length qc, .slice qp y.2.2.length qd]) y) := Ey0
  have Ry : Hid (RawE y) := hy
  clear Ey0 hy
  obtain ⟨R, hR⟩ : ∃ R, R = pairE (joinN) x y := ⟨_, rfl⟩
  rw [← hR]
  have HR : Hid (R = pairE (joinN) x y) := hR
  clear hR
  by_cases c1 : x.2.1.length = y.2.1.length
  · have d1 := ne_len' c1
    by_cases c2 : x.2.2.length = y.2.2.length
    · have d2 := ne_len' c2
      have HP : Hid (R = madE (List.zipWith (joinN) x.2.1 y.2.1) (List.zipWith (joinN) x.2.2 y.2.2)) := by unfold Hid; rw [HR.out]; exact pair_on c1 c2
      have HC : Hid (x.2.1.length = y.2.1.length ∧ x.2.2.length = y.2.2.length) := ⟨c1, c2⟩
      clear HR c1 c2
      go_enter Try.func27, Try.ntmps27
      go_wp2_with fail
      obtain ⟨W, hW⟩ : ∃ W, W = (((w).alloc (.cells #[.bool x.1, .slice po x.2.1.length pc, .slice pp x.2.2.length pd] 24)).alloc (.cells #[.bool y.1, .slice qo y.2.1.length qc, .slice qp y.2.2.length qd] 24)).alloc (.cells #[.bool false, .slice none 0 0, .slice none 0 0] 24) := ⟨_, rfl⟩
      have rx : Hid (W.heap[w.heap.size]? = some (.cells #[.bool x.1, .slice po x.2.1.length pc, .slice pp x.2.2.length pd] 24)) := by unfold Hid; rw [hW]; exact (by repeat (first | (refine heap_at _ _ _ ?hx; case hx => (first | (simp; done) | (simp; omega))) | (refine heap_past _ _ _ ?hy ?_; case hy => (first | (simp; done) | (simp; omega))) | fail))
      have ry : Hid (W.heap[w.heap.size + 1]? = some (.cells #[.bool y.1, .slice qo y.2.1.length qc, .slice qp y.2.2.length qd] 24)) := by unfold Hid; rw [hW]; exact (by repeat (first | (refine heap_at _ _ _ ?hx; case hx => (first | (simp; done) | (simp; omega))) | (refine heap_past _ _ _ ?hy ?_; case hy => (first | (simp; done) | (simp; omega))) | fail))
      have rz : Hid (W.heap[w.heap.size + 1 + 1]? = some (.cells #[.bool false, .slice none 0 0, .slice none 0 0] 24)) := by unfold Hid; rw [hW]; exact (by repeat (first | (refine heap_at _ _ _ ?hx; case hx => (first | (simp; done) | (simp; omega))) | (refine heap_past _ _ _ ?hy ?_; case hy => (first | (simp; done) | (simp; omega))) | fail))
      have HW : Hid (Ok w W) := by unfold Hid; rw [hW]; have hok := Ok.refl w; exact (by repeat (first | exact hok | refine Ok.alloc ?_ _ | refine Ok.draws ?_ _ | fail))
      rw [← hW]
      clear hW
      obtain ⟨gz, egz⟩ : ∃ g, g = w.heap.size + 1 + 1 := ⟨_, rfl⟩
      rw [← egz] at rz ⊢
      obtain ⟨gy, egy⟩ : ∃ g, g = w.heap.size + 1 := ⟨_, rfl⟩
      rw [← egy] at ry ⊢
      obtain ⟨gx, egx⟩ : ∃ g, g = w.heap.size := ⟨_, rfl⟩
      rw [← egx] at rx ⊢
      have lgx : w.heap.size ≤ gx := by omega
      have nxy : ¬ gx = gy := by omega
      have nxz : ¬ gx = gz := by omega
      have lgy : w.heap.size ≤ gy := by omega
      have nyx : ¬ gy = gx := by omega
      have nyz : ¬ gy = gz := by omega
      have lgz : w.heap.size ≤ gz := by omega
      have nzx : ¬ gz = gx := by omega
      have nzy : ¬ gz = gy := by omega
      clear egx egy egz
      have ExW : Hid (EnvIs B W (.agg #[.bool x.1, .slice po x.2.1.length pc, .slice pp x.2.2.length pd]) x) := Ex.out.ok HW.out
      have EyW : Hid (EnvIs C W (.agg #[.bool y.1, .slice qo y.2.1.length qc, .slice qp y.2.2.length qd]) y) := Ey.out.ok HW.out
      have Lx : Hid (gx < W.heap.size) := lt_row rx.out
      have Ly : Hid (gy < W.heap.size) := lt_row ry.out
      have Lz : Hid (gz < W.heap.size) := lt_row rz.out
      obtain ⟨a0, a1, a2, a3, a4, a5⟩ := erow3_facts rx.out
      obtain ⟨b0, b1, b2, b3, b4, b5⟩ := erow3_facts ry.out
      obtain ⟨k0, k1, k2, k3, k4, k5⟩ := erow3_facts rz.out
      have bz : Ok W W := Ok.refl _
      go_region_held3 (fun w' => w'.cell? ⟨gx, 1, none⟩ = some (.slice po x.2.1.length pc) ∧ w'.cell? ⟨gx, 2, none⟩ = some (.slice pp x.2.2.length pd) ∧ w'.cell? ⟨gy, 1, none⟩ = some (.slice qo y.2.1.length qc) ∧ w'.cell? ⟨gy, 2, none⟩ = some (.slice qp y.2.2.length qd)) (go_keep)
        (first
        | (go_at_call_of 46 (Value.slice po x.2.1.length pc); refine (epj_any x.2.1 y.2.1 _ _ _ _ Rx.out.1 Ry.out.1 HC.out.1 ExW.out.lists.2.2.2.2.1 _ (ExW.out.lists.1.ok (by repeat (first | assumption | refine Below.drew ?_))) (EyW.out.lists.1.ok (by repeat (first | assumption | refine Below.drew ?_)))).mono ?_; rintro e w1 ⟨g1, rfl, sn, hx1⟩; have hb : Ok W w1 := Ok.step (by repeat (first | assumption | refine Below.drew ?_)) hx1; have z1 := Ok.refl w1; have S1 : Hid (SNs W.heap.size w1 (some ⟨g1, 0, none⟩) (List.zipWith (joinN) x.2.1 y.2.1)) := sn.mono (Ok.le (w0 := W) (by repeat (first | assumption | refine Below.drew ?_))); clear sn; have t1 := Ok.cell hb Lx.out a1; have t2 := Ok.cell hb Lx.out a2; have t3 := Ok.cell hb Ly.out b1; have t4 := Ok.cell hb Ly.out b2; obtain ⟨k0, k1, k2, k3, k4, k5⟩ := erow3_facts (Ok.row' hb rz.out))
        | (go_at_call_of 46 (Value.slice pp x.2.2.length pd); refine (epj_any x.2.2 y.2.2 _ _ _ _ Rx.out.2 Ry.out.2 HC.out.2 ExW.out.lists.2.2.2.2.2 _ (ExW.out.lists.2.1.ok (by repeat (first | assumption | refine Below.drew ?_))) (EyW.out.lists.2.1.ok (by repeat (first | assumption | refine Below.drew ?_)))).mono ?_; rintro e w2 ⟨g2, rfl, sn, hx2⟩; have hb : Ok W w2 := Ok.step (by repeat (first | assumption | refine Below.drew ?_)) hx2; have z12 : Ok w1 w2 := Ok.step (by repeat (first | assumption | refine Below.drew ?_)) hx2; have z2 := Ok.refl w2; have S2 : Hid (SNs W.heap.size w2 (some ⟨g2, 0, none⟩) (List.zipWith (joinN) x.2.2 y.2.2)) := sn.mono (Ok.le (w0 := W) (by repeat (first | assumption | refine Below.drew ?_))); clear sn; have t1 := Ok.cell hb Lx.out a1; have t2 := Ok.cell hb Lx.out a2; have t3 := Ok.cell hb Ly.out b1; have t4 := Ok.cell hb Ly.out b2; obtain ⟨k0, k1, k2, k3, k4, k5⟩ := erow3_facts (Ok.row' hb rz.out))
        | (go_at_call 23; refine (emade_at _ _ _ _ _ _ _ _ (by simp [HC.out.1]) (by simp [HC.out.2]) ExW.out.lists.2.2.2.2.1 ExW.out.lists.2.2.2.2.2 W _ (by repeat (first | assumption | refine Below.drew ?_)) (S1.out.ok (z12.step (by repeat (first | assumption | refine Below.drew ?_)))) (S2.out.ok (by repeat (first | assumption | refine Below.drew ?_)))).mono ?_; rintro e w3 ⟨r, rfl, hE, hb⟩; rw [← HP.out] at hE; have E3 : Hid (EnvIs W.heap.size w3 r R) := hE; obtain ⟨vo3, vc3, ao3, ac3, e3, _, _, _, _⟩ := hE; subst e3; have O3 : Hid (Ok W w3) := hb; have t1 := Ok.cell hb Lx.out a1; have t2 := Ok.cell hb Lx.out a2; have t3 := Ok.cell hb Ly.out b1; have t4 := Ok.cell hb Ly.out b2; obtain ⟨k0, k1, k2, k3, k4, k5⟩ := erow3_facts (Ok.row' hb rz.out))
        | fail)
      replace rz : Hid _ := Ok.row' O3.out rz.out
      go_wp2_with fail
      refine bodyPost_ret (results_cell_row rfl _ _ gz 24 #[_, _, _] (0, 0) _ rfl (erow_set3 rz.out _ _ _) Try.underlying24 rfl infoE) rfl ?_
      refine ⟨_, rfl, ?_, set3_ok (HW.out.step O3.out) lgz _ _ _⟩
      exact (E3.out.set3 Lz.out _ _ _).mono HW.out.le
    · have d2 := ne_len c2
      have HD : Hid (R = dedE) := by unfold Hid; rw [HR.out]; exact pair_off (fun h => c2 h.2)
      clear HR
      clear c1 c2
      go_enter Try.func27, Try.ntmps27
      go_wp2_with fail
      obtain ⟨W, hW⟩ : ∃ W, W = (((w).alloc (.cells #[.bool x.1, .slice po x.2.1.length pc, .slice pp x.2.2.length pd] 24)).alloc (.cells #[.bool y.1, .slice qo y.2.1.length qc, .slice qp y.2.2.length qd] 24)).alloc (.cells #[.bool false, .slice none 0 0, .slice none 0 0] 24) := ⟨_, rfl⟩
      have rx : Hid (W.heap[w.heap.size]? = some (.cells #[.bool x.1, .slice po x.2.1.length pc, .slice pp x.2.2.length pd] 24)) := by unfold Hid; rw [hW]; exact (by repeat (first | (refine heap_at _ _ _ ?hx; case hx => (first | (simp; done) | (simp; omega))) | (refine heap_past _ _ _ ?hy ?_; case hy => (first | (simp; done) | (simp; omega))) | fail))
      have ry : Hid (W.heap[w.heap.size + 1]? = some (.cells #[.bool y.1, .slice qo y.2.1.length qc, .slice qp y.2.2.length qd] 24)) := by unfold Hid; rw [hW]; exact (by repeat (first | (refine heap_at _ _ _ ?hx; case hx => (first | (simp; done) | (simp; omega))) | (refine heap_past _ _ _ ?hy ?_; case hy => (first | (simp; done) | (simp; omega))) | fail))
      have rz : Hid (W.heap[w.heap.size + 1 + 1]? = some (.cells #[.bool false, .slice none 0 0, .slice none 0 0] 24)) := by unfold Hid; rw [hW]; exact (by repeat (first | (refine heap_at _ _ _ ?hx; case hx => (first | (simp; done) | (simp; omega))) | (refine heap_past _ _ _ ?hy ?_; case hy => (first | (simp; done) | (simp; omega))) | fail))
      have HW : Hid (Ok w W) := by unfold Hid; rw [hW]; have hok := Ok.refl w; exact (by repeat (first | exact hok | refine Ok.alloc ?_ _ | refine Ok.draws ?_ _ | fail))
      rw [← hW]
      clear hW
      obtain ⟨gz, egz⟩ : ∃ g, g = w.heap.size + 1 + 1 := ⟨_, rfl⟩
      rw [← egz] at rz ⊢
      obtain ⟨gy, egy⟩ : ∃ g, g = w.heap.size + 1 := ⟨_, rfl⟩
      rw [← egy] at ry ⊢
      obtain ⟨gx, egx⟩ : ∃ g, g = w.heap.size := ⟨_, rfl⟩
      rw [← egx] at rx ⊢
      have lgx : w.heap.size ≤ gx := by omega
      have nxy : ¬ gx = gy := by omega
      have nxz : ¬ gx = gz := by omega
      have lgy : w.heap.size ≤ gy := by omega
      have nyx : ¬ gy = gx := by omega
      have nyz : ¬ gy = gz := by omega
      have lgz : w.heap.size ≤ gz := by omega
      have nzx : ¬ gz = gx := by omega
      have nzy : ¬ gz = gy := by omega
      clear egx egy egz
      have ExW : Hid (EnvIs B W (.agg #[.bool x.1, .slice po x.2.1.length pc, .slice pp x.2.2.length pd]) x) := Ex.out.ok HW.out
      have EyW : Hid (EnvIs C W (.agg #[.bool y.1, .slice qo y.2.1.length qc, .slice qp y.2.2.length qd]) y) := Ey.out.ok HW.out
      have Lx : Hid (gx < W.heap.size) := lt_row rx.out
      have Ly : Hid (gy < W.heap.size) := lt_row ry.out
      have Lz : Hid (gz < W.heap.size) := lt_row rz.out
      refine (edead_any W _ (Ok.refl _)).mono ?_
      rintro e u1 ⟨rfl, hb⟩
      replace rz : Hid _ := Ok.row' hb rz.out
      have Hu : Hid (Ok w u1) := HW.out.step hb
      clear hb
      obtain ⟨k0, k1, k2, k3, k4, k5⟩ := erow3_facts rz.out
      go_wp2_with fail
      refine bodyPost_ret (results_cell_row rfl _ _ gz 24 #[_, _, _] (0, 0) _ rfl (erow_set3 rz.out _ _ _) Try.underlying24 rfl infoE) rfl ?_
      refine ⟨_, rfl, ?_, set3_ok Hu.out lgz _ _ _⟩
      rw [HD.out]
      exact EnvIs.ded _ _
  · have d1 := ne_len c1
    have HD : Hid (R = dedE) := by unfold Hid; rw [HR.out]; exact pair_off (fun h => c1 h.1)
    clear HR
    clear c1
    go_enter Try.func27, Try.ntmps27
    go_wp2_with fail
    obtain ⟨W, hW⟩ : ∃ W, W = (((w).alloc (.cells #[.bool x.1, .slice po x.2.1.length pc, .slice pp x.2.2.length pd] 24)).alloc (.cells #[.bool y.1, .slice qo y.2.1.length qc, .slice qp y.2.2.length qd] 24)).alloc (.cells #[.bool false, .slice none 0 0, .slice none 0 0] 24) := ⟨_, rfl⟩
    have rx : Hid (W.heap[w.heap.size]? = some (.cells #[.bool x.1, .slice po x.2.1.length pc, .slice pp x.2.2.length pd] 24)) := by unfold Hid; rw [hW]; exact (by repeat (first | (refine heap_at _ _ _ ?hx; case hx => (first | (simp; done) | (simp; omega))) | (refine heap_past _ _ _ ?hy ?_; case hy => (first | (simp; done) | (simp; omega))) | fail))
    have ry : Hid (W.heap[w.heap.size + 1]? = some (.cells #[.bool y.1, .slice qo y.2.1.length qc, .slice qp y.2.2.length qd] 24)) := by unfold Hid; rw [hW]; exact (by repeat (first | (refine heap_at _ _ _ ?hx; case hx => (first | (simp; done) | (simp; omega))) | (refine heap_past _ _ _ ?hy ?_; case hy => (first | (simp; done) | (simp; omega))) | fail))
    have rz : Hid (W.heap[w.heap.size + 1 + 1]? = some (.cells #[.bool false, .slice none 0 0, .slice none 0 0] 24)) := by unfold Hid; rw [hW]; exact (by repeat (first | (refine heap_at _ _ _ ?hx; case hx => (first | (simp; done) | (simp; omega))) | (refine heap_past _ _ _ ?hy ?_; case hy => (first | (simp; done) | (simp; omega))) | fail))
    have HW : Hid (Ok w W) := by unfold Hid; rw [hW]; have hok := Ok.refl w; exact (by repeat (first | exact hok | refine Ok.alloc ?_ _ | refine Ok.draws ?_ _ | fail))
    rw [← hW]
    clear hW
    obtain ⟨gz, egz⟩ : ∃ g, g = w.heap.size + 1 + 1 := ⟨_, rfl⟩
    rw [← egz] at rz ⊢
    obtain ⟨gy, egy⟩ : ∃ g, g = w.heap.size + 1 := ⟨_, rfl⟩
    rw [← egy] at ry ⊢
    obtain ⟨gx, egx⟩ : ∃ g, g = w.heap.size := ⟨_, rfl⟩
    rw [← egx] at rx ⊢
    have lgx : w.heap.size ≤ gx := by omega
    have nxy : ¬ gx = gy := by omega
    have nxz : ¬ gx = gz := by omega
    have lgy : w.heap.size ≤ gy := by omega
    have nyx : ¬ gy = gx := by omega
    have nyz : ¬ gy = gz := by omega
    have lgz : w.heap.size ≤ gz := by omega
    have nzx : ¬ gz = gx := by omega
    have nzy : ¬ gz = gy := by omega
    clear egx egy egz
    have ExW : Hid (EnvIs B W (.agg #[.bool x.1, .slice po x.2.1.length pc, .slice pp x.2.2.length pd]) x) := Ex.out.ok HW.out
    have EyW : Hid (EnvIs C W (.agg #[.bool y.1, .slice qo y.2.1.length qc, .slice qp y.2.2.length qd]) y) := Ey.out.ok HW.out
    have Lx : Hid (gx < W.heap.size) := lt_row rx.out
    have Ly : Hid (gy < W.heap.size) := lt_row ry.out
    have Lz : Hid (gz < W.heap.size) := lt_row rz.out
    refine (edead_any W _ (Ok.refl _)).mono ?_
    rintro e u1 ⟨rfl, hb⟩
    replace rz : Hid _ := Ok.row' hb rz.out
    have Hu : Hid (Ok w u1) := HW.out.step hb
    clear hb
    obtain ⟨k0, k1, k2, k3, k4, k5⟩ := erow3_facts rz.out
    go_wp2_with fail
    refine bodyPost_ret (results_cell_row rfl _ _ gz 24 #[_, _, _] (0, 0) _ rfl (erow_set3 rz.out _ _ _) Try.underlying24 rfl infoE) rfl ?_
    refine ⟨_, rfl, ?_, set3_ok Hu.out lgz _ _ _⟩
    rw [HD.out]
    exact EnvIs.ded _ _
set_option maxRecDepth 100000 in
set_option maxHeartbeats 8000000 in
theorem epairM_any (x y : ET) (xv yv : Value) (hx : RawE x) (hy : RawE y) {B C : Nat} (w : World) (hX : EnvIs B w xv x) (hY : EnvIs C w yv y) :
    Calls Try.prog 27 #[xv, yv, .func (Fn.func 28) #[] #[]] w fun e w' => ∃ r, e = .returned r ∧ EnvIs w.heap.size w' r (pairE (meetN) x y) ∧ Ok w w' := by
  have Ex0 := hX
  obtain ⟨po, pc, pp, pd, ex, _, _, _, _⟩ := hX
  subst ex
  have Ex : Hid (EnvIs B w (.agg #[.bool x.1, .slice po x.2.1.length pc, .slice pp x.2.2.length pd]) x) := Ex0
  have Rx : Hid (RawE x) := hx
  clear Ex0 hx
  have Ey0 := hY
  obtain ⟨qo, qc, qp, qd, ey, _, _, _, _⟩ := hY
  subst ey
  have Ey : Hid (EnvIs C w (.agg #[.bool y.1, .slice qo y.2.1.length qc, .slice qp y.2.2.length qd]) y) := Ey0
  have Ry : Hid (RawE y) := hy
  clear Ey0 hy
  obtain ⟨R, hR⟩ : ∃ R, R = pairE (meetN) x y := ⟨_, rfl⟩
  rw [← hR]
  have HR : Hid (R = pairE (meetN) x y) := hR
  clear hR
  by_cases c1 : x.2.1.length = y.2.1.length
  · have d1 := ne_len' c1
    by_cases c2 : x.2.2.length = y.2.2.length
    · have d2 := ne_len' c2
      have HP : Hid (R = madE (List.zipWith (meetN) x.2.1 y.2.1) (List.zipWith (meetN) x.2.2 y.2.2)) := by unfold Hid; rw [HR.out]; exact pair_on c1 c2
      have HC : Hid (x.2.1.length = y.2.1.length ∧ x.2.2.length = y.2.2.length) := ⟨c1, c2⟩
      clear HR c1 c2
      go_enter Try.func27, Try.ntmps27
      go_wp2_with fail
      obtain ⟨W, hW⟩ : ∃ W, W = (((w).alloc (.cells #[.bool x.1, .slice po x.2.1.length pc, .slice pp x.2.2.length pd] 24)).alloc (.cells #[.bool y.1, .slice qo y.2.1.length qc, .slice qp y.2.2.length qd] 24)).alloc (.cells #[.bool false, .slice none 0 0, .slice none 0 0] 24) := ⟨_, rfl⟩
      have rx : Hid (W.heap[w.heap.size]? = some (.cells #[.bool x.1, .slice po x.2.1.length pc, .slice pp x.2.2.length pd] 24)) := by unfold Hid; rw [hW]; exact (by repeat (first | (refine heap_at _ _ _ ?hx; case hx => (first | (simp; done) | (simp; omega))) | (refine heap_past _ _ _ ?hy ?_; case hy => (first | (simp; done) | (simp; omega))) | fail))
      have ry : Hid (W.heap[w.heap.size + 1]? = some (.cells #[.bool y.1, .slice qo y.2.1.length qc, .slice qp y.2.2.length qd] 24)) := by unfold Hid; rw [hW]; exact (by repeat (first | (refine heap_at _ _ _ ?hx; case hx => (first | (simp; done) | (simp; omega))) | (refine heap_past _ _ _ ?hy ?_; case hy => (first | (simp; done) | (simp; omega))) | fail))
      have rz : Hid (W.heap[w.heap.size + 1 + 1]? = some (.cells #[.bool false, .slice none 0 0, .slice none 0 0] 24)) := by unfold Hid; rw [hW]; exact (by repeat (first | (refine heap_at _ _ _ ?hx; case hx => (first | (simp; done) | (simp; omega))) | (refine heap_past _ _ _ ?hy ?_; case hy => (first | (simp; done) | (simp; omega))) | fail))
      have HW : Hid (Ok w W) := by unfold Hid; rw [hW]; have hok := Ok.refl w; exact (by repeat (first | exact hok | refine Ok.alloc ?_ _ | refine Ok.draws ?_ _ | fail))
      rw [← hW]
      clear hW
      obtain ⟨gz, egz⟩ : ∃ g, g = w.heap.size + 1 + 1 := ⟨_, rfl⟩
      rw [← egz] at rz ⊢
      obtain ⟨gy, egy⟩ : ∃ g, g = w.heap.size + 1 := ⟨_, rfl⟩
      rw [← egy] at ry ⊢
      obtain ⟨gx, egx⟩ : ∃ g, g = w.heap.size := ⟨_, rfl⟩
      rw [← egx] at rx ⊢
      have lgx : w.heap.size ≤ gx := by omega
      have nxy : ¬ gx = gy := by omega
      have nxz : ¬ gx = gz := by omega
      have lgy : w.heap.size ≤ gy := by omega
      have nyx : ¬ gy = gx := by omega
      have nyz : ¬ gy = gz := by omega
      have lgz : w.heap.size ≤ gz := by omega
      have nzx : ¬ gz = gx := by omega
      have nzy : ¬ gz = gy := by omega
      clear egx egy egz
      have ExW : Hid (EnvIs B W (.agg #[.bool x.1, .slice po x.2.1.length pc, .slice pp x.2.2.length pd]) x) := Ex.out.ok HW.out
      have EyW : Hid (EnvIs C W (.agg #[.bool y.1, .slice qo y.2.1.length qc, .slice qp y.2.2.length qd]) y) := Ey.out.ok HW.out
      have Lx : Hid (gx < W.heap.size) := lt_row rx.out
      have Ly : Hid (gy < W.heap.size) := lt_row ry.out
      have Lz : Hid (gz < W.heap.size) := lt_row rz.out
      obtain ⟨a0, a1, a2, a3, a4, a5⟩ := erow3_facts rx.out
      obtain ⟨b0, b1, b2, b3, b4, b5⟩ := erow3_facts ry.out
      obtain ⟨k0, k1, k2, k3, k4, k5⟩ := erow3_facts rz.out
      have bz : Ok W W := Ok.refl _
      go_region_held3 (fun w' => w'.cell? ⟨gx, 1, none⟩ = some (.slice po x.2.1.length pc) ∧ w'.cell? ⟨gx, 2, none⟩ = some (.slice pp x.2.2.length pd) ∧ w'.cell? ⟨gy, 1, none⟩ = some (.slice qo y.2.1.length qc) ∧ w'.cell? ⟨gy, 2, none⟩ = some (.slice qp y.2.2.length qd)) (go_keep)
        (first
        | (go_at_call_of 46 (Value.slice po x.2.1.length pc); refine (epm_any x.2.1 y.2.1 _ _ _ _ Rx.out.1 Ry.out.1 HC.out.1 ExW.out.lists.2.2.2.2.1 _ (ExW.out.lists.1.ok (by repeat (first | assumption | refine Below.drew ?_))) (EyW.out.lists.1.ok (by repeat (first | assumption | refine Below.drew ?_)))).mono ?_; rintro e w1 ⟨g1, rfl, sn, hx1⟩; have hb : Ok W w1 := Ok.step (by repeat (first | assumption | refine Below.drew ?_)) hx1; have z1 := Ok.refl w1; have S1 : Hid (SNs W.heap.size w1 (some ⟨g1, 0, none⟩) (List.zipWith (meetN) x.2.1 y.2.1)) := sn.mono (Ok.le (w0 := W) (by repeat (first | assumption | refine Below.drew ?_))); clear sn; have t1 := Ok.cell hb Lx.out a1; have t2 := Ok.cell hb Lx.out a2; have t3 := Ok.cell hb Ly.out b1; have t4 := Ok.cell hb Ly.out b2; obtain ⟨k0, k1, k2, k3, k4, k5⟩ := erow3_facts (Ok.row' hb rz.out))
        | (go_at_call_of 46 (Value.slice pp x.2.2.length pd); refine (epm_any x.2.2 y.2.2 _ _ _ _ Rx.out.2 Ry.out.2 HC.out.2 ExW.out.lists.2.2.2.2.2 _ (ExW.out.lists.2.1.ok (by repeat (first | assumption | refine Below.drew ?_))) (EyW.out.lists.2.1.ok (by repeat (first | assumption | refine Below.drew ?_)))).mono ?_; rintro e w2 ⟨g2, rfl, sn, hx2⟩; have hb : Ok W w2 := Ok.step (by repeat (first | assumption | refine Below.drew ?_)) hx2; have z12 : Ok w1 w2 := Ok.step (by repeat (first | assumption | refine Below.drew ?_)) hx2; have z2 := Ok.refl w2; have S2 : Hid (SNs W.heap.size w2 (some ⟨g2, 0, none⟩) (List.zipWith (meetN) x.2.2 y.2.2)) := sn.mono (Ok.le (w0 := W) (by repeat (first | assumption | refine Below.drew ?_))); clear sn; have t1 := Ok.cell hb Lx.out a1; have t2 := Ok.cell hb Lx.out a2; have t3 := Ok.cell hb Ly.out b1; have t4 := Ok.cell hb Ly.out b2; obtain ⟨k0, k1, k2, k3, k4, k5⟩ := erow3_facts (Ok.row' hb rz.out))
        | (go_at_call 23; refine (emade_at _ _ _ _ _ _ _ _ (by simp [HC.out.1]) (by simp [HC.out.2]) ExW.out.lists.2.2.2.2.1 ExW.out.lists.2.2.2.2.2 W _ (by repeat (first | assumption | refine Below.drew ?_)) (S1.out.ok (z12.step (by repeat (first | assumption | refine Below.drew ?_)))) (S2.out.ok (by repeat (first | assumption | refine Below.drew ?_)))).mono ?_; rintro e w3 ⟨r, rfl, hE, hb⟩; rw [← HP.out] at hE; have E3 : Hid (EnvIs W.heap.size w3 r R) := hE; obtain ⟨vo3, vc3, ao3, ac3, e3, _, _, _, _⟩ := hE; subst e3; have O3 : Hid (Ok W w3) := hb; have t1 := Ok.cell hb Lx.out a1; have t2 := Ok.cell hb Lx.out a2; have t3 := Ok.cell hb Ly.out b1; have t4 := Ok.cell hb Ly.out b2; obtain ⟨k0, k1, k2, k3, k4, k5⟩ := erow3_facts (Ok.row' hb rz.out))
        | fail)
      replace rz : Hid _ := Ok.row' O3.out rz.out
      go_wp2_with fail
      refine bodyPost_ret (results_cell_row rfl _ _ gz 24 #[_, _, _] (0, 0) _ rfl (erow_set3 rz.out _ _ _) Try.underlying24 rfl infoE) rfl ?_
      refine ⟨_, rfl, ?_, set3_ok (HW.out.step O3.out) lgz _ _ _⟩
      exact (E3.out.set3 Lz.out _ _ _).mono HW.out.le
    · have d2 := ne_len c2
      have HD : Hid (R = dedE) := by unfold Hid; rw [HR.out]; exact pair_off (fun h => c2 h.2)
      clear HR
      clear c1 c2
      go_enter Try.func27, Try.ntmps27
      go_wp2_with fail
      obtain ⟨W, hW⟩ : ∃ W, W = (((w).alloc (.cells #[.bool x.1, .slice po x.2.1.length pc, .slice pp x.2.2.length pd] 24)).alloc (.cells #[.bool y.1, .slice qo y.2.1.length qc, .slice qp y.2.2.length qd] 24)).alloc (.cells #[.bool false, .slice none 0 0, .slice none 0 0] 24) := ⟨_, rfl⟩
      have rx : Hid (W.heap[w.heap.size]? = some (.cells #[.bool x.1, .slice po x.2.1.length pc, .slice pp x.2.2.length pd] 24)) := by unfold Hid; rw [hW]; exact (by repeat (first | (refine heap_at _ _ _ ?hx; case hx => (first | (simp; done) | (simp; omega))) | (refine heap_past _ _ _ ?hy ?_; case hy => (first | (simp; done) | (simp; omega))) | fail))
      have ry : Hid (W.heap[w.heap.size + 1]? = some (.cells #[.bool y.1, .slice qo y.2.1.length qc, .slice qp y.2.2.length qd] 24)) := by unfold Hid; rw [hW]; exact (by repeat (first | (refine heap_at _ _ _ ?hx; case hx => (first | (simp; done) | (simp; omega))) | (refine heap_past _ _ _ ?hy ?_; case hy => (first | (simp; done) | (simp; omega))) | fail))
      have rz : Hid (W.heap[w.heap.size + 1 + 1]? = some (.cells #[.bool false, .slice none 0 0, .slice none 0 0] 24)) := by unfold Hid; rw [hW]; exact (by repeat (first | (refine heap_at _ _ _ ?hx; case hx => (first | (simp; done) | (simp; omega))) | (refine heap_past _ _ _ ?hy ?_; case hy => (first | (simp; done) | (simp; omega))) | fail))
      have HW : Hid (Ok w W) := by unfold Hid; rw [hW]; have hok := Ok.refl w; exact (by repeat (first | exact hok | refine Ok.alloc ?_ _ | refine Ok.draws ?_ _ | fail))
      rw [← hW]
      clear hW
      obtain ⟨gz, egz⟩ : ∃ g, g = w.heap.size + 1 + 1 := ⟨_, rfl⟩
      rw [← egz] at rz ⊢
      obtain ⟨gy, egy⟩ : ∃ g, g = w.heap.size + 1 := ⟨_, rfl⟩
      rw [← egy] at ry ⊢
      obtain ⟨gx, egx⟩ : ∃ g, g = w.heap.size := ⟨_, rfl⟩
      rw [← egx] at rx ⊢
      have lgx : w.heap.size ≤ gx := by omega
      have nxy : ¬ gx = gy := by omega
      have nxz : ¬ gx = gz := by omega
      have lgy : w.heap.size ≤ gy := by omega
      have nyx : ¬ gy = gx := by omega
      have nyz : ¬ gy = gz := by omega
      have lgz : w.heap.size ≤ gz := by omega
      have nzx : ¬ gz = gx := by omega
      have nzy : ¬ gz = gy := by omega
      clear egx egy egz
      have ExW : Hid (EnvIs B W (.agg #[.bool x.1, .slice po x.2.1.length pc, .slice pp x.2.2.length pd]) x) := Ex.out.ok HW.out
      have EyW : Hid (EnvIs C W (.agg #[.bool y.1, .slice qo y.2.1.length qc, .slice qp y.2.2.length qd]) y) := Ey.out.ok HW.out
      have Lx : Hid (gx < W.heap.size) := lt_row rx.out
      have Ly : Hid (gy < W.heap.size) := lt_row ry.out
      have Lz : Hid (gz < W.heap.size) := lt_row rz.out
      refine (edead_any W _ (Ok.refl _)).mono ?_
      rintro e u1 ⟨rfl, hb⟩
      replace rz : Hid _ := Ok.row' hb rz.out
      have Hu : Hid (Ok w u1) := HW.out.step hb
      clear hb
      obtain ⟨k0, k1, k2, k3, k4, k5⟩ := erow3_facts rz.out
      go_wp2_with fail
      refine bodyPost_ret (results_cell_row rfl _ _ gz 24 #[_, _, _] (0, 0) _ rfl (erow_set3 rz.out _ _ _) Try.underlying24 rfl infoE) rfl ?_
      refine ⟨_, rfl, ?_, set3_ok Hu.out lgz _ _ _⟩
      rw [HD.out]
      exact EnvIs.ded _ _
  · have d1 := ne_len c1
    have HD : Hid (R = dedE) := by unfold Hid; rw [HR.out]; exact pair_off (fun h => c1 h.1)
    clear HR
    clear c1
    go_enter Try.func27, Try.ntmps27
    go_wp2_with fail
    obtain ⟨W, hW⟩ : ∃ W, W = (((w).alloc (.cells #[.bool x.1, .slice po x.2.1.length pc, .slice pp x.2.2.length pd] 24)).alloc (.cells #[.bool y.1, .slice qo y.2.1.length qc, .slice qp y.2.2.length qd] 24)).alloc (.cells #[.bool false, .slice none 0 0, .slice none 0 0] 24) := ⟨_, rfl⟩
    have rx : Hid (W.heap[w.heap.size]? = some (.cells #[.bool x.1, .slice po x.2.1.length pc, .slice pp x.2.2.length pd] 24)) := by unfold Hid; rw [hW]; exact (by repeat (first | (refine heap_at _ _ _ ?hx; case hx => (first | (simp; done) | (simp; omega))) | (refine heap_past _ _ _ ?hy ?_; case hy => (first | (simp; done) | (simp; omega))) | fail))
    have ry : Hid (W.heap[w.heap.size + 1]? = some (.cells #[.bool y.1, .slice qo y.2.1.length qc, .slice qp y.2.2.length qd] 24)) := by unfold Hid; rw [hW]; exact (by repeat (first | (refine heap_at _ _ _ ?hx; case hx => (first | (simp; done) | (simp; omega))) | (refine heap_past _ _ _ ?hy ?_; case hy => (first | (simp; done) | (simp; omega))) | fail))
    have rz : Hid (W.heap[w.heap.size + 1 + 1]? = some (.cells #[.bool false, .slice none 0 0, .slice none 0 0] 24)) := by unfold Hid; rw [hW]; exact (by repeat (first | (refine heap_at _ _ _ ?hx; case hx => (first | (simp; done) | (simp; omega))) | (refine heap_past _ _ _ ?hy ?_; case hy => (first | (simp; done) | (simp; omega))) | fail))
    have HW : Hid (Ok w W) := by unfold Hid; rw [hW]; have hok := Ok.refl w; exact (by repeat (first | exact hok | refine Ok.alloc ?_ _ | refine Ok.draws ?_ _ | fail))
    rw [← hW]
    clear hW
    obtain ⟨gz, egz⟩ : ∃ g, g = w.heap.size + 1 + 1 := ⟨_, rfl⟩
    rw [← egz] at rz ⊢
    obtain ⟨gy, egy⟩ : ∃ g, g = w.heap.size + 1 := ⟨_, rfl⟩
    rw [← egy] at ry ⊢
    obtain ⟨gx, egx⟩ : ∃ g, g = w.heap.size := ⟨_, rfl⟩
    rw [← egx] at rx ⊢
    have lgx : w.heap.size ≤ gx := by omega
    have nxy : ¬ gx = gy := by omega
    have nxz : ¬ gx = gz := by omega
    have lgy : w.heap.size ≤ gy := by omega
    have nyx : ¬ gy = gx := by omega
    have nyz : ¬ gy = gz := by omega
    have lgz : w.heap.size ≤ gz := by omega
    have nzx : ¬ gz = gx := by omega
    have nzy : ¬ gz = gy := by omega
    clear egx egy egz
    have ExW : Hid (EnvIs B W (.agg #[.bool x.1, .slice po x.2.1.length pc, .slice pp x.2.2.length pd]) x) := Ex.out.ok HW.out
    have EyW : Hid (EnvIs C W (.agg #[.bool y.1, .slice qo y.2.1.length qc, .slice qp y.2.2.length qd]) y) := Ey.out.ok HW.out
    have Lx : Hid (gx < W.heap.size) := lt_row rx.out
    have Ly : Hid (gy < W.heap.size) := lt_row ry.out
    have Lz : Hid (gz < W.heap.size) := lt_row rz.out
    refine (edead_any W _ (Ok.refl _)).mono ?_
    rintro e u1 ⟨rfl, hb⟩
    replace rz : Hid _ := Ok.row' hb rz.out
    have Hu : Hid (Ok w u1) := HW.out.step hb
    clear hb
    obtain ⟨k0, k1, k2, k3, k4, k5⟩ := erow3_facts rz.out
    go_wp2_with fail
    refine bodyPost_ret (results_cell_row rfl _ _ gz 24 #[_, _, _] (0, 0) _ rfl (erow_set3 rz.out _ _ _) Try.underlying24 rfl infoE) rfl ?_
    refine ⟨_, rfl, ?_, set3_ok Hu.out lgz _ _ _⟩
    rw [HD.out]
    exact EnvIs.ded _ _
set_option maxRecDepth 100000 in
set_option maxHeartbeats 8000000 in
theorem epairW_any (x y : ET) (xv yv : Value) (gt : Nat) (tv : Value) (ts : List Int) (hx : RawE x) (hy : RawE y) {B C : Nat} (w : World) (hr : w.heap[gt]? = some (.cells #[tv] 25 (0, 0))) (hT : SInts w tv ts) (hX : EnvIs B w xv x) (hY : EnvIs C w yv y) :
    Calls Try.prog 27 #[xv, yv, .func (Fn.func 31) #[] #[.pointer (some ⟨gt, 0, none⟩)]] w fun e w' => ∃ r, e = .returned r ∧ EnvIs w.heap.size w' r (pairE (fun a b => widenN a b ts) x y) ∧ Ok w w' := by
  have Ex0 := hX
  obtain ⟨po, pc, pp, pd, ex, _, _, _, _⟩ := hX
  subst ex
  have Ex : Hid (EnvIs B w (.agg #[.bool x.1, .slice po x.2.1.length pc, .slice pp x.2.2.length pd]) x) := Ex0
  have Rx : Hid (RawE x) := hx
  clear Ex0 hx
  have Ey0 := hY
  obtain ⟨qo, qc, qp, qd, ey, _, _, _, _⟩ := hY
  subst ey
  have Ey : Hid (EnvIs C w (.agg #[.bool y.1, .slice qo y.2.1.length qc, .slice qp y.2.2.length qd]) y) := Ey0
  have Ry : Hid (RawE y) := hy
  clear Ey0 hy
  have HT0 : Hid (w.heap[gt]? = some (.cells #[tv] 25 (0, 0)) ∧ SInts w tv ts) := ⟨hr, hT⟩
  clear hr hT
  obtain ⟨R, hR⟩ : ∃ R, R = pairE (fun a b => widenN a b ts) x y := ⟨_, rfl⟩
  rw [← hR]
  have HR : Hid (R = pairE (fun a b => widenN a b ts) x y) := hR
  clear hR
  by_cases c1 : x.2.1.length = y.2.1.length
  · have d1 := ne_len' c1
    by_cases c2 : x.2.2.length = y.2.2.length
    · have d2 := ne_len' c2
      have HP : Hid (R = madE (List.zipWith (fun a b => widenN a b ts) x.2.1 y.2.1) (List.zipWith (fun a b => widenN a b ts) x.2.2 y.2.2)) := by unfold Hid; rw [HR.out]; exact pair_on c1 c2
      have HC : Hid (x.2.1.length = y.2.1.length ∧ x.2.2.length = y.2.2.length) := ⟨c1, c2⟩
      clear HR c1 c2
      go_enter Try.func27, Try.ntmps27
      go_wp2_with fail
      obtain ⟨W, hW⟩ : ∃ W, W = (((w).alloc (.cells #[.bool x.1, .slice po x.2.1.length pc, .slice pp x.2.2.length pd] 24)).alloc (.cells #[.bool y.1, .slice qo y.2.1.length qc, .slice qp y.2.2.length qd] 24)).alloc (.cells #[.bool false, .slice none 0 0, .slice none 0 0] 24) := ⟨_, rfl⟩
      have rx : Hid (W.heap[w.heap.size]? = some (.cells #[.bool x.1, .slice po x.2.1.length pc, .slice pp x.2.2.length pd] 24)) := by unfold Hid; rw [hW]; exact (by repeat (first | (refine heap_at _ _ _ ?hx; case hx => (first | (simp; done) | (simp; omega))) | (refine heap_past _ _ _ ?hy ?_; case hy => (first | (simp; done) | (simp; omega))) | fail))
      have ry : Hid (W.heap[w.heap.size + 1]? = some (.cells #[.bool y.1, .slice qo y.2.1.length qc, .slice qp y.2.2.length qd] 24)) := by unfold Hid; rw [hW]; exact (by repeat (first | (refine heap_at _ _ _ ?hx; case hx => (first | (simp; done) | (simp; omega))) | (refine heap_past _ _ _ ?hy ?_; case hy => (first | (simp; done) | (simp; omega))) | fail))
      have rz : Hid (W.heap[w.heap.size + 1 + 1]? = some (.cells #[.bool false, .slice none 0 0, .slice none 0 0] 24)) := by unfold Hid; rw [hW]; exact (by repeat (first | (refine heap_at _ _ _ ?hx; case hx => (first | (simp; done) | (simp; omega))) | (refine heap_past _ _ _ ?hy ?_; case hy => (first | (simp; done) | (simp; omega))) | fail))
      have HW : Hid (Ok w W) := by unfold Hid; rw [hW]; have hok := Ok.refl w; exact (by repeat (first | exact hok | refine Ok.alloc ?_ _ | refine Ok.draws ?_ _ | fail))
      rw [← hW]
      clear hW
      obtain ⟨gz, egz⟩ : ∃ g, g = w.heap.size + 1 + 1 := ⟨_, rfl⟩
      rw [← egz] at rz ⊢
      obtain ⟨gy, egy⟩ : ∃ g, g = w.heap.size + 1 := ⟨_, rfl⟩
      rw [← egy] at ry ⊢
      obtain ⟨gx, egx⟩ : ∃ g, g = w.heap.size := ⟨_, rfl⟩
      rw [← egx] at rx ⊢
      have lgx : w.heap.size ≤ gx := by omega
      have nxy : ¬ gx = gy := by omega
      have nxz : ¬ gx = gz := by omega
      have lgy : w.heap.size ≤ gy := by omega
      have nyx : ¬ gy = gx := by omega
      have nyz : ¬ gy = gz := by omega
      have lgz : w.heap.size ≤ gz := by omega
      have nzx : ¬ gz = gx := by omega
      have nzy : ¬ gz = gy := by omega
      clear egx egy egz
      have ExW : Hid (EnvIs B W (.agg #[.bool x.1, .slice po x.2.1.length pc, .slice pp x.2.2.length pd]) x) := Ex.out.ok HW.out
      have EyW : Hid (EnvIs C W (.agg #[.bool y.1, .slice qo y.2.1.length qc, .slice qp y.2.2.length qd]) y) := Ey.out.ok HW.out
      have Lx : Hid (gx < W.heap.size) := lt_row rx.out
      have Ly : Hid (gy < W.heap.size) := lt_row ry.out
      have Lz : Hid (gz < W.heap.size) := lt_row rz.out
      obtain ⟨a0, a1, a2, a3, a4, a5⟩ := erow3_facts rx.out
      obtain ⟨b0, b1, b2, b3, b4, b5⟩ := erow3_facts ry.out
      obtain ⟨k0, k1, k2, k3, k4, k5⟩ := erow3_facts rz.out
      have bz : Ok W W := Ok.refl _
      have HTW : Hid (W.heap[gt]? = some (.cells #[tv] 25 (0, 0)) ∧ SInts W tv ts) := ⟨Ok.row' HW.out HT0.out.1, SInts.ok HT0.out.2 HW.out⟩
      go_region_held3 (fun w' => w'.cell? ⟨gx, 1, none⟩ = some (.slice po x.2.1.length pc) ∧ w'.cell? ⟨gx, 2, none⟩ = some (.slice pp x.2.2.length pd) ∧ w'.cell? ⟨gy, 1, none⟩ = some (.slice qo y.2.1.length qc) ∧ w'.cell? ⟨gy, 2, none⟩ = some (.slice qp y.2.2.length qd)) (go_keep)
        (first
        | (go_at_call_of 46 (Value.slice po x.2.1.length pc); refine (epw_wid x.2.1 y.2.1 _ _ _ _ gt tv ts Rx.out.1 Ry.out.1 HC.out.1 ExW.out.lists.2.2.2.2.1 _ (Ok.row' (by repeat (first | assumption | refine Below.drew ?_)) HTW.out.1) (SInts.ok HTW.out.2 (by repeat (first | assumption | refine Below.drew ?_))) (ExW.out.lists.1.ok (by repeat (first | assumption | refine Below.drew ?_))) (EyW.out.lists.1.ok (by repeat (first | assumption | refine Below.drew ?_)))).mono ?_; rintro e w1 ⟨g1, rfl, sn, hx1⟩; have hb : Ok W w1 := Ok.step (by repeat (first | assumption | refine Below.drew ?_)) hx1; have z1 := Ok.refl w1; have S1 : Hid (SNs W.heap.size w1 (some ⟨g1, 0, none⟩) (List.zipWith (fun a b => widenN a b ts) x.2.1 y.2.1)) := sn.mono (Ok.le (w0 := W) (by repeat (first | assumption | refine Below.drew ?_))); clear sn; have t1 := Ok.cell hb Lx.out a1; have t2 := Ok.cell hb Lx.out a2; have t3 := Ok.cell hb Ly.out b1; have t4 := Ok.cell hb Ly.out b2; obtain ⟨k0, k1, k2, k3, k4, k5⟩ := erow3_facts (Ok.row' hb rz.out))
        | (go_at_call_of 46 (Value.slice pp x.2.2.length pd); refine (epw_wid x.2.2 y.2.2 _ _ _ _ gt tv ts Rx.out.2 Ry.out.2 HC.out.2 ExW.out.lists.2.2.2.2.2 _ (Ok.row' (by repeat (first | assumption | refine Below.drew ?_)) HTW.out.1) (SInts.ok HTW.out.2 (by repeat (first | assumption | refine Below.drew ?_))) (ExW.out.lists.2.1.ok (by repeat (first | assumption | refine Below.drew ?_))) (EyW.out.lists.2.1.ok (by repeat (first | assumption | refine Below.drew ?_)))).mono ?_; rintro e w2 ⟨g2, rfl, sn, hx2⟩; have hb : Ok W w2 := Ok.step (by repeat (first | assumption | refine Below.drew ?_)) hx2; have z12 : Ok w1 w2 := Ok.step (by repeat (first | assumption | refine Below.drew ?_)) hx2; have z2 := Ok.refl w2; have S2 : Hid (SNs W.heap.size w2 (some ⟨g2, 0, none⟩) (List.zipWith (fun a b => widenN a b ts) x.2.2 y.2.2)) := sn.mono (Ok.le (w0 := W) (by repeat (first | assumption | refine Below.drew ?_))); clear sn; have t1 := Ok.cell hb Lx.out a1; have t2 := Ok.cell hb Lx.out a2; have t3 := Ok.cell hb Ly.out b1; have t4 := Ok.cell hb Ly.out b2; obtain ⟨k0, k1, k2, k3, k4, k5⟩ := erow3_facts (Ok.row' hb rz.out))
        | (go_at_call 23; refine (emade_at _ _ _ _ _ _ _ _ (by simp [HC.out.1]) (by simp [HC.out.2]) ExW.out.lists.2.2.2.2.1 ExW.out.lists.2.2.2.2.2 W _ (by repeat (first | assumption | refine Below.drew ?_)) (S1.out.ok (z12.step (by repeat (first | assumption | refine Below.drew ?_)))) (S2.out.ok (by repeat (first | assumption | refine Below.drew ?_)))).mono ?_; rintro e w3 ⟨r, rfl, hE, hb⟩; rw [← HP.out] at hE; have E3 : Hid (EnvIs W.heap.size w3 r R) := hE; obtain ⟨vo3, vc3, ao3, ac3, e3, _, _, _, _⟩ := hE; subst e3; have O3 : Hid (Ok W w3) := hb; have t1 := Ok.cell hb Lx.out a1; have t2 := Ok.cell hb Lx.out a2; have t3 := Ok.cell hb Ly.out b1; have t4 := Ok.cell hb Ly.out b2; obtain ⟨k0, k1, k2, k3, k4, k5⟩ := erow3_facts (Ok.row' hb rz.out))
        | fail)
      replace rz : Hid _ := Ok.row' O3.out rz.out
      go_wp2_with fail
      refine bodyPost_ret (results_cell_row rfl _ _ gz 24 #[_, _, _] (0, 0) _ rfl (erow_set3 rz.out _ _ _) Try.underlying24 rfl infoE) rfl ?_
      refine ⟨_, rfl, ?_, set3_ok (HW.out.step O3.out) lgz _ _ _⟩
      exact (E3.out.set3 Lz.out _ _ _).mono HW.out.le
    · have d2 := ne_len c2
      have HD : Hid (R = dedE) := by unfold Hid; rw [HR.out]; exact pair_off (fun h => c2 h.2)
      clear HR
      clear c1 c2
      go_enter Try.func27, Try.ntmps27
      go_wp2_with fail
      obtain ⟨W, hW⟩ : ∃ W, W = (((w).alloc (.cells #[.bool x.1, .slice po x.2.1.length pc, .slice pp x.2.2.length pd] 24)).alloc (.cells #[.bool y.1, .slice qo y.2.1.length qc, .slice qp y.2.2.length qd] 24)).alloc (.cells #[.bool false, .slice none 0 0, .slice none 0 0] 24) := ⟨_, rfl⟩
      have rx : Hid (W.heap[w.heap.size]? = some (.cells #[.bool x.1, .slice po x.2.1.length pc, .slice pp x.2.2.length pd] 24)) := by unfold Hid; rw [hW]; exact (by repeat (first | (refine heap_at _ _ _ ?hx; case hx => (first | (simp; done) | (simp; omega))) | (refine heap_past _ _ _ ?hy ?_; case hy => (first | (simp; done) | (simp; omega))) | fail))
      have ry : Hid (W.heap[w.heap.size + 1]? = some (.cells #[.bool y.1, .slice qo y.2.1.length qc, .slice qp y.2.2.length qd] 24)) := by unfold Hid; rw [hW]; exact (by repeat (first | (refine heap_at _ _ _ ?hx; case hx => (first | (simp; done) | (simp; omega))) | (refine heap_past _ _ _ ?hy ?_; case hy => (first | (simp; done) | (simp; omega))) | fail))
      have rz : Hid (W.heap[w.heap.size + 1 + 1]? = some (.cells #[.bool false, .slice none 0 0, .slice none 0 0] 24)) := by unfold Hid; rw [hW]; exact (by repeat (first | (refine heap_at _ _ _ ?hx; case hx => (first | (simp; done) | (simp; omega))) | (refine heap_past _ _ _ ?hy ?_; case hy => (first | (simp; done) | (simp; omega))) | fail))
      have HW : Hid (Ok w W) := by unfold Hid; rw [hW]; have hok := Ok.refl w; exact (by repeat (first | exact hok | refine Ok.alloc ?_ _ | refine Ok.draws ?_ _ | fail))
      rw [← hW]
      clear hW
      obtain ⟨gz, egz⟩ : ∃ g, g = w.heap.size + 1 + 1 := ⟨_, rfl⟩
      rw [← egz] at rz ⊢
      obtain ⟨gy, egy⟩ : ∃ g, g = w.heap.size + 1 := ⟨_, rfl⟩
      rw [← egy] at ry ⊢
      obtain ⟨gx, egx⟩ : ∃ g, g = w.heap.size := ⟨_, rfl⟩
      rw [← egx] at rx ⊢
      have lgx : w.heap.size ≤ gx := by omega
      have nxy : ¬ gx = gy := by omega
      have nxz : ¬ gx = gz := by omega
      have lgy : w.heap.size ≤ gy := by omega
      have nyx : ¬ gy = gx := by omega
      have nyz : ¬ gy = gz := by omega
      have lgz : w.heap.size ≤ gz := by omega
      have nzx : ¬ gz = gx := by omega
      have nzy : ¬ gz = gy := by omega
      clear egx egy egz
      have ExW : Hid (EnvIs B W (.agg #[.bool x.1, .slice po x.2.1.length pc, .slice pp x.2.2.length pd]) x) := Ex.out.ok HW.out
      have EyW : Hid (EnvIs C W (.agg #[.bool y.1, .slice qo y.2.1.length qc, .slice qp y.2.2.length qd]) y) := Ey.out.ok HW.out
      have Lx : Hid (gx < W.heap.size) := lt_row rx.out
      have Ly : Hid (gy < W.heap.size) := lt_row ry.out
      have Lz : Hid (gz < W.heap.size) := lt_row rz.out
      refine (edead_any W _ (Ok.refl _)).mono ?_
      rintro e u1 ⟨rfl, hb⟩
      replace rz : Hid _ := Ok.row' hb rz.out
      have Hu : Hid (Ok w u1) := HW.out.step hb
      clear hb
      obtain ⟨k0, k1, k2, k3, k4, k5⟩ := erow3_facts rz.out
      go_wp2_with fail
      refine bodyPost_ret (results_cell_row rfl _ _ gz 24 #[_, _, _] (0, 0) _ rfl (erow_set3 rz.out _ _ _) Try.underlying24 rfl infoE) rfl ?_
      refine ⟨_, rfl, ?_, set3_ok Hu.out lgz _ _ _⟩
      rw [HD.out]
      exact EnvIs.ded _ _
  · have d1 := ne_len c1
    have HD : Hid (R = dedE) := by unfold Hid; rw [HR.out]; exact pair_off (fun h => c1 h.1)
    clear HR
    clear c1
    go_enter Try.func27, Try.ntmps27
    go_wp2_with fail
    obtain ⟨W, hW⟩ : ∃ W, W = (((w).alloc (.cells #[.bool x.1, .slice po x.2.1.length pc, .slice pp x.2.2.length pd] 24)).alloc (.cells #[.bool y.1, .slice qo y.2.1.length qc, .slice qp y.2.2.length qd] 24)).alloc (.cells #[.bool false, .slice none 0 0, .slice none 0 0] 24) := ⟨_, rfl⟩
    have rx : Hid (W.heap[w.heap.size]? = some (.cells #[.bool x.1, .slice po x.2.1.length pc, .slice pp x.2.2.length pd] 24)) := by unfold Hid; rw [hW]; exact (by repeat (first | (refine heap_at _ _ _ ?hx; case hx => (first | (simp; done) | (simp; omega))) | (refine heap_past _ _ _ ?hy ?_; case hy => (first | (simp; done) | (simp; omega))) | fail))
    have ry : Hid (W.heap[w.heap.size + 1]? = some (.cells #[.bool y.1, .slice qo y.2.1.length qc, .slice qp y.2.2.length qd] 24)) := by unfold Hid; rw [hW]; exact (by repeat (first | (refine heap_at _ _ _ ?hx; case hx => (first | (simp; done) | (simp; omega))) | (refine heap_past _ _ _ ?hy ?_; case hy => (first | (simp; done) | (simp; omega))) | fail))
    have rz : Hid (W.heap[w.heap.size + 1 + 1]? = some (.cells #[.bool false, .slice none 0 0, .slice none 0 0] 24)) := by unfold Hid; rw [hW]; exact (by repeat (first | (refine heap_at _ _ _ ?hx; case hx => (first | (simp; done) | (simp; omega))) | (refine heap_past _ _ _ ?hy ?_; case hy => (first | (simp; done) | (simp; omega))) | fail))
    have HW : Hid (Ok w W) := by unfold Hid; rw [hW]; have hok := Ok.refl w; exact (by repeat (first | exact hok | refine Ok.alloc ?_ _ | refine Ok.draws ?_ _ | fail))
    rw [← hW]
    clear hW
    obtain ⟨gz, egz⟩ : ∃ g, g = w.heap.size + 1 + 1 := ⟨_, rfl⟩
    rw [← egz] at rz ⊢
    obtain ⟨gy, egy⟩ : ∃ g, g = w.heap.size + 1 := ⟨_, rfl⟩
    rw [← egy] at ry ⊢
    obtain ⟨gx, egx⟩ : ∃ g, g = w.heap.size := ⟨_, rfl⟩
    rw [← egx] at rx ⊢
    have lgx : w.heap.size ≤ gx := by omega
    have nxy : ¬ gx = gy := by omega
    have nxz : ¬ gx = gz := by omega
    have lgy : w.heap.size ≤ gy := by omega
    have nyx : ¬ gy = gx := by omega
    have nyz : ¬ gy = gz := by omega
    have lgz : w.heap.size ≤ gz := by omega
    have nzx : ¬ gz = gx := by omega
    have nzy : ¬ gz = gy := by omega
    clear egx egy egz
    have ExW : Hid (EnvIs B W (.agg #[.bool x.1, .slice po x.2.1.length pc, .slice pp x.2.2.length pd]) x) := Ex.out.ok HW.out
    have EyW : Hid (EnvIs C W (.agg #[.bool y.1, .slice qo y.2.1.length qc, .slice qp y.2.2.length qd]) y) := Ey.out.ok HW.out
    have Lx : Hid (gx < W.heap.size) := lt_row rx.out
    have Ly : Hid (gy < W.heap.size) := lt_row ry.out
    have Lz : Hid (gz < W.heap.size) := lt_row rz.out
    refine (edead_any W _ (Ok.refl _)).mono ?_
    rintro e u1 ⟨rfl, hb⟩
    replace rz : Hid _ := Ok.row' hb rz.out
    have Hu : Hid (Ok w u1) := HW.out.step hb
    clear hb
    obtain ⟨k0, k1, k2, k3, k4, k5⟩ := erow3_facts rz.out
    go_wp2_with fail
    refine bodyPost_ret (results_cell_row rfl _ _ gz 24 #[_, _, _] (0, 0) _ rfl (erow_set3 rz.out _ _ _) Try.underlying24 rfl infoE) rfl ?_
    refine ⟨_, rfl, ?_, set3_ok Hu.out lgz _ _ _⟩
    rw [HD.out]
    exact EnvIs.ded _ _
set_option maxRecDepth 100000 in
set_option maxHeartbeats 8000000 in
theorem etogJ_any (x y : ET) (xv yv : Value) (hx : RawE x) (hy : RawE y) {B C : Nat} (w : World) (hX : EnvIs B w xv x) (hY : EnvIs C w yv y) :
    Calls Try.prog 29 #[xv, yv, .func (Fn.func 30) #[] #[]] w fun e w' => ∃ r, e = .returned r ∧ EnvIs w.heap.size w' r (tog0 (joinN) (normE x) (normE y)) ∧ Ok w w' := by
  have Ex0 := hX
  obtain ⟨po, pc, pp, pd, ex, _, _, _, _⟩ := hX
  subst ex
  have Ex : Hid (EnvIs B w (.agg #[.bool x.1, .slice po x.2.1.length pc, .slice pp x.2.2.length pd]) x) := Ex0
  have Rx : Hid (RawE x) := hx
  clear Ex0 hx
  have Ey0 := hY
  obtain ⟨qo, qc, qp, qd, ey, _, _, _, _⟩ := hY
  subst ey
  have Ey : Hid (EnvIs C w (.agg #[.bool y.1, .slice qo y.2.1.length qc, .slice qp y.2.2.length qd]) y) := Ey0
  have Ry : Hid (RawE y) := hy
  clear Ey0 hy
  obtain ⟨X, hX⟩ : ∃ X, X = normE x := ⟨_, rfl⟩
  obtain ⟨Y, hY⟩ : ∃ X, X = normE y := ⟨_, rfl⟩
  have HX : Hid _ := hX
  have HY : Hid _ := hY
  have NX : Hid (NorE X) := by unfold Hid; rw [hX]; exact normE_nor Rx.out
  have NY : Hid (NorE Y) := by unfold Hid; rw [hY]; exact normE_nor Ry.out
  clear hX hY
  obtain ⟨R, hR⟩ : ∃ R, R = tog0 (joinN) X Y := ⟨_, rfl⟩
  rw [← HX.out, ← HY.out, ← hR]
  have HR : Hid (R = tog0 (joinN) X Y) := hR
  clear hR
  go_enter Try.func29, Try.ntmps29
  go_wp2_with fail
  obtain ⟨W, hW⟩ : ∃ W, W = (((w).alloc (.cells #[.bool x.1, .slice po x.2.1.length pc, .slice pp x.2.2.length pd] 24)).alloc (.cells #[.bool y.1, .slice qo y.2.1.length qc, .slice qp y.2.2.length qd] 24)).alloc (.cells #[.bool false, .slice none 0 0, .slice none 0 0] 24) := ⟨_, rfl⟩
  have rx : Hid (W.heap[w.heap.size]? = some (.cells #[.bool x.1, .slice po x.2.1.length pc, .slice pp x.2.2.length pd] 24)) := by unfold Hid; rw [hW]; exact (by repeat (first | (refine heap_at _ _ _ ?hx; case hx => (first | (simp; done) | (simp; omega))) | (refine heap_past _ _ _ ?hy ?_; case hy => (first | (simp; done) | (simp; omega))) | fail))
  have ry : Hid (W.heap[w.heap.size + 1]? = some (.cells #[.bool y.1, .slice qo y.2.1.length qc, .slice qp y.2.2.length qd] 24)) := by unfold Hid; rw [hW]; exact (by repeat (first | (refine heap_at _ _ _ ?hx; case hx => (first | (simp; done) | (simp; omega))) | (refine heap_past _ _ _ ?hy ?_; case hy => (first | (simp; done) | (simp; omega))) | fail))
  have rz : Hid (W.heap[w.heap.size + 1 + 1]? = some (.cells #[.bool false, .slice none 0 0, .slice none 0 0] 24)) := by unfold Hid; rw [hW]; exact (by repeat (first | (refine heap_at _ _ _ ?hx; case hx => (first | (simp; done) | (simp; omega))) | (refine heap_past _ _ _ ?hy ?_; case hy => (first | (simp; done) | (simp; omega))) | fail))
  have HW : Hid (Ok w W) := by unfold Hid; rw [hW]; have hok := Ok.refl w; exact (by repeat (first | exact hok | refine Ok.alloc ?_ _ | refine Ok.draws ?_ _ | fail))
  rw [← hW]
  clear hW
  obtain ⟨gz, egz⟩ : ∃ g, g = w.heap.size + 1 + 1 := ⟨_, rfl⟩
  rw [← egz] at rz ⊢
  obtain ⟨gy, egy⟩ : ∃ g, g = w.heap.size + 1 := ⟨_, rfl⟩
  rw [← egy] at ry ⊢
  obtain ⟨gx, egx⟩ : ∃ g, g = w.heap.size := ⟨_, rfl⟩
  rw [← egx] at rx ⊢
  have lgx : w.heap.size ≤ gx := by omega
  have nxy : ¬ gx = gy := by omega
  have nxz : ¬ gx = gz := by omega
  have lgy : w.heap.size ≤ gy := by omega
  have nyx : ¬ gy = gx := by omega
  have nyz : ¬ gy = gz := by omega
  have lgz : w.heap.size ≤ gz := by omega
  have nzx : ¬ gz = gx := by omega
  have nzy : ¬ gz = gy := by omega
  clear egx egy egz
  have ExW : Hid (EnvIs B W (.agg #[.bool x.1, .slice po x.2.1.length pc, .slice pp x.2.2.length pd]) x) := Ex.out.ok HW.out
  have EyW : Hid (EnvIs C W (.agg #[.bool y.1, .slice qo y.2.1.length qc, .slice qp y.2.2.length qd]) y) := Ey.out.ok HW.out
  have Lx : Hid (gx < W.heap.size) := lt_row rx.out
  have Ly : Hid (gy < W.heap.size) := lt_row ry.out
  have Lz : Hid (gz < W.heap.size) := lt_row rz.out
  refine wp_cutE (fun a' w' => ∃ (so sp to tp : Option Addr) (sc sd tc td : Nat), a' = { tmps := #[.agg #[.bool x.1, .slice po x.2.1.length pc, .slice pp x.2.2.length pd], .agg #[.bool y.1, .slice qo y.2.1.length qc, .slice qp y.2.2.length qd], .func (Fn.func 30) #[] #[], .pointer (some ⟨gx, 0, none⟩), .pointer (some ⟨gy, 0, none⟩), undef, .pointer (some ⟨gz, 0, none⟩), .agg #[.bool x.1, .slice po x.2.1.length pc, .slice pp x.2.2.length pd], .agg #[.bool X.1, .slice so X.2.1.length sc, .slice sp X.2.2.length sd], .agg #[.bool y.1, .slice qo y.2.1.length qc, .slice qp y.2.2.length qd], .agg #[.bool Y.1, .slice to Y.2.1.length tc, .slice tp Y.2.2.length td], undef, undef, undef, undef, undef, undef, undef, undef, undef, undef, undef, undef], defers := [] } ∧ Hid (Ok w w') ∧ Hid (w'.heap[gx]? = some (.cells #[.bool X.1, .slice so X.2.1.length sc, .slice sp X.2.2.length sd] 24 (0, 0))) ∧ Hid (w'.heap[gy]? = some (.cells #[.bool Y.1, .slice to Y.2.1.length tc, .slice tp Y.2.2.length td] 24 (0, 0))) ∧ Hid (EnvIs W.heap.size w' (.agg #[.bool X.1, .slice so X.2.1.length sc, .slice sp X.2.2.length sd]) X) ∧ Hid (EnvIs W.heap.size w' (.agg #[.bool Y.1, .slice to Y.2.1.length tc, .slice tp Y.2.2.length td]) Y) ∧ (W.heap.size ≤ w'.heap.size) ∧ (∀ (h : Nat) (o : Obj), h ≠ gx → h ≠ gy → W.heap[h]? = some o → w'.heap[h]? = some o)) ?h1 ?h2
  case h1 =>
    obtain ⟨a0, a1, a2, a3, a4, a5⟩ := erow3_facts rx.out
    obtain ⟨b0, b1, b2, b3, b4, b5⟩ := erow3_facts ry.out
    have bz : Ok W W := Ok.refl _
    go_region_with (first
      | (go_at_call_of 8 (Value.slice po x.2.1.length pc); refine (eNorm_at x _ Rx.out W _ (by repeat (first | assumption | refine Below.drew ?_)) ExW.out).mono ?_; rintro e w1 ⟨r1, rfl, hE, hx1, hb⟩; rw [← HX.out] at hE; have EX : Hid (EnvIs W.heap.size w1 r1 X) := hE; obtain ⟨so, sc, sp, sd, e3, _, _, _, _⟩ := hE; subst e3; have O1 : Hid (Ok W w1) := hb; have z1 := Ok.refl w1; obtain ⟨a0, a1, a2, a3, a4, a5⟩ := erow3_facts (Ok.row' hb rx.out); obtain ⟨b0, b1, b2, b3, b4, b5⟩ := erow3_facts (Ok.row' hb ry.out))
      | (go_at_call_of 8 (Value.slice qo y.2.1.length qc); refine (eNorm_at y _ Ry.out W _ (by repeat (first | assumption | refine Below.drew ?_)) EyW.out).mono ?_; rintro e w2 ⟨r2, rfl, hE, hx2, hb⟩; rw [← HY.out] at hE; have EY : Hid (EnvIs W.heap.size w2 r2 Y) := hE; obtain ⟨to, tc, tp, td, e3, _, _, _, _⟩ := hE; subst e3; have O2 : Hid (Ok W w2) := hb; have z12 : Hid (Ok w1 w2) := Ok.step (by repeat (first | assumption | refine Below.drew ?_)) hx2; have z2 := Ok.refl w2; obtain ⟨a0, a1, a2, a3, a4, a5⟩ := erow3_facts (Ok.row' hb rx.out); obtain ⟨b0, b1, b2, b3, b4, b5⟩ := erow3_facts (Ok.row' hb ry.out))
      | fail)
    all_goals (refine ⟨so, sp, to, tp, sc, sd, tc, td, rfl, ?_⟩)
    all_goals exact enorm2_end (HW.out) O2.out rx.out ry.out lgx lgy nxy Lx.out Ly.out (EX.out.ok z12.out) EY.out _ _ _ _ _ _
  case h2 =>
    rintro a' Z ⟨so, sp, to, tp, sc, sd, tc, td, rfl, HZ, rX, rY, EX, EY, SZ, keep⟩
    clear rx ry
    replace rz : Hid _ := keep _ _ (by omega) (by omega) rz.out
    clear keep
    rcases Bool.eq_false_or_eq_true X.1 with h1 | h1
    · replace HR : Hid (R = Y) := by unfold Hid; rw [HR.out]; unfold tog0; rw [if_pos h1]
      obtain ⟨a0, a1, a2, a3, a4, a5⟩ := erow3_facts rX.out
      obtain ⟨b0, b1, b2, b3, b4, b5⟩ := erow3_facts rY.out
      rw [h1] at a0
      obtain ⟨k0, k1, k2, k3, k4, k5⟩ := erow3_facts rz.out
      go_wp2_with fail
      refine bodyPost_ret (results_cell_row rfl _ _ gz 24 #[_, _, _] (0, 0) _ rfl (erow_set3 rz.out _ _ _) Try.underlying24 rfl infoE) rfl ?_
      refine ⟨_, rfl, ?_, set3_ok HZ.out lgz _ _ _⟩
      rw [HR.out]
      exact (EY.out.set3 Lz.out _ _ _).mono HW.out.le
    · rcases Bool.eq_false_or_eq_true Y.1 with h2 | h2
      · replace HR : Hid (R = X) := by unfold Hid; rw [HR.out]; unfold tog0; rw [if_neg (by rw [h1]; decide), if_pos h2]
        obtain ⟨a0, a1, a2, a3, a4, a5⟩ := erow3_facts rX.out
        obtain ⟨b0, b1, b2, b3, b4, b5⟩ := erow3_facts rY.out
        rw [h1] at a0
        rw [h2] at b0
        obtain ⟨k0, k1, k2, k3, k4, k5⟩ := erow3_facts rz.out
        go_wp2_with fail
        refine bodyPost_ret (results_cell_row rfl _ _ gz 24 #[_, _, _] (0, 0) _ rfl (erow_set3 rz.out _ _ _) Try.underlying24 rfl infoE) rfl ?_
        refine ⟨_, rfl, ?_, set3_ok HZ.out lgz _ _ _⟩
        rw [HR.out]
        rw [h1] at EX
        have EX2 := EX.out
        exact (EX2.set3 Lz.out _ _ _).mono HW.out.le
      · replace HR : Hid (R = pairE (joinN) X Y) := by unfold Hid; rw [HR.out]; unfold tog0; rw [if_neg (by rw [h1]; decide), if_neg (by rw [h2]; decide)]
        obtain ⟨a0, a1, a2, a3, a4, a5⟩ := erow3_facts rX.out
        obtain ⟨b0, b1, b2, b3, b4, b5⟩ := erow3_facts rY.out
        rw [h1] at a0
        rw [h2] at b0
        rw [h1] at EX
        rw [h2] at EY
        go_wp2_with fail
        clear a0 a1 a2 a3 a4 a5
        clear b0 b1 b2 b3 b4 b5
        refine (epairJ_any X Y _ _ NX.out.raw NY.out.raw Z EX.out EY.out).mono ?_
        rintro e w3 ⟨r, rfl, hE, hb⟩
        rw [← HR.out] at hE
        have E3 : Hid (EnvIs W.heap.size w3 r R) := hE.mono SZ
        obtain ⟨vo3, vc3, ao3, ac3, e3, _, _, _, _⟩ := hE
        subst e3
        replace rz : Hid _ := Ok.row' hb rz.out
        have H3 : Hid (Ok w w3) := HZ.out.step hb
        clear hb
        obtain ⟨k0, k1, k2, k3, k4, k5⟩ := erow3_facts rz.out
        go_wp2_with fail
        refine bodyPost_ret (results_cell_row rfl _ _ gz 24 #[_, _, _] (0, 0) _ rfl (erow_set3 rz.out _ _ _) Try.underlying24 rfl infoE) rfl ?_
        refine ⟨_, rfl, ?_, set3_ok H3.out lgz _ _ _⟩
        exact (E3.out.set3 Lz.out _ _ _).mono HW.out.le
set_option maxRecDepth 100000 in
set_option maxHeartbeats 8000000 in
theorem etogW_any (x y : ET) (xv yv : Value) (gt : Nat) (tv : Value) (ts : List Int) (hx : RawE x) (hy : RawE y) {B C : Nat} (w : World) (hr : w.heap[gt]? = some (.cells #[tv] 25 (0, 0))) (hT : SInts w tv ts) (hX : EnvIs B w xv x) (hY : EnvIs C w yv y) :
    Calls Try.prog 29 #[xv, yv, .func (Fn.func 31) #[] #[.pointer (some ⟨gt, 0, none⟩)]] w fun e w' => ∃ r, e = .returned r ∧ EnvIs w.heap.size w' r (tog0 (fun a b => widenN a b ts) (normE x) (normE y)) ∧ Ok w w' := by
  have Ex0 := hX
  obtain ⟨po, pc, pp, pd, ex, _, _, _, _⟩ := hX
  subst ex
  have Ex : Hid (EnvIs B w (.agg #[.bool x.1, .slice po x.2.1.length pc, .slice pp x.2.2.length pd]) x) := Ex0
  have Rx : Hid (RawE x) := hx
  clear Ex0 hx
  have Ey0 := hY
  obtain ⟨qo, qc, qp, qd, ey, _, _, _, _⟩ := hY
  subst ey
  have Ey : Hid (EnvIs C w (.agg #[.bool y.1, .slice qo y.2.1.length qc, .slice qp y.2.2.length qd]) y) := Ey0
  have Ry : Hid (RawE y) := hy
  clear Ey0 hy
  have HT0 : Hid (w.heap[gt]? = some (.cells #[tv] 25 (0, 0)) ∧ SInts w tv ts) := ⟨hr, hT⟩
  clear hr hT
  obtain ⟨X, hX⟩ : ∃ X, X = normE x := ⟨_, rfl⟩
  obtain ⟨Y, hY⟩ : ∃ X, X = normE y := ⟨_, rfl⟩
  have HX : Hid _ := hX
  have HY : Hid _ := hY
  have NX : Hid (NorE X) := by unfold Hid; rw [hX]; exact normE_nor Rx.out
  have NY : Hid (NorE Y) := by unfold Hid; rw [hY]; exact normE_nor Ry.out
  clear hX hY
  obtain ⟨R, hR⟩ : ∃ R, R = tog0 (fun a b => widenN a b ts) X Y := ⟨_, rfl⟩
  rw [← HX.out, ← HY.out, ← hR]
  have HR : Hid (R = tog0 (fun a b => widenN a b ts) X Y) := hR
  clear hR
  go_enter Try.func29, Try.ntmps29
  go_wp2_with fail
  obtain ⟨W, hW⟩ : ∃ W, W = (((w).alloc (.cells #[.bool x.1, .slice po x.2.1.length pc, .slice pp x.2.2.length pd] 24)).alloc (.cells #[.bool y.1, .slice qo y.2.1.length qc, .slice qp y.2.2.length qd] 24)).alloc (.cells #[.bool false, .slice none 0 0, .slice none 0 0] 24) := ⟨_, rfl⟩
  have rx : Hid (W.heap[w.heap.size]? = some (.cells #[.bool x.1, .slice po x.2.1.length pc, .slice pp x.2.2.length pd] 24)) := by unfold Hid; rw [hW]; exact (by repeat (first | (refine heap_at _ _ _ ?hx; case hx => (first | (simp; done) | (simp; omega))) | (refine heap_past _ _ _ ?hy ?_; case hy => (first | (simp; done) | (simp; omega))) | fail))
  have ry : Hid (W.heap[w.heap.size + 1]? = some (.cells #[.bool y.1, .slice qo y.2.1.length qc, .slice qp y.2.2.length qd] 24)) := by unfold Hid; rw [hW]; exact (by repeat (first | (refine heap_at _ _ _ ?hx; case hx => (first | (simp; done) | (simp; omega))) | (refine heap_past _ _ _ ?hy ?_; case hy => (first | (simp; done) | (simp; omega))) | fail))
  have rz : Hid (W.heap[w.heap.size + 1 + 1]? = some (.cells #[.bool false, .slice none 0 0, .slice none 0 0] 24)) := by unfold Hid; rw [hW]; exact (by repeat (first | (refine heap_at _ _ _ ?hx; case hx => (first | (simp; done) | (simp; omega))) | (refine heap_past _ _ _ ?hy ?_; case hy => (first | (simp; done) | (simp; omega))) | fail))
  have HW : Hid (Ok w W) := by unfold Hid; rw [hW]; have hok := Ok.refl w; exact (by repeat (first | exact hok | refine Ok.alloc ?_ _ | refine Ok.draws ?_ _ | fail))
  rw [← hW]
  clear hW
  obtain ⟨gz, egz⟩ : ∃ g, g = w.heap.size + 1 + 1 := ⟨_, rfl⟩
  rw [← egz] at rz ⊢
  obtain ⟨gy, egy⟩ : ∃ g, g = w.heap.size + 1 := ⟨_, rfl⟩
  rw [← egy] at ry ⊢
  obtain ⟨gx, egx⟩ : ∃ g, g = w.heap.size := ⟨_, rfl⟩
  rw [← egx] at rx ⊢
  have lgx : w.heap.size ≤ gx := by omega
  have nxy : ¬ gx = gy := by omega
  have nxz : ¬ gx = gz := by omega
  have lgy : w.heap.size ≤ gy := by omega
  have nyx : ¬ gy = gx := by omega
  have nyz : ¬ gy = gz := by omega
  have lgz : w.heap.size ≤ gz := by omega
  have nzx : ¬ gz = gx := by omega
  have nzy : ¬ gz = gy := by omega
  clear egx egy egz
  have ExW : Hid (EnvIs B W (.agg #[.bool x.1, .slice po x.2.1.length pc, .slice pp x.2.2.length pd]) x) := Ex.out.ok HW.out
  have EyW : Hid (EnvIs C W (.agg #[.bool y.1, .slice qo y.2.1.length qc, .slice qp y.2.2.length qd]) y) := Ey.out.ok HW.out
  have Lx : Hid (gx < W.heap.size) := lt_row rx.out
  have Ly : Hid (gy < W.heap.size) := lt_row ry.out
  have Lz : Hid (gz < W.heap.size) := lt_row rz.out
  refine wp_cutE (fun a' w' => ∃ (so sp to tp : Option Addr) (sc sd tc td : Nat), a' = { tmps := #[.agg #[.bool x.1, .slice po x.2.1.length pc, .slice pp x.2.2.length pd], .agg #[.bool y.1, .slice qo y.2.1.length qc, .slice qp y.2.2.length qd], .func (Fn.func 31) #[] #[.pointer (some ⟨gt, 0, none⟩)], .pointer (some ⟨gx, 0, none⟩), .pointer (some ⟨gy, 0, none⟩), undef, .pointer (some ⟨gz, 0, none⟩), .agg #[.bool x.1, .slice po x.2.1.length pc, .slice pp x.2.2.length pd], .agg #[.bool X.1, .slice so X.2.1.length sc, .slice sp X.2.2.length sd], .agg #[.bool y.1, .slice qo y.2.1.length qc, .slice qp y.2.2.length qd], .agg #[.bool Y.1, .slice to Y.2.1.length tc, .slice tp Y.2.2.length td], undef, undef, undef, undef, undef, undef, undef, undef, undef, undef, undef, undef], defers := [] } ∧ Hid (Ok w w') ∧ Hid (w'.heap[gx]? = some (.cells #[.bool X.1, .slice so X.2.1.length sc, .slice sp X.2.2.length sd] 24 (0, 0))) ∧ Hid (w'.heap[gy]? = some (.cells #[.bool Y.1, .slice to Y.2.1.length tc, .slice tp Y.2.2.length td] 24 (0, 0))) ∧ Hid (EnvIs W.heap.size w' (.agg #[.bool X.1, .slice so X.2.1.length sc, .slice sp X.2.2.length sd]) X) ∧ Hid (EnvIs W.heap.size w' (.agg #[.bool Y.1, .slice to Y.2.1.length tc, .slice tp Y.2.2.length td]) Y) ∧ (W.heap.size ≤ w'.heap.size) ∧ (∀ (h : Nat) (o : Obj), h ≠ gx → h ≠ gy → W.heap[h]? = some o → w'.heap[h]? = some o)) ?h1 ?h2
  case h1 =>
    obtain ⟨a0, a1, a2, a3, a4, a5⟩ := erow3_facts rx.out
    obtain ⟨b0, b1, b2, b3, b4, b5⟩ := erow3_facts ry.out
    have bz : Ok W W := Ok.refl _
    go_region_with (first
      | (go_at_call_of 8 (Value.slice po x.2.1.length pc); refine (eNorm_at x _ Rx.out W _ (by repeat (first | assumption | refine Below.drew ?_)) ExW.out).mono ?_; rintro e w1 ⟨r1, rfl, hE, hx1, hb⟩; rw [← HX.out] at hE; have EX : Hid (EnvIs W.heap.size w1 r1 X) := hE; obtain ⟨so, sc, sp, sd, e3, _, _, _, _⟩ := hE; subst e3; have O1 : Hid (Ok W w1) := hb; have z1 := Ok.refl w1; obtain ⟨a0, a1, a2, a3, a4, a5⟩ := erow3_facts (Ok.row' hb rx.out); obtain ⟨b0, b1, b2, b3, b4, b5⟩ := erow3_facts (Ok.row' hb ry.out))
      | (go_at_call_of 8 (Value.slice qo y.2.1.length qc); refine (eNorm_at y _ Ry.out W _ (by repeat (first | assumption | refine Below.drew ?_)) EyW.out).mono ?_; rintro e w2 ⟨r2, rfl, hE, hx2, hb⟩; rw [← HY.out] at hE; have EY : Hid (EnvIs W.heap.size w2 r2 Y) := hE; obtain ⟨to, tc, tp, td, e3, _, _, _, _⟩ := hE; subst e3; have O2 : Hid (Ok W w2) := hb; have z12 : Hid (Ok w1 w2) := Ok.step (by repeat (first | assumption | refine Below.drew ?_)) hx2; have z2 := Ok.refl w2; obtain ⟨a0, a1, a2, a3, a4, a5⟩ := erow3_facts (Ok.row' hb rx.out); obtain ⟨b0, b1, b2, b3, b4, b5⟩ := erow3_facts (Ok.row' hb ry.out))
      | fail)
    all_goals (refine ⟨so, sp, to, tp, sc, sd, tc, td, rfl, ?_⟩)
    all_goals exact enorm2_end (HW.out) O2.out rx.out ry.out lgx lgy nxy Lx.out Ly.out (EX.out.ok z12.out) EY.out _ _ _ _ _ _
  case h2 =>
    rintro a' Z ⟨so, sp, to, tp, sc, sd, tc, td, rfl, HZ, rX, rY, EX, EY, SZ, keep⟩
    clear rx ry
    replace rz : Hid _ := keep _ _ (by omega) (by omega) rz.out
    clear keep
    rcases Bool.eq_false_or_eq_true X.1 with h1 | h1
    · replace HR : Hid (R = Y) := by unfold Hid; rw [HR.out]; unfold tog0; rw [if_pos h1]
      obtain ⟨a0, a1, a2, a3, a4, a5⟩ := erow3_facts rX.out
      obtain ⟨b0, b1, b2, b3, b4, b5⟩ := erow3_facts rY.out
      rw [h1] at a0
      obtain ⟨k0, k1, k2, k3, k4, k5⟩ := erow3_facts rz.out
      go_wp2_with fail
      refine bodyPost_ret (results_cell_row rfl _ _ gz 24 #[_, _, _] (0, 0) _ rfl (erow_set3 rz.out _ _ _) Try.underlying24 rfl infoE) rfl ?_
      refine ⟨_, rfl, ?_, set3_ok HZ.out lgz _ _ _⟩
      rw [HR.out]
      exact (EY.out.set3 Lz.out _ _ _).mono HW.out.le
    · rcases Bool.eq_false_or_eq_true Y.1 with h2 | h2
      · replace HR : Hid (R = X) := by unfold Hid; rw [HR.out]; unfold tog0; rw [if_neg (by rw [h1]; decide), if_pos h2]
        obtain ⟨a0, a1, a2, a3, a4, a5⟩ := erow3_facts rX.out
        obtain ⟨b0, b1, b2, b3, b4, b5⟩ := erow3_facts rY.out
        rw [h1] at a0
        rw [h2] at b0
        obtain ⟨k0, k1, k2, k3, k4, k5⟩ := erow3_facts rz.out
        go_wp2_with fail
        refine bodyPost_ret (results_cell_row rfl _ _ gz 24 #[_, _, _] (0, 0) _ rfl (erow_set3 rz.out _ _ _) Try.underlying24 rfl infoE) rfl ?_
        refine ⟨_, rfl, ?_, set3_ok HZ.out lgz _ _ _⟩
        rw [HR.out]
        rw [h1] at EX
        have EX2 := EX.out
        exact (EX2.set3 Lz.out _ _ _).mono HW.out.le
      · replace HR : Hid (R = pairE (fun a b => widenN a b ts) X Y) := by unfold Hid; rw [HR.out]; unfold tog0; rw [if_neg (by rw [h1]; decide), if_neg (by rw [h2]; decide)]
        obtain ⟨a0, a1, a2, a3, a4, a5⟩ := erow3_facts rX.out
        obtain ⟨b0, b1, b2, b3, b4, b5⟩ := erow3_facts rY.out
        rw [h1] at a0
        rw [h2] at b0
        rw [h1] at EX
        rw [h2] at EY
        go_wp2_with fail
        clear a0 a1 a2 a3 a4 a5
        clear b0 b1 b2 b3 b4 b5
        refine (epairW_any X Y _ _ gt tv ts NX.out.raw NY.out.raw Z (Ok.row' HZ.out HT0.out.1) (SInts.ok HT0.out.2 HZ.out) EX.out EY.out).mono ?_
        rintro e w3 ⟨r, rfl, hE, hb⟩
        rw [← HR.out] at hE
        have E3 : Hid (EnvIs W.heap.size w3 r R) := hE.mono SZ
        obtain ⟨vo3, vc3, ao3, ac3, e3, _, _, _, _⟩ := hE
        subst e3
        replace rz : Hid _ := Ok.row' hb rz.out
        have H3 : Hid (Ok w w3) := HZ.out.step hb
        clear hb
        obtain ⟨k0, k1, k2, k3, k4, k5⟩ := erow3_facts rz.out
        go_wp2_with fail
        refine bodyPost_ret (results_cell_row rfl _ _ gz 24 #[_, _, _] (0, 0) _ rfl (erow_set3 rz.out _ _ _) Try.underlying24 rfl infoE) rfl ?_
        refine ⟨_, rfl, ?_, set3_ok H3.out lgz _ _ _⟩
        exact (E3.out.set3 Lz.out _ _ _).mono HW.out.le
set_option maxRecDepth 100000 in
set_option maxHeartbeats 8000000 in
theorem eMeet_any (x y : ET) (xv yv : Value) (hx : RawE x) (hy : RawE y) {B C : Nat} (w : World) (hX : EnvIs B w xv x) (hY : EnvIs C w yv y) :
    Calls Try.prog 11 #[xv, yv] w fun e w' => ∃ r, e = .returned r ∧ EnvIs w.heap.size w' r (meet0 (normE x) (normE y)) ∧ Ok w w' := by
  have Ex0 := hX
  obtain ⟨po, pc, pp, pd, ex, _, _, _, _⟩ := hX
  subst ex
  have Ex : Hid (EnvIs B w (.agg #[.bool x.1, .slice po x.2.1.length pc, .slice pp x.2.2.length pd]) x) := Ex0
  have Rx : Hid (RawE x) := hx
  clear Ex0 hx
  have Ey0 := hY
  obtain ⟨qo, qc, qp, qd, ey, _, _, _, _⟩ := hY
  subst ey
  have Ey : Hid (EnvIs C w (.agg #[.bool y.1, .slice qo y.2.1.length qc, .slice qp y.2.2.length qd]) y) := Ey0
  have Ry : Hid (RawE y) := hy
  clear Ey0 hy
  obtain ⟨X, hX⟩ : ∃ X, X = normE x := ⟨_, rfl⟩
  obtain ⟨Y, hY⟩ : ∃ X, X = normE y := ⟨_, rfl⟩
  have HX : Hid _ := hX
  have HY : Hid _ := hY
  have NX : Hid (NorE X) := by unfold Hid; rw [hX]; exact normE_nor Rx.out
  have NY : Hid (NorE Y) := by unfold Hid; rw [hY]; exact normE_nor Ry.out
  clear hX hY
  obtain ⟨R, hR⟩ : ∃ R, R = meet0 X Y := ⟨_, rfl⟩
  rw [← HX.out, ← HY.out, ← hR]
  have HR : Hid (R = meet0 X Y) := hR
  clear hR
  go_enter Try.func11, Try.ntmps11
  go_wp2_with fail
  obtain ⟨W, hW⟩ : ∃ W, W = (((w).alloc (.cells #[.bool x.1, .slice po x.2.1.length pc, .slice pp x.2.2.length pd] 24)).alloc (.cells #[.bool y.1, .slice qo y.2.1.length qc, .slice qp y.2.2.length qd] 24)).alloc (.cells #[.bool false, .slice none 0 0, .slice none 0 0] 24) := ⟨_, rfl⟩
  have rx : Hid (W.heap[w.heap.size]? = some (.cells #[.bool x.1, .slice po x.2.1.length pc, .slice pp x.2.2.length pd] 24)) := by unfold Hid; rw [hW]; exact (by repeat (first | (refine heap_at _ _ _ ?hx; case hx => (first | (simp; done) | (simp; omega))) | (refine heap_past _ _ _ ?hy ?_; case hy => (first | (simp; done) | (simp; omega))) | fail))
  have ry : Hid (W.heap[w.heap.size + 1]? = some (.cells #[.bool y.1, .slice qo y.2.1.length qc, .slice qp y.2.2.length qd] 24)) := by unfold Hid; rw [hW]; exact (by repeat (first | (refine heap_at _ _ _ ?hx; case hx => (first | (simp; done) | (simp; omega))) | (refine heap_past _ _ _ ?hy ?_; case hy => (first | (simp; done) | (simp; omega))) | fail))
  have rz : Hid (W.heap[w.heap.size + 1 + 1]? = some (.cells #[.bool false, .slice none 0 0, .slice none 0 0] 24)) := by unfold Hid; rw [hW]; exact (by repeat (first | (refine heap_at _ _ _ ?hx; case hx => (first | (simp; done) | (simp; omega))) | (refine heap_past _ _ _ ?hy ?_; case hy => (first | (simp; done) | (simp; omega))) | fail))
  have HW : Hid (Ok w W) := by unfold Hid; rw [hW]; have hok := Ok.refl w; exact (by repeat (first | exact hok | refine Ok.alloc ?_ _ | refine Ok.draws ?_ _ | fail))
  rw [← hW]
  clear hW
  obtain ⟨gz, egz⟩ : ∃ g, g = w.heap.size + 1 + 1 := ⟨_, rfl⟩
  rw [← egz] at rz ⊢
  obtain ⟨gy, egy⟩ : ∃ g, g = w.heap.size + 1 := ⟨_, rfl⟩
  rw [← egy] at ry ⊢
  obtain ⟨gx, egx⟩ : ∃ g, g = w.heap.size := ⟨_, rfl⟩
  rw [← egx] at rx ⊢
  have lgx : w.heap.size ≤ gx := by omega
  have nxy : ¬ gx = gy := by omega
  have nxz : ¬ gx = gz := by omega
  have lgy : w.heap.size ≤ gy := by omega
  have nyx : ¬ gy = gx := by omega
  have nyz : ¬ gy = gz := by omega
  have lgz : w.heap.size ≤ gz := by omega
  have nzx : ¬ gz = gx := by omega
  have nzy : ¬ gz = gy := by omega
  clear egx egy egz
  have ExW : Hid (EnvIs B W (.agg #[.bool x.1, .slice po x.2.1.length pc, .slice pp x.2.2.length pd]) x) := Ex.out.ok HW.out
  have EyW : Hid (EnvIs C W (.agg #[.bool y.1, .slice qo y.2.1.length qc, .slice qp y.2.2.length qd]) y) := Ey.out.ok HW.out
  have Lx : Hid (gx < W.heap.size) := lt_row rx.out
  have Ly : Hid (gy < W.heap.size) := lt_row ry.out
  have Lz : Hid (gz < W.heap.size) := lt_row rz.out
  refine wp_cutE (fun a' w' => ∃ (so sp to tp : Option Addr) (sc sd tc td : Nat), a' = { tmps := #[.agg #[.bool x.1, .slice po x.2.1.length pc, .slice pp x.2.2.length pd], .agg #[.bool y.1, .slice qo y.2.1.length qc, .slice qp y.2.2.length qd], .pointer (some ⟨gx, 0, none⟩), .pointer (some ⟨gy, 0, none⟩), .pointer (some ⟨gz, 0, none⟩), .agg #[.bool x.1, .slice po x.2.1.length pc, .slice pp x.2.2.length pd], .agg #[.bool X.1, .slice so X.2.1.length sc, .slice sp X.2.2.length sd], .agg #[.bool y.1, .slice qo y.2.1.length qc, .slice qp y.2.2.length qd], .agg #[.bool Y.1, .slice to Y.2.1.length tc, .slice tp Y.2.2.length td], undef, undef, undef, undef, undef, undef, undef, undef, undef, undef], defers := [] } ∧ Hid (Ok w w') ∧ Hid (w'.heap[gx]? = some (.cells #[.bool X.1, .slice so X.2.1.length sc, .slice sp X.2.2.length sd] 24 (0, 0))) ∧ Hid (w'.heap[gy]? = some (.cells #[.bool Y.1, .slice to Y.2.1.length tc, .slice tp Y.2.2.length td] 24 (0, 0))) ∧ Hid (EnvIs W.heap.size w' (.agg #[.bool X.1, .slice so X.2.1.length sc, .slice sp X.2.2.length sd]) X) ∧ Hid (EnvIs W.heap.size w' (.agg #[.bool Y.1, .slice to Y.2.1.length tc, .slice tp Y.2.2.length td]) Y) ∧ (W.heap.size ≤ w'.heap.size) ∧ (∀ (h : Nat) (o : Obj), h ≠ gx → h ≠ gy → W.heap[h]? = some o → w'.heap[h]? = some o)) ?h1 ?h2
  case h1 =>
    obtain ⟨a0, a1, a2, a3, a4, a5⟩ := erow3_facts rx.out
    obtain ⟨b0, b1, b2, b3, b4, b5⟩ := erow3_facts ry.out
    have bz : Ok W W := Ok.refl _
    go_region_with (first
      | (go_at_call_of 8 (Value.slice po x.2.1.length pc); refine (eNorm_at x _ Rx.out W _ (by repeat (first | assumption | refine Below.drew ?_)) ExW.out).mono ?_; rintro e w1 ⟨r1, rfl, hE, hx1, hb⟩; rw [← HX.out] at hE; have EX : Hid (EnvIs W.heap.size w1 r1 X) := hE; obtain ⟨so, sc, sp, sd, e3, _, _, _, _⟩ := hE; subst e3; have O1 : Hid (Ok W w1) := hb; have z1 := Ok.refl w1; obtain ⟨a0, a1, a2, a3, a4, a5⟩ := erow3_facts (Ok.row' hb rx.out); obtain ⟨b0, b1, b2, b3, b4, b5⟩ := erow3_facts (Ok.row' hb ry.out))
      | (go_at_call_of 8 (Value.slice qo y.2.1.length qc); refine (eNorm_at y _ Ry.out W _ (by repeat (first | assumption | refine Below.drew ?_)) EyW.out).mono ?_; rintro e w2 ⟨r2, rfl, hE, hx2, hb⟩; rw [← HY.out] at hE; have EY : Hid (EnvIs W.heap.size w2 r2 Y) := hE; obtain ⟨to, tc, tp, td, e3, _, _, _, _⟩ := hE; subst e3; have O2 : Hid (Ok W w2) := hb; have z12 : Hid (Ok w1 w2) := Ok.step (by repeat (first | assumption | refine Below.drew ?_)) hx2; have z2 := Ok.refl w2; obtain ⟨a0, a1, a2, a3, a4, a5⟩ := erow3_facts (Ok.row' hb rx.out); obtain ⟨b0, b1, b2, b3, b4, b5⟩ := erow3_facts (Ok.row' hb ry.out))
      | fail)
    all_goals (refine ⟨so, sp, to, tp, sc, sd, tc, td, rfl, ?_⟩)
    all_goals exact enorm2_end (HW.out) O2.out rx.out ry.out lgx lgy nxy Lx.out Ly.out (EX.out.ok z12.out) EY.out _ _ _ _ _ _
  case h2 =>
    rintro a' Z ⟨so, sp, to, tp, sc, sd, tc, td, rfl, HZ, rX, rY, EX, EY, SZ, keep⟩
    clear rx ry
    replace rz : Hid _ := keep _ _ (by omega) (by omega) rz.out
    clear keep
    rcases Bool.eq_false_or_eq_true X.1 with h1 | h1
    · replace HR : Hid (R = dedE) := by unfold Hid; rw [HR.out]; unfold meet0; rw [h1]; rfl
      obtain ⟨a0, a1, a2, a3, a4, a5⟩ := erow3_facts rX.out
      obtain ⟨b0, b1, b2, b3, b4, b5⟩ := erow3_facts rY.out
      rw [h1] at a0
      go_wp2_with fail
      refine (edead_any Z _ (Ok.refl _)).mono ?_
      rintro e u1 ⟨rfl, hb⟩
      replace rz : Hid _ := Ok.row' hb rz.out
      have Hu : Hid (Ok w u1) := HZ.out.step hb
      clear hb
      obtain ⟨k0, k1, k2, k3, k4, k5⟩ := erow3_facts rz.out
      go_wp2_with fail
      refine bodyPost_ret (results_cell_row rfl _ _ gz 24 #[_, _, _] (0, 0) _ rfl (erow_set3 rz.out _ _ _) Try.underlying24 rfl infoE) rfl ?_
      refine ⟨_, rfl, ?_, set3_ok Hu.out lgz _ _ _⟩
      rw [HR.out]
      exact EnvIs.ded _ _
    · rcases Bool.eq_false_or_eq_true Y.1 with h2 | h2
      · replace HR : Hid (R = dedE) := by unfold Hid; rw [HR.out]; unfold meet0; rw [h1, h2]; rfl
        obtain ⟨a0, a1, a2, a3, a4, a5⟩ := erow3_facts rX.out
        obtain ⟨b0, b1, b2, b3, b4, b5⟩ := erow3_facts rY.out
        rw [h1] at a0
        rw [h2] at b0
        go_wp2_with fail
        refine (edead_any Z _ (Ok.refl _)).mono ?_
        rintro e u1 ⟨rfl, hb⟩
        replace rz : Hid _ := Ok.row' hb rz.out
        have Hu : Hid (Ok w u1) := HZ.out.step hb
        clear hb
        obtain ⟨k0, k1, k2, k3, k4, k5⟩ := erow3_facts rz.out
        go_wp2_with fail
        refine bodyPost_ret (results_cell_row rfl _ _ gz 24 #[_, _, _] (0, 0) _ rfl (erow_set3 rz.out _ _ _) Try.underlying24 rfl infoE) rfl ?_
        refine ⟨_, rfl, ?_, set3_ok Hu.out lgz _ _ _⟩
        rw [HR.out]
        exact EnvIs.ded _ _
      · replace HR : Hid (R = pairE meetN X Y) := by unfold Hid; rw [HR.out]; unfold meet0; rw [h1, h2]; rfl
        obtain ⟨a0, a1, a2, a3, a4, a5⟩ := erow3_facts rX.out
        obtain ⟨b0, b1, b2, b3, b4, b5⟩ := erow3_facts rY.out
        rw [h1] at a0
        rw [h2] at b0
        rw [h1] at EX
        rw [h2] at EY
        go_wp2_with fail
        clear a0 a1 a2 a3 a4 a5
        clear b0 b1 b2 b3 b4 b5
        refine (epairM_any X Y _ _ NX.out.raw NY.out.raw Z EX.out EY.out).mono ?_
        rintro e w3 ⟨r, rfl, hE, hb⟩
        rw [← HR.out] at hE
        have E3 : Hid (EnvIs W.heap.size w3 r R) := hE.mono SZ
        obtain ⟨vo3, vc3, ao3, ac3, e3, _, _, _, _⟩ := hE
        subst e3
        replace rz : Hid _ := Ok.row' hb rz.out
        have H3 : Hid (Ok w w3) := HZ.out.step hb
        clear hb
        obtain ⟨k0, k1, k2, k3, k4, k5⟩ := erow3_facts rz.out
        go_wp2_with fail
        refine bodyPost_ret (results_cell_row rfl _ _ gz 24 #[_, _, _] (0, 0) _ rfl (erow_set3 rz.out _ _ _) Try.underlying24 rfl infoE) rfl ?_
        refine ⟨_, rfl, ?_, set3_ok H3.out lgz _ _ _⟩
        exact (E3.out.set3 Lz.out _ _ _).mono HW.out.le
set_option maxRecDepth 100000 in
set_option maxHeartbeats 8000000 in
theorem eJoin_any (x y : ET) (xv yv : Value) (hx : RawE x) (hy : RawE y) {B C : Nat} (w : World) (hX : EnvIs B w xv x) (hY : EnvIs C w yv y) :
    Calls Try.prog 12 #[xv, yv] w fun e w' => ∃ r, e = .returned r ∧ EnvIs w.heap.size w' r (tog0 (joinN) (normE x) (normE y)) ∧ Ok w w' := by
  have Ex0 := hX
  obtain ⟨po, pc, pp, pd, ex, _, _, _, _⟩ := hX
  subst ex
  have Ex : Hid (EnvIs B w (.agg #[.bool x.1, .slice po x.2.1.length pc, .slice pp x.2.2.length pd]) x) := Ex0
  have Rx : Hid (RawE x) := hx
  clear Ex0 hx
  have Ey0 := hY
  obtain ⟨qo, qc, qp, qd, ey, _, _, _, _⟩ := hY
  subst ey
  have Ey : Hid (EnvIs C w (.agg #[.bool y.1, .slice qo y.2.1.length qc, .slice qp y.2.2.length qd]) y) := Ey0
  have Ry : Hid (RawE y) := hy
  clear Ey0 hy
  obtain ⟨R, hR⟩ : ∃ R, R = tog0 (joinN) (normE x) (normE y) := ⟨_, rfl⟩
  rw [← hR]
  have HR : Hid (R = tog0 (joinN) (normE x) (normE y)) := hR
  clear hR
  go_enter Try.func12, Try.ntmps12
  go_wp2_with fail
  obtain ⟨W, hW⟩ : ∃ W, W = (((w).alloc (.cells #[.bool x.1, .slice po x.2.1.length pc, .slice pp x.2.2.length pd] 24)).alloc (.cells #[.bool y.1, .slice qo y.2.1.length qc, .slice qp y.2.2.length qd] 24)).alloc (.cells #[.bool false, .slice none 0 0, .slice none 0 0] 24) := ⟨_, rfl⟩
  have rx : Hid (W.heap[w.heap.size]? = some (.cells #[.bool x.1, .slice po x.2.1.length pc, .slice pp x.2.2.length pd] 24)) := by unfold Hid; rw [hW]; exact (by repeat (first | (refine heap_at _ _ _ ?hx; case hx => (first | (simp; done) | (simp; omega))) | (refine heap_past _ _ _ ?hy ?_; case hy => (first | (simp; done) | (simp; omega))) | fail))
  have ry : Hid (W.heap[w.heap.size + 1]? = some (.cells #[.bool y.1, .slice qo y.2.1.length qc, .slice qp y.2.2.length qd] 24)) := by unfold Hid; rw [hW]; exact (by repeat (first | (refine heap_at _ _ _ ?hx; case hx => (first | (simp; done) | (simp; omega))) | (refine heap_past _ _ _ ?hy ?_; case hy => (first | (simp; done) | (simp; omega))) | fail))
  have rz : Hid (W.heap[w.heap.size + 1 + 1]? = some (.cells #[.bool false, .slice none 0 0, .slice none 0 0] 24)) := by unfold Hid; rw [hW]; exact (by repeat (first | (refine heap_at _ _ _ ?hx; case hx => (first | (simp; done) | (simp; omega))) | (refine heap_past _ _ _ ?hy ?_; case hy => (first | (simp; done) | (simp; omega))) | fail))
  have HW : Hid (Ok w W) := by unfold Hid; rw [hW]; have hok := Ok.refl w; exact (by repeat (first | exact hok | refine Ok.alloc ?_ _ | refine Ok.draws ?_ _ | fail))
  rw [← hW]
  clear hW
  obtain ⟨gz, egz⟩ : ∃ g, g = w.heap.size + 1 + 1 := ⟨_, rfl⟩
  rw [← egz] at rz ⊢
  obtain ⟨gy, egy⟩ : ∃ g, g = w.heap.size + 1 := ⟨_, rfl⟩
  rw [← egy] at ry ⊢
  obtain ⟨gx, egx⟩ : ∃ g, g = w.heap.size := ⟨_, rfl⟩
  rw [← egx] at rx ⊢
  have lgx : w.heap.size ≤ gx := by omega
  have nxy : ¬ gx = gy := by omega
  have nxz : ¬ gx = gz := by omega
  have lgy : w.heap.size ≤ gy := by omega
  have nyx : ¬ gy = gx := by omega
  have nyz : ¬ gy = gz := by omega
  have lgz : w.heap.size ≤ gz := by omega
  have nzx : ¬ gz = gx := by omega
  have nzy : ¬ gz = gy := by omega
  clear egx egy egz
  have ExW : Hid (EnvIs B W (.agg #[.bool x.1, .slice po x.2.1.length pc, .slice pp x.2.2.length pd]) x) := Ex.out.ok HW.out
  have EyW : Hid (EnvIs C W (.agg #[.bool y.1, .slice qo y.2.1.length qc, .slice qp y.2.2.length qd]) y) := Ey.out.ok HW.out
  have Lx : Hid (gx < W.heap.size) := lt_row rx.out
  have Ly : Hid (gy < W.heap.size) := lt_row ry.out
  have Lz : Hid (gz < W.heap.size) := lt_row rz.out
  refine (etogJ_any x y _ _ Rx.out Ry.out W ExW.out EyW.out).mono ?_
  rintro e w3 ⟨r, rfl, hE, hb⟩
  rw [← HR.out] at hE
  have E3 : Hid (EnvIs W.heap.size w3 r R) := hE
  obtain ⟨vo3, vc3, ao3, ac3, e3, _, _, _, _⟩ := hE
  subst e3
  replace rz : Hid _ := Ok.row' hb rz.out
  have H3 : Hid (Ok w w3) := HW.out.step hb
  clear hb
  obtain ⟨k0, k1, k2, k3, k4, k5⟩ := erow3_facts rz.out
  go_wp2_with fail
  refine bodyPost_ret (results_cell_row rfl _ _ gz 24 #[_, _, _] (0, 0) _ rfl (erow_set3 rz.out _ _ _) Try.underlying24 rfl infoE) rfl ?_
  refine ⟨_, rfl, ?_, set3_ok H3.out lgz _ _ _⟩
  exact (E3.out.set3 Lz.out _ _ _).mono HW.out.le
set_option maxRecDepth 100000 in
set_option maxHeartbeats 8000000 in
theorem eWiden_any (x y : ET) (xv yv tv : Value) (ts : List Int) (hx : RawE x) (hy : RawE y) {B C : Nat} (w : World) (hT : SInts w tv ts) (hX : EnvIs B w xv x) (hY : EnvIs C w yv y) :
    Calls Try.prog 13 #[xv, yv, tv] w fun e w' => ∃ r, e = .returned r ∧ EnvIs w.heap.size w' r (tog0 (fun a b => widenN a b ts) (normE x) (normE y)) ∧ Ok w w' := by
  have Ex0 := hX
  obtain ⟨po, pc, pp, pd, ex, _, _, _, _⟩ := hX
  subst ex
  have Ex : Hid (EnvIs B w (.agg #[.bool x.1, .slice po x.2.1.length pc, .slice pp x.2.2.length pd]) x) := Ex0
  have Rx : Hid (RawE x) := hx
  clear Ex0 hx
  have Ey0 := hY
  obtain ⟨qo, qc, qp, qd, ey, _, _, _, _⟩ := hY
  subst ey
  have Ey : Hid (EnvIs C w (.agg #[.bool y.1, .slice qo y.2.1.length qc, .slice qp y.2.2.length qd]) y) := Ey0
  have Ry : Hid (RawE y) := hy
  clear Ey0 hy
  obtain ⟨to, tn, tc, rfl⟩ := SInts.form hT
  have HT0 : Hid (SInts w (.slice to tn tc) ts) := hT
  clear hT
  obtain ⟨R, hR⟩ : ∃ R, R = tog0 (fun a b => widenN a b ts) (normE x) (normE y) := ⟨_, rfl⟩
  rw [← hR]
  have HR : Hid (R = tog0 (fun a b => widenN a b ts) (normE x) (normE y)) := hR
  clear hR
  go_enter Try.func13, Try.ntmps13
  go_wp2_with fail
  obtain ⟨W, hW⟩ : ∃ W, W = ((((w).alloc (.cells #[.bool x.1, .slice po x.2.1.length pc, .slice pp x.2.2.length pd] 24)).alloc (.cells #[.bool y.1, .slice qo y.2.1.length qc, .slice qp y.2.2.length qd] 24)).alloc (.cells #[.slice to tn tc] 25)).alloc (.cells #[.bool false, .slice none 0 0, .slice none 0 0] 24) := ⟨_, rfl⟩
  have rx : Hid (W.heap[w.heap.size]? = some (.cells #[.bool x.1, .slice po x.2.1.length pc, .slice pp x.2.2.length pd] 24)) := by unfold Hid; rw [hW]; exact (by repeat (first | (refine heap_at _ _ _ ?hx; case hx => (first | (simp; done) | (simp; omega))) | (refine heap_past _ _ _ ?hy ?_; case hy => (first | (simp; done) | (simp; omega))) | fail))
  have ry : Hid (W.heap[w.heap.size + 1]? = some (.cells #[.bool y.1, .slice qo y.2.1.length qc, .slice qp y.2.2.length qd] 24)) := by unfold Hid; rw [hW]; exact (by repeat (first | (refine heap_at _ _ _ ?hx; case hx => (first | (simp; done) | (simp; omega))) | (refine heap_past _ _ _ ?hy ?_; case hy => (first | (simp; done) | (simp; omega))) | fail))
  have rt : Hid (W.heap[w.heap.size + 1 + 1]? = some (.cells #[.slice to tn tc] 25)) := by unfold Hid; rw [hW]; exact (by repeat (first | (refine heap_at _ _ _ ?hx; case hx => (first | (simp; done) | (simp; omega))) | (refine heap_past _ _ _ ?hy ?_; case hy => (first | (simp; done) | (simp; omega))) | fail))
  have rz : Hid (W.heap[w.heap.size + 1 + 1 + 1]? = some (.cells #[.bool false, .slice none 0 0, .slice none 0 0] 24)) := by unfold Hid; rw [hW]; exact (by repeat (first | (refine heap_at _ _ _ ?hx; case hx => (first | (simp; done) | (simp; omega))) | (refine heap_past _ _ _ ?hy ?_; case hy => (first | (simp; done) | (simp; omega))) | fail))
  have HW : Hid (Ok w W) := by unfold Hid; rw [hW]; have hok := Ok.refl w; exact (by repeat (first | exact hok | refine Ok.alloc ?_ _ | refine Ok.draws ?_ _ | fail))
  rw [← hW]
  clear hW
  obtain ⟨gz, egz⟩ : ∃ g, g = w.heap.size + 1 + 1 + 1 := ⟨_, rfl⟩
  rw [← egz] at rz ⊢
  obtain ⟨gt, egt⟩ : ∃ g, g = w.heap.size + 1 + 1 := ⟨_, rfl⟩
  rw [← egt] at rt ⊢
  obtain ⟨gy, egy⟩ : ∃ g, g = w.heap.size + 1 := ⟨_, rfl⟩
  rw [← egy] at ry ⊢
  obtain ⟨gx, egx⟩ : ∃ g, g = w.heap.size := ⟨_, rfl⟩
  rw [← egx] at rx ⊢
  have lgx : w.heap.size ≤ gx := by omega
  have nxy : ¬ gx = gy := by omega
  have nxt : ¬ gx = gt := by omega
  have nxz : ¬ gx = gz := by omega
  have lgy : w.heap.size ≤ gy := by omega
  have nyx : ¬ gy = gx := by omega
  have nyt : ¬ gy = gt := by omega
  have nyz : ¬ gy = gz := by omega
  have lgt : w.heap.size ≤ gt := by omega
  have ntx : ¬ gt = gx := by omega
  have nty : ¬ gt = gy := by omega
  have ntz : ¬ gt = gz := by omega
  have lgz : w.heap.size ≤ gz := by omega
  have nzx : ¬ gz = gx := by omega
  have nzy : ¬ gz = gy := by omega
  have nzt : ¬ gz = gt := by omega
  clear egx egy egt egz
  have ExW : Hid (EnvIs B W (.agg #[.bool x.1, .slice po x.2.1.length pc, .slice pp x.2.2.length pd]) x) := Ex.out.ok HW.out
  have EyW : Hid (EnvIs C W (.agg #[.bool y.1, .slice qo y.2.1.length qc, .slice qp y.2.2.length qd]) y) := Ey.out.ok HW.out
  have Lx : Hid (gx < W.heap.size) := lt_row rx.out
  have Ly : Hid (gy < W.heap.size) := lt_row ry.out
  have Lt : Hid (gt < W.heap.size) := lt_row rt.out
  have Lz : Hid (gz < W.heap.size) := lt_row rz.out
  refine (etogW_any x y _ _ gt (.slice to tn tc) ts Rx.out Ry.out W rt.out (SInts.ok HT0.out HW.out) ExW.out EyW.out).mono ?_
  rintro e w3 ⟨r, rfl, hE, hb⟩
  rw [← HR.out] at hE
  have E3 : Hid (EnvIs W.heap.size w3 r R) := hE
  obtain ⟨vo3, vc3, ao3, ac3, e3, _, _, _, _⟩ := hE
  subst e3
  replace rz : Hid _ := Ok.row' hb rz.out
  have H3 : Hid (Ok w w3) := HW.out.step hb
  clear hb
  obtain ⟨k0, k1, k2, k3, k4, k5⟩ := erow3_facts rz.out
  go_wp2_with fail
  refine bodyPost_ret (results_cell_row rfl _ _ gz 24 #[_, _, _] (0, 0) _ rfl (erow_set3 rz.out _ _ _) Try.underlying24 rfl infoE) rfl ?_
  refine ⟨_, rfl, ?_, set3_ok H3.out lgz _ _ _⟩
  exact (E3.out.set3 Lz.out _ _ _).mono HW.out.le
end Go.Proofs.Ytbkblijoimmdeaa
