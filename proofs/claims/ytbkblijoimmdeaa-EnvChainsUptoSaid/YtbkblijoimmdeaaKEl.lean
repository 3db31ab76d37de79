import Derived.Deep.Cut
import Derived.Deep.CutRange
import Derived.Test.YtbkblijoimmdeaaKEk
set_option linter.unusedVariables false
set_option linter.unusedSimpArgs false
set_option linter.unnecessarySimpa false
/- El -/
namespace Go.Proofs.Ytbkblijoimmdeaa
open Go.RowKit
set_option maxRecDepth 100000 in
set_option maxHeartbeats 40000000 in
theorem orders_any (x y z : ET) (xv yv zv tv : Value) (ts : List Int) (hx : RawE x) (hy : RawE y) (hz : RawE z) {B C D : Nat} (w : World) (hT : SInts w tv ts) (hX : EnvIs B w xv x) (hY : EnvIs C w yv y) (hZ : EnvIs D w zv z) :
    Calls Try.prog 4 #[xv, yv, zv, tv] w fun e w' => e = .returned (.bool true) ∧ Ok w w' := by
  have Ex0 := hX
  obtain ⟨po, pc, pp, pd, ex, _, _, _, _⟩ := hX
  subst ex
  have Ex : Hid (EnvIs B w (.agg #[.bool x.1, .slice po x.2.1.length pc, .slice pp x.2.2.length pd]) x) := Ex0
  have Rx : Hid (RawE x) := hx
  clear Ex0 hx
  have Ey0 := hY
  obtain ⟨qo, qc, qp, qd, ey, _, _, _, _⟩ := hY
  subst ey
  have Ey : Hid (EnvIs C w (.agg #[.bool y.1, .slice qo y.2.1.length qc, .slice qp y.2.2.length qd]) y) := Ey0
  have Ry : Hid (RawE y) := hy
  clear Ey0 hy
  have Ez0 := hZ
  obtain ⟨uo, uc, up, ud, ez, _, _, _, _⟩ := hZ
  subst ez
  have Ez : Hid (EnvIs D w (.agg #[.bool z.1, .slice uo z.2.1.length uc, .slice up z.2.2.length ud]) z) := Ez0
  have Rz : Hid (RawE z) := hz
  clear Ez0 hz
  obtain ⟨ho, hn, hc, rfl⟩ := SInts.form hT
  have HT : Hid (SInts w (.slice ho hn hc) ts) := hT
  clear hT
  have NX : Hid (NorE (normE x)) := normE_nor Rx.out
  have NY : Hid (NorE (normE y)) := normE_nor Ry.out
  have NZ : Hid (NorE (normE z)) := normE_nor Rz.out
  have HXX : Hid (leq0 (normE x) (normE x) = true) := leq_refl NX.out
  obtain ⟨b1, hb1⟩ : ∃ b, leq0 (normE x) (normE y) = b := ⟨_, rfl⟩
  have Hb1 : Hid (leq0 (normE x) (normE y) = b1) := hb1
  clear hb1
  obtain ⟨b2, hb2⟩ : ∃ b, leq0 (normE y) (normE x) = b := ⟨_, rfl⟩
  have Hb2 : Hid (leq0 (normE y) (normE x) = b2) := hb2
  clear hb2
  obtain ⟨b4, hb4⟩ : ∃ b, leq0 (normE y) (normE z) = b := ⟨_, rfl⟩
  have Hb4 : Hid (leq0 (normE y) (normE z) = b4) := hb4
  clear hb4
  obtain ⟨b5, hb5⟩ : ∃ b, leq0 (normE z) (normE x) = b := ⟨_, rfl⟩
  have Hb5 : Hid (leq0 (normE z) (normE x) = b5) := hb5
  clear hb5
  obtain ⟨b6, hb6⟩ : ∃ b, leq0 (normE z) (normE y) = b := ⟨_, rfl⟩
  have Hb6 : Hid (leq0 (normE z) (normE y) = b6) := hb6
  clear hb6
  obtain ⟨L, hL⟩ : ∃ b, shp0 (normE x) (normE y) = b := ⟨_, rfl⟩
  have HL : Hid (shp0 (normE x) (normE y) = L) := hL
  clear hL
  have H3 : Hid (same0 (normE x) (normE y) = (b1 && b2)) := by unfold Hid; rw [← Hb1.out, ← Hb2.out]; exact (leq_anti NX.out NY.out).symm
  have HTR : Hid (b1 = true → b4 = true → leq0 (normE x) (normE z) = true) := by unfold Hid; rw [← Hb1.out, ← Hb4.out]; exact fun h k => leq_trans NX.out NY.out NZ.out h k
  obtain ⟨M, hM⟩ : ∃ b, meet0 (normE x) (normE y) = b := ⟨_, rfl⟩
  have NM : Hid (NorE M) := by unfold Hid; rw [← hM]; exact meet_nor NX.out NY.out
  have HM : Hid (meet0 (normE x) (normE y) = M) := hM
  clear hM
  obtain ⟨J, hJ⟩ : ∃ b, tog0 joinN (normE x) (normE y) = b := ⟨_, rfl⟩
  have NJ : Hid (NorE J) := by unfold Hid; rw [← hJ]; exact tog_nor join_ok NX.out NY.out
  have HJ : Hid (tog0 joinN (normE x) (normE y) = J) := hJ
  clear hJ
  obtain ⟨U, hU⟩ : ∃ b, tog0 (fun a b => widenN a b ts) (normE x) (normE y) = b := ⟨_, rfl⟩
  have NU : Hid (NorE U) := by unfold Hid; rw [← hU]; exact tog_nor (wid_ok ts) NX.out NY.out
  have HU : Hid (tog0 (fun a b => widenN a b ts) (normE x) (normE y) = U) := hU
  clear hU
  have FM1 : Hid (leq0 (normE M) (normE x) = true) := by unfold Hid; rw [normE_id NM.out, ← HM.out]; exact (meet_below NX.out NY.out).1
  have FM2 : Hid (leq0 (normE M) (normE y) = true) := by unfold Hid; rw [normE_id NM.out, ← HM.out]; exact (meet_below NX.out NY.out).2
  have HM2 : Hid (meet0 (normE y) (normE x) = M) := by unfold Hid; rw [← HM.out]; exact meet_com NY.out NX.out
  have HJ2 : Hid (tog0 joinN (normE y) (normE x) = J) := by unfold Hid; rw [← HJ.out]; exact join_com NY.out NX.out
  have FSM : Hid (same0 (normE M) (normE M) = true) := same_iff.2 rfl
  have FSJ : Hid (same0 (normE J) (normE J) = true) := same_iff.2 rfl
  have FJ1 : Hid (L = true → leq0 (normE x) (normE J) = true) := by unfold Hid; rw [normE_id NJ.out, ← HJ.out, ← HL.out]; exact fun h => (join_above NX.out NY.out h).1
  have FJ2 : Hid (L = true → leq0 (normE y) (normE J) = true) := by unfold Hid; rw [normE_id NJ.out, ← HJ.out, ← HL.out]; exact fun h => (join_above NX.out NY.out h).2
  have FJU : Hid (L = true → leq0 (normE J) (normE U) = true) := by unfold Hid; rw [normE_id NJ.out, normE_id NU.out, ← HJ.out, ← HU.out, ← HL.out]; exact fun h => join_wid ts NX.out NY.out h
  have FJY : Hid (b1 = true → same0 (normE J) (normE y) = true) := by unfold Hid; rw [normE_id NJ.out, ← HJ.out, ← Hb1.out]; exact fun h => same_iff.2 (join_leq NX.out NY.out h)
  have FGM : Hid (b5 = true → b6 = true → leq0 (normE z) (normE M) = true) := by unfold Hid; rw [normE_id NM.out, ← HM.out, ← Hb5.out, ← Hb6.out]; exact fun h k => meet_glb NX.out NY.out NZ.out h k
  go_enter Try.func4, Try.ntmps4
  go_wp2_with fail
  obtain ⟨W, hW⟩ : ∃ W, W = (((w).alloc (.cells #[.bool x.1, .slice po x.2.1.length pc, .slice pp x.2.2.length pd] 24)).alloc (.cells #[.bool y.1, .slice qo y.2.1.length qc, .slice qp y.2.2.length qd] 24)).alloc (.cells #[.bool z.1, .slice uo z.2.1.length uc, .slice up z.2.2.length ud] 24) := ⟨_, rfl⟩
  have rx : Hid (W.heap[w.heap.size]? = some (.cells #[.bool x.1, .slice po x.2.1.length pc, .slice pp x.2.2.length pd] 24)) := by unfold Hid; rw [hW]; exact (by repeat (first | (refine heap_at _ _ _ ?hx; case hx => (first | (simp; done) | (simp; omega))) | (refine heap_past _ _ _ ?hy ?_; case hy => (first | (simp; done) | (simp; omega))) | fail))
  have ry : Hid (W.heap[w.heap.size + 1]? = some (.cells #[.bool y.1, .slice qo y.2.1.length qc, .slice qp y.2.2.length qd] 24)) := by unfold Hid; rw [hW]; exact (by repeat (first | (refine heap_at _ _ _ ?hx; case hx => (first | (simp; done) | (simp; omega))) | (refine heap_past _ _ _ ?hy ?_; case hy => (first | (simp; done) | (simp; omega))) | fail))
  have rz : Hid (W.heap[w.heap.size + 1 + 1]? = some (.cells #[.bool z.1, .slice uo z.2.1.length uc, .slice up z.2.2.length ud] 24)) := by unfold Hid; rw [hW]; exact (by repeat (first | (refine heap_at _ _ _ ?hx; case hx => (first | (simp; done) | (simp; omega))) | (refine heap_past _ _ _ ?hy ?_; case hy => (first | (simp; done) | (simp; omega))) | fail))
  have HW : Hid (Ok w W) := by unfold Hid; rw [hW]; have hok := Ok.refl w; exact (by repeat (first | exact hok | refine Ok.alloc ?_ _ | refine Ok.draws ?_ _ | fail))
  rw [← hW]
  clear hW
  obtain ⟨gz, egz⟩ : ∃ g, g = w.heap.size + 1 + 1 := ⟨_, rfl⟩
  rw [← egz] at rz ⊢
  obtain ⟨gy, egy⟩ : ∃ g, g = w.heap.size + 1 := ⟨_, rfl⟩
  rw [← egy] at ry ⊢
  obtain ⟨gx, egx⟩ : ∃ g, g = w.heap.size := ⟨_, rfl⟩
  rw [← egx] at rx ⊢
  have lgx : w.heap.size ≤ gx := by omega
  have nxy : ¬ gx = gy := by omega
  have nxz : ¬ gx = gz := by omega
  have lgy : w.heap.size ≤ gy := by omega
  have nyx : ¬ gy = gx := by omega
  have nyz : ¬ gy = gz := by omega
  have lgz : w.heap.size ≤ gz := by omega
  have nzx : ¬ gz = gx := by omega
  have nzy : ¬ gz = gy := by omega
  clear egx egy egz
  have ExW : Hid (EnvIs B W (.agg #[.bool x.1, .slice po x.2.1.length pc, .slice pp x.2.2.length pd]) x) := Ex.out.ok HW.out
  have EyW : Hid (EnvIs C W (.agg #[.bool y.1, .slice qo y.2.1.length qc, .slice qp y.2.2.length qd]) y) := Ey.out.ok HW.out
  have EzW : Hid (EnvIs D W (.agg #[.bool z.1, .slice uo z.2.1.length uc, .slice up z.2.2.length ud]) z) := Ez.out.ok HW.out
  have Lx : Hid (gx < W.heap.size) := lt_row rx.out
  have Ly : Hid (gy < W.heap.size) := lt_row ry.out
  have Lz : Hid (gz < W.heap.size) := lt_row rz.out
  go_cut [49] from 12 to 49 (fun s49 u => Hid (s49 = .bool false ∧ Ok W u))
  case first =>
    as_aux_lemma =>
      cases b1
      · refine wp_region_held_drew (S := fun w' => Ok W w') (by kernel_rfl) (Below.drew (Ok.refl _)) (fun hHeld => ?_)
        refine wpAnyH_ready (rs := [0]) (by kernel_rfl) (by simp) ?_
        refine AllReadyH.cons rfl (fun K hK => ?_) AllReadyH.nil
        go_simp
        refine (eawake_any W _ hHeld).mono ?_
        rintro e1 w' ⟨rfl, hb⟩
        dsimp only
        refine hK.out _ _ hb (fun hHeld => ?_)
        clear hK K hb
        (try simp only [Act.put, List.getElem_toArray, List.getElem_cons_succ, List.getElem_cons_zero, List.setIfInBounds_toArray, List.set_cons_zero, List.set_cons_succ])
        refine wpAnyH_take (i := 1) (v := ?_) rfl (by kernel_rfl) (by kernel_rfl) (by kernel_rfl) (fun _ _ _ h => h) (Or.inl ⟨by rfl, ?_⟩) hHeld ?_
        rotate_left
        · intro w hSw; (try dsimp only at hSw); (go_simp; try with_reducible rfl)
        (try simp only [Act.put, List.getElem_toArray, List.getElem_cons_succ, List.getElem_cons_zero, List.setIfInBounds_toArray, List.set_cons_zero, List.set_cons_succ])
        refine wpAnyH_take (i := 2) (v := ?_) rfl (by kernel_rfl) (by kernel_rfl) (by kernel_rfl) (fun _ _ _ h => h) (Or.inl ⟨by rfl, ?_⟩) hHeld ?_
        rotate_left
        · intro w hSw; (try dsimp only at hSw); (go_simp; try with_reducible rfl)
        (try simp only [Act.put, List.getElem_toArray, List.getElem_cons_succ, List.getElem_cons_zero, List.setIfInBounds_toArray, List.set_cons_zero, List.set_cons_succ])
        refine wpAnyH_take (i := 3) (v := .agg #[.bool x.1, .slice po x.2.1.length pc, .slice pp x.2.2.length pd]) rfl (by kernel_rfl) (by kernel_rfl) (by kernel_rfl) (fun _ _ _ h => h) (Or.inl ⟨by rfl, ?_⟩) hHeld ?_
        · intro w hSw; (try dsimp only at hSw); obtain ⟨c0, c1, c2, -⟩ := erow3_facts (Ok.row' hSw rx.out); (go_simp; try with_reducible rfl)
        (try simp only [Act.put, List.getElem_toArray, List.getElem_cons_succ, List.getElem_cons_zero, List.setIfInBounds_toArray, List.set_cons_zero, List.set_cons_succ])
        refine wpAnyH_take (i := 4) (v := .agg #[.bool x.1, .slice po x.2.1.length pc, .slice pp x.2.2.length pd]) rfl (by kernel_rfl) (by kernel_rfl) (by kernel_rfl) (fun _ _ _ h => h) (Or.inl ⟨by rfl, ?_⟩) hHeld ?_
        · intro w hSw; (try dsimp only at hSw); obtain ⟨c0, c1, c2, -⟩ := erow3_facts (Ok.row' hSw rx.out); (go_simp; try with_reducible rfl)
        (try simp only [Act.put, List.getElem_toArray, List.getElem_cons_succ, List.getElem_cons_zero, List.setIfInBounds_toArray, List.set_cons_zero, List.set_cons_succ])
        refine wpAnyH_ready (rs := [5]) (by kernel_rfl) (by simp) ?_
        refine AllReadyH.cons rfl (fun K hK => ?_) AllReadyH.nil
        go_simp
        refine (eLeq_at x x _ _ Rx.out Rx.out W _ hHeld ExW.out ExW.out).mono ?_
        rintro e1 w' ⟨rfl, hb⟩
        rw [HXX.out]
        dsimp only
        refine hK.out _ _ hb (fun hHeld => ?_)
        clear hK K hb
        (try simp only [Act.put, List.getElem_toArray, List.getElem_cons_succ, List.getElem_cons_zero, List.setIfInBounds_toArray, List.set_cons_zero, List.set_cons_succ])
        refine wpAnyH_take (i := 6) (v := ?_) rfl (by kernel_rfl) (by kernel_rfl) (by kernel_rfl) (fun _ _ _ h => h) (Or.inl ⟨by rfl, ?_⟩) hHeld ?_
        rotate_left
        · intro w hSw; (try dsimp only at hSw); (go_simp; try with_reducible rfl)
        (try simp only [Act.put, List.getElem_toArray, List.getElem_cons_succ, List.getElem_cons_zero, List.setIfInBounds_toArray, List.set_cons_zero, List.set_cons_succ])
        refine wpAnyH_take (i := 7) (v := ?_) rfl (by kernel_rfl) (by kernel_rfl) (by kernel_rfl) (fun _ _ _ h => h) (Or.inl ⟨by rfl, ?_⟩) hHeld ?_
        rotate_left
        · intro w hSw; (try dsimp only at hSw); (go_simp; try with_reducible rfl)
        (try simp only [Act.put, List.getElem_toArray, List.getElem_cons_succ, List.getElem_cons_zero, List.setIfInBounds_toArray, List.set_cons_zero, List.set_cons_succ])
        refine wpAnyH_take (i := 8) (v := ?_) rfl (by kernel_rfl) (by kernel_rfl) (by kernel_rfl) (fun _ _ _ h => h) (Or.inl ⟨by rfl, ?_⟩) hHeld ?_
        rotate_left
        · intro w hSw; (try dsimp only at hSw); (go_simp; try with_reducible rfl)
        (try simp only [Act.put, List.getElem_toArray, List.getElem_cons_succ, List.getElem_cons_zero, List.setIfInBounds_toArray, List.set_cons_zero, List.set_cons_succ])
        refine wpAnyH_take (i := 9) (v := .agg #[.bool x.1, .slice po x.2.1.length pc, .slice pp x.2.2.length pd]) rfl (by kernel_rfl) (by kernel_rfl) (by kernel_rfl) (fun _ _ _ h => h) (Or.inl ⟨by rfl, ?_⟩) hHeld ?_
        · intro w hSw; (try dsimp only at hSw); obtain ⟨c0, c1, c2, -⟩ := erow3_facts (Ok.row' hSw rx.out); (go_simp; try with_reducible rfl)
        (try simp only [Act.put, List.getElem_toArray, List.getElem_cons_succ, List.getElem_cons_zero, List.setIfInBounds_toArray, List.set_cons_zero, List.set_cons_succ])
        refine wpAnyH_take (i := 10) (v := .agg #[.bool y.1, .slice qo y.2.1.length qc, .slice qp y.2.2.length qd]) rfl (by kernel_rfl) (by kernel_rfl) (by kernel_rfl) (fun _ _ _ h => h) (Or.inl ⟨by rfl, ?_⟩) hHeld ?_
        · intro w hSw; (try dsimp only at hSw); obtain ⟨c0, c1, c2, -⟩ := erow3_facts (Ok.row' hSw ry.out); (go_simp; try with_reducible rfl)
        (try simp only [Act.put, List.getElem_toArray, List.getElem_cons_succ, List.getElem_cons_zero, List.setIfInBounds_toArray, List.set_cons_zero, List.set_cons_succ])
        refine wpAnyH_take (i := 17) (v := .agg #[.bool x.1, .slice po x.2.1.length pc, .slice pp x.2.2.length pd]) rfl (by kernel_rfl) (by kernel_rfl) (by kernel_rfl) (fun _ _ _ h => h) (Or.inl ⟨by rfl, ?_⟩) hHeld ?_
        · intro w hSw; (try dsimp only at hSw); obtain ⟨c0, c1, c2, -⟩ := erow3_facts (Ok.row' hSw rx.out); (go_simp; try with_reducible rfl)
        (try simp only [Act.put, List.getElem_toArray, List.getElem_cons_succ, List.getElem_cons_zero, List.setIfInBounds_toArray, List.set_cons_zero, List.set_cons_succ])
        refine wpAnyH_take (i := 18) (v := .agg #[.bool y.1, .slice qo y.2.1.length qc, .slice qp y.2.2.length qd]) rfl (by kernel_rfl) (by kernel_rfl) (by kernel_rfl) (fun _ _ _ h => h) (Or.inl ⟨by rfl, ?_⟩) hHeld ?_
        · intro w hSw; (try dsimp only at hSw); obtain ⟨c0, c1, c2, -⟩ := erow3_facts (Ok.row' hSw ry.out); (go_simp; try with_reducible rfl)
        (try simp only [Act.put, List.getElem_toArray, List.getElem_cons_succ, List.getElem_cons_zero, List.setIfInBounds_toArray, List.set_cons_zero, List.set_cons_succ])
        refine wpAnyH_ready (rs := [11]) (by kernel_rfl) (by simp) ?_
        refine AllReadyH.cons rfl (fun K hK => ?_) AllReadyH.nil
        go_simp
        refine (eLeq_at x y _ _ Rx.out Ry.out W _ hHeld ExW.out EyW.out).mono ?_
        rintro e1 w' ⟨rfl, hb⟩
        rw [Hb1.out]
        dsimp only
        refine hK.out _ _ hb (fun hHeld => ?_)
        clear hK K hb
        (try simp only [Act.put, List.getElem_toArray, List.getElem_cons_succ, List.getElem_cons_zero, List.setIfInBounds_toArray, List.set_cons_zero, List.set_cons_succ])
        refine wpAnyH_take (i := 12) (v := ?_) rfl (by kernel_rfl) (by kernel_rfl) (by kernel_rfl) (fun _ _ _ h => h) (Or.inl ⟨by rfl, ?_⟩) hHeld ?_
        rotate_left
        · intro w hSw; (try dsimp only at hSw); (go_simp; try with_reducible rfl)
        (try simp only [Act.put, List.getElem_toArray, List.getElem_cons_succ, List.getElem_cons_zero, List.setIfInBounds_toArray, List.set_cons_zero, List.set_cons_succ])
        refine wpAnyH_take (i := 13) (v := undef) rfl (by kernel_rfl) (by kernel_rfl) (by kernel_rfl) (fun _ _ _ h => h) (Or.inr ⟨by rfl, rfl⟩) hHeld ?_
        (try simp only [Act.put, List.getElem_toArray, List.getElem_cons_succ, List.getElem_cons_zero, List.setIfInBounds_toArray, List.set_cons_zero, List.set_cons_succ])
        refine wpAnyH_take (i := 14) (v := undef) rfl (by kernel_rfl) (by kernel_rfl) (by kernel_rfl) (fun _ _ _ h => h) (Or.inr ⟨by rfl, rfl⟩) hHeld ?_
        (try simp only [Act.put, List.getElem_toArray, List.getElem_cons_succ, List.getElem_cons_zero, List.setIfInBounds_toArray, List.set_cons_zero, List.set_cons_succ])
        refine wpAnyH_take (i := 15) (v := undef) rfl (by kernel_rfl) (by kernel_rfl) (by kernel_rfl) (fun _ _ _ h => h) (Or.inr ⟨by rfl, rfl⟩) hHeld ?_
        (try simp only [Act.put, List.getElem_toArray, List.getElem_cons_succ, List.getElem_cons_zero, List.setIfInBounds_toArray, List.set_cons_zero, List.set_cons_succ])
        refine wpAnyH_take (i := 16) (v := .bool false) rfl (by kernel_rfl) (by kernel_rfl) (by kernel_rfl) (fun _ _ _ h => h) (Or.inl ⟨by rfl, ?_⟩) hHeld ?_
        · intro w hSw; (try dsimp only at hSw); (go_simp; try with_reducible rfl)
        (try simp only [Act.put, List.getElem_toArray, List.getElem_cons_succ, List.getElem_cons_zero, List.setIfInBounds_toArray, List.set_cons_zero, List.set_cons_succ])
        refine wpAnyH_ready (rs := [19]) (by kernel_rfl) (by simp) ?_
        refine AllReadyH.cons rfl (fun K hK => ?_) AllReadyH.nil
        go_simp
        refine (eSame_at x y _ _ Rx.out Ry.out W _ hHeld ExW.out EyW.out).mono ?_
        rintro e1 w' ⟨rfl, hb⟩
        rw [H3.out]
        dsimp only
        refine hK.out _ _ hb (fun hHeld => ?_)
        clear hK K hb
        (try simp only [Act.put, List.getElem_toArray, List.getElem_cons_succ, List.getElem_cons_zero, List.setIfInBounds_toArray, List.set_cons_zero, List.set_cons_succ])
        refine wpAnyH_take (i := 20) (v := .bool false) rfl (by kernel_rfl) (by kernel_rfl) (by kernel_rfl) (fun _ _ _ h => h) (Or.inl ⟨by rfl, ?_⟩) hHeld ?_
        · intro w hSw; (try dsimp only at hSw); (go_simp; try with_reducible rfl)
        (try simp only [Act.put, List.getElem_toArray, List.getElem_cons_succ, List.getElem_cons_zero, List.setIfInBounds_toArray, List.set_cons_zero, List.set_cons_succ])
        refine wpAnyH_take (i := 21) (v := ?_) rfl (by kernel_rfl) (by kernel_rfl) (by kernel_rfl) (fun _ _ _ h => h) (Or.inl ⟨by rfl, ?_⟩) hHeld ?_
        rotate_left
        · intro w hSw; (try dsimp only at hSw); (go_simp; try with_reducible rfl)
        (try simp only [Act.put, List.getElem_toArray, List.getElem_cons_succ, List.getElem_cons_zero, List.setIfInBounds_toArray, List.set_cons_zero, List.set_cons_succ])
        refine wpAnyH_take (i := 22) (v := ?_) rfl (by kernel_rfl) (by kernel_rfl) (by kernel_rfl) (fun _ _ _ h => h) (Or.inl ⟨by rfl, ?_⟩) hHeld ?_
        rotate_left
        · intro w hSw; (try dsimp only at hSw); (go_simp; try with_reducible rfl)
        (try simp only [Act.put, List.getElem_toArray, List.getElem_cons_succ, List.getElem_cons_zero, List.setIfInBounds_toArray, List.set_cons_zero, List.set_cons_succ])
        refine wpAnyH_take (i := 23) (v := .agg #[.bool x.1, .slice po x.2.1.length pc, .slice pp x.2.2.length pd]) rfl (by kernel_rfl) (by kernel_rfl) (by kernel_rfl) (fun _ _ _ h => h) (Or.inl ⟨by rfl, ?_⟩) hHeld ?_
        · intro w hSw; (try dsimp only at hSw); obtain ⟨c0, c1, c2, -⟩ := erow3_facts (Ok.row' hSw rx.out); (go_simp; try with_reducible rfl)
        (try simp only [Act.put, List.getElem_toArray, List.getElem_cons_succ, List.getElem_cons_zero, List.setIfInBounds_toArray, List.set_cons_zero, List.set_cons_succ])
        refine wpAnyH_take (i := 24) (v := .agg #[.bool y.1, .slice qo y.2.1.length qc, .slice qp y.2.2.length qd]) rfl (by kernel_rfl) (by kernel_rfl) (by kernel_rfl) (fun _ _ _ h => h) (Or.inl ⟨by rfl, ?_⟩) hHeld ?_
        · intro w hSw; (try dsimp only at hSw); obtain ⟨c0, c1, c2, -⟩ := erow3_facts (Ok.row' hSw ry.out); (go_simp; try with_reducible rfl)
        (try simp only [Act.put, List.getElem_toArray, List.getElem_cons_succ, List.getElem_cons_zero, List.setIfInBounds_toArray, List.set_cons_zero, List.set_cons_succ])
        refine wpAnyH_ready (rs := [25]) (by kernel_rfl) (by simp) ?_
        refine AllReadyH.cons rfl (fun K hK => ?_) AllReadyH.nil
        go_simp
        refine (eLeq_at x y _ _ Rx.out Ry.out W _ hHeld ExW.out EyW.out).mono ?_
        rintro e1 w' ⟨rfl, hb⟩
        rw [Hb1.out]
        dsimp only
        refine hK.out _ _ hb (fun hHeld => ?_)
        clear hK K hb
        (try simp only [Act.put, List.getElem_toArray, List.getElem_cons_succ, List.getElem_cons_zero, List.setIfInBounds_toArray, List.set_cons_zero, List.set_cons_succ])
        refine wpAnyH_take (i := 26) (v := ?_) rfl (by kernel_rfl) (by kernel_rfl) (by kernel_rfl) (fun _ _ _ h => h) (Or.inl ⟨by rfl, ?_⟩) hHeld ?_
        rotate_left
        · intro w hSw; (try dsimp only at hSw); (go_simp; try with_reducible rfl)
        (try simp only [Act.put, List.getElem_toArray, List.getElem_cons_succ, List.getElem_cons_zero, List.setIfInBounds_toArray, List.set_cons_zero, List.set_cons_succ])
        refine wpAnyH_take (i := 27) (v := undef) rfl (by kernel_rfl) (by kernel_rfl) (by kernel_rfl) (fun _ _ _ h => h) (Or.inr ⟨by rfl, rfl⟩) hHeld ?_
        (try simp only [Act.put, List.getElem_toArray, List.getElem_cons_succ, List.getElem_cons_zero, List.setIfInBounds_toArray, List.set_cons_zero, List.set_cons_succ])
        refine wpAnyH_take (i := 28) (v := undef) rfl (by kernel_rfl) (by kernel_rfl) (by kernel_rfl) (fun _ _ _ h => h) (Or.inr ⟨by rfl, rfl⟩) hHeld ?_
        (try simp only [Act.put, List.getElem_toArray, List.getElem_cons_succ, List.getElem_cons_zero, List.setIfInBounds_toArray, List.set_cons_zero, List.set_cons_succ])
        refine wpAnyH_take (i := 29) (v := undef) rfl (by kernel_rfl) (by kernel_rfl) (by kernel_rfl) (fun _ _ _ h => h) (Or.inr ⟨by rfl, rfl⟩) hHeld ?_
        (try simp only [Act.put, List.getElem_toArray, List.getElem_cons_succ, List.getElem_cons_zero, List.setIfInBounds_toArray, List.set_cons_zero, List.set_cons_succ])
        refine wpAnyH_take (i := 30) (v := ?_) rfl (by kernel_rfl) (by kernel_rfl) (by kernel_rfl) (fun _ _ _ h => h) (Or.inl ⟨by rfl, ?_⟩) hHeld ?_
        rotate_left
        · intro w hSw; (try dsimp only at hSw); (go_simp; try with_reducible rfl)
        (try simp only [Act.put, List.getElem_toArray, List.getElem_cons_succ, List.getElem_cons_zero, List.setIfInBounds_toArray, List.set_cons_zero, List.set_cons_succ])
        refine wpAnyH_take (i := 31) (v := ?_) rfl (by kernel_rfl) (by kernel_rfl) (by kernel_rfl) (fun _ _ _ h => h) (Or.inl ⟨by rfl, ?_⟩) hHeld ?_
        rotate_left
        · intro w hSw; (try dsimp only at hSw); (go_simp; try with_reducible rfl)
        (try simp only [Act.put, List.getElem_toArray, List.getElem_cons_succ, List.getElem_cons_zero, List.setIfInBounds_toArray, List.set_cons_zero, List.set_cons_succ])
        refine wpAnyH_take (i := 32) (v := undef) rfl (by kernel_rfl) (by kernel_rfl) (by kernel_rfl) (fun _ _ _ h => h) (Or.inr ⟨by rfl, rfl⟩) hHeld ?_
        (try simp only [Act.put, List.getElem_toArray, List.getElem_cons_succ, List.getElem_cons_zero, List.setIfInBounds_toArray, List.set_cons_zero, List.set_cons_succ])
        refine wpAnyH_take (i := 33) (v := undef) rfl (by kernel_rfl) (by kernel_rfl) (by kernel_rfl) (fun _ _ _ h => h) (Or.inr ⟨by rfl, rfl⟩) hHeld ?_
        (try simp only [Act.put, List.getElem_toArray, List.getElem_cons_succ, List.getElem_cons_zero, List.setIfInBounds_toArray, List.set_cons_zero, List.set_cons_succ])
        refine wpAnyH_take (i := 34) (v := undef) rfl (by kernel_rfl) (by kernel_rfl) (by kernel_rfl) (fun _ _ _ h => h) (Or.inr ⟨by rfl, rfl⟩) hHeld ?_
        (try simp only [Act.put, List.getElem_toArray, List.getElem_cons_succ, List.getElem_cons_zero, List.setIfInBounds_toArray, List.set_cons_zero, List.set_cons_succ])
        refine wpAnyH_take (i := 35) (v := undef) rfl (by kernel_rfl) (by kernel_rfl) (by kernel_rfl) (fun _ _ _ h => h) (Or.inr ⟨by rfl, rfl⟩) hHeld ?_
        (try simp only [Act.put, List.getElem_toArray, List.getElem_cons_succ, List.getElem_cons_zero, List.setIfInBounds_toArray, List.set_cons_zero, List.set_cons_succ])
        refine wpAnyH_take (i := 36) (v := ?_) rfl (by kernel_rfl) (by kernel_rfl) (by kernel_rfl) (fun _ _ _ h => h) (Or.inl ⟨by rfl, ?_⟩) hHeld ?_
        rotate_left
        · intro w hSw; (try dsimp only at hSw); (go_simp; try with_reducible rfl)
        (try simp only [Act.put, List.getElem_toArray, List.getElem_cons_succ, List.getElem_cons_zero, List.setIfInBounds_toArray, List.set_cons_zero, List.set_cons_succ])
        refine wpAnyH_take (i := 37) (v := ?_) rfl (by kernel_rfl) (by kernel_rfl) (by kernel_rfl) (fun _ _ _ h => h) (Or.inl ⟨by rfl, ?_⟩) hHeld ?_
        rotate_left
        · intro w hSw; (try dsimp only at hSw); (go_simp; try with_reducible rfl)
        (try simp only [Act.put, List.getElem_toArray, List.getElem_cons_succ, List.getElem_cons_zero, List.setIfInBounds_toArray, List.set_cons_zero, List.set_cons_succ])
        refine wpAnyH_done (by kernel_rfl) ?_ _
        go_wp2_with fail
        go_meet
        case rel => exact ⟨rfl, hHeld⟩
      · cases b4
        · refine wp_region_held_drew (S := fun w' => Ok W w') (by kernel_rfl) (Below.drew (Ok.refl _)) (fun hHeld => ?_)
          refine wpAnyH_ready (rs := [0]) (by kernel_rfl) (by simp) ?_
          refine AllReadyH.cons rfl (fun K hK => ?_) AllReadyH.nil
          go_simp
          refine (eawake_any W _ hHeld).mono ?_
          rintro e1 w' ⟨rfl, hb⟩
          dsimp only
          refine hK.out _ _ hb (fun hHeld => ?_)
          clear hK K hb
          (try simp only [Act.put, List.getElem_toArray, List.getElem_cons_succ, List.getElem_cons_zero, List.setIfInBounds_toArray, List.set_cons_zero, List.set_cons_succ])
          refine wpAnyH_take (i := 1) (v := ?_) rfl (by kernel_rfl) (by kernel_rfl) (by kernel_rfl) (fun _ _ _ h => h) (Or.inl ⟨by rfl, ?_⟩) hHeld ?_
          rotate_left
          · intro w hSw; (try dsimp only at hSw); (go_simp; try with_reducible rfl)
          (try simp only [Act.put, List.getElem_toArray, List.getElem_cons_succ, List.getElem_cons_zero, List.setIfInBounds_toArray, List.set_cons_zero, List.set_cons_succ])
          refine wpAnyH_take (i := 2) (v := ?_) rfl (by kernel_rfl) (by kernel_rfl) (by kernel_rfl) (fun _ _ _ h => h) (Or.inl ⟨by rfl, ?_⟩) hHeld ?_
          rotate_left
          · intro w hSw; (try dsimp only at hSw); (go_simp; try with_reducible rfl)
          (try simp only [Act.put, List.getElem_toArray, List.getElem_cons_succ, List.getElem_cons_zero, List.setIfInBounds_toArray, List.set_cons_zero, List.set_cons_succ])
          refine wpAnyH_take (i := 3) (v := .agg #[.bool x.1, .slice po x.2.1.length pc, .slice pp x.2.2.length pd]) rfl (by kernel_rfl) (by kernel_rfl) (by kernel_rfl) (fun _ _ _ h => h) (Or.inl ⟨by rfl, ?_⟩) hHeld ?_
          · intro w hSw; (try dsimp only at hSw); obtain ⟨c0, c1, c2, -⟩ := erow3_facts (Ok.row' hSw rx.out); (go_simp; try with_reducible rfl)
          (try simp only [Act.put, List.getElem_toArray, List.getElem_cons_succ, List.getElem_cons_zero, List.setIfInBounds_toArray, List.set_cons_zero, List.set_cons_succ])
          refine wpAnyH_take (i := 4) (v := .agg #[.bool x.1, .slice po x.2.1.length pc, .slice pp x.2.2.length pd]) rfl (by kernel_rfl) (by kernel_rfl) (by kernel_rfl) (fun _ _ _ h => h) (Or.inl ⟨by rfl, ?_⟩) hHeld ?_
          · intro w hSw; (try dsimp only at hSw); obtain ⟨c0, c1, c2, -⟩ := erow3_facts (Ok.row' hSw rx.out); (go_simp; try with_reducible rfl)
          (try simp only [Act.put, List.getElem_toArray, List.getElem_cons_succ, List.getElem_cons_zero, List.setIfInBounds_toArray, List.set_cons_zero, List.set_cons_succ])
          refine wpAnyH_ready (rs := [5]) (by kernel_rfl) (by simp) ?_
          refine AllReadyH.cons rfl (fun K hK => ?_) AllReadyH.nil
          go_simp
          refine (eLeq_at x x _ _ Rx.out Rx.out W _ hHeld ExW.out ExW.out).mono ?_
          rintro e1 w' ⟨rfl, hb⟩
          rw [HXX.out]
          dsimp only
          refine hK.out _ _ hb (fun hHeld => ?_)
          clear hK K hb
          (try simp only [Act.put, List.getElem_toArray, List.getElem_cons_succ, List.getElem_cons_zero, List.setIfInBounds_toArray, List.set_cons_zero, List.set_cons_succ])
          refine wpAnyH_take (i := 6) (v := ?_) rfl (by kernel_rfl) (by kernel_rfl) (by kernel_rfl) (fun _ _ _ h => h) (Or.inl ⟨by rfl, ?_⟩) hHeld ?_
          rotate_left
          · intro w hSw; (try dsimp only at hSw); (go_simp; try with_reducible rfl)
          (try simp only [Act.put, List.getElem_toArray, List.getElem_cons_succ, List.getElem_cons_zero, List.setIfInBounds_toArray, List.set_cons_zero, List.set_cons_succ])
          refine wpAnyH_take (i := 7) (v := ?_) rfl (by kernel_rfl) (by kernel_rfl) (by kernel_rfl) (fun _ _ _ h => h) (Or.inl ⟨by rfl, ?_⟩) hHeld ?_
          rotate_left
          · intro w hSw; (try dsimp only at hSw); (go_simp; try with_reducible rfl)
          (try simp only [Act.put, List.getElem_toArray, List.getElem_cons_succ, List.getElem_cons_zero, List.setIfInBounds_toArray, List.set_cons_zero, List.set_cons_succ])
          refine wpAnyH_take (i := 8) (v := ?_) rfl (by kernel_rfl) (by kernel_rfl) (by kernel_rfl) (fun _ _ _ h => h) (Or.inl ⟨by rfl, ?_⟩) hHeld ?_
          rotate_left
          · intro w hSw; (try dsimp only at hSw); (go_simp; try with_reducible rfl)
          (try simp only [Act.put, List.getElem_toArray, List.getElem_cons_succ, List.getElem_cons_zero, List.setIfInBounds_toArray, List.set_cons_zero, List.set_cons_succ])
          refine wpAnyH_take (i := 9) (v := .agg #[.bool x.1, .slice po x.2.1.length pc, .slice pp x.2.2.length pd]) rfl (by kernel_rfl) (by kernel_rfl) (by kernel_rfl) (fun _ _ _ h => h) (Or.inl ⟨by rfl, ?_⟩) hHeld ?_
          · intro w hSw; (try dsimp only at hSw); obtain ⟨c0, c1, c2, -⟩ := erow3_facts (Ok.row' hSw rx.out); (go_simp; try with_reducible rfl)
          (try simp only [Act.put, List.getElem_toArray, List.getElem_cons_succ, List.getElem_cons_zero, List.setIfInBounds_toArray, List.set_cons_zero, List.set_cons_succ])
          refine wpAnyH_take (i := 10) (v := .agg #[.bool y.1, .slice qo y.2.1.length qc, .slice qp y.2.2.length qd]) rfl (by kernel_rfl) (by kernel_rfl) (by kernel_rfl) (fun _ _ _ h => h) (Or.inl ⟨by rfl, ?_⟩) hHeld ?_
          · intro w hSw; (try dsimp only at hSw); obtain ⟨c0, c1, c2, -⟩ := erow3_facts (Ok.row' hSw ry.out); (go_simp; try with_reducible rfl)
          (try simp only [Act.put, List.getElem_toArray, List.getElem_cons_succ, List.getElem_cons_zero, List.setIfInBounds_toArray, List.set_cons_zero, List.set_cons_succ])
          refine wpAnyH_take (i := 17) (v := .agg #[.bool x.1, .slice po x.2.1.length pc, .slice pp x.2.2.length pd]) rfl (by kernel_rfl) (by kernel_rfl) (by kernel_rfl) (fun _ _ _ h => h) (Or.inl ⟨by rfl, ?_⟩) hHeld ?_
          · intro w hSw; (try dsimp only at hSw); obtain ⟨c0, c1, c2, -⟩ := erow3_facts (Ok.row' hSw rx.out); (go_simp; try with_reducible rfl)
          (try simp only [Act.put, List.getElem_toArray, List.getElem_cons_succ, List.getElem_cons_zero, List.setIfInBounds_toArray, List.set_cons_zero, List.set_cons_succ])
          refine wpAnyH_take (i := 18) (v := .agg #[.bool y.1, .slice qo y.2.1.length qc, .slice qp y.2.2.length qd]) rfl (by kernel_rfl) (by kernel_rfl) (by kernel_rfl) (fun _ _ _ h => h) (Or.inl ⟨by rfl, ?_⟩) hHeld ?_
          · intro w hSw; (try dsimp only at hSw); obtain ⟨c0, c1, c2, -⟩ := erow3_facts (Ok.row' hSw ry.out); (go_simp; try with_reducible rfl)
          (try simp only [Act.put, List.getElem_toArray, List.getElem_cons_succ, List.getElem_cons_zero, List.setIfInBounds_toArray, List.set_cons_zero, List.set_cons_succ])
          refine wpAnyH_ready (rs := [11]) (by kernel_rfl) (by simp) ?_
          refine AllReadyH.cons rfl (fun K hK => ?_) AllReadyH.nil
          go_simp
          refine (eLeq_at x y _ _ Rx.out Ry.out W _ hHeld ExW.out EyW.out).mono ?_
          rintro e1 w' ⟨rfl, hb⟩
          rw [Hb1.out]
          dsimp only
          refine hK.out _ _ hb (fun hHeld => ?_)
          clear hK K hb
          (try simp only [Act.put, List.getElem_toArray, List.getElem_cons_succ, List.getElem_cons_zero, List.setIfInBounds_toArray, List.set_cons_zero, List.set_cons_succ])
          refine wpAnyH_take (i := 12) (v := ?_) rfl (by kernel_rfl) (by kernel_rfl) (by kernel_rfl) (fun _ _ _ h => h) (Or.inl ⟨by rfl, ?_⟩) hHeld ?_
          rotate_left
          · intro w hSw; (try dsimp only at hSw); (go_simp; try with_reducible rfl)
          (try simp only [Act.put, List.getElem_toArray, List.getElem_cons_succ, List.getElem_cons_zero, List.setIfInBounds_toArray, List.set_cons_zero, List.set_cons_succ])
          refine wpAnyH_take (i := 13) (v := .agg #[.bool y.1, .slice qo y.2.1.length qc, .slice qp y.2.2.length qd]) rfl (by kernel_rfl) (by kernel_rfl) (by kernel_rfl) (fun _ _ _ h => h) (Or.inl ⟨by rfl, ?_⟩) hHeld ?_
          · intro w hSw; (try dsimp only at hSw); obtain ⟨c0, c1, c2, -⟩ := erow3_facts (Ok.row' hSw ry.out); (go_simp; try with_reducible rfl)
          (try simp only [Act.put, List.getElem_toArray, List.getElem_cons_succ, List.getElem_cons_zero, List.setIfInBounds_toArray, List.set_cons_zero, List.set_cons_succ])
          refine wpAnyH_take (i := 14) (v := .agg #[.bool x.1, .slice po x.2.1.length pc, .slice pp x.2.2.length pd]) rfl (by kernel_rfl) (by kernel_rfl) (by kernel_rfl) (fun _ _ _ h => h) (Or.inl ⟨by rfl, ?_⟩) hHeld ?_
          · intro w hSw; (try dsimp only at hSw); obtain ⟨c0, c1, c2, -⟩ := erow3_facts (Ok.row' hSw rx.out); (go_simp; try with_reducible rfl)
          (try simp only [Act.put, List.getElem_toArray, List.getElem_cons_succ, List.getElem_cons_zero, List.setIfInBounds_toArray, List.set_cons_zero, List.set_cons_succ])
          refine wpAnyH_ready (rs := [15]) (by kernel_rfl) (by simp) ?_
          refine AllReadyH.cons rfl (fun K hK => ?_) AllReadyH.nil
          go_simp
          refine (eLeq_at y x _ _ Ry.out Rx.out W _ hHeld EyW.out ExW.out).mono ?_
          rintro e1 w' ⟨rfl, hb⟩
          rw [Hb2.out]
          dsimp only
          refine hK.out _ _ hb (fun hHeld => ?_)
          clear hK K hb
          (try simp only [Act.put, List.getElem_toArray, List.getElem_cons_succ, List.getElem_cons_zero, List.setIfInBounds_toArray, List.set_cons_zero, List.set_cons_succ])
          refine wpAnyH_take (i := 16) (v := .bool b2) rfl (by kernel_rfl) (by kernel_rfl) (by kernel_rfl) (fun _ _ _ h => h) (Or.inl ⟨by rfl, ?_⟩) hHeld ?_
          · intro w hSw; (try dsimp only at hSw); (go_simp; try with_reducible rfl)
          (try simp only [Act.put, List.getElem_toArray, List.getElem_cons_succ, List.getElem_cons_zero, List.setIfInBounds_toArray, List.set_cons_zero, List.set_cons_succ])
          refine wpAnyH_ready (rs := [19]) (by kernel_rfl) (by simp) ?_
          refine AllReadyH.cons rfl (fun K hK => ?_) AllReadyH.nil
          go_simp
          refine (eSame_at x y _ _ Rx.out Ry.out W _ hHeld ExW.out EyW.out).mono ?_
          rintro e1 w' ⟨rfl, hb⟩
          rw [H3.out]
          dsimp only
          refine hK.out _ _ hb (fun hHeld => ?_)
          clear hK K hb
          (try simp only [Act.put, List.getElem_toArray, List.getElem_cons_succ, List.getElem_cons_zero, List.setIfInBounds_toArray, List.set_cons_zero, List.set_cons_succ])
          refine wpAnyH_take (i := 20) (v := .bool false) rfl (by kernel_rfl) (by kernel_rfl) (by kernel_rfl) (fun _ _ _ h => h) (Or.inl ⟨by rfl, ?_⟩) hHeld ?_
          · intro w hSw; (try dsimp only at hSw); (go_simp; try with_reducible rfl)
          (try simp only [Act.put, List.getElem_toArray, List.getElem_cons_succ, List.getElem_cons_zero, List.setIfInBounds_toArray, List.set_cons_zero, List.set_cons_succ])
          refine wpAnyH_take (i := 21) (v := ?_) rfl (by kernel_rfl) (by kernel_rfl) (by kernel_rfl) (fun _ _ _ h => h) (Or.inl ⟨by rfl, ?_⟩) hHeld ?_
          rotate_left
          · intro w hSw; (try dsimp only at hSw); (go_simp; try with_reducible rfl)
          (try simp only [Act.put, List.getElem_toArray, List.getElem_cons_succ, List.getElem_cons_zero, List.setIfInBounds_toArray, List.set_cons_zero, List.set_cons_succ])
          refine wpAnyH_take (i := 22) (v := ?_) rfl (by kernel_rfl) (by kernel_rfl) (by kernel_rfl) (fun _ _ _ h => h) (Or.inl ⟨by rfl, ?_⟩) hHeld ?_
          rotate_left
          · intro w hSw; (try dsimp only at hSw); (go_simp; try with_reducible rfl)
          (try simp only [Act.put, List.getElem_toArray, List.getElem_cons_succ, List.getElem_cons_zero, List.setIfInBounds_toArray, List.set_cons_zero, List.set_cons_succ])
          refine wpAnyH_take (i := 23) (v := .agg #[.bool x.1, .slice po x.2.1.length pc, .slice pp x.2.2.length pd]) rfl (by kernel_rfl) (by kernel_rfl) (by kernel_rfl) (fun _ _ _ h => h) (Or.inl ⟨by rfl, ?_⟩) hHeld ?_
          · intro w hSw; (try dsimp only at hSw); obtain ⟨c0, c1, c2, -⟩ := erow3_facts (Ok.row' hSw rx.out); (go_simp; try with_reducible rfl)
          (try simp only [Act.put, List.getElem_toArray, List.getElem_cons_succ, List.getElem_cons_zero, List.setIfInBounds_toArray, List.set_cons_zero, List.set_cons_succ])
          refine wpAnyH_take (i := 24) (v := .agg #[.bool y.1, .slice qo y.2.1.length qc, .slice qp y.2.2.length qd]) rfl (by kernel_rfl) (by kernel_rfl) (by kernel_rfl) (fun _ _ _ h => h) (Or.inl ⟨by rfl, ?_⟩) hHeld ?_
          · intro w hSw; (try dsimp only at hSw); obtain ⟨c0, c1, c2, -⟩ := erow3_facts (Ok.row' hSw ry.out); (go_simp; try with_reducible rfl)
          (try simp only [Act.put, List.getElem_toArray, List.getElem_cons_succ, List.getElem_cons_zero, List.setIfInBounds_toArray, List.set_cons_zero, List.set_cons_succ])
          refine wpAnyH_ready (rs := [25]) (by kernel_rfl) (by simp) ?_
          refine AllReadyH.cons rfl (fun K hK => ?_) AllReadyH.nil
          go_simp
          refine (eLeq_at x y _ _ Rx.out Ry.out W _ hHeld ExW.out EyW.out).mono ?_
          rintro e1 w' ⟨rfl, hb⟩
          rw [Hb1.out]
          dsimp only
          refine hK.out _ _ hb (fun hHeld => ?_)
          clear hK K hb
          (try simp only [Act.put, List.getElem_toArray, List.getElem_cons_succ, List.getElem_cons_zero, List.setIfInBounds_toArray, List.set_cons_zero, List.set_cons_succ])
          refine wpAnyH_take (i := 26) (v := ?_) rfl (by kernel_rfl) (by kernel_rfl) (by kernel_rfl) (fun _ _ _ h => h) (Or.inl ⟨by rfl, ?_⟩) hHeld ?_
          rotate_left
          · intro w hSw; (try dsimp only at hSw); (go_simp; try with_reducible rfl)
          (try simp only [Act.put, List.getElem_toArray, List.getElem_cons_succ, List.getElem_cons_zero, List.setIfInBounds_toArray, List.set_cons_zero, List.set_cons_succ])
          refine wpAnyH_take (i := 27) (v := .agg #[.bool y.1, .slice qo y.2.1.length qc, .slice qp y.2.2.length qd]) rfl (by kernel_rfl) (by kernel_rfl) (by kernel_rfl) (fun _ _ _ h => h) (Or.inl ⟨by rfl, ?_⟩) hHeld ?_
          · intro w hSw; (try dsimp only at hSw); obtain ⟨c0, c1, c2, -⟩ := erow3_facts (Ok.row' hSw ry.out); (go_simp; try with_reducible rfl)
          (try simp only [Act.put, List.getElem_toArray, List.getElem_cons_succ, List.getElem_cons_zero, List.setIfInBounds_toArray, List.set_cons_zero, List.set_cons_succ])
          refine wpAnyH_take (i := 28) (v := .agg #[.bool z.1, .slice uo z.2.1.length uc, .slice up z.2.2.length ud]) rfl (by kernel_rfl) (by kernel_rfl) (by kernel_rfl) (fun _ _ _ h => h) (Or.inl ⟨by rfl, ?_⟩) hHeld ?_
          · intro w hSw; (try dsimp only at hSw); obtain ⟨c0, c1, c2, -⟩ := erow3_facts (Ok.row' hSw rz.out); (go_simp; try with_reducible rfl)
          (try simp only [Act.put, List.getElem_toArray, List.getElem_cons_succ, List.getElem_cons_zero, List.setIfInBounds_toArray, List.set_cons_zero, List.set_cons_succ])
          refine wpAnyH_ready (rs := [29]) (by kernel_rfl) (by simp) ?_
          refine AllReadyH.cons rfl (fun K hK => ?_) AllReadyH.nil
          go_simp
          refine (eLeq_at y z _ _ Ry.out Rz.out W _ hHeld EyW.out EzW.out).mono ?_
          rintro e1 w' ⟨rfl, hb⟩
          rw [Hb4.out]
          dsimp only
          refine hK.out _ _ hb (fun hHeld => ?_)
          clear hK K hb
          (try simp only [Act.put, List.getElem_toArray, List.getElem_cons_succ, List.getElem_cons_zero, List.setIfInBounds_toArray, List.set_cons_zero, List.set_cons_succ])
          refine wpAnyH_take (i := 30) (v := ?_) rfl (by kernel_rfl) (by kernel_rfl) (by kernel_rfl) (fun _ _ _ h => h) (Or.inl ⟨by rfl, ?_⟩) hHeld ?_
          rotate_left
          · intro w hSw; (try dsimp only at hSw); (go_simp; try with_reducible rfl)
          (try simp only [Act.put, List.getElem_toArray, List.getElem_cons_succ, List.getElem_cons_zero, List.setIfInBounds_toArray, List.set_cons_zero, List.set_cons_succ])
          refine wpAnyH_take (i := 31) (v := ?_) rfl (by kernel_rfl) (by kernel_rfl) (by kernel_rfl) (fun _ _ _ h => h) (Or.inl ⟨by rfl, ?_⟩) hHeld ?_
          rotate_left
          · intro w hSw; (try dsimp only at hSw); (go_simp; try with_reducible rfl)
          (try simp only [Act.put, List.getElem_toArray, List.getElem_cons_succ, List.getElem_cons_zero, List.setIfInBounds_toArray, List.set_cons_zero, List.set_cons_succ])
          refine wpAnyH_take (i := 32) (v := undef) rfl (by kernel_rfl) (by kernel_rfl) (by kernel_rfl) (fun _ _ _ h => h) (Or.inr ⟨by rfl, rfl⟩) hHeld ?_
          (try simp only [Act.put, List.getElem_toArray, List.getElem_cons_succ, List.getElem_cons_zero, List.setIfInBounds_toArray, List.set_cons_zero, List.set_cons_succ])
          refine wpAnyH_take (i := 33) (v := undef) rfl (by kernel_rfl) (by kernel_rfl) (by kernel_rfl) (fun _ _ _ h => h) (Or.inr ⟨by rfl, rfl⟩) hHeld ?_
          (try simp only [Act.put, List.getElem_toArray, List.getElem_cons_succ, List.getElem_cons_zero, List.setIfInBounds_toArray, List.set_cons_zero, List.set_cons_succ])
          refine wpAnyH_take (i := 34) (v := undef) rfl (by kernel_rfl) (by kernel_rfl) (by kernel_rfl) (fun _ _ _ h => h) (Or.inr ⟨by rfl, rfl⟩) hHeld ?_
          (try simp only [Act.put, List.getElem_toArray, List.getElem_cons_succ, List.getElem_cons_zero, List.setIfInBounds_toArray, List.set_cons_zero, List.set_cons_succ])
          refine wpAnyH_take (i := 35) (v := undef) rfl (by kernel_rfl) (by kernel_rfl) (by kernel_rfl) (fun _ _ _ h => h) (Or.inr ⟨by rfl, rfl⟩) hHeld ?_
          (try simp only [Act.put, List.getElem_toArray, List.getElem_cons_succ, List.getElem_cons_zero, List.setIfInBounds_toArray, List.set_cons_zero, List.set_cons_succ])
          refine wpAnyH_take (i := 36) (v := ?_) rfl (by kernel_rfl) (by kernel_rfl) (by kernel_rfl) (fun _ _ _ h => h) (Or.inl ⟨by rfl, ?_⟩) hHeld ?_
          rotate_left
          · intro w hSw; (try dsimp only at hSw); (go_simp; try with_reducible rfl)
          (try simp only [Act.put, List.getElem_toArray, List.getElem_cons_succ, List.getElem_cons_zero, List.setIfInBounds_toArray, List.set_cons_zero, List.set_cons_succ])
          refine wpAnyH_take (i := 37) (v := ?_) rfl (by kernel_rfl) (by kernel_rfl) (by kernel_rfl) (fun _ _ _ h => h) (Or.inl ⟨by rfl, ?_⟩) hHeld ?_
          rotate_left
          · intro w hSw; (try dsimp only at hSw); (go_simp; try with_reducible rfl)
          (try simp only [Act.put, List.getElem_toArray, List.getElem_cons_succ, List.getElem_cons_zero, List.setIfInBounds_toArray, List.set_cons_zero, List.set_cons_succ])
          refine wpAnyH_done (by kernel_rfl) ?_ _
          go_wp2_with fail
          go_meet
          case rel => exact ⟨rfl, hHeld⟩
        · have HTZ : Hid _ := HTR.out rfl rfl
          refine wp_region_held_drew (S := fun w' => Ok W w') (by kernel_rfl) (Below.drew (Ok.refl _)) (fun hHeld => ?_)
          refine wpAnyH_ready (rs := [0]) (by kernel_rfl) (by simp) ?_
          refine AllReadyH.cons rfl (fun K hK => ?_) AllReadyH.nil
          go_simp
          refine (eawake_any W _ hHeld).mono ?_
          rintro e1 w' ⟨rfl, hb⟩
          dsimp only
          refine hK.out _ _ hb (fun hHeld => ?_)
          clear hK K hb
          (try simp only [Act.put, List.getElem_toArray, List.getElem_cons_succ, List.getElem_cons_zero, List.setIfInBounds_toArray, List.set_cons_zero, List.set_cons_succ])
          refine wpAnyH_take (i := 1) (v := ?_) rfl (by kernel_rfl) (by kernel_rfl) (by kernel_rfl) (fun _ _ _ h => h) (Or.inl ⟨by rfl, ?_⟩) hHeld ?_
          rotate_left
          · intro w hSw; (try dsimp only at hSw); (go_simp; try with_reducible rfl)
          (try simp only [Act.put, List.getElem_toArray, List.getElem_cons_succ, List.getElem_cons_zero, List.setIfInBounds_toArray, List.set_cons_zero, List.set_cons_succ])
          refine wpAnyH_take (i := 2) (v := ?_) rfl (by kernel_rfl) (by kernel_rfl) (by kernel_rfl) (fun _ _ _ h => h) (Or.inl ⟨by rfl, ?_⟩) hHeld ?_
          rotate_left
          · intro w hSw; (try dsimp only at hSw); (go_simp; try with_reducible rfl)
          (try simp only [Act.put, List.getElem_toArray, List.getElem_cons_succ, List.getElem_cons_zero, List.setIfInBounds_toArray, List.set_cons_zero, List.set_cons_succ])
          refine wpAnyH_take (i := 3) (v := .agg #[.bool x.1, .slice po x.2.1.length pc, .slice pp x.2.2.length pd]) rfl (by kernel_rfl) (by kernel_rfl) (by kernel_rfl) (fun _ _ _ h => h) (Or.inl ⟨by rfl, ?_⟩) hHeld ?_
          · intro w hSw; (try dsimp only at hSw); obtain ⟨c0, c1, c2, -⟩ := erow3_facts (Ok.row' hSw rx.out); (go_simp; try with_reducible rfl)
          (try simp only [Act.put, List.getElem_toArray, List.getElem_cons_succ, List.getElem_cons_zero, List.setIfInBounds_toArray, List.set_cons_zero, List.set_cons_succ])
          refine wpAnyH_take (i := 4) (v := .agg #[.bool x.1, .slice po x.2.1.length pc, .slice pp x.2.2.length pd]) rfl (by kernel_rfl) (by kernel_rfl) (by kernel_rfl) (fun _ _ _ h => h) (Or.inl ⟨by rfl, ?_⟩) hHeld ?_
          · intro w hSw; (try dsimp only at hSw); obtain ⟨c0, c1, c2, -⟩ := erow3_facts (Ok.row' hSw rx.out); (go_simp; try with_reducible rfl)
          (try simp only [Act.put, List.getElem_toArray, List.getElem_cons_succ, List.getElem_cons_zero, List.setIfInBounds_toArray, List.set_cons_zero, List.set_cons_succ])
          refine wpAnyH_ready (rs := [5]) (by kernel_rfl) (by simp) ?_
          refine AllReadyH.cons rfl (fun K hK => ?_) AllReadyH.nil
          go_simp
          refine (eLeq_at x x _ _ Rx.out Rx.out W _ hHeld ExW.out ExW.out).mono ?_
          rintro e1 w' ⟨rfl, hb⟩
          rw [HXX.out]
          dsimp only
          refine hK.out _ _ hb (fun hHeld => ?_)
          clear hK K hb
          (try simp only [Act.put, List.getElem_toArray, List.getElem_cons_succ, List.getElem_cons_zero, List.setIfInBounds_toArray, List.set_cons_zero, List.set_cons_succ])
          refine wpAnyH_take (i := 6) (v := ?_) rfl (by kernel_rfl) (by kernel_rfl) (by kernel_rfl) (fun _ _ _ h => h) (Or.inl ⟨by rfl, ?_⟩) hHeld ?_
          rotate_left
          · intro w hSw; (try dsimp only at hSw); (go_simp; try with_reducible rfl)
          (try simp only [Act.put, List.getElem_toArray, List.getElem_cons_succ, List.getElem_cons_zero, List.setIfInBounds_toArray, List.set_cons_zero, List.set_cons_succ])
          refine wpAnyH_take (i := 7) (v := ?_) rfl (by kernel_rfl) (by kernel_rfl) (by kernel_rfl) (fun _ _ _ h => h) (Or.inl ⟨by rfl, ?_⟩) hHeld ?_
          rotate_left
          · intro w hSw; (try dsimp only at hSw); (go_simp; try with_reducible rfl)
          (try simp only [Act.put, List.getElem_toArray, List.getElem_cons_succ, List.getElem_cons_zero, List.setIfInBounds_toArray, List.set_cons_zero, List.set_cons_succ])
          refine wpAnyH_take (i := 8) (v := ?_) rfl (by kernel_rfl) (by kernel_rfl) (by kernel_rfl) (fun _ _ _ h => h) (Or.inl ⟨by rfl, ?_⟩) hHeld ?_
          rotate_left
          · intro w hSw; (try dsimp only at hSw); (go_simp; try with_reducible rfl)
          (try simp only [Act.put, List.getElem_toArray, List.getElem_cons_succ, List.getElem_cons_zero, List.setIfInBounds_toArray, List.set_cons_zero, List.set_cons_succ])
          refine wpAnyH_take (i := 9) (v := .agg #[.bool x.1, .slice po x.2.1.length pc, .slice pp x.2.2.length pd]) rfl (by kernel_rfl) (by kernel_rfl) (by kernel_rfl) (fun _ _ _ h => h) (Or.inl ⟨by rfl, ?_⟩) hHeld ?_
          · intro w hSw; (try dsimp only at hSw); obtain ⟨c0, c1, c2, -⟩ := erow3_facts (Ok.row' hSw rx.out); (go_simp; try with_reducible rfl)
          (try simp only [Act.put, List.getElem_toArray, List.getElem_cons_succ, List.getElem_cons_zero, List.setIfInBounds_toArray, List.set_cons_zero, List.set_cons_succ])
          refine wpAnyH_take (i := 10) (v := .agg #[.bool y.1, .slice qo y.2.1.length qc, .slice qp y.2.2.length qd]) rfl (by kernel_rfl) (by kernel_rfl) (by kernel_rfl) (fun _ _ _ h => h) (Or.inl ⟨by rfl, ?_⟩) hHeld ?_
          · intro w hSw; (try dsimp only at hSw); obtain ⟨c0, c1, c2, -⟩ := erow3_facts (Ok.row' hSw ry.out); (go_simp; try with_reducible rfl)
          (try simp only [Act.put, List.getElem_toArray, List.getElem_cons_succ, List.getElem_cons_zero, List.setIfInBounds_toArray, List.set_cons_zero, List.set_cons_succ])
          refine wpAnyH_take (i := 17) (v := .agg #[.bool x.1, .slice po x.2.1.length pc, .slice pp x.2.2.length pd]) rfl (by kernel_rfl) (by kernel_rfl) (by kernel_rfl) (fun _ _ _ h => h) (Or.inl ⟨by rfl, ?_⟩) hHeld ?_
          · intro w hSw; (try dsimp only at hSw); obtain ⟨c0, c1, c2, -⟩ := erow3_facts (Ok.row' hSw rx.out); (go_simp; try with_reducible rfl)
          (try simp only [Act.put, List.getElem_toArray, List.getElem_cons_succ, List.getElem_cons_zero, List.setIfInBounds_toArray, List.set_cons_zero, List.set_cons_succ])
          refine wpAnyH_take (i := 18) (v := .agg #[.bool y.1, .slice qo y.2.1.length qc, .slice qp y.2.2.length qd]) rfl (by kernel_rfl) (by kernel_rfl) (by kernel_rfl) (fun _ _ _ h => h) (Or.inl ⟨by rfl, ?_⟩) hHeld ?_
          · intro w hSw; (try dsimp only at hSw); obtain ⟨c0, c1, c2, -⟩ := erow3_facts (Ok.row' hSw ry.out); (go_simp; try with_reducible rfl)
          (try simp only [Act.put, List.getElem_toArray, List.getElem_cons_succ, List.getElem_cons_zero, List.setIfInBounds_toArray, List.set_cons_zero, List.set_cons_succ])
          refine wpAnyH_ready (rs := [11]) (by kernel_rfl) (by simp) ?_
          refine AllReadyH.cons rfl (fun K hK => ?_) AllReadyH.nil
          go_simp
          refine (eLeq_at x y _ _ Rx.out Ry.out W _ hHeld ExW.out EyW.out).mono ?_
          rintro e1 w' ⟨rfl, hb⟩
          rw [Hb1.out]
          dsimp only
          refine hK.out _ _ hb (fun hHeld => ?_)
          clear hK K hb
          (try simp only [Act.put, List.getElem_toArray, List.getElem_cons_succ, List.getElem_cons_zero, List.setIfInBounds_toArray, List.set_cons_zero, List.set_cons_succ])
          refine wpAnyH_take (i := 12) (v := ?_) rfl (by kernel_rfl) (by kernel_rfl) (by kernel_rfl) (fun _ _ _ h => h) (Or.inl ⟨by rfl, ?_⟩) hHeld ?_
          rotate_left
          · intro w hSw; (try dsimp only at hSw); (go_simp; try with_reducible rfl)
          (try simp only [Act.put, List.getElem_toArray, List.getElem_cons_succ, List.getElem_cons_zero, List.setIfInBounds_toArray, List.set_cons_zero, List.set_cons_succ])
          refine wpAnyH_take (i := 13) (v := .agg #[.bool y.1, .slice qo y.2.1.length qc, .slice qp y.2.2.length qd]) rfl (by kernel_rfl) (by kernel_rfl) (by kernel_rfl) (fun _ _ _ h => h) (Or.inl ⟨by rfl, ?_⟩) hHeld ?_
          · intro w hSw; (try dsimp only at hSw); obtain ⟨c0, c1, c2, -⟩ := erow3_facts (Ok.row' hSw ry.out); (go_simp; try with_reducible rfl)
          (try simp only [Act.put, List.getElem_toArray, List.getElem_cons_succ, List.getElem_cons_zero, List.setIfInBounds_toArray, List.set_cons_zero, List.set_cons_succ])
          refine wpAnyH_take (i := 14) (v := .agg #[.bool x.1, .slice po x.2.1.length pc, .slice pp x.2.2.length pd]) rfl (by kernel_rfl) (by kernel_rfl) (by kernel_rfl) (fun _ _ _ h => h) (Or.inl ⟨by rfl, ?_⟩) hHeld ?_
          · intro w hSw; (try dsimp only at hSw); obtain ⟨c0, c1, c2, -⟩ := erow3_facts (Ok.row' hSw rx.out); (go_simp; try with_reducible rfl)
          (try simp only [Act.put, List.getElem_toArray, List.getElem_cons_succ, List.getElem_cons_zero, List.setIfInBounds_toArray, List.set_cons_zero, List.set_cons_succ])
          refine wpAnyH_ready (rs := [15]) (by kernel_rfl) (by simp) ?_
          refine AllReadyH.cons rfl (fun K hK => ?_) AllReadyH.nil
          go_simp
          refine (eLeq_at y x _ _ Ry.out Rx.out W _ hHeld EyW.out ExW.out).mono ?_
          rintro e1 w' ⟨rfl, hb⟩
          rw [Hb2.out]
          dsimp only
          refine hK.out _ _ hb (fun hHeld => ?_)
          clear hK K hb
          (try simp only [Act.put, List.getElem_toArray, List.getElem_cons_succ, List.getElem_cons_zero, List.setIfInBounds_toArray, List.set_cons_zero, List.set_cons_succ])
          refine wpAnyH_take (i := 16) (v := .bool b2) rfl (by kernel_rfl) (by kernel_rfl) (by kernel_rfl) (fun _ _ _ h => h) (Or.inl ⟨by rfl, ?_⟩) hHeld ?_
          · intro w hSw; (try dsimp only at hSw); (go_simp; try with_reducible rfl)
          (try simp only [Act.put, List.getElem_toArray, List.getElem_cons_succ, List.getElem_cons_zero, List.setIfInBounds_toArray, List.set_cons_zero, List.set_cons_succ])
          refine wpAnyH_ready (rs := [19]) (by kernel_rfl) (by simp) ?_
          refine AllReadyH.cons rfl (fun K hK => ?_) AllReadyH.nil
          go_simp
          refine (eSame_at x y _ _ Rx.out Ry.out W _ hHeld ExW.out EyW.out).mono ?_
          rintro e1 w' ⟨rfl, hb⟩
          rw [H3.out]
          dsimp only
          refine hK.out _ _ hb (fun hHeld => ?_)
          clear hK K hb
          (try simp only [Act.put, List.getElem_toArray, List.getElem_cons_succ, List.getElem_cons_zero, List.setIfInBounds_toArray, List.set_cons_zero, List.set_cons_succ])
          refine wpAnyH_take (i := 20) (v := .bool false) rfl (by kernel_rfl) (by kernel_rfl) (by kernel_rfl) (fun _ _ _ h => h) (Or.inl ⟨by rfl, ?_⟩) hHeld ?_
          · intro w hSw; (try dsimp only at hSw); (go_simp; try with_reducible rfl)
          (try simp only [Act.put, List.getElem_toArray, List.getElem_cons_succ, List.getElem_cons_zero, List.setIfInBounds_toArray, List.set_cons_zero, List.set_cons_succ])
          refine wpAnyH_take (i := 21) (v := ?_) rfl (by kernel_rfl) (by kernel_rfl) (by kernel_rfl) (fun _ _ _ h => h) (Or.inl ⟨by rfl, ?_⟩) hHeld ?_
          rotate_left
          · intro w hSw; (try dsimp only at hSw); (go_simp; try with_reducible rfl)
          (try simp only [Act.put, List.getElem_toArray, List.getElem_cons_succ, List.getElem_cons_zero, List.setIfInBounds_toArray, List.set_cons_zero, List.set_cons_succ])
          refine wpAnyH_take (i := 22) (v := ?_) rfl (by kernel_rfl) (by kernel_rfl) (by kernel_rfl) (fun _ _ _ h => h) (Or.inl ⟨by rfl, ?_⟩) hHeld ?_
          rotate_left
          · intro w hSw; (try dsimp only at hSw); (go_simp; try with_reducible rfl)
          (try simp only [Act.put, List.getElem_toArray, List.getElem_cons_succ, List.getElem_cons_zero, List.setIfInBounds_toArray, List.set_cons_zero, List.set_cons_succ])
          refine wpAnyH_take (i := 23) (v := .agg #[.bool x.1, .slice po x.2.1.length pc, .slice pp x.2.2.length pd]) rfl (by kernel_rfl) (by kernel_rfl) (by kernel_rfl) (fun _ _ _ h => h) (Or.inl ⟨by rfl, ?_⟩) hHeld ?_
          · intro w hSw; (try dsimp only at hSw); obtain ⟨c0, c1, c2, -⟩ := erow3_facts (Ok.row' hSw rx.out); (go_simp; try with_reducible rfl)
          (try simp only [Act.put, List.getElem_toArray, List.getElem_cons_succ, List.getElem_cons_zero, List.setIfInBounds_toArray, List.set_cons_zero, List.set_cons_succ])
          refine wpAnyH_take (i := 24) (v := .agg #[.bool y.1, .slice qo y.2.1.length qc, .slice qp y.2.2.length qd]) rfl (by kernel_rfl) (by kernel_rfl) (by kernel_rfl) (fun _ _ _ h => h) (Or.inl ⟨by rfl, ?_⟩) hHeld ?_
          · intro w hSw; (try dsimp only at hSw); obtain ⟨c0, c1, c2, -⟩ := erow3_facts (Ok.row' hSw ry.out); (go_simp; try with_reducible rfl)
          (try simp only [Act.put, List.getElem_toArray, List.getElem_cons_succ, List.getElem_cons_zero, List.setIfInBounds_toArray, List.set_cons_zero, List.set_cons_succ])
          refine wpAnyH_ready (rs := [25]) (by kernel_rfl) (by simp) ?_
          refine AllReadyH.cons rfl (fun K hK => ?_) AllReadyH.nil
          go_simp
          refine (eLeq_at x y _ _ Rx.out Ry.out W _ hHeld ExW.out EyW.out).mono ?_
          rintro e1 w' ⟨rfl, hb⟩
          rw [Hb1.out]
          dsimp only
          refine hK.out _ _ hb (fun hHeld => ?_)
          clear hK K hb
          (try simp only [Act.put, List.getElem_toArray, List.getElem_cons_succ, List.getElem_cons_zero, List.setIfInBounds_toArray, List.set_cons_zero, List.set_cons_succ])
          refine wpAnyH_take (i := 26) (v := ?_) rfl (by kernel_rfl) (by kernel_rfl) (by kernel_rfl) (fun _ _ _ h => h) (Or.inl ⟨by rfl, ?_⟩) hHeld ?_
          rotate_left
          · intro w hSw; (try dsimp only at hSw); (go_simp; try with_reducible rfl)
          (try simp only [Act.put, List.getElem_toArray, List.getElem_cons_succ, List.getElem_cons_zero, List.setIfInBounds_toArray, List.set_cons_zero, List.set_cons_succ])
          refine wpAnyH_take (i := 27) (v := .agg #[.bool y.1, .slice qo y.2.1.length qc, .slice qp y.2.2.length qd]) rfl (by kernel_rfl) (by kernel_rfl) (by kernel_rfl) (fun _ _ _ h => h) (Or.inl ⟨by rfl, ?_⟩) hHeld ?_
          · intro w hSw; (try dsimp only at hSw); obtain ⟨c0, c1, c2, -⟩ := erow3_facts (Ok.row' hSw ry.out); (go_simp; try with_reducible rfl)
          (try simp only [Act.put, List.getElem_toArray, List.getElem_cons_succ, List.getElem_cons_zero, List.setIfInBounds_toArray, List.set_cons_zero, List.set_cons_succ])
          refine wpAnyH_take (i := 28) (v := .agg #[.bool z.1, .slice uo z.2.1.length uc, .slice up z.2.2.length ud]) rfl (by kernel_rfl) (by kernel_rfl) (by kernel_rfl) (fun _ _ _ h => h) (Or.inl ⟨by rfl, ?_⟩) hHeld ?_
          · intro w hSw; (try dsimp only at hSw); obtain ⟨c0, c1, c2, -⟩ := erow3_facts (Ok.row' hSw rz.out); (go_simp; try with_reducible rfl)
          (try simp only [Act.put, List.getElem_toArray, List.getElem_cons_succ, List.getElem_cons_zero, List.setIfInBounds_toArray, List.set_cons_zero, List.set_cons_succ])
          refine wpAnyH_ready (rs := [29]) (by kernel_rfl) (by simp) ?_
          refine AllReadyH.cons rfl (fun K hK => ?_) AllReadyH.nil
          go_simp
          refine (eLeq_at y z _ _ Ry.out Rz.out W _ hHeld EyW.out EzW.out).mono ?_
          rintro e1 w' ⟨rfl, hb⟩
          rw [Hb4.out]
          dsimp only
          refine hK.out _ _ hb (fun hHeld => ?_)
          clear hK K hb
          (try simp only [Act.put, List.getElem_toArray, List.getElem_cons_succ, List.getElem_cons_zero, List.setIfInBounds_toArray, List.set_cons_zero, List.set_cons_succ])
          refine wpAnyH_take (i := 30) (v := ?_) rfl (by kernel_rfl) (by kernel_rfl) (by kernel_rfl) (fun _ _ _ h => h) (Or.inl ⟨by rfl, ?_⟩) hHeld ?_
          rotate_left
          · intro w hSw; (try dsimp only at hSw); (go_simp; try with_reducible rfl)
          (try simp only [Act.put, List.getElem_toArray, List.getElem_cons_succ, List.getElem_cons_zero, List.setIfInBounds_toArray, List.set_cons_zero, List.set_cons_succ])
          refine wpAnyH_take (i := 31) (v := ?_) rfl (by kernel_rfl) (by kernel_rfl) (by kernel_rfl) (fun _ _ _ h => h) (Or.inl ⟨by rfl, ?_⟩) hHeld ?_
          rotate_left
          · intro w hSw; (try dsimp only at hSw); (go_simp; try with_reducible rfl)
          (try simp only [Act.put, List.getElem_toArray, List.getElem_cons_succ, List.getElem_cons_zero, List.setIfInBounds_toArray, List.set_cons_zero, List.set_cons_succ])
          refine wpAnyH_take (i := 32) (v := .agg #[.bool x.1, .slice po x.2.1.length pc, .slice pp x.2.2.length pd]) rfl (by kernel_rfl) (by kernel_rfl) (by kernel_rfl) (fun _ _ _ h => h) (Or.inl ⟨by rfl, ?_⟩) hHeld ?_
          · intro w hSw; (try dsimp only at hSw); obtain ⟨c0, c1, c2, -⟩ := erow3_facts (Ok.row' hSw rx.out); (go_simp; try with_reducible rfl)
          (try simp only [Act.put, List.getElem_toArray, List.getElem_cons_succ, List.getElem_cons_zero, List.setIfInBounds_toArray, List.set_cons_zero, List.set_cons_succ])
          refine wpAnyH_take (i := 33) (v := .agg #[.bool z.1, .slice uo z.2.1.length uc, .slice up z.2.2.length ud]) rfl (by kernel_rfl) (by kernel_rfl) (by kernel_rfl) (fun _ _ _ h => h) (Or.inl ⟨by rfl, ?_⟩) hHeld ?_
          · intro w hSw; (try dsimp only at hSw); obtain ⟨c0, c1, c2, -⟩ := erow3_facts (Ok.row' hSw rz.out); (go_simp; try with_reducible rfl)
          (try simp only [Act.put, List.getElem_toArray, List.getElem_cons_succ, List.getElem_cons_zero, List.setIfInBounds_toArray, List.set_cons_zero, List.set_cons_succ])
          refine wpAnyH_ready (rs := [34]) (by kernel_rfl) (by simp) ?_
          refine AllReadyH.cons rfl (fun K hK => ?_) AllReadyH.nil
          go_simp
          refine (eLeq_at x z _ _ Rx.out Rz.out W _ hHeld ExW.out EzW.out).mono ?_
          rintro e1 w' ⟨rfl, hb⟩
          rw [HTZ.out]
          dsimp only
          refine hK.out _ _ hb (fun hHeld => ?_)
          clear hK K hb
          (try simp only [Act.put, List.getElem_toArray, List.getElem_cons_succ, List.getElem_cons_zero, List.setIfInBounds_toArray, List.set_cons_zero, List.set_cons_succ])
          refine wpAnyH_take (i := 35) (v := ?_) rfl (by kernel_rfl) (by kernel_rfl) (by kernel_rfl) (fun _ _ _ h => h) (Or.inl ⟨by rfl, ?_⟩) hHeld ?_
          rotate_left
          · intro w hSw; (try dsimp only at hSw); (go_simp; try with_reducible rfl)
          (try simp only [Act.put, List.getElem_toArray, List.getElem_cons_succ, List.getElem_cons_zero, List.setIfInBounds_toArray, List.set_cons_zero, List.set_cons_succ])
          refine wpAnyH_take (i := 36) (v := ?_) rfl (by kernel_rfl) (by kernel_rfl) (by kernel_rfl) (fun _ _ _ h => h) (Or.inl ⟨by rfl, ?_⟩) hHeld ?_
          rotate_left
          · intro w hSw; (try dsimp only at hSw); (go_simp; try with_reducible rfl)
          (try simp only [Act.put, List.getElem_toArray, List.getElem_cons_succ, List.getElem_cons_zero, List.setIfInBounds_toArray, List.set_cons_zero, List.set_cons_succ])
          refine wpAnyH_take (i := 37) (v := ?_) rfl (by kernel_rfl) (by kernel_rfl) (by kernel_rfl) (fun _ _ _ h => h) (Or.inl ⟨by rfl, ?_⟩) hHeld ?_
          rotate_left
          · intro w hSw; (try dsimp only at hSw); (go_simp; try with_reducible rfl)
          (try simp only [Act.put, List.getElem_toArray, List.getElem_cons_succ, List.getElem_cons_zero, List.setIfInBounds_toArray, List.set_cons_zero, List.set_cons_succ])
          refine wpAnyH_done (by kernel_rfl) ?_ _
          go_wp2_with fail
          go_meet
          case rel => exact ⟨rfl, hHeld⟩
  case rest =>
    obtain ⟨h49, hO⟩ := hcut.out
    subst h49
    clear hcut
    replace rx : Hid _ := Ok.row' hO rx.out
    replace ry : Hid _ := Ok.row' hO ry.out
    replace rz : Hid _ := Ok.row' hO rz.out
    obtain ⟨V, ew⟩ : ∃ t, t = wc := ⟨_, rfl⟩
    rw [← ew] at hO rx ry rz ⊢
    have ExV : Hid (EnvIs B V (.agg #[.bool x.1, .slice po x.2.1.length pc, .slice pp x.2.2.length pd]) x) := ExW.out.ok hO
    have EyV : Hid (EnvIs C V (.agg #[.bool y.1, .slice qo y.2.1.length qc, .slice qp y.2.2.length qd]) y) := EyW.out.ok hO
    have EzV : Hid (EnvIs D V (.agg #[.bool z.1, .slice uo z.2.1.length uc, .slice up z.2.2.length ud]) z) := EzW.out.ok hO
    have HV : Hid (Ok w V) := HW.out.step hO
    clear ew hO
    obtain ⟨a0, a1, a2, a3, a4, a5⟩ := erow3_facts rx.out
    obtain ⟨b0, b1, b2, b3, b4, b5⟩ := erow3_facts ry.out
    go_wp2_with fail
    clear a0 a1 a2 a3 a4 a5
    clear b0 b1 b2 b3 b4 b5
    refine (eMeet_at x y _ _ Rx.out Ry.out V _ (Ok.refl _) ExV.out EyV.out).mono ?_
    rintro e s1 ⟨r, rfl, hE, hb⟩
    rw [HM.out] at hE
    have EM0 : Hid (EnvIs V.heap.size s1 r M) := hE
    obtain ⟨mo, mc, mp, md, e3, _, _, _, _⟩ := hE
    subst e3
    obtain ⟨a0, a1, a2, a3, a4, a5⟩ := erow3_facts (Ok.row' hb rx.out)
    have la := lt_row (Ok.row' hb rx.out)
    have na : ¬ gx = s1.heap.size := by omega
    have ma : ¬ s1.heap.size = gx := by omega
    obtain ⟨b0, b1, b2, b3, b4, b5⟩ := erow3_facts (Ok.row' hb ry.out)
    have lb := lt_row (Ok.row' hb ry.out)
    have nb : ¬ gy = s1.heap.size := by omega
    have mb : ¬ s1.heap.size = gy := by omega
    go_wp2_with fail
    clear a0 a1 a2 a3 a4 a5 la na ma
    clear b0 b1 b2 b3 b4 b5 lb nb mb
    obtain ⟨V2, hV2⟩ : ∃ W, W = s1.alloc (.cells #[.bool M.1, .slice mo M.2.1.length mc, .slice mp M.2.2.length md] 24) := ⟨_, rfl⟩
    have O2 : Ok V V2 := by rw [hV2]; exact hb.alloc _
    have O3 : Ok s1 V2 := by rw [hV2]; exact (Ok.refl _).alloc _
    have rm : Hid (V2.heap[s1.heap.size]? = some (.cells #[.bool M.1, .slice mo M.2.1.length mc, .slice mp M.2.2.length md] 24)) := by unfold Hid; rw [hV2]; exact heap_new0 _ _
    rw [← hV2]
    obtain ⟨gm, eg⟩ : ∃ g, g = s1.heap.size := ⟨_, rfl⟩
    rw [← eg] at rm ⊢
    have EMV2 : Hid (EnvIs 0 V2 (.agg #[.bool M.1, .slice mo M.2.1.length mc, .slice mp M.2.2.length md]) M) := (EM0.out.ok O3).mono (Nat.zero_le _)
    have HV2 : Hid (Ok w V2) := HV.out.step O2
    replace rx : Hid _ := Ok.row' O2 rx.out
    replace ry : Hid _ := Ok.row' O2 ry.out
    replace rz : Hid _ := Ok.row' O2 rz.out
    have ExV2 : Hid (EnvIs B V2 (.agg #[.bool x.1, .slice po x.2.1.length pc, .slice pp x.2.2.length pd]) x) := ExV.out.ok O2
    have EyV2 : Hid (EnvIs C V2 (.agg #[.bool y.1, .slice qo y.2.1.length qc, .slice qp y.2.2.length qd]) y) := EyV.out.ok O2
    have EzV2 : Hid (EnvIs D V2 (.agg #[.bool z.1, .slice uo z.2.1.length uc, .slice up z.2.2.length ud]) z) := EzV.out.ok O2
    clear hV2 O2 O3 eg hb EM0
    clear ExV EyV EzV
    refine (eJoin_at x y _ _ Rx.out Ry.out V2 _ (Ok.refl _) ExV2.out EyV2.out).mono ?_
    rintro e s2 ⟨r, rfl, hE, hb⟩
    rw [HJ.out] at hE
    have EJ0 : Hid (EnvIs V2.heap.size s2 r J) := hE
    obtain ⟨jo, jc, jp, jd, e3, _, _, _, _⟩ := hE
    subst e3
    obtain ⟨a0, a1, a2, a3, a4, a5⟩ := erow3_facts (Ok.row' hb rx.out)
    have la := lt_row (Ok.row' hb rx.out)
    have na : ¬ gx = s2.heap.size := by omega
    have ma : ¬ s2.heap.size = gx := by omega
    obtain ⟨b0, b1, b2, b3, b4, b5⟩ := erow3_facts (Ok.row' hb ry.out)
    have lb := lt_row (Ok.row' hb ry.out)
    have nb : ¬ gy = s2.heap.size := by omega
    have mb : ¬ s2.heap.size = gy := by omega
    go_wp2_with fail
    clear a0 a1 a2 a3 a4 a5 la na ma
    clear b0 b1 b2 b3 b4 b5 lb nb mb
    obtain ⟨V3, hV2⟩ : ∃ W, W = s2.alloc (.cells #[.bool J.1, .slice jo J.2.1.length jc, .slice jp J.2.2.length jd] 24) := ⟨_, rfl⟩
    have O2 : Ok V2 V3 := by rw [hV2]; exact hb.alloc _
    have O3 : Ok s2 V3 := by rw [hV2]; exact (Ok.refl _).alloc _
    have rj : Hid (V3.heap[s2.heap.size]? = some (.cells #[.bool J.1, .slice jo J.2.1.length jc, .slice jp J.2.2.length jd] 24)) := by unfold Hid; rw [hV2]; exact heap_new0 _ _
    rw [← hV2]
    obtain ⟨gj, eg⟩ : ∃ g, g = s2.heap.size := ⟨_, rfl⟩
    rw [← eg] at rj ⊢
    have EJV3 : Hid (EnvIs 0 V3 (.agg #[.bool J.1, .slice jo J.2.1.length jc, .slice jp J.2.2.length jd]) J) := (EJ0.out.ok O3).mono (Nat.zero_le _)
    have HV3 : Hid (Ok w V3) := HV2.out.step O2
    replace rx : Hid _ := Ok.row' O2 rx.out
    replace ry : Hid _ := Ok.row' O2 ry.out
    replace rz : Hid _ := Ok.row' O2 rz.out
    replace rm : Hid _ := Ok.row' O2 rm.out
    have ExV3 : Hid (EnvIs B V3 (.agg #[.bool x.1, .slice po x.2.1.length pc, .slice pp x.2.2.length pd]) x) := ExV2.out.ok O2
    have EyV3 : Hid (EnvIs C V3 (.agg #[.bool y.1, .slice qo y.2.1.length qc, .slice qp y.2.2.length qd]) y) := EyV2.out.ok O2
    have EzV3 : Hid (EnvIs D V3 (.agg #[.bool z.1, .slice uo z.2.1.length uc, .slice up z.2.2.length ud]) z) := EzV2.out.ok O2
    have EMV3 : Hid (EnvIs 0 V3 (.agg #[.bool M.1, .slice mo M.2.1.length mc, .slice mp M.2.2.length md]) M) := EMV2.out.ok O2
    clear hV2 O2 O3 eg hb EJ0
    clear ExV2 EyV2 EzV2 EMV2
    refine (eWiden_at x y _ _ (.slice ho hn hc) ts Rx.out Ry.out V3 _ (Ok.refl _) (SInts.ok HT.out HV3.out) ExV3.out EyV3.out).mono ?_
    rintro e s3 ⟨r, rfl, hE, hb⟩
    rw [HU.out] at hE
    have EU0 : Hid (EnvIs V3.heap.size s3 r U) := hE
    obtain ⟨vo, vc, vp, vd, e3, _, _, _, _⟩ := hE
    subst e3
    obtain ⟨a0, a1, a2, a3, a4, a5⟩ := erow3_facts (Ok.row' hb rx.out)
    have la := lt_row (Ok.row' hb rx.out)
    have na : ¬ gx = s3.heap.size := by omega
    have ma : ¬ s3.heap.size = gx := by omega
    obtain ⟨b0, b1, b2, b3, b4, b5⟩ := erow3_facts (Ok.row' hb ry.out)
    have lb := lt_row (Ok.row' hb ry.out)
    have nb : ¬ gy = s3.heap.size := by omega
    have mb : ¬ s3.heap.size = gy := by omega
    go_wp2_with fail
    clear a0 a1 a2 a3 a4 a5 la na ma
    clear b0 b1 b2 b3 b4 b5 lb nb mb
    obtain ⟨V4, hV2⟩ : ∃ W, W = s3.alloc (.cells #[.bool U.1, .slice vo U.2.1.length vc, .slice vp U.2.2.length vd] 24) := ⟨_, rfl⟩
    have O2 : Ok V3 V4 := by rw [hV2]; exact hb.alloc _
    have O3 : Ok s3 V4 := by rw [hV2]; exact (Ok.refl _).alloc _
    have rv : Hid (V4.heap[s3.heap.size]? = some (.cells #[.bool U.1, .slice vo U.2.1.length vc, .slice vp U.2.2.length vd] 24)) := by unfold Hid; rw [hV2]; exact heap_new0 _ _
    rw [← hV2]
    obtain ⟨gv, eg⟩ : ∃ g, g = s3.heap.size := ⟨_, rfl⟩
    rw [← eg] at rv ⊢
    have EUV4 : Hid (EnvIs 0 V4 (.agg #[.bool U.1, .slice vo U.2.1.length vc, .slice vp U.2.2.length vd]) U) := (EU0.out.ok O3).mono (Nat.zero_le _)
    have HV4 : Hid (Ok w V4) := HV3.out.step O2
    replace rx : Hid _ := Ok.row' O2 rx.out
    replace ry : Hid _ := Ok.row' O2 ry.out
    replace rz : Hid _ := Ok.row' O2 rz.out
    replace rm : Hid _ := Ok.row' O2 rm.out
    replace rj : Hid _ := Ok.row' O2 rj.out
    have ExV4 : Hid (EnvIs B V4 (.agg #[.bool x.1, .slice po x.2.1.length pc, .slice pp x.2.2.length pd]) x) := ExV3.out.ok O2
    have EyV4 : Hid (EnvIs C V4 (.agg #[.bool y.1, .slice qo y.2.1.length qc, .slice qp y.2.2.length qd]) y) := EyV3.out.ok O2
    have EzV4 : Hid (EnvIs D V4 (.agg #[.bool z.1, .slice uo z.2.1.length uc, .slice up z.2.2.length ud]) z) := EzV3.out.ok O2
    have EMV4 : Hid (EnvIs 0 V4 (.agg #[.bool M.1, .slice mo M.2.1.length mc, .slice mp M.2.2.length md]) M) := EMV3.out.ok O2
    have EJV4 : Hid (EnvIs 0 V4 (.agg #[.bool J.1, .slice jo J.2.1.length jc, .slice jp J.2.2.length jd]) J) := EJV3.out.ok O2
    clear hV2 O2 O3 eg hb EU0
    clear ExV3 EyV3 EzV3 EMV3 EJV3
    have RM : Hid (RawE M) := NM.out.raw
    have RJ : Hid (RawE J) := NJ.out.raw
    have RU : Hid (RawE U) := NU.out.raw
    go_cut [85] from 60 to 85 (fun s85 u => Hid (s85 = .bool false ∧ Ok V4 u))
    case first =>
      as_aux_lemma =>
        refine wp_region_held_drew (S := fun w' => Ok V4 w') (by kernel_rfl) (Below.drew (Ok.refl _)) (fun hHeld => ?_)
        refine wpAnyH_take (i := 0) (v := .agg #[.bool M.1, .slice mo M.2.1.length mc, .slice mp M.2.2.length md]) rfl (by kernel_rfl) (by kernel_rfl) (by kernel_rfl) (fun _ _ _ h => h) (Or.inl ⟨by rfl, ?_⟩) hHeld ?_
        · intro w hSw; (try dsimp only at hSw); obtain ⟨c0, c1, c2, -⟩ := erow3_facts (Ok.row' hSw rm.out); (go_simp; try with_reducible rfl)
        (try simp only [Act.put, List.getElem_toArray, List.getElem_cons_succ, List.getElem_cons_zero, List.setIfInBounds_toArray, List.set_cons_zero, List.set_cons_succ])
        refine wpAnyH_take (i := 1) (v := .agg #[.bool x.1, .slice po x.2.1.length pc, .slice pp x.2.2.length pd]) rfl (by kernel_rfl) (by kernel_rfl) (by kernel_rfl) (fun _ _ _ h => h) (Or.inl ⟨by rfl, ?_⟩) hHeld ?_
        · intro w hSw; (try dsimp only at hSw); obtain ⟨c0, c1, c2, -⟩ := erow3_facts (Ok.row' hSw rx.out); (go_simp; try with_reducible rfl)
        (try simp only [Act.put, List.getElem_toArray, List.getElem_cons_succ, List.getElem_cons_zero, List.setIfInBounds_toArray, List.set_cons_zero, List.set_cons_succ])
        refine wpAnyH_ready (rs := [2]) (by kernel_rfl) (by simp) ?_
        refine AllReadyH.cons rfl (fun K hK => ?_) AllReadyH.nil
        go_simp
        refine (eLeq_at M x _ _ RM.out Rx.out V4 _ hHeld EMV4.out ExV4.out).mono ?_
        rintro e1 w' ⟨rfl, hb⟩
        rw [FM1.out]
        dsimp only
        refine hK.out _ _ hb (fun hHeld => ?_)
        clear hK K hb
        (try simp only [Act.put, List.getElem_toArray, List.getElem_cons_succ, List.getElem_cons_zero, List.setIfInBounds_toArray, List.set_cons_zero, List.set_cons_succ])
        refine wpAnyH_take (i := 3) (v := ?_) rfl (by kernel_rfl) (by kernel_rfl) (by kernel_rfl) (fun _ _ _ h => h) (Or.inl ⟨by rfl, ?_⟩) hHeld ?_
        rotate_left
        · intro w hSw; (try dsimp only at hSw); (go_simp; try with_reducible rfl)
        (try simp only [Act.put, List.getElem_toArray, List.getElem_cons_succ, List.getElem_cons_zero, List.setIfInBounds_toArray, List.set_cons_zero, List.set_cons_succ])
        refine wpAnyH_take (i := 4) (v := ?_) rfl (by kernel_rfl) (by kernel_rfl) (by kernel_rfl) (fun _ _ _ h => h) (Or.inl ⟨by rfl, ?_⟩) hHeld ?_
        rotate_left
        · intro w hSw; (try dsimp only at hSw); (go_simp; try with_reducible rfl)
        (try simp only [Act.put, List.getElem_toArray, List.getElem_cons_succ, List.getElem_cons_zero, List.setIfInBounds_toArray, List.set_cons_zero, List.set_cons_succ])
        refine wpAnyH_take (i := 5) (v := .agg #[.bool M.1, .slice mo M.2.1.length mc, .slice mp M.2.2.length md]) rfl (by kernel_rfl) (by kernel_rfl) (by kernel_rfl) (fun _ _ _ h => h) (Or.inl ⟨by rfl, ?_⟩) hHeld ?_
        · intro w hSw; (try dsimp only at hSw); obtain ⟨c0, c1, c2, -⟩ := erow3_facts (Ok.row' hSw rm.out); (go_simp; try with_reducible rfl)
        (try simp only [Act.put, List.getElem_toArray, List.getElem_cons_succ, List.getElem_cons_zero, List.setIfInBounds_toArray, List.set_cons_zero, List.set_cons_succ])
        refine wpAnyH_take (i := 6) (v := .agg #[.bool y.1, .slice qo y.2.1.length qc, .slice qp y.2.2.length qd]) rfl (by kernel_rfl) (by kernel_rfl) (by kernel_rfl) (fun _ _ _ h => h) (Or.inl ⟨by rfl, ?_⟩) hHeld ?_
        · intro w hSw; (try dsimp only at hSw); obtain ⟨c0, c1, c2, -⟩ := erow3_facts (Ok.row' hSw ry.out); (go_simp; try with_reducible rfl)
        (try simp only [Act.put, List.getElem_toArray, List.getElem_cons_succ, List.getElem_cons_zero, List.setIfInBounds_toArray, List.set_cons_zero, List.set_cons_succ])
        refine wpAnyH_ready (rs := [7]) (by kernel_rfl) (by simp) ?_
        refine AllReadyH.cons rfl (fun K hK => ?_) AllReadyH.nil
        go_simp
        refine (eLeq_at M y _ _ RM.out Ry.out V4 _ hHeld EMV4.out EyV4.out).mono ?_
        rintro e1 w' ⟨rfl, hb⟩
        rw [FM2.out]
        dsimp only
        refine hK.out _ _ hb (fun hHeld => ?_)
        clear hK K hb
        (try simp only [Act.put, List.getElem_toArray, List.getElem_cons_succ, List.getElem_cons_zero, List.setIfInBounds_toArray, List.set_cons_zero, List.set_cons_succ])
        refine wpAnyH_take (i := 8) (v := ?_) rfl (by kernel_rfl) (by kernel_rfl) (by kernel_rfl) (fun _ _ _ h => h) (Or.inl ⟨by rfl, ?_⟩) hHeld ?_
        rotate_left
        · intro w hSw; (try dsimp only at hSw); (go_simp; try with_reducible rfl)
        (try simp only [Act.put, List.getElem_toArray, List.getElem_cons_succ, List.getElem_cons_zero, List.setIfInBounds_toArray, List.set_cons_zero, List.set_cons_succ])
        refine wpAnyH_take (i := 9) (v := ?_) rfl (by kernel_rfl) (by kernel_rfl) (by kernel_rfl) (fun _ _ _ h => h) (Or.inl ⟨by rfl, ?_⟩) hHeld ?_
        rotate_left
        · intro w hSw; (try dsimp only at hSw); (go_simp; try with_reducible rfl)
        (try simp only [Act.put, List.getElem_toArray, List.getElem_cons_succ, List.getElem_cons_zero, List.setIfInBounds_toArray, List.set_cons_zero, List.set_cons_succ])
        refine wpAnyH_take (i := 10) (v := ?_) rfl (by kernel_rfl) (by kernel_rfl) (by kernel_rfl) (fun _ _ _ h => h) (Or.inl ⟨by rfl, ?_⟩) hHeld ?_
        rotate_left
        · intro w hSw; (try dsimp only at hSw); (go_simp; try with_reducible rfl)
        (try simp only [Act.put, List.getElem_toArray, List.getElem_cons_succ, List.getElem_cons_zero, List.setIfInBounds_toArray, List.set_cons_zero, List.set_cons_succ])
        refine wpAnyH_take (i := 11) (v := .agg #[.bool M.1, .slice mo M.2.1.length mc, .slice mp M.2.2.length md]) rfl (by kernel_rfl) (by kernel_rfl) (by kernel_rfl) (fun _ _ _ h => h) (Or.inl ⟨by rfl, ?_⟩) hHeld ?_
        · intro w hSw; (try dsimp only at hSw); obtain ⟨c0, c1, c2, -⟩ := erow3_facts (Ok.row' hSw rm.out); (go_simp; try with_reducible rfl)
        (try simp only [Act.put, List.getElem_toArray, List.getElem_cons_succ, List.getElem_cons_zero, List.setIfInBounds_toArray, List.set_cons_zero, List.set_cons_succ])
        refine wpAnyH_take (i := 12) (v := .agg #[.bool y.1, .slice qo y.2.1.length qc, .slice qp y.2.2.length qd]) rfl (by kernel_rfl) (by kernel_rfl) (by kernel_rfl) (fun _ _ _ h => h) (Or.inl ⟨by rfl, ?_⟩) hHeld ?_
        · intro w hSw; (try dsimp only at hSw); obtain ⟨c0, c1, c2, -⟩ := erow3_facts (Ok.row' hSw ry.out); (go_simp; try with_reducible rfl)
        (try simp only [Act.put, List.getElem_toArray, List.getElem_cons_succ, List.getElem_cons_zero, List.setIfInBounds_toArray, List.set_cons_zero, List.set_cons_succ])
        refine wpAnyH_take (i := 13) (v := .agg #[.bool x.1, .slice po x.2.1.length pc, .slice pp x.2.2.length pd]) rfl (by kernel_rfl) (by kernel_rfl) (by kernel_rfl) (fun _ _ _ h => h) (Or.inl ⟨by rfl, ?_⟩) hHeld ?_
        · intro w hSw; (try dsimp only at hSw); obtain ⟨c0, c1, c2, -⟩ := erow3_facts (Ok.row' hSw rx.out); (go_simp; try with_reducible rfl)
        (try simp only [Act.put, List.getElem_toArray, List.getElem_cons_succ, List.getElem_cons_zero, List.setIfInBounds_toArray, List.set_cons_zero, List.set_cons_succ])
        refine wpAnyH_ready (rs := [14]) (by kernel_rfl) (by simp) ?_
        refine AllReadyH.cons rfl (fun K hK => ?_) AllReadyH.nil
        go_simp
        refine (eMeet_at y x _ _ Ry.out Rx.out V4 _ hHeld EyV4.out ExV4.out).mono ?_
        rintro e1 w' ⟨rk, rfl, hE, hb⟩
        rw [HM2.out] at hE
        have Ek : Hid (EnvIs V4.heap.size w' rk M) := hE
        obtain ⟨ko, kc, kp, kd, e3, _, _, _, _⟩ := hE
        subst e3
        dsimp only
        refine hK.out _ _ hb (fun hHeld => ?_)
        clear hK K hb
        (try simp only [Act.put, List.getElem_toArray, List.getElem_cons_succ, List.getElem_cons_zero, List.setIfInBounds_toArray, List.set_cons_zero, List.set_cons_succ])
        refine wpAnyH_ready (rs := [15]) (by kernel_rfl) (by simp) ?_
        refine AllReadyH.cons rfl (fun K hK => ?_) AllReadyH.nil
        go_simp
        refine (eSame_any M M _ _ RM.out RM.out V4 _ hHeld (EMV4.out.ok hHeld) Ek.out).mono ?_
        rintro e1 w' ⟨rfl, hb⟩
        rw [FSM.out]
        dsimp only
        refine hK.out _ _ hb (fun hHeld => ?_)
        clear hK K hb
        (try simp only [Act.put, List.getElem_toArray, List.getElem_cons_succ, List.getElem_cons_zero, List.setIfInBounds_toArray, List.set_cons_zero, List.set_cons_succ])
        refine wpAnyH_take (i := 16) (v := ?_) rfl (by kernel_rfl) (by kernel_rfl) (by kernel_rfl) (fun _ _ _ h => h) (Or.inl ⟨by rfl, ?_⟩) hHeld ?_
        rotate_left
        · intro w hSw; (try dsimp only at hSw); (go_simp; try with_reducible rfl)
        (try simp only [Act.put, List.getElem_toArray, List.getElem_cons_succ, List.getElem_cons_zero, List.setIfInBounds_toArray, List.set_cons_zero, List.set_cons_succ])
        refine wpAnyH_take (i := 17) (v := ?_) rfl (by kernel_rfl) (by kernel_rfl) (by kernel_rfl) (fun _ _ _ h => h) (Or.inl ⟨by rfl, ?_⟩) hHeld ?_
        rotate_left
        · intro w hSw; (try dsimp only at hSw); (go_simp; try with_reducible rfl)
        (try simp only [Act.put, List.getElem_toArray, List.getElem_cons_succ, List.getElem_cons_zero, List.setIfInBounds_toArray, List.set_cons_zero, List.set_cons_succ])
        refine wpAnyH_take (i := 18) (v := ?_) rfl (by kernel_rfl) (by kernel_rfl) (by kernel_rfl) (fun _ _ _ h => h) (Or.inl ⟨by rfl, ?_⟩) hHeld ?_
        rotate_left
        · intro w hSw; (try dsimp only at hSw); (go_simp; try with_reducible rfl)
        (try simp only [Act.put, List.getElem_toArray, List.getElem_cons_succ, List.getElem_cons_zero, List.setIfInBounds_toArray, List.set_cons_zero, List.set_cons_succ])
        refine wpAnyH_take (i := 19) (v := .agg #[.bool J.1, .slice jo J.2.1.length jc, .slice jp J.2.2.length jd]) rfl (by kernel_rfl) (by kernel_rfl) (by kernel_rfl) (fun _ _ _ h => h) (Or.inl ⟨by rfl, ?_⟩) hHeld ?_
        · intro w hSw; (try dsimp only at hSw); obtain ⟨c0, c1, c2, -⟩ := erow3_facts (Ok.row' hSw rj.out); (go_simp; try with_reducible rfl)
        (try simp only [Act.put, List.getElem_toArray, List.getElem_cons_succ, List.getElem_cons_zero, List.setIfInBounds_toArray, List.set_cons_zero, List.set_cons_succ])
        refine wpAnyH_take (i := 20) (v := .agg #[.bool y.1, .slice qo y.2.1.length qc, .slice qp y.2.2.length qd]) rfl (by kernel_rfl) (by kernel_rfl) (by kernel_rfl) (fun _ _ _ h => h) (Or.inl ⟨by rfl, ?_⟩) hHeld ?_
        · intro w hSw; (try dsimp only at hSw); obtain ⟨c0, c1, c2, -⟩ := erow3_facts (Ok.row' hSw ry.out); (go_simp; try with_reducible rfl)
        (try simp only [Act.put, List.getElem_toArray, List.getElem_cons_succ, List.getElem_cons_zero, List.setIfInBounds_toArray, List.set_cons_zero, List.set_cons_succ])
        refine wpAnyH_take (i := 21) (v := .agg #[.bool x.1, .slice po x.2.1.length pc, .slice pp x.2.2.length pd]) rfl (by kernel_rfl) (by kernel_rfl) (by kernel_rfl) (fun _ _ _ h => h) (Or.inl ⟨by rfl, ?_⟩) hHeld ?_
        · intro w hSw; (try dsimp only at hSw); obtain ⟨c0, c1, c2, -⟩ := erow3_facts (Ok.row' hSw rx.out); (go_simp; try with_reducible rfl)
        (try simp only [Act.put, List.getElem_toArray, List.getElem_cons_succ, List.getElem_cons_zero, List.setIfInBounds_toArray, List.set_cons_zero, List.set_cons_succ])
        refine wpAnyH_ready (rs := [22]) (by kernel_rfl) (by simp) ?_
        refine AllReadyH.cons rfl (fun K hK => ?_) AllReadyH.nil
        go_simp
        refine (eJoin_at y x _ _ Ry.out Rx.out V4 _ hHeld EyV4.out ExV4.out).mono ?_
        rintro e1 w' ⟨rl, rfl, hE, hb⟩
        rw [HJ2.out] at hE
        have El : Hid (EnvIs V4.heap.size w' rl J) := hE
        obtain ⟨lo, lc, lp, ld, e3, _, _, _, _⟩ := hE
        subst e3
        dsimp only
        refine hK.out _ _ hb (fun hHeld => ?_)
        clear hK K hb
        (try simp only [Act.put, List.getElem_toArray, List.getElem_cons_succ, List.getElem_cons_zero, List.setIfInBounds_toArray, List.set_cons_zero, List.set_cons_succ])
        refine wpAnyH_ready (rs := [23]) (by kernel_rfl) (by simp) ?_
        refine AllReadyH.cons rfl (fun K hK => ?_) AllReadyH.nil
        go_simp
        refine (eSame_any J J _ _ RJ.out RJ.out V4 _ hHeld (EJV4.out.ok hHeld) El.out).mono ?_
        rintro e1 w' ⟨rfl, hb⟩
        rw [FSJ.out]
        dsimp only
        refine hK.out _ _ hb (fun hHeld => ?_)
        clear hK K hb
        (try simp only [Act.put, List.getElem_toArray, List.getElem_cons_succ, List.getElem_cons_zero, List.setIfInBounds_toArray, List.set_cons_zero, List.set_cons_succ])
        refine wpAnyH_take (i := 24) (v := ?_) rfl (by kernel_rfl) (by kernel_rfl) (by kernel_rfl) (fun _ _ _ h => h) (Or.inl ⟨by rfl, ?_⟩) hHeld ?_
        rotate_left
        · intro w hSw; (try dsimp only at hSw); (go_simp; try with_reducible rfl)
        (try simp only [Act.put, List.getElem_toArray, List.getElem_cons_succ, List.getElem_cons_zero, List.setIfInBounds_toArray, List.set_cons_zero, List.set_cons_succ])
        refine wpAnyH_take (i := 25) (v := ?_) rfl (by kernel_rfl) (by kernel_rfl) (by kernel_rfl) (fun _ _ _ h => h) (Or.inl ⟨by rfl, ?_⟩) hHeld ?_
        rotate_left
        · intro w hSw; (try dsimp only at hSw); (go_simp; try with_reducible rfl)
        (try simp only [Act.put, List.getElem_toArray, List.getElem_cons_succ, List.getElem_cons_zero, List.setIfInBounds_toArray, List.set_cons_zero, List.set_cons_succ])
        refine wpAnyH_done (by kernel_rfl) ?_ _
        go_wp2_with fail
        go_meet
        case rel => exact ⟨rfl, hHeld⟩
    case rest =>
      obtain ⟨h85, hO⟩ := hcut.out
      subst h85
      clear hcut
      replace rx : Hid _ := Ok.row' hO rx.out
      replace ry : Hid _ := Ok.row' hO ry.out
      replace rz : Hid _ := Ok.row' hO rz.out
      replace rm : Hid _ := Ok.row' hO rm.out
      replace rj : Hid _ := Ok.row' hO rj.out
      replace rv : Hid _ := Ok.row' hO rv.out
      obtain ⟨V5, ew⟩ : ∃ t, t = wc := ⟨_, rfl⟩
      rw [← ew] at hO rx ry rz rm rj rv ⊢
      have ExV5 : Hid (EnvIs B V5 (.agg #[.bool x.1, .slice po x.2.1.length pc, .slice pp x.2.2.length pd]) x) := ExV4.out.ok hO
      have EyV5 : Hid (EnvIs C V5 (.agg #[.bool y.1, .slice qo y.2.1.length qc, .slice qp y.2.2.length qd]) y) := EyV4.out.ok hO
      have EzV5 : Hid (EnvIs D V5 (.agg #[.bool z.1, .slice uo z.2.1.length uc, .slice up z.2.2.length ud]) z) := EzV4.out.ok hO
      have EMV5 : Hid (EnvIs 0 V5 (.agg #[.bool M.1, .slice mo M.2.1.length mc, .slice mp M.2.2.length md]) M) := EMV4.out.ok hO
      have EJV5 : Hid (EnvIs 0 V5 (.agg #[.bool J.1, .slice jo J.2.1.length jc, .slice jp J.2.2.length jd]) J) := EJV4.out.ok hO
      have EUV5 : Hid (EnvIs 0 V5 (.agg #[.bool U.1, .slice vo U.2.1.length vc, .slice vp U.2.2.length vd]) U) := EUV4.out.ok hO
      have HV5 : Hid (Ok w V5) := HV4.out.step hO
      clear ew hO ExV4 EyV4 EzV4 EMV4 EJV4 EUV4
      go_wp2_with fail
      go_cut [91] from 86 to 91 (fun s91 u => Hid (s91 = .bool (!L) ∧ Ok V5 u))
      case first =>
        as_aux_lemma =>
          refine wp_region_held_drew (S := fun w' => Ok V5 w') (by kernel_rfl) (Below.drew (Ok.refl _)) (fun hHeld => ?_)
          refine wpAnyH_take (i := 0) (v := .agg #[.bool x.1, .slice po x.2.1.length pc, .slice pp x.2.2.length pd]) rfl (by kernel_rfl) (by kernel_rfl) (by kernel_rfl) (fun _ _ _ h => h) (Or.inl ⟨by rfl, ?_⟩) hHeld ?_
          · intro w hSw; (try dsimp only at hSw); obtain ⟨c0, c1, c2, -⟩ := erow3_facts (Ok.row' hSw rx.out); (go_simp; try with_reducible rfl)
          (try simp only [Act.put, List.getElem_toArray, List.getElem_cons_succ, List.getElem_cons_zero, List.setIfInBounds_toArray, List.set_cons_zero, List.set_cons_succ])
          refine wpAnyH_take (i := 2) (v := .agg #[.bool y.1, .slice qo y.2.1.length qc, .slice qp y.2.2.length qd]) rfl (by kernel_rfl) (by kernel_rfl) (by kernel_rfl) (fun _ _ _ h => h) (Or.inl ⟨by rfl, ?_⟩) hHeld ?_
          · intro w hSw; (try dsimp only at hSw); obtain ⟨c0, c1, c2, -⟩ := erow3_facts (Ok.row' hSw ry.out); (go_simp; try with_reducible rfl)
          (try simp only [Act.put, List.getElem_toArray, List.getElem_cons_succ, List.getElem_cons_zero, List.setIfInBounds_toArray, List.set_cons_zero, List.set_cons_succ])
          refine wpAnyH_ready (rs := [1]) (by kernel_rfl) (by simp) ?_
          refine AllReadyH.cons rfl (fun K hK => ?_) AllReadyH.nil
          go_simp
          refine (eNorm_at x _ Rx.out V5 _ hHeld ExV5.out).mono ?_
          rintro e1 n1 ⟨r1, rfl, hE, hx, hb⟩
          have E1 : Hid (EnvIs V5.heap.size n1 r1 (normE x)) := hE
          clear hE hx
          dsimp only
          refine hK.out _ _ hb (fun hHeld => ?_)
          clear hK K hb
          (try simp only [Act.put, List.getElem_toArray, List.getElem_cons_succ, List.getElem_cons_zero, List.setIfInBounds_toArray, List.set_cons_zero, List.set_cons_succ])
          refine wpAnyH_ready (rs := [3]) (by kernel_rfl) (by simp) ?_
          refine AllReadyH.cons rfl (fun K hK => ?_) AllReadyH.nil
          go_simp
          refine (eNorm_at y _ Ry.out V5 _ hHeld EyV5.out).mono ?_
          rintro e1 n3 ⟨r3, rfl, hE, hx, hb⟩
          replace E1 : Hid (EnvIs V5.heap.size n3 r1 (normE x)) := E1.out.ok hx
          have E3 : Hid (EnvIs V5.heap.size n3 r3 (normE y)) := hE
          clear hE hx
          dsimp only
          refine hK.out _ _ hb (fun hHeld => ?_)
          clear hK K hb
          (try simp only [Act.put, List.getElem_toArray, List.getElem_cons_succ, List.getElem_cons_zero, List.setIfInBounds_toArray, List.set_cons_zero, List.set_cons_succ])
          refine wpAnyH_ready (rs := [4]) (by kernel_rfl) (by simp) ?_
          refine AllReadyH.cons rfl (fun K hK => ?_) AllReadyH.nil
          go_simp
          refine (eshaped_any (normE x) (normE y) _ _ V5 _ hHeld E1.out E3.out).mono ?_
          rintro e1 w' ⟨rfl, hb⟩
          rw [HL.out]
          dsimp only
          refine hK.out _ _ hb (fun hHeld => ?_)
          clear hK K hb
          (try simp only [Act.put, List.getElem_toArray, List.getElem_cons_succ, List.getElem_cons_zero, List.setIfInBounds_toArray, List.set_cons_zero, List.set_cons_succ])
          refine wpAnyH_take (i := 5) (v := .bool (!L)) rfl (by kernel_rfl) (by kernel_rfl) (by kernel_rfl) (fun _ _ _ h => h) (Or.inl ⟨by rfl, ?_⟩) hHeld ?_
          · intro w hSw; (try dsimp only at hSw); (go_simp; try with_reducible rfl)
          (try simp only [Act.put, List.getElem_toArray, List.getElem_cons_succ, List.getElem_cons_zero, List.setIfInBounds_toArray, List.set_cons_zero, List.set_cons_succ])
          refine wpAnyH_done (by kernel_rfl) ?_ _
          go_wp2_with fail
          go_meet
          case rel => exact ⟨rfl, hHeld⟩
      case rest =>
        obtain ⟨h91, hO⟩ := hcut.out
        subst h91
        clear hcut
        replace rx : Hid _ := Ok.row' hO rx.out
        replace ry : Hid _ := Ok.row' hO ry.out
        replace rz : Hid _ := Ok.row' hO rz.out
        replace rm : Hid _ := Ok.row' hO rm.out
        replace rj : Hid _ := Ok.row' hO rj.out
        replace rv : Hid _ := Ok.row' hO rv.out
        obtain ⟨V6, ew⟩ : ∃ t, t = wc := ⟨_, rfl⟩
        rw [← ew] at hO rx ry rz rm rj rv ⊢
        have ExV6 : Hid (EnvIs B V6 (.agg #[.bool x.1, .slice po x.2.1.length pc, .slice pp x.2.2.length pd]) x) := ExV5.out.ok hO
        have EyV6 : Hid (EnvIs C V6 (.agg #[.bool y.1, .slice qo y.2.1.length qc, .slice qp y.2.2.length qd]) y) := EyV5.out.ok hO
        have EzV6 : Hid (EnvIs D V6 (.agg #[.bool z.1, .slice uo z.2.1.length uc, .slice up z.2.2.length ud]) z) := EzV5.out.ok hO
        have EMV6 : Hid (EnvIs 0 V6 (.agg #[.bool M.1, .slice mo M.2.1.length mc, .slice mp M.2.2.length md]) M) := EMV5.out.ok hO
        have EJV6 : Hid (EnvIs 0 V6 (.agg #[.bool J.1, .slice jo J.2.1.length jc, .slice jp J.2.2.length jd]) J) := EJV5.out.ok hO
        have EUV6 : Hid (EnvIs 0 V6 (.agg #[.bool U.1, .slice vo U.2.1.length vc, .slice vp U.2.2.length vd]) U) := EUV5.out.ok hO
        have HV6 : Hid (Ok w V6) := HV5.out.step hO
        clear ew hO ExV5 EyV5 EzV5 EMV5 EJV5 EUV5
        cases L
        · go_wp2_with fail
          go_ret
          exact ⟨rfl, HV6.out⟩
        · have F1 : Hid _ := FJ1.out rfl
          have F2 : Hid _ := FJ2.out rfl
          have F3 : Hid _ := FJU.out rfl
          obtain ⟨a0, a1, a2, a3, a4, a5⟩ := erow3_facts rx.out
          obtain ⟨f0, f1, f2, f3, f4, f5⟩ := erow3_facts rj.out
          go_wp2_with fail
          clear a0 a1 a2 a3 a4 a5
          clear f0 f1 f2 f3 f4 f5
          refine (eLeq_at x J _ _ Rx.out RJ.out V6 _ (Ok.refl _) ExV6.out EJV6.out).mono ?_
          rintro e q1 ⟨rfl, kq1⟩
          rw [F1.out]
          obtain ⟨b0, b1, b2, b3, b4, b5⟩ := erow3_facts (Ok.row' kq1 ry.out)
          obtain ⟨f0, f1, f2, f3, f4, f5⟩ := erow3_facts (Ok.row' kq1 rj.out)
          go_wp2_with fail
          clear b0 b1 b2 b3 b4 b5
          clear f0 f1 f2 f3 f4 f5
          refine (eLeq_at y J _ _ Ry.out RJ.out V6 _ kq1 EyV6.out EJV6.out).mono ?_
          rintro e q2 ⟨rfl, kq2⟩
          rw [F2.out]
          obtain ⟨f0, f1, f2, f3, f4, f5⟩ := erow3_facts (Ok.row' kq2 rj.out)
          obtain ⟨h0, h1, h2, h3, h4, h5⟩ := erow3_facts (Ok.row' kq2 rv.out)
          go_wp2_with fail
          clear f0 f1 f2 f3 f4 f5
          clear h0 h1 h2 h3 h4 h5
          refine (eLeq_at J U _ _ RJ.out RU.out V6 _ kq2 EJV6.out EUV6.out).mono ?_
          rintro e q3 ⟨rfl, kq3⟩
          rw [F3.out]
          obtain ⟨a0, a1, a2, a3, a4, a5⟩ := erow3_facts (Ok.row' kq3 rx.out)
          obtain ⟨b0, b1, b2, b3, b4, b5⟩ := erow3_facts (Ok.row' kq3 ry.out)
          go_wp2_with fail
          clear a0 a1 a2 a3 a4 a5
          clear b0 b1 b2 b3 b4 b5
          refine (eLeq_at x y _ _ Rx.out Ry.out V6 _ kq3 ExV6.out EyV6.out).mono ?_
          rintro e q4 ⟨rfl, kq4⟩
          rw [Hb1.out]
          cases b1
          · obtain ⟨c0, c1, c2, c3, c4, c5⟩ := erow3_facts (Ok.row' kq4 rz.out)
            obtain ⟨a0, a1, a2, a3, a4, a5⟩ := erow3_facts (Ok.row' kq4 rx.out)
            go_wp2_with fail
            clear c0 c1 c2 c3 c4 c5
            clear a0 a1 a2 a3 a4 a5
            refine (eLeq_at z x _ _ Rz.out Rx.out V6 _ kq4 EzV6.out ExV6.out).mono ?_
            rintro e q5 ⟨rfl, kq5⟩
            rw [Hb5.out]
            cases b5
            · clear FGM
              go_wp2_with fail
              go_ret
              exact ⟨rfl, HV6.out.step kq5⟩
            · have F5a : Hid (b6 = true → leq0 (normE z) (normE M) = true) := FGM.out rfl
              clear FGM
              obtain ⟨c0, c1, c2, c3, c4, c5⟩ := erow3_facts (Ok.row' kq5 rz.out)
              obtain ⟨b0, b1, b2, b3, b4, b5⟩ := erow3_facts (Ok.row' kq5 ry.out)
              go_wp2_with fail
              clear c0 c1 c2 c3 c4 c5
              clear b0 b1 b2 b3 b4 b5
              refine (eLeq_at z y _ _ Rz.out Ry.out V6 _ kq5 EzV6.out EyV6.out).mono ?_
              rintro e q6 ⟨rfl, kq6⟩
              rw [Hb6.out]
              cases b6
              · clear F5a
                go_wp2_with fail
                go_ret
                exact ⟨rfl, HV6.out.step kq6⟩
              · have F5 : Hid (leq0 (normE z) (normE M) = true) := F5a.out rfl
                clear F5a
                obtain ⟨c0, c1, c2, c3, c4, c5⟩ := erow3_facts (Ok.row' kq6 rz.out)
                obtain ⟨d0, d1, d2, d3, d4, d5⟩ := erow3_facts (Ok.row' kq6 rm.out)
                go_wp2_with fail
                clear c0 c1 c2 c3 c4 c5
                clear d0 d1 d2 d3 d4 d5
                refine (eLeq_at z M _ _ Rz.out RM.out V6 _ kq6 EzV6.out EMV6.out).mono ?_
                rintro e q7 ⟨rfl, kq7⟩
                rw [F5.out]
                go_wp2_with fail
                go_ret
                exact ⟨rfl, HV6.out.step kq7⟩
          · have F4 : Hid _ := FJY.out rfl
            obtain ⟨f0, f1, f2, f3, f4, f5⟩ := erow3_facts (Ok.row' kq4 rj.out)
            obtain ⟨b0, b1, b2, b3, b4, b5⟩ := erow3_facts (Ok.row' kq4 ry.out)
            go_wp2_with fail
            clear f0 f1 f2 f3 f4 f5
            clear b0 b1 b2 b3 b4 b5
            refine (eSame_at J y _ _ RJ.out Ry.out V6 _ kq4 EJV6.out EyV6.out).mono ?_
            rintro e q8 ⟨rfl, kq8⟩
            rw [F4.out]
            obtain ⟨c0, c1, c2, c3, c4, c5⟩ := erow3_facts (Ok.row' kq8 rz.out)
            obtain ⟨a0, a1, a2, a3, a4, a5⟩ := erow3_facts (Ok.row' kq8 rx.out)
            go_wp2_with fail
            clear c0 c1 c2 c3 c4 c5
            clear a0 a1 a2 a3 a4 a5
            refine (eLeq_at z x _ _ Rz.out Rx.out V6 _ kq8 EzV6.out ExV6.out).mono ?_
            rintro e q9 ⟨rfl, kq9⟩
            rw [Hb5.out]
            cases b5
            · clear FGM
              go_wp2_with fail
              go_ret
              exact ⟨rfl, HV6.out.step kq9⟩
            · have F5a : Hid (b6 = true → leq0 (normE z) (normE M) = true) := FGM.out rfl
              clear FGM
              obtain ⟨c0, c1, c2, c3, c4, c5⟩ := erow3_facts (Ok.row' kq9 rz.out)
              obtain ⟨b0, b1, b2, b3, b4, b5⟩ := erow3_facts (Ok.row' kq9 ry.out)
              go_wp2_with fail
              clear c0 c1 c2 c3 c4 c5
              clear b0 b1 b2 b3 b4 b5
              refine (eLeq_at z y _ _ Rz.out Ry.out V6 _ kq9 EzV6.out EyV6.out).mono ?_
              rintro e q10 ⟨rfl, kq10⟩
              rw [Hb6.out]
              cases b6
              · clear F5a
                go_wp2_with fail
                go_ret
                exact ⟨rfl, HV6.out.step kq10⟩
              · have F5 : Hid (leq0 (normE z) (normE M) = true) := F5a.out rfl
                clear F5a
                obtain ⟨c0, c1, c2, c3, c4, c5⟩ := erow3_facts (Ok.row' kq10 rz.out)
                obtain ⟨d0, d1, d2, d3, d4, d5⟩ := erow3_facts (Ok.row' kq10 rm.out)
                go_wp2_with fail
                clear c0 c1 c2 c3 c4 c5
                clear d0 d1 d2 d3 d4 d5
                refine (eLeq_at z M _ _ Rz.out RM.out V6 _ kq10 EzV6.out EMV6.out).mono ?_
                rintro e q11 ⟨rfl, kq11⟩
                rw [F5.out]
                go_wp2_with fail
                go_ret
                exact ⟨rfl, HV6.out.step kq11⟩
end Go.Proofs.Ytbkblijoimmdeaa
