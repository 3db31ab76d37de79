import Derived.Test.YtdbdgpcbhojcnaaIprog
import Derived.Test.YtdbdgpcbhojcnaaIwk
set_option linter.unusedVariables false
set_option linter.unusedSimpArgs false
set_option linter.unnecessarySimpa false
/- IvalOps: the law's walk. -/
namespace Go.Proofs.Ytdbdgpcbhojcnaa
open Go.RowKit
def OpsI (W : World) (gx gy : Nat) (Z : World) (X Y : Int × Int × Bool) : Prop :=
  Ok W Z ∧ Z.heap[gx]? = some (.cells #[.int .i64 X.1, .int .i64 X.2.1] 23) ∧ Z.heap[gy]? = some (.cells #[.int .i64 Y.1, .int .i64 Y.2.1] 23) ∧ W.heap.size ≤ gx ∧ gx < gy
theorem OpsI.ok {W Z Z1 : World} {gx gy : Nat} {X Y : Int × Int × Bool} (h : OpsI W gx gy Z X Y) (hb : Ok Z Z1) : OpsI W gx gy Z1 X Y :=
  ⟨h.1.step hb, Ok.row' hb h.2.1, Ok.row' hb h.2.2.1, h.2.2.2⟩
theorem OpsI.setX {W Z : World} {gx gy : Nat} {X Y : Int × Int × Bool} (h : OpsI W gx gy Z X Y) (R : Int × Int × Bool) : OpsI W gx gy ((Z.setCell ⟨gx, 0, none⟩ (.int .i64 R.1)).setCell ⟨gx, 1, none⟩ (.int .i64 R.2.1)) R Y := by
  obtain ⟨h1, h2, h3, h4, h5⟩ := h
  refine ⟨(h1.set h4 _).set h4 _, row_set2 h2 _ _, ?_, h4, h5⟩
  rw [heap_setCell_other _ _ _ _ (show gy ≠ gx by omega), heap_setCell_other _ _ _ _ (show gy ≠ gx by omega)]; exact h3
theorem OpsI.setY {W Z : World} {gx gy : Nat} {X Y : Int × Int × Bool} (h : OpsI W gx gy Z X Y) (R : Int × Int × Bool) : OpsI W gx gy ((Z.setCell ⟨gy, 0, none⟩ (.int .i64 R.1)).setCell ⟨gy, 1, none⟩ (.int .i64 R.2.1)) X R := by
  obtain ⟨h1, h2, h3, h4, h5⟩ := h
  refine ⟨(h1.set (show W.heap.size ≤ gy by omega) _).set (show W.heap.size ≤ gy by omega) _, ?_, row_set2 h3 _ _, h4, h5⟩
  rw [heap_setCell_other _ _ _ _ (show gx ≠ gy by omega), heap_setCell_other _ _ _ _ (show gx ≠ gy by omega)]; exact h2
set_option maxHeartbeats 4000000 in
theorem ops_any (al ah bl bh : Int) (w0 w : World) (hok : Ok w0 w) (ha1 : In64 al) (ha2 : In64 ah) (hb1 : In64 bl) (hb2 : In64 bh) :
    Calls Try.prog 7 #[.agg #[.int .i64 al, .int .i64 ah], .agg #[.int .i64 bl, .int .i64 bh]] w fun e w' => e = .returned (.bool true) ∧ Ok w0 w' := by
  go_enter Try.func7, Try.ntmps7
  go_wp2_with fail
  obtain ⟨W, hW⟩ : ∃ W, W = (w.alloc (.cells #[.int .i64 al, .int .i64 ah] 23)).alloc (.cells #[.int .i64 bl, .int .i64 bh] 23) := ⟨_, rfl⟩
  have ra : W.heap[w.heap.size]? = some (.cells #[.int .i64 al, .int .i64 ah] 23) := by rw [hW]; exact (by repeat (first | (refine heap_at _ _ _ ?hx; case hx => (first | (simp; done) | (simp; omega))) | (refine heap_past _ _ _ ?hy ?_; case hy => (first | (simp; done) | (simp; omega))) | fail))
  have rb : W.heap[w.heap.size + 1]? = some (.cells #[.int .i64 bl, .int .i64 bh] 23) := by rw [hW]; exact (by repeat (first | (refine heap_at _ _ _ ?hx; case hx => (first | (simp; done) | (simp; omega))) | (refine heap_past _ _ _ ?hy ?_; case hy => (first | (simp; done) | (simp; omega))) | fail))
  have hokW : Ok w0 W := by rw [hW]; exact (by repeat (first | exact hok | refine Ok.alloc ?_ _ | refine Ok.draws ?_ _ | fail))
  rw [← hW]
  clear hW
  obtain ⟨c0, c1, _, _⟩ := row_facts ra
  obtain ⟨c2, c3, _, _⟩ := row_facts rb
  have g0 := lt_row ra
  have g1 := lt_row rb
  refine (works_any W W (Ok.refl _)).mono ?_
  rintro e w1 ⟨rfl, hb⟩
  have d0 := Ok.cell hb g0 c0; have d1 := Ok.cell hb g0 c1; have d2 := Ok.cell hb g1 c2; have d3 := Ok.cell hb g1 c3
  go_wp2_with fail
  refine (pneg_any _ _ W _ (by assumption) ha1 ha2).mono ?_
  rintro e w2 ⟨rfl, hb2'⟩
  obtain ⟨N, hN⟩ : ∃ N, N = negI al ah := ⟨_, rfl⟩
  rw [← hN]
  have HN : Hid _ := hN
  clear hN
  have l2 := hb2'.le
  have e0 := Ok.cell hb2' g0 c0; have e1 := Ok.cell hb2' g0 c1
  have x0 : w.heap.size < w2.heap.size := by omega
  have x2 : ¬ w.heap.size = w2.heap.size := by omega
  go_wp2_with fail
  refine (rneg_any _ _ _ _ (Ok.refl _) ha1 ha2).mono ?_
  rintro e w3 ⟨rfl, hb3⟩
  rw [← HN.out]
  have rx := Ok.row' hb3 (heap_new0 _ _)
  have okW3 : Ok W w3 := Ok.step (hb2'.alloc _) hb3
  obtain ⟨gx, hgx⟩ : ∃ gx, gx = w2.heap.size := ⟨_, rfl⟩
  rw [← hgx] at rx ⊢
  obtain ⟨x4, x5, _, _⟩ := row_facts rx
  have x6 := lt_row rx
  have x7 : ¬ gx = w3.heap.size := by omega
  have f0 := Ok.cell okW3 g0 c0; have f1 := Ok.cell okW3 g0 c1; have f2 := Ok.cell okW3 g1 c2; have f3 := Ok.cell okW3 g1 c3
  have l3 := okW3.le
  have y0 : w.heap.size < w3.heap.size := by omega
  have y1 : w.heap.size + 1 < w3.heap.size := by omega
  have y2 : ¬ w.heap.size = w3.heap.size := by omega
  have y3 : ¬ w.heap.size + 1 = w3.heap.size := by omega
  have HGX : Hid (W.heap.size ≤ gx) := by rw [hgx]; exact l2
  have HR : Hid _ := And.intro rx okW3
  clear d0 d1 d2 d3 e0 e1 x0 x2 hgx rx
  go_wp2_with fail
  obtain ⟨gy, hgy⟩ : ∃ gy, gy = w3.heap.size := ⟨_, rfl⟩
  obtain ⟨Z0, hZ0⟩ : ∃ Z0, Z0 = w3.alloc (.cells #[.int .i64 N.1, .int .i64 N.2.1] 23) := ⟨_, rfl⟩
  have HI0 : Hid (OpsI W gx gy Z0 N N) := by
    have okZ : Ok w3 Z0 := by rw [hZ0]; exact (Ok.refl _).alloc _
    exact ⟨Ok.step HR.out.2 okZ, Ok.row' okZ HR.out.1, by rw [hZ0]; exact heap_at _ _ _ hgy, HGX.out, by rw [hgy]; exact x6⟩
  rw [← hZ0, ← hgy]
  clear hZ0 hgy x4 x5 x6 x7 f0 f1 f2 f3 l3 y0 y1 y2 y3 HR HN
  have na : ¬ gx = w.heap.size := by have := HI0.out.2.2.2.1; omega
  have nb : ¬ gx = w.heap.size + 1 := by have := HI0.out.2.2.2.1; omega
  have nc : ¬ gy = w.heap.size := by have := HI0.out.2.2.2; omega
  have nd : ¬ gy = w.heap.size + 1 := by have := HI0.out.2.2.2; omega
  have ne : ¬ gx = gy := by have := HI0.out.2.2.2.2; omega
  have nf : ¬ gy = gx := by have := HI0.out.2.2.2.2; omega
  have na' : ¬ w.heap.size = gx := fun h => na h.symm
  have nb' : ¬ w.heap.size + 1 = gx := fun h => nb h.symm
  have nc' : ¬ w.heap.size = gy := fun h => nc h.symm
  have nd' : ¬ w.heap.size + 1 = gy := fun h => nd h.symm
  refine (padd_any al ah bl bh Z0 Z0 (Ok.refl _) ha1 ha2 hb1 hb2).mono ?_
  rintro e wp ⟨rfl, hbp⟩
  obtain ⟨R0, hR⟩ : ∃ R, R = addI al ah bl bh := ⟨_, rfl⟩
  rw [← hR]
  have HR0 : Hid _ := hR
  clear hR
  have HP : Hid (OpsI W gx gy wp N N) := HI0.out.ok hbp
  obtain ⟨v0, v1, v2, v3⟩ := row_facts HP.out.2.1
  obtain ⟨u0, u1, u2, u3⟩ := row_facts HP.out.2.2.1
  have q0 := Ok.cell HP.out.1 g0 c0; have q1 := Ok.cell HP.out.1 g0 c1; have q2 := Ok.cell HP.out.1 g1 c2; have q3 := Ok.cell HP.out.1 g1 c3
  go_wp2_with fail
  obtain ⟨P2, hP2⟩ : ∃ P2, P2 = (wp.setCell ⟨gx, 0, none⟩ (.int .i64 R0.1)).setCell ⟨gx, 1, none⟩ (.int .i64 R0.2.1) := ⟨_, rfl⟩
  have HQ : Hid (OpsI W gx gy P2 R0 N) := by rw [hP2]; exact HP.out.setX _
  rw [← hP2]
  clear hP2 v0 v1 v2 v3 u0 u1 u2 u3 q0 q1 q2 q3 hbp HP
  refine (radd_any al ah bl bh P2 P2 (Ok.refl _) ha1 ha2 hb1 hb2).mono ?_
  rintro e wq ⟨rfl, hbq⟩
  rw [← HR0.out]
  have HP : Hid (OpsI W gx gy wq R0 N) := HQ.out.ok hbq
  obtain ⟨v0, v1, v2, v3⟩ := row_facts HP.out.2.1
  obtain ⟨u0, u1, u2, u3⟩ := row_facts HP.out.2.2.1
  have q0 := Ok.cell HP.out.1 g0 c0; have q1 := Ok.cell HP.out.1 g0 c1; have q2 := Ok.cell HP.out.1 g1 c2; have q3 := Ok.cell HP.out.1 g1 c3
  go_wp2_with fail
  obtain ⟨Z1, hZ1⟩ : ∃ Z, Z = (wq.setCell ⟨gy, 0, none⟩ (.int .i64 R0.1)).setCell ⟨gy, 1, none⟩ (.int .i64 R0.2.1) := ⟨_, rfl⟩
  have HI1 : Hid (OpsI W gx gy Z1 R0 R0) := by rw [hZ1]; exact HP.out.setY _
  rw [← hZ1]
  clear hZ1 v0 v1 v2 v3 u0 u1 u2 u3 q0 q1 q2 q3 hbq HQ HP
  refine (psub_any al ah bl bh Z1 Z1 (Ok.refl _) ha1 ha2 hb1 hb2).mono ?_
  rintro e wp ⟨rfl, hbp⟩
  obtain ⟨R1, hR⟩ : ∃ R, R = subI al ah bl bh := ⟨_, rfl⟩
  rw [← hR]
  have HR1 : Hid _ := hR
  clear hR
  have HP : Hid (OpsI W gx gy wp R0 R0) := HI1.out.ok hbp
  obtain ⟨v0, v1, v2, v3⟩ := row_facts HP.out.2.1
  obtain ⟨u0, u1, u2, u3⟩ := row_facts HP.out.2.2.1
  have q0 := Ok.cell HP.out.1 g0 c0; have q1 := Ok.cell HP.out.1 g0 c1; have q2 := Ok.cell HP.out.1 g1 c2; have q3 := Ok.cell HP.out.1 g1 c3
  go_wp2_with fail
  obtain ⟨P2, hP2⟩ : ∃ P2, P2 = (wp.setCell ⟨gx, 0, none⟩ (.int .i64 R1.1)).setCell ⟨gx, 1, none⟩ (.int .i64 R1.2.1) := ⟨_, rfl⟩
  have HQ : Hid (OpsI W gx gy P2 R1 R0) := by rw [hP2]; exact HP.out.setX _
  rw [← hP2]
  clear hP2 v0 v1 v2 v3 u0 u1 u2 u3 q0 q1 q2 q3 hbp HP
  refine (rsub_any al ah bl bh P2 P2 (Ok.refl _) ha1 ha2 hb1 hb2).mono ?_
  rintro e wq ⟨rfl, hbq⟩
  rw [← HR1.out]
  have HP : Hid (OpsI W gx gy wq R1 R0) := HQ.out.ok hbq
  obtain ⟨v0, v1, v2, v3⟩ := row_facts HP.out.2.1
  obtain ⟨u0, u1, u2, u3⟩ := row_facts HP.out.2.2.1
  have q0 := Ok.cell HP.out.1 g0 c0; have q1 := Ok.cell HP.out.1 g0 c1; have q2 := Ok.cell HP.out.1 g1 c2; have q3 := Ok.cell HP.out.1 g1 c3
  go_wp2_with fail
  obtain ⟨Z2, hZ2⟩ : ∃ Z, Z = (wq.setCell ⟨gy, 0, none⟩ (.int .i64 R1.1)).setCell ⟨gy, 1, none⟩ (.int .i64 R1.2.1) := ⟨_, rfl⟩
  have HI2 : Hid (OpsI W gx gy Z2 R1 R1) := by rw [hZ2]; exact HP.out.setY _
  rw [← hZ2]
  clear hZ2 v0 v1 v2 v3 u0 u1 u2 u3 q0 q1 q2 q3 hbq HQ HP
  refine (pmul_any al ah bl bh Z2 Z2 (Ok.refl _) ha1 ha2 hb1 hb2).mono ?_
  rintro e wp ⟨rfl, hbp⟩
  obtain ⟨R2, hR⟩ : ∃ R, R = mulI al ah bl bh := ⟨_, rfl⟩
  rw [← hR]
  have HR2 : Hid _ := hR
  clear hR
  have HP : Hid (OpsI W gx gy wp R1 R1) := HI2.out.ok hbp
  obtain ⟨v0, v1, v2, v3⟩ := row_facts HP.out.2.1
  obtain ⟨u0, u1, u2, u3⟩ := row_facts HP.out.2.2.1
  have q0 := Ok.cell HP.out.1 g0 c0; have q1 := Ok.cell HP.out.1 g0 c1; have q2 := Ok.cell HP.out.1 g1 c2; have q3 := Ok.cell HP.out.1 g1 c3
  go_wp2_with fail
  obtain ⟨P2, hP2⟩ : ∃ P2, P2 = (wp.setCell ⟨gx, 0, none⟩ (.int .i64 R2.1)).setCell ⟨gx, 1, none⟩ (.int .i64 R2.2.1) := ⟨_, rfl⟩
  have HQ : Hid (OpsI W gx gy P2 R2 R1) := by rw [hP2]; exact HP.out.setX _
  rw [← hP2]
  clear hP2 v0 v1 v2 v3 u0 u1 u2 u3 q0 q1 q2 q3 hbp HP
  refine (rmul_any al ah bl bh P2 P2 (Ok.refl _) ha1 ha2 hb1 hb2).mono ?_
  rintro e wq ⟨rfl, hbq⟩
  rw [← HR2.out]
  have HP : Hid (OpsI W gx gy wq R2 R1) := HQ.out.ok hbq
  obtain ⟨v0, v1, v2, v3⟩ := row_facts HP.out.2.1
  obtain ⟨u0, u1, u2, u3⟩ := row_facts HP.out.2.2.1
  have q0 := Ok.cell HP.out.1 g0 c0; have q1 := Ok.cell HP.out.1 g0 c1; have q2 := Ok.cell HP.out.1 g1 c2; have q3 := Ok.cell HP.out.1 g1 c3
  go_wp2_with fail
  obtain ⟨Z3, hZ3⟩ : ∃ Z, Z = (wq.setCell ⟨gy, 0, none⟩ (.int .i64 R2.1)).setCell ⟨gy, 1, none⟩ (.int .i64 R2.2.1) := ⟨_, rfl⟩
  have HI3 : Hid (OpsI W gx gy Z3 R2 R2) := by rw [hZ3]; exact HP.out.setY _
  rw [← hZ3]
  clear hZ3 v0 v1 v2 v3 u0 u1 u2 u3 q0 q1 q2 q3 hbq HQ HP
  refine (pdiv_any al ah bl bh Z3 Z3 (Ok.refl _) ha1 ha2 hb1 hb2).mono ?_
  rintro e wp ⟨rfl, hbp⟩
  obtain ⟨R3, hR⟩ : ∃ R, R = divI al ah bl bh := ⟨_, rfl⟩
  rw [← hR]
  have HR3 : Hid _ := hR
  clear hR
  have HP : Hid (OpsI W gx gy wp R2 R2) := HI3.out.ok hbp
  obtain ⟨v0, v1, v2, v3⟩ := row_facts HP.out.2.1
  obtain ⟨u0, u1, u2, u3⟩ := row_facts HP.out.2.2.1
  have q0 := Ok.cell HP.out.1 g0 c0; have q1 := Ok.cell HP.out.1 g0 c1; have q2 := Ok.cell HP.out.1 g1 c2; have q3 := Ok.cell HP.out.1 g1 c3
  go_wp2_with fail
  obtain ⟨P2, hP2⟩ : ∃ P2, P2 = (wp.setCell ⟨gx, 0, none⟩ (.int .i64 R3.1)).setCell ⟨gx, 1, none⟩ (.int .i64 R3.2.1) := ⟨_, rfl⟩
  have HQ : Hid (OpsI W gx gy P2 R3 R2) := by rw [hP2]; exact HP.out.setX _
  rw [← hP2]
  clear hP2 v0 v1 v2 v3 u0 u1 u2 u3 q0 q1 q2 q3 hbp HP
  refine (rdiv_any al ah bl bh P2 P2 (Ok.refl _)).mono ?_
  rintro e wq ⟨rfl, hbq⟩
  rw [← HR3.out]
  have HP : Hid (OpsI W gx gy wq R3 R2) := HQ.out.ok hbq
  obtain ⟨v0, v1, v2, v3⟩ := row_facts HP.out.2.1
  obtain ⟨u0, u1, u2, u3⟩ := row_facts HP.out.2.2.1
  have q0 := Ok.cell HP.out.1 g0 c0; have q1 := Ok.cell HP.out.1 g0 c1; have q2 := Ok.cell HP.out.1 g1 c2; have q3 := Ok.cell HP.out.1 g1 c3
  go_wp2_with fail
  obtain ⟨Z4, hZ4⟩ : ∃ Z, Z = (wq.setCell ⟨gy, 0, none⟩ (.int .i64 R3.1)).setCell ⟨gy, 1, none⟩ (.int .i64 R3.2.1) := ⟨_, rfl⟩
  have HI4 : Hid (OpsI W gx gy Z4 R3 R3) := by rw [hZ4]; exact HP.out.setY _
  rw [← hZ4]
  clear hZ4 v0 v1 v2 v3 u0 u1 u2 u3 q0 q1 q2 q3 hbq HQ HP
  refine (prem_any al ah bl bh Z4 Z4 (Ok.refl _) ha1 ha2 hb1 hb2).mono ?_
  rintro e wp ⟨rfl, hbp⟩
  obtain ⟨R4, hR⟩ : ∃ R, R = remI al ah bl bh := ⟨_, rfl⟩
  rw [← hR]
  have HR4 : Hid _ := hR
  clear hR
  have HP : Hid (OpsI W gx gy wp R3 R3) := HI4.out.ok hbp
  obtain ⟨v0, v1, v2, v3⟩ := row_facts HP.out.2.1
  obtain ⟨u0, u1, u2, u3⟩ := row_facts HP.out.2.2.1
  have q0 := Ok.cell HP.out.1 g0 c0; have q1 := Ok.cell HP.out.1 g0 c1; have q2 := Ok.cell HP.out.1 g1 c2; have q3 := Ok.cell HP.out.1 g1 c3
  go_wp2_with fail
  obtain ⟨P2, hP2⟩ : ∃ P2, P2 = (wp.setCell ⟨gx, 0, none⟩ (.int .i64 R4.1)).setCell ⟨gx, 1, none⟩ (.int .i64 R4.2.1) := ⟨_, rfl⟩
  have HQ : Hid (OpsI W gx gy P2 R4 R3) := by rw [hP2]; exact HP.out.setX _
  rw [← hP2]
  clear hP2 v0 v1 v2 v3 u0 u1 u2 u3 q0 q1 q2 q3 hbp HP
  refine (rrem_any al ah bl bh P2 P2 (Ok.refl _) ha1 ha2 hb1 hb2).mono ?_
  rintro e wq ⟨rfl, hbq⟩
  rw [← HR4.out]
  have HP : Hid (OpsI W gx gy wq R4 R3) := HQ.out.ok hbq
  obtain ⟨v0, v1, v2, v3⟩ := row_facts HP.out.2.1
  obtain ⟨u0, u1, u2, u3⟩ := row_facts HP.out.2.2.1
  have q0 := Ok.cell HP.out.1 g0 c0; have q1 := Ok.cell HP.out.1 g0 c1; have q2 := Ok.cell HP.out.1 g1 c2; have q3 := Ok.cell HP.out.1 g1 c3
  go_wp2_with fail
  go_ret
  exact ⟨rfl, hokW.step (HP.out.setY R4).1⟩
end Go.Proofs.Ytdbdgpcbhojcnaa
