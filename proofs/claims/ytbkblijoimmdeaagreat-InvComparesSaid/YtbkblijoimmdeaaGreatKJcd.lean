import Derived.Test.YtbkblijoimmdeaaGreatKJc
import Derived.Test.YtbkblijoimmdeaaGreatKJl
set_option linter.unusedVariables false
set_option linter.unusedSimpArgs false
set_option linter.unnecessarySimpa false
/- Jcd -/
namespace Go.Proofs.YtbkblijoimmdeaaGreat
open Go.RowKit
attribute [local go_sem] idx0 idx1 idx2 idx3
set_option maxHeartbeats 2000000 in
theorem pthr_d (W : Int → Int → Int) (al ah bl bh : Int) (bf : Nat) (w : World) (hop : OpAt 171 al ah bl bh W) (hbf : w.heap[bf]? = some (.cells #[.func (.func 171) #[] #[]] 154 (0, 0))) :
    Calls Tryz.prog 196 #[.agg #[.int .i64 al, .int .i64 ah], .agg #[.int .i64 bl, .int .i64 bh], .pointer (some ⟨bf, 0, none⟩)] w fun e w' => e = retS (cL W al ah bl bh 4) (cH W al ah bl bh 4) ∧ Ok w w' := by
  have hb0 := lt_row hbf
  have cf : w.cell? ⟨bf, 0, none⟩ = some (.func (.func 171) #[] #[]) := by rw [cell_of_row _ _ _ _ _ _ hbf]; rfl
  have yb0 : ¬ bf = w.heap.size := by omega
  have xb0 : ¬ w.heap.size = bf := by omega
  have zb1 : bf < w.heap.size + 1 := by omega
  have yb1 : ¬ bf = w.heap.size + 1 := by omega
  have xb1 : ¬ w.heap.size + 1 = bf := by omega
  have zb2 : bf < w.heap.size + 1 + 1 := by omega
  have yb2 : ¬ bf = w.heap.size + 1 + 1 := by omega
  have xb2 : ¬ w.heap.size + 1 + 1 = bf := by omega
  have zb3 : bf < w.heap.size + 1 + 1 + 1 := by omega
  have yb3 : ¬ bf = w.heap.size + 1 + 1 + 1 := by omega
  have xb3 : ¬ w.heap.size + 1 + 1 + 1 = bf := by omega
  have zb4 : bf < w.heap.size + 1 + 1 + 1 + 1 := by omega
  have yb4 : ¬ bf = w.heap.size + 1 + 1 + 1 + 1 := by omega
  have xb4 : ¬ w.heap.size + 1 + 1 + 1 + 1 = bf := by omega
  have HB : Hid _ := hbf
  have HO : Hid _ := hop
  clear hop hbf
  go_enter Tryz.func196, Tryz.ntmps196
  have CF : Hid _ := cf
  go_wp2_with fail
  refine (HO.out _ _ (Or.inl rfl) (Or.inl rfl) _ _ (Ok.refl _)).mono ?_
  rintro e w1 ⟨rfl, hb1⟩
  have hok : Ok w w := Ok.refl w
  have hle1 : w.heap.size + 4 ≤ w1.heap.size := by have := hb1.le; simpa using this
  have HW : Hid (Ok w w1 ∧ w1.heap[w.heap.size + 2]? = some (.cells #[.int .i64 0, .int .i64 0, .int .i64 0, .int .i64 0] 158)) := ⟨Ok.step (by repeat (first | exact hok | refine Ok.alloc ?_ _ | refine Ok.draws ?_ _ | fail)) hb1, Ok.row' hb1 (by repeat (first | (refine heap_at _ _ _ ?hx; case hx => (first | (simp; done) | (simp; omega))) | (refine heap_past _ _ _ ?hy ?_; case hy => (first | (simp; done) | (simp; omega))) | fail))⟩
  have HR : Hid (w1.heap[w.heap.size + 1 + 1 + 1]? = some (.cells #[.int .i64 al, .int .i64 bl, .int .i64 al, .int .i64 bh, .int .i64 ah, .int .i64 bl, .int .i64 ah, .int .i64 bh] 174)) := Ok.row' hb1 (by repeat (first | (refine heap_at _ _ _ ?hx; case hx => (first | (simp; done) | (simp; omega))) | (refine heap_past _ _ _ ?hy ?_; case hy => (first | (simp; done) | (simp; omega))) | fail))
  have k0 : w1.cell? ⟨w.heap.size + 1 + 1 + 1, 0, none⟩ = some (.int .i64 al) := by rw [cell_of_row _ _ _ _ _ _ HR.out]; rfl
  have k1 : w1.cell? ⟨w.heap.size + 1 + 1 + 1, 1, none⟩ = some (.int .i64 bl) := by rw [cell_of_row _ _ _ _ _ _ HR.out]; rfl
  have k2 : w1.cell? ⟨w.heap.size + 1 + 1 + 1, 2, none⟩ = some (.int .i64 al) := by rw [cell_of_row _ _ _ _ _ _ HR.out]; rfl
  have k3 : w1.cell? ⟨w.heap.size + 1 + 1 + 1, 3, none⟩ = some (.int .i64 bh) := by rw [cell_of_row _ _ _ _ _ _ HR.out]; rfl
  have k4 : w1.cell? ⟨w.heap.size + 1 + 1 + 1, 4, none⟩ = some (.int .i64 ah) := by rw [cell_of_row _ _ _ _ _ _ HR.out]; rfl
  have k5 : w1.cell? ⟨w.heap.size + 1 + 1 + 1, 5, none⟩ = some (.int .i64 bl) := by rw [cell_of_row _ _ _ _ _ _ HR.out]; rfl
  have k6 : w1.cell? ⟨w.heap.size + 1 + 1 + 1, 6, none⟩ = some (.int .i64 ah) := by rw [cell_of_row _ _ _ _ _ _ HR.out]; rfl
  have k7 : w1.cell? ⟨w.heap.size + 1 + 1 + 1, 7, none⟩ = some (.int .i64 bh) := by rw [cell_of_row _ _ _ _ _ _ HR.out]; rfl
  have zc0 : w.heap.size + 1 + 1 + 1 < w1.heap.size := by omega
  have yc0 : ¬ w.heap.size + 1 + 1 + 1 = w1.heap.size := by omega
  have xc0 : ¬ w1.heap.size = w.heap.size + 1 + 1 + 1 := by omega
  have zc1 : w.heap.size + 1 + 1 + 1 < w1.heap.size + 1 := by omega
  have yc1 : ¬ w.heap.size + 1 + 1 + 1 = w1.heap.size + 1 := by omega
  have xc1 : ¬ w1.heap.size + 1 = w.heap.size + 1 + 1 + 1 := by omega
  have zc2 : w.heap.size + 1 + 1 + 1 < w1.heap.size + 1 + 1 := by omega
  have yc2 : ¬ w.heap.size + 1 + 1 + 1 = w1.heap.size + 1 + 1 := by omega
  have xc2 : ¬ w1.heap.size + 1 + 1 = w.heap.size + 1 + 1 + 1 := by omega
  clear hb1 hok cf zb1 zb2 zb3 zb4 yb0 yb1 yb2 yb3 yb4 xb0 xb1 xb2 xb3 xb4
  go_wp2_with fail
  clear k0 k1 k2 k3 k4 k5 k6 k7 zc0 zc1 zc2 yc0 yc1 yc2 xc0 xc1 xc2 HR
  obtain ⟨g8, hg8⟩ : ∃ g8, g8 = w1.heap.size + 1 := ⟨_, rfl⟩
  obtain ⟨W1, hW1⟩ : ∃ W1, W1 = (w1.alloc (.cells #[.int .i64 (tW (W al bl)), .int .i64 (wrap64 (W al bl))] 156)).alloc (.cells #[.int .i64 (tW (W al bl)), .int .i64 (wrap64 (W al bl)), .int .i64 (tW (W al bl)), .int .i64 (wrap64 (W al bl))] 158) := ⟨_, rfl⟩
  have HS : Hid (ThrInv w W1 g8 (cL W al ah bl bh 0) (cH W al ah bl bh 0)) := by
    rw [hW1]
    refine ⟨(HW.out.1.alloc _).alloc _, heap_past _ _ _ (by simp; omega) (heap_past _ _ _ (by omega) HW.out.2), heap_at _ _ _ (by rw [hg8]; simp), by omega⟩
  rw [← hW1, ← hg8]
  have HG : Hid (bf < w.heap.size) := hb0
  clear hW1 hg8 hle1 HW hb0 HB
  go_loopw [42] (fun i wr => ∃ k : Nat, k ≤ 4 ∧ i = .int .i64 k ∧ Hid (ThrInv w wr g8 (cL W al ah bl bh k) (cH W al ah bl bh k))) (fun i _ => (4 - intOf i).toNat)
  case atStart => exact ⟨0, by omega, rfl, HS⟩
  case round =>
    obtain ⟨k, hk, rfl, HI⟩ := hrel
    clear HS
    by_cases hk1 : k < 4
    · have hk2 : (k : Int) < 4 := by omega
      obtain ⟨r1, r2, r3, r4⟩ := HI.out
      have sz := lt_row r3
      have e0 := Ok.cell r1 HG.out CF.out
      obtain ⟨L, hL⟩ : ∃ L, L = cL W al ah bl bh k := ⟨_, rfl⟩
      obtain ⟨H, hH⟩ : ∃ H, H = cH W al ah bl bh k := ⟨_, rfl⟩
      have SL : Hid (cL W al ah bl bh (k + 1) = min L (W (cX al ah k) (cY bl bh k))) := by rw [hL]; rfl
      have SH : Hid (cH W al ah bl bh (k + 1) = max H (W (cX al ah k) (cY bl bh k))) := by rw [hH]; rfl
      rw [← hL, ← hH] at r3
      have l0 : wr.cell? ⟨g8, 0, none⟩ = some (.int .i64 (tW L)) := by rw [cell_of_row _ _ _ _ _ _ r3]; rfl
      have l1 : wr.cell? ⟨g8, 1, none⟩ = some (.int .i64 (wrap64 L)) := by rw [cell_of_row _ _ _ _ _ _ r3]; rfl
      have l2 : wr.cell? ⟨g8, 2, none⟩ = some (.int .i64 (tW H)) := by rw [cell_of_row _ _ _ _ _ _ r3]; rfl
      have l3 : wr.cell? ⟨g8, 3, none⟩ = some (.int .i64 (wrap64 H)) := by rw [cell_of_row _ _ _ _ _ _ r3]; rfl
      have HV : Hid (ThrInv w wr g8 L H) := ⟨r1, r2, r3, r4⟩
      clear HI r1 r2 r3 r4 hL hH
      have b1 : g8 < wr.heap.size := sz
      have b2 : ¬ g8 = wr.heap.size := by omega
      have b3 : ¬ wr.heap.size = g8 := by omega
      have hb := HG.out; have hg := HV.out.2.2.2
      have b4 : bf < wr.heap.size := by omega
      have b5 : ¬ bf = wr.heap.size := by omega
      have b6 : ¬ wr.heap.size = bf := by omega
      have b7 : ¬ bf = g8 := by omega
      have b8 : ¬ g8 = bf := by omega
      clear hb hg
      obtain rfl | rfl | rfl | rfl : k = 0 ∨ k = 1 ∨ k = 2 ∨ k = 3 := by omega
      · go_wp2_with fail
        obtain ⟨gt, hgt⟩ : ∃ gt, gt = wr.heap.size := ⟨_, rfl⟩
        obtain ⟨X, hX⟩ : ∃ X, X = wr.alloc (.cells #[.int .i64 al, .int .i64 bl] 173) := ⟨_, rfl⟩
        have okX : Ok wr X := by rw [hX]; exact (Ok.refl _).alloc _
        have rt : X.heap[gt]? = some (.cells #[.int .i64 al, .int .i64 bl] 173) := by rw [hX]; exact heap_at _ _ _ hgt
        obtain ⟨t0, t1, _, _⟩ := row_facts rt
        have u1 := lt_row rt
        rw [← hX, ← hgt]
        have m0 := Ok.cell okX b1 l0; have m1 := Ok.cell okX b1 l1; have m2 := Ok.cell okX b1 l2; have m3 := Ok.cell okX b1 l3
        have m4 := Ok.cell okX b4 e0
        have u2 : g8 < X.heap.size := by omega
        have u3 : bf < X.heap.size := by omega
        have HX : Hid (Ok wr X) := okX
        have HM : Hid (X.cell? ⟨g8, 0, none⟩ = some (.int .i64 (tW L)) ∧ X.cell? ⟨g8, 1, none⟩ = some (.int .i64 (wrap64 L)) ∧ X.cell? ⟨g8, 2, none⟩ = some (.int .i64 (tW H)) ∧ X.cell? ⟨g8, 3, none⟩ = some (.int .i64 (wrap64 H)) ∧ X.cell? ⟨bf, 0, none⟩ = some (.func (.func 171) #[] #[]) ∧ X.cell? ⟨gt, 0, none⟩ = some (.int .i64 al) ∧ X.cell? ⟨gt, 1, none⟩ = some (.int .i64 bl)) := ⟨m0, m1, m2, m3, m4, t0, t1⟩
        have HU : Hid (g8 < X.heap.size ∧ bf < X.heap.size ∧ gt < X.heap.size) := ⟨u2, u3, u1⟩
        clear hX hgt okX rt l0 l1 l2 l3 e0 b1 b2 b3 b4 b5 b6 b7 b8 sz u1 u2 u3 m0 m1 m2 m3 m4 t0 t1
        refine wp_region_L (fun w' => w'.cell? ⟨g8, 0, none⟩ = some (.int .i64 (tW L)) ∧ w'.cell? ⟨g8, 1, none⟩ = some (.int .i64 (wrap64 L)) ∧ w'.cell? ⟨g8, 2, none⟩ = some (.int .i64 (tW H)) ∧ w'.cell? ⟨g8, 3, none⟩ = some (.int .i64 (wrap64 H)) ∧ w'.cell? ⟨bf, 0, none⟩ = some (.func (.func 171) #[] #[]) ∧ w'.cell? ⟨gt, 0, none⟩ = some (.int .i64 al) ∧ w'.cell? ⟨gt, 1, none⟩ = some (.int .i64 bl)) 8 (by kernel_rfl) ?_
        refine wpAnyL_take (i := 0) (oi := { dst := some 45, op := Op.load 158 (Operand.tmp 8), type := 158, pos := "whole.go:69", after := #[], guard := Option.none }) (v := .agg #[.int .i64 (tW L), .int .i64 (wrap64 L), .int .i64 (tW H), .int .i64 (wrap64 H)]) rfl (by kernel_rfl) (by kernel_rfl) (by kernel_rfl) (by kernel_rfl) (fun _ _ _ h => h) HM.out (Or.inl ⟨by rfl, ?_⟩) ?_
        · intro w' hSw
          obtain ⟨s0, s1, s2, s3, s4, s5, s6⟩ := hSw
          go_simp
        simp only [Act.put, List.setIfInBounds_toArray, List.set_cons_zero, List.set_cons_succ]
        refine wpAnyL_take (i := 1) (oi := { dst := some 46, op := Op.load 154 (Operand.tmp 2), type := 154, pos := "whole.go:69", after := #[], guard := Option.none }) (v := .func (.func 171) #[] #[]) rfl (by kernel_rfl) (by kernel_rfl) (by kernel_rfl) (by kernel_rfl) (fun _ _ _ h => h) HM.out (Or.inl ⟨by rfl, ?_⟩) ?_
        · intro w' hSw
          obtain ⟨s0, s1, s2, s3, s4, s5, s6⟩ := hSw
          go_simp
        simp only [Act.put, List.setIfInBounds_toArray, List.set_cons_zero, List.set_cons_succ]
        refine wpAnyL_take (i := 2) (oi := { dst := some 47, op := Op.indexAddr 173 (Operand.tmp 10) (Operand.const (Value.int IntKind.i64 0)), type := 0, pos := "whole.go:69", after := #[], guard := Option.none }) (v := .pointer (some ⟨gt, 0, none⟩)) rfl (by kernel_rfl) (by kernel_rfl) (by kernel_rfl) (by kernel_rfl) (fun _ _ _ h => h) HM.out (Or.inl ⟨by rfl, ?_⟩) ?_
        · intro w' hSw
          obtain ⟨s0, s1, s2, s3, s4, s5, s6⟩ := hSw
          go_simp
        simp only [Act.put, List.setIfInBounds_toArray, List.set_cons_zero, List.set_cons_succ]
        refine wpAnyL_take (i := 3) (oi := { dst := some 48, op := Op.load 2 (Operand.tmp 47), type := 2, pos := "whole.go:69", after := #[{ on := 2, ground := Ground.data }], guard := Option.none }) (v := .int .i64 al) rfl (by kernel_rfl) (by kernel_rfl) (by kernel_rfl) (by kernel_rfl) (fun _ _ _ h => h) HM.out (Or.inl ⟨by rfl, ?_⟩) ?_
        · intro w' hSw
          obtain ⟨s0, s1, s2, s3, s4, s5, s6⟩ := hSw
          go_simp
        simp only [Act.put, List.setIfInBounds_toArray, List.set_cons_zero, List.set_cons_succ]
        refine wpAnyL_take (i := 4) (oi := { dst := some 49, op := Op.indexAddr 173 (Operand.tmp 10) (Operand.const (Value.int IntKind.i64 1)), type := 0, pos := "whole.go:69", after := #[], guard := Option.none }) (v := .pointer (some ⟨gt, 1, none⟩)) rfl (by kernel_rfl) (by kernel_rfl) (by kernel_rfl) (by kernel_rfl) (fun _ _ _ h => h) HM.out (Or.inl ⟨by rfl, ?_⟩) ?_
        · intro w' hSw
          obtain ⟨s0, s1, s2, s3, s4, s5, s6⟩ := hSw
          go_simp
        simp only [Act.put, List.setIfInBounds_toArray, List.set_cons_zero, List.set_cons_succ]
        refine wpAnyL_take (i := 5) (oi := { dst := some 50, op := Op.load 2 (Operand.tmp 49), type := 2, pos := "whole.go:69", after := #[{ on := 4, ground := Ground.data }], guard := Option.none }) (v := .int .i64 bl) rfl (by kernel_rfl) (by kernel_rfl) (by kernel_rfl) (by kernel_rfl) (fun _ _ _ h => h) HM.out (Or.inl ⟨by rfl, ?_⟩) ?_
        · intro w' hSw
          obtain ⟨s0, s1, s2, s3, s4, s5, s6⟩ := hSw
          go_simp
        simp only [Act.put, List.setIfInBounds_toArray, List.set_cons_zero, List.set_cons_succ]
        refine wpAnyL_step (i := 6) (by kernel_rfl) rfl (fun K hK => ?_)
        go_simp
        refine (HO.out _ _ (Or.inl rfl) (Or.inl rfl) X _ (Below.drew (Ok.refl _))).mono ?_
        rintro e w2 ⟨rfl, hb2⟩
        go_wp2_with fail
        refine hK.out _ _ (fun _ => ⟨Ok.cell hb2 HU.out.1 HM.out.1, Ok.cell hb2 HU.out.1 HM.out.2.1, Ok.cell hb2 HU.out.1 HM.out.2.2.1, Ok.cell hb2 HU.out.1 HM.out.2.2.2.1, Ok.cell hb2 HU.out.2.1 HM.out.2.2.2.2.1, Ok.cell hb2 HU.out.2.2 HM.out.2.2.2.2.2.1, Ok.cell hb2 HU.out.2.2 HM.out.2.2.2.2.2.2⟩) ?_
        clear hK K
        refine wpAnyL_step (i := 7) (by kernel_rfl) rfl (fun K hK => ?_)
        go_simp
        refine (pwith_is _ _ _ X _ hb2).mono ?_
        rintro e w3 ⟨rfl, hb3⟩
        go_wp2_with fail
        refine hK.out _ _ (fun _ => ⟨Ok.cell hb3 HU.out.1 HM.out.1, Ok.cell hb3 HU.out.1 HM.out.2.1, Ok.cell hb3 HU.out.1 HM.out.2.2.1, Ok.cell hb3 HU.out.1 HM.out.2.2.2.1, Ok.cell hb3 HU.out.2.1 HM.out.2.2.2.2.1, Ok.cell hb3 HU.out.2.2 HM.out.2.2.2.2.2.1, Ok.cell hb3 HU.out.2.2 HM.out.2.2.2.2.2.2⟩) ?_
        clear hK K
        have hb4 := Ok.step HX.out hb3
        obtain ⟨⟨y0, y1, y2, y3⟩, z0, z1, z2, z3⟩ := row_facts4 (Ok.row' hb4 HV.out.2.2.1)
        have H4 : Hid (Ok wr w3) := hb4
        clear hb4 hb3 hb2 HX HM HU
        refine wpAnyL_step (i := 8) (by kernel_rfl) rfl (fun K hK => ?_)
        go_simp
        refine hK.out _ _ (fun h => absurd rfl h) ?_
        clear hK K
        refine wpAnyL_done (by kernel_rfl) ?_ _
        go_wp2_with fail
        go_roundw
        case rel =>
          refine ⟨0 + 1, by omega, rfl, ?_⟩
          rw [SL.out, SH.out]
          exact HV.out.next H4.out
        case measure => simp only [intOf]; omega
      · go_wp2_with fail
        obtain ⟨gt, hgt⟩ : ∃ gt, gt = wr.heap.size := ⟨_, rfl⟩
        obtain ⟨X, hX⟩ : ∃ X, X = wr.alloc (.cells #[.int .i64 al, .int .i64 bh] 173) := ⟨_, rfl⟩
        have okX : Ok wr X := by rw [hX]; exact (Ok.refl _).alloc _
        have rt : X.heap[gt]? = some (.cells #[.int .i64 al, .int .i64 bh] 173) := by rw [hX]; exact heap_at _ _ _ hgt
        obtain ⟨t0, t1, _, _⟩ := row_facts rt
        have u1 := lt_row rt
        rw [← hX, ← hgt]
        have m0 := Ok.cell okX b1 l0; have m1 := Ok.cell okX b1 l1; have m2 := Ok.cell okX b1 l2; have m3 := Ok.cell okX b1 l3
        have m4 := Ok.cell okX b4 e0
        have u2 : g8 < X.heap.size := by omega
        have u3 : bf < X.heap.size := by omega
        have HX : Hid (Ok wr X) := okX
        have HM : Hid (X.cell? ⟨g8, 0, none⟩ = some (.int .i64 (tW L)) ∧ X.cell? ⟨g8, 1, none⟩ = some (.int .i64 (wrap64 L)) ∧ X.cell? ⟨g8, 2, none⟩ = some (.int .i64 (tW H)) ∧ X.cell? ⟨g8, 3, none⟩ = some (.int .i64 (wrap64 H)) ∧ X.cell? ⟨bf, 0, none⟩ = some (.func (.func 171) #[] #[]) ∧ X.cell? ⟨gt, 0, none⟩ = some (.int .i64 al) ∧ X.cell? ⟨gt, 1, none⟩ = some (.int .i64 bh)) := ⟨m0, m1, m2, m3, m4, t0, t1⟩
        have HU : Hid (g8 < X.heap.size ∧ bf < X.heap.size ∧ gt < X.heap.size) := ⟨u2, u3, u1⟩
        clear hX hgt okX rt l0 l1 l2 l3 e0 b1 b2 b3 b4 b5 b6 b7 b8 sz u1 u2 u3 m0 m1 m2 m3 m4 t0 t1
        refine wp_region_L (fun w' => w'.cell? ⟨g8, 0, none⟩ = some (.int .i64 (tW L)) ∧ w'.cell? ⟨g8, 1, none⟩ = some (.int .i64 (wrap64 L)) ∧ w'.cell? ⟨g8, 2, none⟩ = some (.int .i64 (tW H)) ∧ w'.cell? ⟨g8, 3, none⟩ = some (.int .i64 (wrap64 H)) ∧ w'.cell? ⟨bf, 0, none⟩ = some (.func (.func 171) #[] #[]) ∧ w'.cell? ⟨gt, 0, none⟩ = some (.int .i64 al) ∧ w'.cell? ⟨gt, 1, none⟩ = some (.int .i64 bh)) 8 (by kernel_rfl) ?_
        refine wpAnyL_take (i := 0) (oi := { dst := some 45, op := Op.load 158 (Operand.tmp 8), type := 158, pos := "whole.go:69", after := #[], guard := Option.none }) (v := .agg #[.int .i64 (tW L), .int .i64 (wrap64 L), .int .i64 (tW H), .int .i64 (wrap64 H)]) rfl (by kernel_rfl) (by kernel_rfl) (by kernel_rfl) (by kernel_rfl) (fun _ _ _ h => h) HM.out (Or.inl ⟨by rfl, ?_⟩) ?_
        · intro w' hSw
          obtain ⟨s0, s1, s2, s3, s4, s5, s6⟩ := hSw
          go_simp
        simp only [Act.put, List.setIfInBounds_toArray, List.set_cons_zero, List.set_cons_succ]
        refine wpAnyL_take (i := 1) (oi := { dst := some 46, op := Op.load 154 (Operand.tmp 2), type := 154, pos := "whole.go:69", after := #[], guard := Option.none }) (v := .func (.func 171) #[] #[]) rfl (by kernel_rfl) (by kernel_rfl) (by kernel_rfl) (by kernel_rfl) (fun _ _ _ h => h) HM.out (Or.inl ⟨by rfl, ?_⟩) ?_
        · intro w' hSw
          obtain ⟨s0, s1, s2, s3, s4, s5, s6⟩ := hSw
          go_simp
        simp only [Act.put, List.setIfInBounds_toArray, List.set_cons_zero, List.set_cons_succ]
        refine wpAnyL_take (i := 2) (oi := { dst := some 47, op := Op.indexAddr 173 (Operand.tmp 10) (Operand.const (Value.int IntKind.i64 0)), type := 0, pos := "whole.go:69", after := #[], guard := Option.none }) (v := .pointer (some ⟨gt, 0, none⟩)) rfl (by kernel_rfl) (by kernel_rfl) (by kernel_rfl) (by kernel_rfl) (fun _ _ _ h => h) HM.out (Or.inl ⟨by rfl, ?_⟩) ?_
        · intro w' hSw
          obtain ⟨s0, s1, s2, s3, s4, s5, s6⟩ := hSw
          go_simp
        simp only [Act.put, List.setIfInBounds_toArray, List.set_cons_zero, List.set_cons_succ]
        refine wpAnyL_take (i := 3) (oi := { dst := some 48, op := Op.load 2 (Operand.tmp 47), type := 2, pos := "whole.go:69", after := #[{ on := 2, ground := Ground.data }], guard := Option.none }) (v := .int .i64 al) rfl (by kernel_rfl) (by kernel_rfl) (by kernel_rfl) (by kernel_rfl) (fun _ _ _ h => h) HM.out (Or.inl ⟨by rfl, ?_⟩) ?_
        · intro w' hSw
          obtain ⟨s0, s1, s2, s3, s4, s5, s6⟩ := hSw
          go_simp
        simp only [Act.put, List.setIfInBounds_toArray, List.set_cons_zero, List.set_cons_succ]
        refine wpAnyL_take (i := 4) (oi := { dst := some 49, op := Op.indexAddr 173 (Operand.tmp 10) (Operand.const (Value.int IntKind.i64 1)), type := 0, pos := "whole.go:69", after := #[], guard := Option.none }) (v := .pointer (some ⟨gt, 1, none⟩)) rfl (by kernel_rfl) (by kernel_rfl) (by kernel_rfl) (by kernel_rfl) (fun _ _ _ h => h) HM.out (Or.inl ⟨by rfl, ?_⟩) ?_
        · intro w' hSw
          obtain ⟨s0, s1, s2, s3, s4, s5, s6⟩ := hSw
          go_simp
        simp only [Act.put, List.setIfInBounds_toArray, List.set_cons_zero, List.set_cons_succ]
        refine wpAnyL_take (i := 5) (oi := { dst := some 50, op := Op.load 2 (Operand.tmp 49), type := 2, pos := "whole.go:69", after := #[{ on := 4, ground := Ground.data }], guard := Option.none }) (v := .int .i64 bh) rfl (by kernel_rfl) (by kernel_rfl) (by kernel_rfl) (by kernel_rfl) (fun _ _ _ h => h) HM.out (Or.inl ⟨by rfl, ?_⟩) ?_
        · intro w' hSw
          obtain ⟨s0, s1, s2, s3, s4, s5, s6⟩ := hSw
          go_simp
        simp only [Act.put, List.setIfInBounds_toArray, List.set_cons_zero, List.set_cons_succ]
        refine wpAnyL_step (i := 6) (by kernel_rfl) rfl (fun K hK => ?_)
        go_simp
        refine (HO.out _ _ (Or.inl rfl) (Or.inr rfl) X _ (Below.drew (Ok.refl _))).mono ?_
        rintro e w2 ⟨rfl, hb2⟩
        go_wp2_with fail
        refine hK.out _ _ (fun _ => ⟨Ok.cell hb2 HU.out.1 HM.out.1, Ok.cell hb2 HU.out.1 HM.out.2.1, Ok.cell hb2 HU.out.1 HM.out.2.2.1, Ok.cell hb2 HU.out.1 HM.out.2.2.2.1, Ok.cell hb2 HU.out.2.1 HM.out.2.2.2.2.1, Ok.cell hb2 HU.out.2.2 HM.out.2.2.2.2.2.1, Ok.cell hb2 HU.out.2.2 HM.out.2.2.2.2.2.2⟩) ?_
        clear hK K
        refine wpAnyL_step (i := 7) (by kernel_rfl) rfl (fun K hK => ?_)
        go_simp
        refine (pwith_is _ _ _ X _ hb2).mono ?_
        rintro e w3 ⟨rfl, hb3⟩
        go_wp2_with fail
        refine hK.out _ _ (fun _ => ⟨Ok.cell hb3 HU.out.1 HM.out.1, Ok.cell hb3 HU.out.1 HM.out.2.1, Ok.cell hb3 HU.out.1 HM.out.2.2.1, Ok.cell hb3 HU.out.1 HM.out.2.2.2.1, Ok.cell hb3 HU.out.2.1 HM.out.2.2.2.2.1, Ok.cell hb3 HU.out.2.2 HM.out.2.2.2.2.2.1, Ok.cell hb3 HU.out.2.2 HM.out.2.2.2.2.2.2⟩) ?_
        clear hK K
        have hb4 := Ok.step HX.out hb3
        obtain ⟨⟨y0, y1, y2, y3⟩, z0, z1, z2, z3⟩ := row_facts4 (Ok.row' hb4 HV.out.2.2.1)
        have H4 : Hid (Ok wr w3) := hb4
        clear hb4 hb3 hb2 HX HM HU
        refine wpAnyL_step (i := 8) (by kernel_rfl) rfl (fun K hK => ?_)
        go_simp
        refine hK.out _ _ (fun h => absurd rfl h) ?_
        clear hK K
        refine wpAnyL_done (by kernel_rfl) ?_ _
        go_wp2_with fail
        go_roundw
        case rel =>
          refine ⟨1 + 1, by omega, rfl, ?_⟩
          rw [SL.out, SH.out]
          exact HV.out.next H4.out
        case measure => simp only [intOf]; omega
      · go_wp2_with fail
        obtain ⟨gt, hgt⟩ : ∃ gt, gt = wr.heap.size := ⟨_, rfl⟩
        obtain ⟨X, hX⟩ : ∃ X, X = wr.alloc (.cells #[.int .i64 ah, .int .i64 bl] 173) := ⟨_, rfl⟩
        have okX : Ok wr X := by rw [hX]; exact (Ok.refl _).alloc _
        have rt : X.heap[gt]? = some (.cells #[.int .i64 ah, .int .i64 bl] 173) := by rw [hX]; exact heap_at _ _ _ hgt
        obtain ⟨t0, t1, _, _⟩ := row_facts rt
        have u1 := lt_row rt
        rw [← hX, ← hgt]
        have m0 := Ok.cell okX b1 l0; have m1 := Ok.cell okX b1 l1; have m2 := Ok.cell okX b1 l2; have m3 := Ok.cell okX b1 l3
        have m4 := Ok.cell okX b4 e0
        have u2 : g8 < X.heap.size := by omega
        have u3 : bf < X.heap.size := by omega
        have HX : Hid (Ok wr X) := okX
        have HM : Hid (X.cell? ⟨g8, 0, none⟩ = some (.int .i64 (tW L)) ∧ X.cell? ⟨g8, 1, none⟩ = some (.int .i64 (wrap64 L)) ∧ X.cell? ⟨g8, 2, none⟩ = some (.int .i64 (tW H)) ∧ X.cell? ⟨g8, 3, none⟩ = some (.int .i64 (wrap64 H)) ∧ X.cell? ⟨bf, 0, none⟩ = some (.func (.func 171) #[] #[]) ∧ X.cell? ⟨gt, 0, none⟩ = some (.int .i64 ah) ∧ X.cell? ⟨gt, 1, none⟩ = some (.int .i64 bl)) := ⟨m0, m1, m2, m3, m4, t0, t1⟩
        have HU : Hid (g8 < X.heap.size ∧ bf < X.heap.size ∧ gt < X.heap.size) := ⟨u2, u3, u1⟩
        clear hX hgt okX rt l0 l1 l2 l3 e0 b1 b2 b3 b4 b5 b6 b7 b8 sz u1 u2 u3 m0 m1 m2 m3 m4 t0 t1
        refine wp_region_L (fun w' => w'.cell? ⟨g8, 0, none⟩ = some (.int .i64 (tW L)) ∧ w'.cell? ⟨g8, 1, none⟩ = some (.int .i64 (wrap64 L)) ∧ w'.cell? ⟨g8, 2, none⟩ = some (.int .i64 (tW H)) ∧ w'.cell? ⟨g8, 3, none⟩ = some (.int .i64 (wrap64 H)) ∧ w'.cell? ⟨bf, 0, none⟩ = some (.func (.func 171) #[] #[]) ∧ w'.cell? ⟨gt, 0, none⟩ = some (.int .i64 ah) ∧ w'.cell? ⟨gt, 1, none⟩ = some (.int .i64 bl)) 8 (by kernel_rfl) ?_
        refine wpAnyL_take (i := 0) (oi := { dst := some 45, op := Op.load 158 (Operand.tmp 8), type := 158, pos := "whole.go:69", after := #[], guard := Option.none }) (v := .agg #[.int .i64 (tW L), .int .i64 (wrap64 L), .int .i64 (tW H), .int .i64 (wrap64 H)]) rfl (by kernel_rfl) (by kernel_rfl) (by kernel_rfl) (by kernel_rfl) (fun _ _ _ h => h) HM.out (Or.inl ⟨by rfl, ?_⟩) ?_
        · intro w' hSw
          obtain ⟨s0, s1, s2, s3, s4, s5, s6⟩ := hSw
          go_simp
        simp only [Act.put, List.setIfInBounds_toArray, List.set_cons_zero, List.set_cons_succ]
        refine wpAnyL_take (i := 1) (oi := { dst := some 46, op := Op.load 154 (Operand.tmp 2), type := 154, pos := "whole.go:69", after := #[], guard := Option.none }) (v := .func (.func 171) #[] #[]) rfl (by kernel_rfl) (by kernel_rfl) (by kernel_rfl) (by kernel_rfl) (fun _ _ _ h => h) HM.out (Or.inl ⟨by rfl, ?_⟩) ?_
        · intro w' hSw
          obtain ⟨s0, s1, s2, s3, s4, s5, s6⟩ := hSw
          go_simp
        simp only [Act.put, List.setIfInBounds_toArray, List.set_cons_zero, List.set_cons_succ]
        refine wpAnyL_take (i := 2) (oi := { dst := some 47, op := Op.indexAddr 173 (Operand.tmp 10) (Operand.const (Value.int IntKind.i64 0)), type := 0, pos := "whole.go:69", after := #[], guard := Option.none }) (v := .pointer (some ⟨gt, 0, none⟩)) rfl (by kernel_rfl) (by kernel_rfl) (by kernel_rfl) (by kernel_rfl) (fun _ _ _ h => h) HM.out (Or.inl ⟨by rfl, ?_⟩) ?_
        · intro w' hSw
          obtain ⟨s0, s1, s2, s3, s4, s5, s6⟩ := hSw
          go_simp
        simp only [Act.put, List.setIfInBounds_toArray, List.set_cons_zero, List.set_cons_succ]
        refine wpAnyL_take (i := 3) (oi := { dst := some 48, op := Op.load 2 (Operand.tmp 47), type := 2, pos := "whole.go:69", after := #[{ on := 2, ground := Ground.data }], guard := Option.none }) (v := .int .i64 ah) rfl (by kernel_rfl) (by kernel_rfl) (by kernel_rfl) (by kernel_rfl) (fun _ _ _ h => h) HM.out (Or.inl ⟨by rfl, ?_⟩) ?_
        · intro w' hSw
          obtain ⟨s0, s1, s2, s3, s4, s5, s6⟩ := hSw
          go_simp
        simp only [Act.put, List.setIfInBounds_toArray, List.set_cons_zero, List.set_cons_succ]
        refine wpAnyL_take (i := 4) (oi := { dst := some 49, op := Op.indexAddr 173 (Operand.tmp 10) (Operand.const (Value.int IntKind.i64 1)), type := 0, pos := "whole.go:69", after := #[], guard := Option.none }) (v := .pointer (some ⟨gt, 1, none⟩)) rfl (by kernel_rfl) (by kernel_rfl) (by kernel_rfl) (by kernel_rfl) (fun _ _ _ h => h) HM.out (Or.inl ⟨by rfl, ?_⟩) ?_
        · intro w' hSw
          obtain ⟨s0, s1, s2, s3, s4, s5, s6⟩ := hSw
          go_simp
        simp only [Act.put, List.setIfInBounds_toArray, List.set_cons_zero, List.set_cons_succ]
        refine wpAnyL_take (i := 5) (oi := { dst := some 50, op := Op.load 2 (Operand.tmp 49), type := 2, pos := "whole.go:69", after := #[{ on := 4, ground := Ground.data }], guard := Option.none }) (v := .int .i64 bl) rfl (by kernel_rfl) (by kernel_rfl) (by kernel_rfl) (by kernel_rfl) (fun _ _ _ h => h) HM.out (Or.inl ⟨by rfl, ?_⟩) ?_
        · intro w' hSw
          obtain ⟨s0, s1, s2, s3, s4, s5, s6⟩ := hSw
          go_simp
        simp only [Act.put, List.setIfInBounds_toArray, List.set_cons_zero, List.set_cons_succ]
        refine wpAnyL_step (i := 6) (by kernel_rfl) rfl (fun K hK => ?_)
        go_simp
        refine (HO.out _ _ (Or.inr rfl) (Or.inl rfl) X _ (Below.drew (Ok.refl _))).mono ?_
        rintro e w2 ⟨rfl, hb2⟩
        go_wp2_with fail
        refine hK.out _ _ (fun _ => ⟨Ok.cell hb2 HU.out.1 HM.out.1, Ok.cell hb2 HU.out.1 HM.out.2.1, Ok.cell hb2 HU.out.1 HM.out.2.2.1, Ok.cell hb2 HU.out.1 HM.out.2.2.2.1, Ok.cell hb2 HU.out.2.1 HM.out.2.2.2.2.1, Ok.cell hb2 HU.out.2.2 HM.out.2.2.2.2.2.1, Ok.cell hb2 HU.out.2.2 HM.out.2.2.2.2.2.2⟩) ?_
        clear hK K
        refine wpAnyL_step (i := 7) (by kernel_rfl) rfl (fun K hK => ?_)
        go_simp
        refine (pwith_is _ _ _ X _ hb2).mono ?_
        rintro e w3 ⟨rfl, hb3⟩
        go_wp2_with fail
        refine hK.out _ _ (fun _ => ⟨Ok.cell hb3 HU.out.1 HM.out.1, Ok.cell hb3 HU.out.1 HM.out.2.1, Ok.cell hb3 HU.out.1 HM.out.2.2.1, Ok.cell hb3 HU.out.1 HM.out.2.2.2.1, Ok.cell hb3 HU.out.2.1 HM.out.2.2.2.2.1, Ok.cell hb3 HU.out.2.2 HM.out.2.2.2.2.2.1, Ok.cell hb3 HU.out.2.2 HM.out.2.2.2.2.2.2⟩) ?_
        clear hK K
        have hb4 := Ok.step HX.out hb3
        obtain ⟨⟨y0, y1, y2, y3⟩, z0, z1, z2, z3⟩ := row_facts4 (Ok.row' hb4 HV.out.2.2.1)
        have H4 : Hid (Ok wr w3) := hb4
        clear hb4 hb3 hb2 HX HM HU
        refine wpAnyL_step (i := 8) (by kernel_rfl) rfl (fun K hK => ?_)
        go_simp
        refine hK.out _ _ (fun h => absurd rfl h) ?_
        clear hK K
        refine wpAnyL_done (by kernel_rfl) ?_ _
        go_wp2_with fail
        go_roundw
        case rel =>
          refine ⟨2 + 1, by omega, rfl, ?_⟩
          rw [SL.out, SH.out]
          exact HV.out.next H4.out
        case measure => simp only [intOf]; omega
      · go_wp2_with fail
        obtain ⟨gt, hgt⟩ : ∃ gt, gt = wr.heap.size := ⟨_, rfl⟩
        obtain ⟨X, hX⟩ : ∃ X, X = wr.alloc (.cells #[.int .i64 ah, .int .i64 bh] 173) := ⟨_, rfl⟩
        have okX : Ok wr X := by rw [hX]; exact (Ok.refl _).alloc _
        have rt : X.heap[gt]? = some (.cells #[.int .i64 ah, .int .i64 bh] 173) := by rw [hX]; exact heap_at _ _ _ hgt
        obtain ⟨t0, t1, _, _⟩ := row_facts rt
        have u1 := lt_row rt
        rw [← hX, ← hgt]
        have m0 := Ok.cell okX b1 l0; have m1 := Ok.cell okX b1 l1; have m2 := Ok.cell okX b1 l2; have m3 := Ok.cell okX b1 l3
        have m4 := Ok.cell okX b4 e0
        have u2 : g8 < X.heap.size := by omega
        have u3 : bf < X.heap.size := by omega
        have HX : Hid (Ok wr X) := okX
        have HM : Hid (X.cell? ⟨g8, 0, none⟩ = some (.int .i64 (tW L)) ∧ X.cell? ⟨g8, 1, none⟩ = some (.int .i64 (wrap64 L)) ∧ X.cell? ⟨g8, 2, none⟩ = some (.int .i64 (tW H)) ∧ X.cell? ⟨g8, 3, none⟩ = some (.int .i64 (wrap64 H)) ∧ X.cell? ⟨bf, 0, none⟩ = some (.func (.func 171) #[] #[]) ∧ X.cell? ⟨gt, 0, none⟩ = some (.int .i64 ah) ∧ X.cell? ⟨gt, 1, none⟩ = some (.int .i64 bh)) := ⟨m0, m1, m2, m3, m4, t0, t1⟩
        have HU : Hid (g8 < X.heap.size ∧ bf < X.heap.size ∧ gt < X.heap.size) := ⟨u2, u3, u1⟩
        clear hX hgt okX rt l0 l1 l2 l3 e0 b1 b2 b3 b4 b5 b6 b7 b8 sz u1 u2 u3 m0 m1 m2 m3 m4 t0 t1
        refine wp_region_L (fun w' => w'.cell? ⟨g8, 0, none⟩ = some (.int .i64 (tW L)) ∧ w'.cell? ⟨g8, 1, none⟩ = some (.int .i64 (wrap64 L)) ∧ w'.cell? ⟨g8, 2, none⟩ = some (.int .i64 (tW H)) ∧ w'.cell? ⟨g8, 3, none⟩ = some (.int .i64 (wrap64 H)) ∧ w'.cell? ⟨bf, 0, none⟩ = some (.func (.func 171) #[] #[]) ∧ w'.cell? ⟨gt, 0, none⟩ = some (.int .i64 ah) ∧ w'.cell? ⟨gt, 1, none⟩ = some (.int .i64 bh)) 8 (by kernel_rfl) ?_
        refine wpAnyL_take (i := 0) (oi := { dst := some 45, op := Op.load 158 (Operand.tmp 8), type := 158, pos := "whole.go:69", after := #[], guard := Option.none }) (v := .agg #[.int .i64 (tW L), .int .i64 (wrap64 L), .int .i64 (tW H), .int .i64 (wrap64 H)]) rfl (by kernel_rfl) (by kernel_rfl) (by kernel_rfl) (by kernel_rfl) (fun _ _ _ h => h) HM.out (Or.inl ⟨by rfl, ?_⟩) ?_
        · intro w' hSw
          obtain ⟨s0, s1, s2, s3, s4, s5, s6⟩ := hSw
          go_simp
        simp only [Act.put, List.setIfInBounds_toArray, List.set_cons_zero, List.set_cons_succ]
        refine wpAnyL_take (i := 1) (oi := { dst := some 46, op := Op.load 154 (Operand.tmp 2), type := 154, pos := "whole.go:69", after := #[], guard := Option.none }) (v := .func (.func 171) #[] #[]) rfl (by kernel_rfl) (by kernel_rfl) (by kernel_rfl) (by kernel_rfl) (fun _ _ _ h => h) HM.out (Or.inl ⟨by rfl, ?_⟩) ?_
        · intro w' hSw
          obtain ⟨s0, s1, s2, s3, s4, s5, s6⟩ := hSw
          go_simp
        simp only [Act.put, List.setIfInBounds_toArray, List.set_cons_zero, List.set_cons_succ]
        refine wpAnyL_take (i := 2) (oi := { dst := some 47, op := Op.indexAddr 173 (Operand.tmp 10) (Operand.const (Value.int IntKind.i64 0)), type := 0, pos := "whole.go:69", after := #[], guard := Option.none }) (v := .pointer (some ⟨gt, 0, none⟩)) rfl (by kernel_rfl) (by kernel_rfl) (by kernel_rfl) (by kernel_rfl) (fun _ _ _ h => h) HM.out (Or.inl ⟨by rfl, ?_⟩) ?_
        · intro w' hSw
          obtain ⟨s0, s1, s2, s3, s4, s5, s6⟩ := hSw
          go_simp
        simp only [Act.put, List.setIfInBounds_toArray, List.set_cons_zero, List.set_cons_succ]
        refine wpAnyL_take (i := 3) (oi := { dst := some 48, op := Op.load 2 (Operand.tmp 47), type := 2, pos := "whole.go:69", after := #[{ on := 2, ground := Ground.data }], guard := Option.none }) (v := .int .i64 ah) rfl (by kernel_rfl) (by kernel_rfl) (by kernel_rfl) (by kernel_rfl) (fun _ _ _ h => h) HM.out (Or.inl ⟨by rfl, ?_⟩) ?_
        · intro w' hSw
          obtain ⟨s0, s1, s2, s3, s4, s5, s6⟩ := hSw
          go_simp
        simp only [Act.put, List.setIfInBounds_toArray, List.set_cons_zero, List.set_cons_succ]
        refine wpAnyL_take (i := 4) (oi := { dst := some 49, op := Op.indexAddr 173 (Operand.tmp 10) (Operand.const (Value.int IntKind.i64 1)), type := 0, pos := "whole.go:69", after := #[], guard := Option.none }) (v := .pointer (some ⟨gt, 1, none⟩)) rfl (by kernel_rfl) (by kernel_rfl) (by kernel_rfl) (by kernel_rfl) (fun _ _ _ h => h) HM.out (Or.inl ⟨by rfl, ?_⟩) ?_
        · intro w' hSw
          obtain ⟨s0, s1, s2, s3, s4, s5, s6⟩ := hSw
          go_simp
        simp only [Act.put, List.setIfInBounds_toArray, List.set_cons_zero, List.set_cons_succ]
        refine wpAnyL_take (i := 5) (oi := { dst := some 50, op := Op.load 2 (Operand.tmp 49), type := 2, pos := "whole.go:69", after := #[{ on := 4, ground := Ground.data }], guard := Option.none }) (v := .int .i64 bh) rfl (by kernel_rfl) (by kernel_rfl) (by kernel_rfl) (by kernel_rfl) (fun _ _ _ h => h) HM.out (Or.inl ⟨by rfl, ?_⟩) ?_
        · intro w' hSw
          obtain ⟨s0, s1, s2, s3, s4, s5, s6⟩ := hSw
          go_simp
        simp only [Act.put, List.setIfInBounds_toArray, List.set_cons_zero, List.set_cons_succ]
        refine wpAnyL_step (i := 6) (by kernel_rfl) rfl (fun K hK => ?_)
        go_simp
        refine (HO.out _ _ (Or.inr rfl) (Or.inr rfl) X _ (Below.drew (Ok.refl _))).mono ?_
        rintro e w2 ⟨rfl, hb2⟩
        go_wp2_with fail
        refine hK.out _ _ (fun _ => ⟨Ok.cell hb2 HU.out.1 HM.out.1, Ok.cell hb2 HU.out.1 HM.out.2.1, Ok.cell hb2 HU.out.1 HM.out.2.2.1, Ok.cell hb2 HU.out.1 HM.out.2.2.2.1, Ok.cell hb2 HU.out.2.1 HM.out.2.2.2.2.1, Ok.cell hb2 HU.out.2.2 HM.out.2.2.2.2.2.1, Ok.cell hb2 HU.out.2.2 HM.out.2.2.2.2.2.2⟩) ?_
        clear hK K
        refine wpAnyL_step (i := 7) (by kernel_rfl) rfl (fun K hK => ?_)
        go_simp
        refine (pwith_is _ _ _ X _ hb2).mono ?_
        rintro e w3 ⟨rfl, hb3⟩
        go_wp2_with fail
        refine hK.out _ _ (fun _ => ⟨Ok.cell hb3 HU.out.1 HM.out.1, Ok.cell hb3 HU.out.1 HM.out.2.1, Ok.cell hb3 HU.out.1 HM.out.2.2.1, Ok.cell hb3 HU.out.1 HM.out.2.2.2.1, Ok.cell hb3 HU.out.2.1 HM.out.2.2.2.2.1, Ok.cell hb3 HU.out.2.2 HM.out.2.2.2.2.2.1, Ok.cell hb3 HU.out.2.2 HM.out.2.2.2.2.2.2⟩) ?_
        clear hK K
        have hb4 := Ok.step HX.out hb3
        obtain ⟨⟨y0, y1, y2, y3⟩, z0, z1, z2, z3⟩ := row_facts4 (Ok.row' hb4 HV.out.2.2.1)
        have H4 : Hid (Ok wr w3) := hb4
        clear hb4 hb3 hb2 HX HM HU
        refine wpAnyL_step (i := 8) (by kernel_rfl) rfl (fun K hK => ?_)
        go_simp
        refine hK.out _ _ (fun h => absurd rfl h) ?_
        clear hK K
        refine wpAnyL_done (by kernel_rfl) ?_ _
        go_wp2_with fail
        go_roundw
        case rel =>
          refine ⟨3 + 1, by omega, rfl, ?_⟩
          rw [SL.out, SH.out]
          exact HV.out.next H4.out
        case measure => simp only [intOf]; omega
    · have hk2 : k = 4 := by omega
      subst hk2
      obtain ⟨⟨y0, y1, y2, y3⟩, z0, z1, z2, z3⟩ := row_facts4 HI.out.2.2.1
      obtain ⟨⟨x0, x1, x2, x3⟩, v0, v1, v2, v3⟩ := row_facts4 HI.out.2.1
      go_wp2_with fail
      (try simp only [Exit.inBlock, Exit.then])
      refine bodyPost_ret (results_cell_row rfl _ _ (w.heap.size + 2) 158 #[_, _, _, _] (0, 0) _ rfl (Jrow_set4 HI.out.2.1 _ _ _ _) Tryz.underlying158 rfl infoS) rfl ?_
      exact ⟨rfl, (((HI.out.1.set (show w.heap.size ≤ w.heap.size + 2 by omega) _).set (show w.heap.size ≤ w.heap.size + 2 by omega) _).set (show w.heap.size ≤ w.heap.size + 2 by omega) _).set (show w.heap.size ≤ w.heap.size + 2 by omega) _⟩
end Go.Proofs.YtbkblijoimmdeaaGreat
