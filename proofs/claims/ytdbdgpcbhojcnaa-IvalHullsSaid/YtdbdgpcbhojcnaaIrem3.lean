import Derived.Test.YtdbdgpcbhojcnaaIrem0
import Derived.Deep.RegionHeld3
set_option linter.unusedVariables false
set_option linter.unusedSimpArgs false
set_option linter.unnecessarySimpa false
namespace Go.Proofs.Ytdbdgpcbhojcnaa
open Go.RowKit
set_option maxHeartbeats 4000000 in
theorem rrem_Bnear (al ah bl bh : Int) (w : World) (ha1 : In64 al) (ha2 : In64 ah) (hb1 : In64 bl) (hb2 : In64 bh) (e1 : ¬ ah < al) (e2 : ¬ (rDn bl bh).2 < (rDn bl bh).1) (e3 : (rUp bl bh).2 < (rUp bl bh).1) (k : ¬ (al = ah ∧ bl = bh)) (kn : max (farI al) (farI ah) < remNear bl bh) :
    Calls Try.prog 35 #[.agg #[.int .i64 al, .int .i64 ah], .agg #[.int .i64 bl, .int .i64 bh]] w fun e w' => e = .returned (.tuple #[.agg #[.int .i64 (remI al ah bl bh).1, .int .i64 (remI al ah bl bh).2.1], .bool (remI al ah bl bh).2.2]) ∧ Ok w w' := by
  have hnb : ¬ (ah < al ∨ ((rDn bl bh).2 < (rDn bl bh).1 ∧ (rUp bl bh).2 < (rUp bl bh).1)) := by omega
  have E : Hid _ := remI_near hnb k kn
  have HNe : remNear bl bh = farI (rDn bl bh).2 := by unfold remNear; rw [if_neg e2, if_pos e3]; have := far_bds hb1 hb2; omega
  have HM0 : remMost bl bh = farI (rDn bl bh).1 := by unfold remMost; rw [if_neg e2, if_pos e3]; have := far_bds hb1 hb2; omega
  rw [HNe] at kn
  have HM1 : Hid _ := HM0
  clear HM0 HNe hnb
  have HU : Hid (rUp bl bh = meetI bl bh 1 9223372036854775807) := rfl
  have HD : Hid (rDn bl bh = meetI bl bh (-9223372036854775808) (-1)) := rfl
  go_enter Try.func35, Try.ntmps35
  go_wp2_with fail
  refine (rmeet_any _ _ _ _ _ _ (Ok.refl _)).mono ?_
  rintro e w1 ⟨rfl, hc1⟩
  have ra := Ok.rowR (g := w.heap.size) (o := (.cells #[.int .i64 al, .int .i64 ah] 23)) hc1 (by repeat (first | (refine heap_at _ _ _ ?hx; case hx => (first | (simp; done) | (simp; omega))) | (refine heap_past _ _ _ ?hy ?_; case hy => (first | (simp; done) | (simp; omega))) | fail))
  have rb := Ok.rowR (g := w.heap.size + 1) (o := (.cells #[.int .i64 bl, .int .i64 bh] 23)) hc1 (by repeat (first | (refine heap_at _ _ _ ?hx; case hx => (first | (simp; done) | (simp; omega))) | (refine heap_past _ _ _ ?hy ?_; case hy => (first | (simp; done) | (simp; omega))) | fail))
  have rr := Ok.rowR (g := w.heap.size + 2) (o := (.cells #[.int .i64 0, .int .i64 0] 23)) hc1 (by repeat (first | (refine heap_at _ _ _ ?hx; case hx => (first | (simp; done) | (simp; omega))) | (refine heap_past _ _ _ ?hy ?_; case hy => (first | (simp; done) | (simp; omega))) | fail))
  have ok1 : Ok w w1 := Ok.step (by repeat (first | exact Ok.refl _ | refine Ok.alloc ?_ _ | fail)) hc1
  rw [← HD.out]
  generalize hDD : rDn bl bh = D at *
  obtain ⟨b0, b1, _, _⟩ := row_facts rb
  have l1 := lt_rowV rr
  have z1 : w.heap.size + 1 < w1.heap.size := by omega
  have z2 : ¬ w.heap.size + 1 = w1.heap.size := by omega
  go_wp2_with fail
  refine (rmeet_any _ _ _ _ _ _ (Ok.refl _)).mono ?_
  rintro e w2 ⟨rfl, hc2⟩
  rw [← HU.out]
  generalize hUU : rUp bl bh = U at *
  have ok12 : Ok w1 w2 := Ok.step ((Ok.refl _).alloc _) hc2
  have rd := Ok.rowR hc2 (heap_new0 _ _)
  obtain ⟨gd, hgd⟩ : ∃ gd, gd = w1.heap.size := ⟨_, rfl⟩
  obtain ⟨gu, hgu⟩ : ∃ gu, gu = w2.heap.size := ⟨_, rfl⟩
  obtain ⟨X, hX⟩ : ∃ X, X = w2.alloc (.cells #[.int .i64 U.1, .int .i64 U.2] 23) := ⟨_, rfl⟩
  have ok2X : Ok w2 X := by rw [hX]; exact (Ok.refl _).alloc _
  have HI : Hid (RemInv al ah bl bh w X gd gu D U) := by
    have l2 := lt_rowV rd
    refine ⟨(ok1.step ok12).step ok2X, Ok.rowR (ok12.step ok2X) ra, Ok.rowR (ok12.step ok2X) rb, Ok.rowR (ok12.step ok2X) rr, ?_, ?_, ?_, ?_⟩
    · rw [hgd]; exact Ok.rowR ok2X rd
    · rw [hX]; exact heap_at _ _ _ hgu
    · omega
    · omega
  have HDU : Hid _ := And.intro hDD hUU
  have ra2 := Ok.rowR ok12 ra
  obtain ⟨a0, a1, _, _⟩ := row_facts ra2
  have y1 := lt_rowV ra2
  have y2 : ¬ w.heap.size = w2.heap.size := by omega
  go_wp2_with fail
  rw [← hX, ← hgd, ← hgu]
  clear a0 a1 y1 y2 ra2 b0 b1 ra rb rr rd l1 z1 z2 ok1 ok12 ok2X hX hgd hgu hDD hUU hc1 hc2
  obtain ⟨_, ra, rb, rr, rd, ru, j0, j1⟩ := HI.out
  obtain ⟨a0, a1, _, _⟩ := row_facts ra
  obtain ⟨b0, b1, _, _⟩ := row_facts rb
  obtain ⟨r0, r1, r2, r3⟩ := row_facts rr
  obtain ⟨d0, d1, _, _⟩ := row_facts rd
  obtain ⟨u0, u1, _, _⟩ := row_facts ru
  have s0 := lt_rowV ra
  have s1 := lt_rowV rb
  have s2 := lt_rowV rr
  have s3 := lt_rowV rd
  have s4 := lt_rowV ru
  have xa0 : w.heap.size < X.heap.size := by omega
  have xa1 : w.heap.size < X.heap.size + 1 := by omega
  have xa2 : w.heap.size < X.heap.size + 1 + 1 := by omega
  have xa3 : w.heap.size < X.heap.size + 1 + 1 + 1 := by omega
  have xa4 : w.heap.size < X.heap.size + 1 + 1 + 1 + 1 := by omega
  have xa5 : w.heap.size < X.heap.size + 1 + 1 + 1 + 1 + 1 := by omega
  have xb0 : w.heap.size + 1 < X.heap.size := by omega
  have xb1 : w.heap.size + 1 < X.heap.size + 1 := by omega
  have xb2 : w.heap.size + 1 < X.heap.size + 1 + 1 := by omega
  have xb3 : w.heap.size + 1 < X.heap.size + 1 + 1 + 1 := by omega
  have xb4 : w.heap.size + 1 < X.heap.size + 1 + 1 + 1 + 1 := by omega
  have xb5 : w.heap.size + 1 < X.heap.size + 1 + 1 + 1 + 1 + 1 := by omega
  have xr0 : w.heap.size + 1 + 1 < X.heap.size := by omega
  have xr1 : w.heap.size + 1 + 1 < X.heap.size + 1 := by omega
  have xr2 : w.heap.size + 1 + 1 < X.heap.size + 1 + 1 := by omega
  have xr3 : w.heap.size + 1 + 1 < X.heap.size + 1 + 1 + 1 := by omega
  have xr4 : w.heap.size + 1 + 1 < X.heap.size + 1 + 1 + 1 + 1 := by omega
  have xr5 : w.heap.size + 1 + 1 < X.heap.size + 1 + 1 + 1 + 1 + 1 := by omega
  have xd0 : gd < X.heap.size := by omega
  have xd1 : gd < X.heap.size + 1 := by omega
  have xd2 : gd < X.heap.size + 1 + 1 := by omega
  have xd3 : gd < X.heap.size + 1 + 1 + 1 := by omega
  have xd4 : gd < X.heap.size + 1 + 1 + 1 + 1 := by omega
  have xd5 : gd < X.heap.size + 1 + 1 + 1 + 1 + 1 := by omega
  have xu0 : gu < X.heap.size := by omega
  have xu1 : gu < X.heap.size + 1 := by omega
  have xu2 : gu < X.heap.size + 1 + 1 := by omega
  have xu3 : gu < X.heap.size + 1 + 1 + 1 := by omega
  have xu4 : gu < X.heap.size + 1 + 1 + 1 + 1 := by omega
  have xu5 : gu < X.heap.size + 1 + 1 + 1 + 1 + 1 := by omega
  clear ra rb rr rd ru
  have cD := rDn_cases hb1 hb2
  have cU := rUp_cases hb1 hb2
  rw [HDU.out.1] at cD
  rw [HDU.out.2] at cU
  have IA : In64 D.1 ∧ In64 D.2 ∧ In64 U.1 ∧ In64 U.2 := by unfold In64; rcases cD with c | c <;> rcases cU with c' | c' <;> (try rw [c]) <;> (try rw [c']) <;> (try simp only) <;> (try simp only at c) <;> (try simp only at c') <;> omega
  obtain ⟨i1, i2, i3, i4⟩ := IA
  have f2 : decide (D.2 < D.1) = false := decide_eq_false (by omega)
  have f3 : decide (U.2 < U.1) = true := decide_eq_true (by omega)
  have pD : D.1 ≤ D.2 ∧ D.2 ≤ -1 := by rcases cD with c | c; · rw [c] at e2; simp only at e2; omega
                                       · omega
  have fB2 : 0 < farI D.1 := by unfold farI; split <;> omega
  have HMx : Hid (remMost bl bh = farI D.1) := HM1.out
  obtain ⟨m, hm⟩ : ∃ m, farI D.1 = m + 1 := ⟨farI D.1 - 1, by omega⟩
  have hm0 : 0 ≤ m ∧ m ≤ 9223372036854775807 := by
    have q1 := i1; have q2 := i2; have q3 := i3; have q4 := i4
    revert hm; unfold farI; unfold In64 at q1 q2 q3 q4; intro hm; split at hm <;> omega
  obtain ⟨hm1, hm2⟩ := hm0
  have HMo : Hid (remMost bl bh = m + 1) := by unfold Hid; rw [HMx.out, hm]
  have hw1 : IntKind.u64.wrap m = m := by rw [u64w]; omega
  have hw2 : wrap64 m = m := by unfold wrap64; omega
  have hw3 : wrap64 (-m) = -m := by unfold wrap64; omega
  have n1 : farI al < farI D.2 := by omega
  have n2 : farI ah < farI D.2 := by omega
  have f1 : decide (ah < al) = false := decide_eq_false (by omega)
  by_cases K : al = ah
  · have K1 : (al == ah) = true := by rw [beq_iff_eq]; exact K
    have K2 : (bl == bh) = false := by rw [beq_eq_false_iff_ne]; exact fun h => k ⟨K, h⟩
    have HKK : Hid _ := And.intro K k
    clear k K
    refine (rempty_ex _ _ _).mono ?_
    rintro e w' ⟨rfl, rfl⟩
    go_wp2_with (first | (go_at_call 40; refine (rempty_ex _ _ _).mono ?_; rintro e w' ⟨rfl, rfl⟩) | (go_at_call 43; refine (rnone_any _).mono ?_; rintro e w' ⟨rfl, rfl⟩) | (go_at_call 72; refine (rfar_any _ (by assumption) _).mono ?_; rintro e w' ⟨rfl, rfl⟩) | fail)
    obtain ⟨Y, hY⟩ : ∃ Y, Y = (((X.alloc (.cells #[.int .i64 al, .int .i64 ah] 23)).alloc (.cells #[.int .i64 D.1, .int .i64 D.2] 23)).alloc (.cells #[.int .i64 D.1, .int .i64 D.2] 23)).alloc (.cells #[.int .i64 U.1, .int .i64 U.2] 23) := ⟨_, rfl⟩
    have okXY : Ok X Y := by rw [hY]; exact (by repeat (first | exact Ok.refl _ | refine Ok.alloc ?_ _ | fail))
    rw [← hY]
    clear hY
    have a0' := Ok.cell okXY xa0 a0
    have a1' := Ok.cell okXY xa0 a1
    have HR5 : Hid _ := Ok.rowR okXY HI.out.2.2.2.1
    obtain ⟨r0', r1', r2', r3'⟩ := row_facts HR5.out
    have okWY : Ok w Y := HI.out.1.step okXY
    have HOY : Hid _ := okWY
    have xx := okXY.le
    have x1' : w.heap.size < Y.heap.size := by omega
    have x2' : w.heap.size + 1 + 1 < Y.heap.size := by omega
    clear a0 a1 b0 b1 r0 r1 r2 r3 d0 d1 u0 u1 s0 s1 s2 s3 s4 j0 j1 okXY okWY xx cD cU xa0 xa1 xa2 xa3 xa4 xa5 xb0 xb1 xb2 xb3 xb4 xb5 xr0 xr1 xr2 xr3 xr4 xr5 xd0 xd1 xd2 xd3 xd4 xd5 xu0 xu1 xu2 xu3 xu4 xu5
    go_region_held3 (fun w' => w'.cell? ⟨w.heap.size, 0, none⟩ = some (.int .i64 al) ∧ w'.cell? ⟨w.heap.size, 1, none⟩ = some (.int .i64 ah)) (go_keep) (first | (go_at_call 72; refine (rfar_any _ (by assumption) _).mono ?_; rintro e w' ⟨rfl, rfl⟩) | fail)
    all_goals go_wp2_with fail
    all_goals first
      | (exfalso; omega)
      | ((try simp only [Exit.inBlock, Exit.then]); refine bodyPost_ret (results_iv rfl _ _ (w.heap.size + 2) 23 #[_, _] (0, 0) _ rfl (by repeat (first | exact row_set2 HR5.out _ _ | refine heap_drewR ?_ | (refine heap_past _ _ _ ?hy ?_; case hy => (first | (simp; done) | (simp; omega))) | fail)) Try.underlying23 rfl infoI) rfl ?_; exact ⟨retib E.out, (by repeat (first | exact (Ok.set (Ok.set HOY.out (show w.heap.size ≤ w.heap.size + 2 by omega) _) (show w.heap.size ≤ w.heap.size + 2 by omega) _) | refine Below.drew ?_ | refine Ok.alloc ?_ _ | fail))⟩)
  · have K1 : (al == ah) = false := by rw [beq_eq_false_iff_ne]; exact K
    have HKK : Hid _ := And.intro K k
    clear k K
    refine (rempty_ex _ _ _).mono ?_
    rintro e w' ⟨rfl, rfl⟩
    go_wp2_with (first | (go_at_call 40; refine (rempty_ex _ _ _).mono ?_; rintro e w' ⟨rfl, rfl⟩) | (go_at_call 43; refine (rnone_any _).mono ?_; rintro e w' ⟨rfl, rfl⟩) | (go_at_call 72; refine (rfar_any _ (by assumption) _).mono ?_; rintro e w' ⟨rfl, rfl⟩) | fail)
    obtain ⟨Y, hY⟩ : ∃ Y, Y = (((X.alloc (.cells #[.int .i64 al, .int .i64 ah] 23)).alloc (.cells #[.int .i64 D.1, .int .i64 D.2] 23)).alloc (.cells #[.int .i64 D.1, .int .i64 D.2] 23)).alloc (.cells #[.int .i64 U.1, .int .i64 U.2] 23) := ⟨_, rfl⟩
    have okXY : Ok X Y := by rw [hY]; exact (by repeat (first | exact Ok.refl _ | refine Ok.alloc ?_ _ | fail))
    rw [← hY]
    clear hY
    have a0' := Ok.cell okXY xa0 a0
    have a1' := Ok.cell okXY xa0 a1
    have HR5 : Hid _ := Ok.rowR okXY HI.out.2.2.2.1
    obtain ⟨r0', r1', r2', r3'⟩ := row_facts HR5.out
    have okWY : Ok w Y := HI.out.1.step okXY
    have HOY : Hid _ := okWY
    have xx := okXY.le
    have x1' : w.heap.size < Y.heap.size := by omega
    have x2' : w.heap.size + 1 + 1 < Y.heap.size := by omega
    clear a0 a1 b0 b1 r0 r1 r2 r3 d0 d1 u0 u1 s0 s1 s2 s3 s4 j0 j1 okXY okWY xx cD cU xa0 xa1 xa2 xa3 xa4 xa5 xb0 xb1 xb2 xb3 xb4 xb5 xr0 xr1 xr2 xr3 xr4 xr5 xd0 xd1 xd2 xd3 xd4 xd5 xu0 xu1 xu2 xu3 xu4 xu5
    go_region_held3 (fun w' => w'.cell? ⟨w.heap.size, 0, none⟩ = some (.int .i64 al) ∧ w'.cell? ⟨w.heap.size, 1, none⟩ = some (.int .i64 ah)) (go_keep) (first | (go_at_call 72; refine (rfar_any _ (by assumption) _).mono ?_; rintro e w' ⟨rfl, rfl⟩) | fail)
    all_goals go_wp2_with fail
    all_goals first
      | (exfalso; omega)
      | ((try simp only [Exit.inBlock, Exit.then]); refine bodyPost_ret (results_iv rfl _ _ (w.heap.size + 2) 23 #[_, _] (0, 0) _ rfl (by repeat (first | exact row_set2 HR5.out _ _ | refine heap_drewR ?_ | (refine heap_past _ _ _ ?hy ?_; case hy => (first | (simp; done) | (simp; omega))) | fail)) Try.underlying23 rfl infoI) rfl ?_; exact ⟨retib E.out, (by repeat (first | exact (Ok.set (Ok.set HOY.out (show w.heap.size ≤ w.heap.size + 2 by omega) _) (show w.heap.size ≤ w.heap.size + 2 by omega) _) | refine Below.drew ?_ | refine Ok.alloc ?_ _ | fail))⟩)
set_option maxHeartbeats 4000000 in
theorem rrem_Bfar (al ah bl bh : Int) (w : World) (ha1 : In64 al) (ha2 : In64 ah) (hb1 : In64 bl) (hb2 : In64 bh) (e1 : ¬ ah < al) (e2 : ¬ (rDn bl bh).2 < (rDn bl bh).1) (e3 : (rUp bl bh).2 < (rUp bl bh).1) (k : ¬ (al = ah ∧ bl = bh)) (kn : ¬ max (farI al) (farI ah) < remNear bl bh) :
    Calls Try.prog 35 #[.agg #[.int .i64 al, .int .i64 ah], .agg #[.int .i64 bl, .int .i64 bh]] w fun e w' => e = .returned (.tuple #[.agg #[.int .i64 (remI al ah bl bh).1, .int .i64 (remI al ah bl bh).2.1], .bool (remI al ah bl bh).2.2]) ∧ Ok w w' := by
  have hnb : ¬ (ah < al ∨ ((rDn bl bh).2 < (rDn bl bh).1 ∧ (rUp bl bh).2 < (rUp bl bh).1)) := by omega
  have E : Hid _ := remI_far hnb k kn
  have HNe : remNear bl bh = farI (rDn bl bh).2 := by unfold remNear; rw [if_neg e2, if_pos e3]; have := far_bds hb1 hb2; omega
  have HM0 : remMost bl bh = farI (rDn bl bh).1 := by unfold remMost; rw [if_neg e2, if_pos e3]; have := far_bds hb1 hb2; omega
  rw [HNe] at kn
  have HM1 : Hid _ := HM0
  clear HM0 HNe hnb
  have HU : Hid (rUp bl bh = meetI bl bh 1 9223372036854775807) := rfl
  have HD : Hid (rDn bl bh = meetI bl bh (-9223372036854775808) (-1)) := rfl
  go_enter Try.func35, Try.ntmps35
  go_wp2_with fail
  refine (rmeet_any _ _ _ _ _ _ (Ok.refl _)).mono ?_
  rintro e w1 ⟨rfl, hc1⟩
  have ra := Ok.rowR (g := w.heap.size) (o := (.cells #[.int .i64 al, .int .i64 ah] 23)) hc1 (by repeat (first | (refine heap_at _ _ _ ?hx; case hx => (first | (simp; done) | (simp; omega))) | (refine heap_past _ _ _ ?hy ?_; case hy => (first | (simp; done) | (simp; omega))) | fail))
  have rb := Ok.rowR (g := w.heap.size + 1) (o := (.cells #[.int .i64 bl, .int .i64 bh] 23)) hc1 (by repeat (first | (refine heap_at _ _ _ ?hx; case hx => (first | (simp; done) | (simp; omega))) | (refine heap_past _ _ _ ?hy ?_; case hy => (first | (simp; done) | (simp; omega))) | fail))
  have rr := Ok.rowR (g := w.heap.size + 2) (o := (.cells #[.int .i64 0, .int .i64 0] 23)) hc1 (by repeat (first | (refine heap_at _ _ _ ?hx; case hx => (first | (simp; done) | (simp; omega))) | (refine heap_past _ _ _ ?hy ?_; case hy => (first | (simp; done) | (simp; omega))) | fail))
  have ok1 : Ok w w1 := Ok.step (by repeat (first | exact Ok.refl _ | refine Ok.alloc ?_ _ | fail)) hc1
  rw [← HD.out]
  generalize hDD : rDn bl bh = D at *
  obtain ⟨b0, b1, _, _⟩ := row_facts rb
  have l1 := lt_rowV rr
  have z1 : w.heap.size + 1 < w1.heap.size := by omega
  have z2 : ¬ w.heap.size + 1 = w1.heap.size := by omega
  go_wp2_with fail
  refine (rmeet_any _ _ _ _ _ _ (Ok.refl _)).mono ?_
  rintro e w2 ⟨rfl, hc2⟩
  rw [← HU.out]
  generalize hUU : rUp bl bh = U at *
  have ok12 : Ok w1 w2 := Ok.step ((Ok.refl _).alloc _) hc2
  have rd := Ok.rowR hc2 (heap_new0 _ _)
  obtain ⟨gd, hgd⟩ : ∃ gd, gd = w1.heap.size := ⟨_, rfl⟩
  obtain ⟨gu, hgu⟩ : ∃ gu, gu = w2.heap.size := ⟨_, rfl⟩
  obtain ⟨X, hX⟩ : ∃ X, X = w2.alloc (.cells #[.int .i64 U.1, .int .i64 U.2] 23) := ⟨_, rfl⟩
  have ok2X : Ok w2 X := by rw [hX]; exact (Ok.refl _).alloc _
  have HI : Hid (RemInv al ah bl bh w X gd gu D U) := by
    have l2 := lt_rowV rd
    refine ⟨(ok1.step ok12).step ok2X, Ok.rowR (ok12.step ok2X) ra, Ok.rowR (ok12.step ok2X) rb, Ok.rowR (ok12.step ok2X) rr, ?_, ?_, ?_, ?_⟩
    · rw [hgd]; exact Ok.rowR ok2X rd
    · rw [hX]; exact heap_at _ _ _ hgu
    · omega
    · omega
  have HDU : Hid _ := And.intro hDD hUU
  have ra2 := Ok.rowR ok12 ra
  obtain ⟨a0, a1, _, _⟩ := row_facts ra2
  have y1 := lt_rowV ra2
  have y2 : ¬ w.heap.size = w2.heap.size := by omega
  go_wp2_with fail
  rw [← hX, ← hgd, ← hgu]
  clear a0 a1 y1 y2 ra2 b0 b1 ra rb rr rd l1 z1 z2 ok1 ok12 ok2X hX hgd hgu hDD hUU hc1 hc2
  obtain ⟨_, ra, rb, rr, rd, ru, j0, j1⟩ := HI.out
  obtain ⟨a0, a1, _, _⟩ := row_facts ra
  obtain ⟨b0, b1, _, _⟩ := row_facts rb
  obtain ⟨r0, r1, r2, r3⟩ := row_facts rr
  obtain ⟨d0, d1, _, _⟩ := row_facts rd
  obtain ⟨u0, u1, _, _⟩ := row_facts ru
  have s0 := lt_rowV ra
  have s1 := lt_rowV rb
  have s2 := lt_rowV rr
  have s3 := lt_rowV rd
  have s4 := lt_rowV ru
  have xa0 : w.heap.size < X.heap.size := by omega
  have xa1 : w.heap.size < X.heap.size + 1 := by omega
  have xa2 : w.heap.size < X.heap.size + 1 + 1 := by omega
  have xa3 : w.heap.size < X.heap.size + 1 + 1 + 1 := by omega
  have xa4 : w.heap.size < X.heap.size + 1 + 1 + 1 + 1 := by omega
  have xa5 : w.heap.size < X.heap.size + 1 + 1 + 1 + 1 + 1 := by omega
  have xb0 : w.heap.size + 1 < X.heap.size := by omega
  have xb1 : w.heap.size + 1 < X.heap.size + 1 := by omega
  have xb2 : w.heap.size + 1 < X.heap.size + 1 + 1 := by omega
  have xb3 : w.heap.size + 1 < X.heap.size + 1 + 1 + 1 := by omega
  have xb4 : w.heap.size + 1 < X.heap.size + 1 + 1 + 1 + 1 := by omega
  have xb5 : w.heap.size + 1 < X.heap.size + 1 + 1 + 1 + 1 + 1 := by omega
  have xr0 : w.heap.size + 1 + 1 < X.heap.size := by omega
  have xr1 : w.heap.size + 1 + 1 < X.heap.size + 1 := by omega
  have xr2 : w.heap.size + 1 + 1 < X.heap.size + 1 + 1 := by omega
  have xr3 : w.heap.size + 1 + 1 < X.heap.size + 1 + 1 + 1 := by omega
  have xr4 : w.heap.size + 1 + 1 < X.heap.size + 1 + 1 + 1 + 1 := by omega
  have xr5 : w.heap.size + 1 + 1 < X.heap.size + 1 + 1 + 1 + 1 + 1 := by omega
  have xd0 : gd < X.heap.size := by omega
  have xd1 : gd < X.heap.size + 1 := by omega
  have xd2 : gd < X.heap.size + 1 + 1 := by omega
  have xd3 : gd < X.heap.size + 1 + 1 + 1 := by omega
  have xd4 : gd < X.heap.size + 1 + 1 + 1 + 1 := by omega
  have xd5 : gd < X.heap.size + 1 + 1 + 1 + 1 + 1 := by omega
  have xu0 : gu < X.heap.size := by omega
  have xu1 : gu < X.heap.size + 1 := by omega
  have xu2 : gu < X.heap.size + 1 + 1 := by omega
  have xu3 : gu < X.heap.size + 1 + 1 + 1 := by omega
  have xu4 : gu < X.heap.size + 1 + 1 + 1 + 1 := by omega
  have xu5 : gu < X.heap.size + 1 + 1 + 1 + 1 + 1 := by omega
  clear ra rb rr rd ru
  have cD := rDn_cases hb1 hb2
  have cU := rUp_cases hb1 hb2
  rw [HDU.out.1] at cD
  rw [HDU.out.2] at cU
  have IA : In64 D.1 ∧ In64 D.2 ∧ In64 U.1 ∧ In64 U.2 := by unfold In64; rcases cD with c | c <;> rcases cU with c' | c' <;> (try rw [c]) <;> (try rw [c']) <;> (try simp only) <;> (try simp only at c) <;> (try simp only at c') <;> omega
  obtain ⟨i1, i2, i3, i4⟩ := IA
  have f2 : decide (D.2 < D.1) = false := decide_eq_false (by omega)
  have f3 : decide (U.2 < U.1) = true := decide_eq_true (by omega)
  have pD : D.1 ≤ D.2 ∧ D.2 ≤ -1 := by rcases cD with c | c; · rw [c] at e2; simp only at e2; omega
                                       · omega
  have fB2 : 0 < farI D.1 := by unfold farI; split <;> omega
  have HMx : Hid (remMost bl bh = farI D.1) := HM1.out
  obtain ⟨m, hm⟩ : ∃ m, farI D.1 = m + 1 := ⟨farI D.1 - 1, by omega⟩
  have hm0 : 0 ≤ m ∧ m ≤ 9223372036854775807 := by
    have q1 := i1; have q2 := i2; have q3 := i3; have q4 := i4
    revert hm; unfold farI; unfold In64 at q1 q2 q3 q4; intro hm; split at hm <;> omega
  obtain ⟨hm1, hm2⟩ := hm0
  have HMo : Hid (remMost bl bh = m + 1) := by unfold Hid; rw [HMx.out, hm]
  have hw1 : IntKind.u64.wrap m = m := by rw [u64w]; omega
  have hw2 : wrap64 m = m := by unfold wrap64; omega
  have hw3 : wrap64 (-m) = -m := by unfold wrap64; omega
  have f1 : decide (ah < al) = false := decide_eq_false (by omega)
  by_cases K : al = ah
  · have K1 : (al == ah) = true := by rw [beq_iff_eq]; exact K
    have K2 : (bl == bh) = false := by rw [beq_eq_false_iff_ne]; exact fun h => k ⟨K, h⟩
    have HKK : Hid _ := And.intro K k
    clear k K
    refine (rempty_ex _ _ _).mono ?_
    rintro e w' ⟨rfl, rfl⟩
    go_wp2_with (first | (go_at_call 40; refine (rempty_ex _ _ _).mono ?_; rintro e w' ⟨rfl, rfl⟩) | (go_at_call 43; refine (rnone_any _).mono ?_; rintro e w' ⟨rfl, rfl⟩) | (go_at_call 72; refine (rfar_any _ (by assumption) _).mono ?_; rintro e w' ⟨rfl, rfl⟩) | fail)
    obtain ⟨Y, hY⟩ : ∃ Y, Y = (((X.alloc (.cells #[.int .i64 al, .int .i64 ah] 23)).alloc (.cells #[.int .i64 D.1, .int .i64 D.2] 23)).alloc (.cells #[.int .i64 D.1, .int .i64 D.2] 23)).alloc (.cells #[.int .i64 U.1, .int .i64 U.2] 23) := ⟨_, rfl⟩
    have okXY : Ok X Y := by rw [hY]; exact (by repeat (first | exact Ok.refl _ | refine Ok.alloc ?_ _ | fail))
    rw [← hY]
    clear hY
    have a0' := Ok.cell okXY xa0 a0
    have a1' := Ok.cell okXY xa0 a1
    have HR5 : Hid _ := Ok.rowR okXY HI.out.2.2.2.1
    obtain ⟨r0', r1', r2', r3'⟩ := row_facts HR5.out
    have okWY : Ok w Y := HI.out.1.step okXY
    have HOY : Hid _ := okWY
    have xx := okXY.le
    have x1' : w.heap.size < Y.heap.size := by omega
    have x2' : w.heap.size + 1 + 1 < Y.heap.size := by omega
    clear a0 a1 b0 b1 r0 r1 r2 r3 d0 d1 u0 u1 s0 s1 s2 s3 s4 j0 j1 okXY okWY xx cD cU xa0 xa1 xa2 xa3 xa4 xa5 xb0 xb1 xb2 xb3 xb4 xb5 xr0 xr1 xr2 xr3 xr4 xr5 xd0 xd1 xd2 xd3 xd4 xd5 xu0 xu1 xu2 xu3 xu4 xu5
    go_region_held3 (fun w' => w'.cell? ⟨w.heap.size, 0, none⟩ = some (.int .i64 al) ∧ w'.cell? ⟨w.heap.size, 1, none⟩ = some (.int .i64 ah)) (go_keep) (first | (go_at_call 72; refine (rfar_any _ (by assumption) _).mono ?_; rintro e w' ⟨rfl, rfl⟩) | fail)
    all_goals go_wp2_with fail
    all_goals first
      | (exfalso; omega)
      | ((try simp only [Exit.inBlock, Exit.then]); refine bodyPost_ret (results_iv rfl _ _ (w.heap.size + 2) 23 #[_, _] (0, 0) _ rfl (by repeat (first | exact row_set2 HR5.out _ _ | refine heap_drewR ?_ | (refine heap_past _ _ _ ?hy ?_; case hy => (first | (simp; done) | (simp; omega))) | fail)) Try.underlying23 rfl infoI) rfl ?_; exact ⟨retib (by rw [E.out, HMo.out]; (try simp only [Prod.mk.injEq, and_true]); omega), (by repeat (first | exact (Ok.set (Ok.set HOY.out (show w.heap.size ≤ w.heap.size + 2 by omega) _) (show w.heap.size ≤ w.heap.size + 2 by omega) _) | refine Below.drew ?_ | refine Ok.alloc ?_ _ | fail))⟩)
  · have K1 : (al == ah) = false := by rw [beq_eq_false_iff_ne]; exact K
    have HKK : Hid _ := And.intro K k
    clear k K
    refine (rempty_ex _ _ _).mono ?_
    rintro e w' ⟨rfl, rfl⟩
    go_wp2_with (first | (go_at_call 40; refine (rempty_ex _ _ _).mono ?_; rintro e w' ⟨rfl, rfl⟩) | (go_at_call 43; refine (rnone_any _).mono ?_; rintro e w' ⟨rfl, rfl⟩) | (go_at_call 72; refine (rfar_any _ (by assumption) _).mono ?_; rintro e w' ⟨rfl, rfl⟩) | fail)
    obtain ⟨Y, hY⟩ : ∃ Y, Y = (((X.alloc (.cells #[.int .i64 al, .int .i64 ah] 23)).alloc (.cells #[.int .i64 D.1, .int .i64 D.2] 23)).alloc (.cells #[.int .i64 D.1, .int .i64 D.2] 23)).alloc (.cells #[.int .i64 U.1, .int .i64 U.2] 23) := ⟨_, rfl⟩
    have okXY : Ok X Y := by rw [hY]; exact (by repeat (first | exact Ok.refl _ | refine Ok.alloc ?_ _ | fail))
    rw [← hY]
    clear hY
    have a0' := Ok.cell okXY xa0 a0
    have a1' := Ok.cell okXY xa0 a1
    have HR5 : Hid _ := Ok.rowR okXY HI.out.2.2.2.1
    obtain ⟨r0', r1', r2', r3'⟩ := row_facts HR5.out
    have okWY : Ok w Y := HI.out.1.step okXY
    have HOY : Hid _ := okWY
    have xx := okXY.le
    have x1' : w.heap.size < Y.heap.size := by omega
    have x2' : w.heap.size + 1 + 1 < Y.heap.size := by omega
    clear a0 a1 b0 b1 r0 r1 r2 r3 d0 d1 u0 u1 s0 s1 s2 s3 s4 j0 j1 okXY okWY xx cD cU xa0 xa1 xa2 xa3 xa4 xa5 xb0 xb1 xb2 xb3 xb4 xb5 xr0 xr1 xr2 xr3 xr4 xr5 xd0 xd1 xd2 xd3 xd4 xd5 xu0 xu1 xu2 xu3 xu4 xu5
    go_region_held3 (fun w' => w'.cell? ⟨w.heap.size, 0, none⟩ = some (.int .i64 al) ∧ w'.cell? ⟨w.heap.size, 1, none⟩ = some (.int .i64 ah)) (go_keep) (first | (go_at_call 72; refine (rfar_any _ (by assumption) _).mono ?_; rintro e w' ⟨rfl, rfl⟩) | fail)
    all_goals go_wp2_with fail
    all_goals first
      | (exfalso; omega)
      | ((try simp only [Exit.inBlock, Exit.then]); refine bodyPost_ret (results_iv rfl _ _ (w.heap.size + 2) 23 #[_, _] (0, 0) _ rfl (by repeat (first | exact row_set2 HR5.out _ _ | refine heap_drewR ?_ | (refine heap_past _ _ _ ?hy ?_; case hy => (first | (simp; done) | (simp; omega))) | fail)) Try.underlying23 rfl infoI) rfl ?_; exact ⟨retib (by rw [E.out, HMo.out]; (try simp only [Prod.mk.injEq, and_true]); omega), (by repeat (first | exact (Ok.set (Ok.set HOY.out (show w.heap.size ≤ w.heap.size + 2 by omega) _) (show w.heap.size ≤ w.heap.size + 2 by omega) _) | refine Below.drew ?_ | refine Ok.alloc ?_ _ | fail))⟩)
end Go.Proofs.Ytdbdgpcbhojcnaa
