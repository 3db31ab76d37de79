import Derived.Test.YtdbdgpcbhojcnaaIhol
set_option linter.unusedVariables false
set_option linter.unusedSimpArgs false
set_option linter.unnecessarySimpa false
/- IvalHolds: the law's walk, where both intervals have numbers. -/
namespace Go.Proofs.Ytdbdgpcbhojcnaa
open Go.RowKit
set_option maxRecDepth 100000 in
set_option maxHeartbeats 4000000 in
theorem holds_some (al ah bl bh x y : Int) (w0 w : World) (hok : Ok w0 w) (ha1 : In64 al) (ha2 : In64 ah) (hb1 : In64 bl) (hb2 : In64 bh) (hxi : In64 x) (hyi : In64 y) (e1 : al ≤ ah) (e2 : bl ≤ bh) :
    Calls Try.prog 5 #[.agg #[.int .i64 al, .int .i64 ah, .int .i64 bl, .int .i64 bh, .int .i64 x, .int .i64 y]] w fun e w' => e = .returned (.bool true) ∧ Ok w0 w' := by
  go_enter Try.func5, Try.ntmps5
  go_wp2_with fail
  obtain ⟨W, hW⟩ : ∃ W, W = w.alloc (rowP al ah bl bh x y) := ⟨_, rfl⟩
  have ra : W.heap[w.heap.size]? = some (rowP al ah bl bh x y) := by rw [hW]; exact heap_new0 _ _
  have hokW : Ok w0 W := by rw [hW]; exact hok.alloc _
  unfold rowP at hW
  rw [← hW]
  clear hW
  refine (works_any W W (Ok.refl _)).mono ?_
  rintro e w1 ⟨rfl, hb⟩
  obtain ⟨c0, c1, c2, c3, c4, c5⟩ := pair_facts (Ok.row' hb ra)
  have HW : Hid _ := And.intro ra (And.intro hokW hb)
  clear ra hokW hb
  have g0 : w.heap.size < w1.heap.size := block_lt_of_cell c0
  have b1 : Ok w1 w1 := Ok.refl _
  go_wp2_with fail
  have htok : Hid True := trivial
  go_region_held3 (fun w' => w'.cell? ⟨w.heap.size, 0, none⟩ = some (.int .i64 al) ∧ w'.cell? ⟨w.heap.size, 1, none⟩ = some (.int .i64 ah) ∧ w'.cell? ⟨w.heap.size, 2, none⟩ = some (.int .i64 bl) ∧ w'.cell? ⟨w.heap.size, 3, none⟩ = some (.int .i64 bh) ∧ w'.cell? ⟨w.heap.size, 4, none⟩ = some (.int .i64 x) ∧ w'.cell? ⟨w.heap.size, 5, none⟩ = some (.int .i64 y)) (go_keep)
    (first
    | (go_at_call 20; clear htok; refine (inside_any al ah x w1 _ (by first | assumption | exact Below.drew (by assumption)) ha1 ha2 hxi e1).mono ?_; rintro e w' ⟨⟨r, rfl, hr⟩, hb⟩; have q0 := Ok.cell hb g0 c0; have q1 := Ok.cell hb g0 c1; have q2 := Ok.cell hb g0 c2; have q3 := Ok.cell hb g0 c3; have q4 := Ok.cell hb g0 c4; have q5 := Ok.cell hb g0 c5)
    | (go_at_call 20; refine (inside_any bl bh y w1 _ (by first | assumption | exact Below.drew (by assumption)) hb1 hb2 hyi e2).mono ?_; rintro e w2 ⟨⟨s, rfl, hs⟩, hb⟩; have q0 := Ok.cell hb g0 c0; have q1 := Ok.cell hb g0 c1; have q2 := Ok.cell hb g0 c2; have q3 := Ok.cell hb g0 c3; have q4 := Ok.cell hb g0 c4; have q5 := Ok.cell hb g0 c5)
    | fail)
  have HRS : Hid _ := And.intro hr hs
  have hri : In64 r := by unfold Mem at hr; unfold In64 at *; omega
  have hsi : In64 s := by unfold Mem at hs; unfold In64 at *; omega
  have hokI : Hid (Ok W w2) := Ok.step HW.out.2.2 hb
  clear hr hs
  go_wp2_with fail
  go_loopw [8] (fun i wr => ∃ k : Nat, k ≤ 6 ∧ i = .int .i64 k ∧ Hid (Ok W wr)) (fun i _ => (6 - intOf i).toNat)
  case atStart => exact ⟨0, by omega, rfl, hokI⟩
  case round =>
    obtain ⟨k, hk, rfl, hI⟩ := hrel
    have hRW : Hid _ := Ok.row' hI.out HW.out.1
    obtain ⟨p0, p1, p2, p3, p4, p5⟩ := pair_facts hRW.out
    clear q0 q1 q2 q3 q4 q5 c0 c1 c2 c3 c4 c5 hokI
    by_cases hk1 : k < 6
    · have hk2 : (k : Int) < 6 := by omega
      go_wp2_with fail
      refine (asked_any k hk1 al ah bl bh wr wr (Ok.refl _) ha1 ha2 hb1 hb2).mono ?_
      rintro e w3 ⟨rfl, hb3⟩
      have hz := hb3.le
      have HK : Hid _ := holdK (k := k) ha1 ha2 hb1 hb2 HRS.out.1 HRS.out.2
      obtain ⟨A, hA⟩ : ∃ A, A = opK k al ah bl bh := ⟨_, rfl⟩
      rw [← hA] at HK ⊢
      clear hA p0 p1 p2 p3 p4 p5
      go_wp2_with fail
      refine (done_any k hk1 r s _ hri hsi).mono ?_
      rintro e w4 ⟨rfl, rfl⟩
      obtain ⟨Dn, hD⟩ : ∃ Dn, Dn = dnK k r s := ⟨_, rfl⟩
      rw [← hD] at HK ⊢
      clear hD
      by_cases t1 : Dn.2.1 = true
      · obtain ⟨h1, h2⟩ := HK.out t1
        have hh : Hid (hasI A.1 A.2.1 Dn.1 = true) := (has_iff _ _ _).2 h1
        have H2 : Hid _ := h2
        clear h1 h2
        go_wp2_with fail
        refine (phas_any _ _ _ _ _ (Ok.refl _)).mono ?_
        rintro e w5 ⟨rfl, hb5⟩
        rw [hh.out]
        have ok5 : Ok W w5 := Ok.step (Ok.step hI.out (hb3.alloc _)) hb5
        by_cases t2 : A.2.2 = true
        · have t3 : Dn.2.2 = false := H2.out t2
          go_wp2_with fail
          exact ⟨⟨k + 1, by omega, rfl, ok5⟩, by simp only [intOf]; omega⟩
        · replace t2 : A.2.2 = false := by simpa using t2
          go_wp2_with fail
          exact ⟨⟨k + 1, by omega, rfl, ok5⟩, by simp only [intOf]; omega⟩
      · replace t1 : Dn.2.1 = false := by simpa using t1
        go_wp2_with fail
        exact ⟨⟨k + 1, by omega, rfl, Ok.step hI.out (hb3.alloc _)⟩, by simp only [intOf]; omega⟩
    · have hg := lt_row hRW.out
      go_wp2_with fail
      refine (pjoin_any _ _ _ _ wr wr (Ok.refl _)).mono ?_
      rintro e wj ⟨rfl, hbj⟩
      obtain ⟨e0, e1', e2', e3, e4, e5⟩ := pair_facts (Ok.row' hbj hRW.out)
      have lj := hbj.le
      have x0 : w.heap.size < wj.heap.size := by omega
      have x2 : ¬ w.heap.size = wj.heap.size := by omega
      go_wp2_with fail
      refine (pmeet_any _ _ _ _ _ _ (Ok.refl _)).mono ?_
      rintro e wm ⟨rfl, hbm⟩
      obtain ⟨J, hJ⟩ : ∃ J, J = joinI al ah bl bh := ⟨_, rfl⟩
      obtain ⟨M', hM⟩ : ∃ M', M' = meetI al ah bl bh := ⟨_, rfl⟩
      have rj := Ok.row' hbm (heap_new0 _ _)
      rw [← hJ] at rj ⊢
      rw [← hM]
      obtain ⟨gj, hgj⟩ : ∃ gj, gj = wj.heap.size := ⟨_, rfl⟩
      rw [← hgj] at rj ⊢
      have okm : Ok wr wm := Ok.step (hbj.alloc _) hbm
      have rp := Ok.row' okm hRW.out
      obtain ⟨f0, f1, f2, f3, f4, f5⟩ := pair_facts rp
      obtain ⟨j0, j1, _, _⟩ := row_facts rj
      have y0 := lt_row rp
      have y1 := lt_row rj
      have HJM : Hid _ := And.intro hJ hM
      have HP : Hid _ := And.intro rp (And.intro rj okm)
      clear p0 p1 p2 p3 p4 p5 e0 e1' e2' e3 e4 e5 x0 x2 hJ hM hgj rj rp
      go_wp2_with fail
      have A1 : Hid (hasI al ah r = true) := (has_iff _ _ _).2 HRS.out.1
      have A2 : Hid (hasI J.1 J.2 r = true) := (has_iff _ _ _).2 (by rw [HJM.out.1]; exact joinI_mem (Or.inl HRS.out.1))
      have A3 : Hid (hasI J.1 J.2 s = true) := (has_iff _ _ _).2 (by rw [HJM.out.1]; exact joinI_mem (Or.inr HRS.out.2))
      have A4 : Hid (hasI M'.1 M'.2 r = hasI bl bh r) := by
        unfold Hid; rw [HJM.out.2]
        exact Bool.eq_iff_iff.2 ((has_iff _ _ _).trans ((meetI_mem _ _ _ _ _).trans (Iff.trans ⟨And.right, fun h => ⟨HRS.out.1, h⟩⟩ (has_iff _ _ _).symm)))
      have A5 : Hid (hasI M'.1 M'.2 s = hasI al ah s) := by
        unfold Hid; rw [HJM.out.2]
        exact Bool.eq_iff_iff.2 ((has_iff _ _ _).trans ((meetI_mem _ _ _ _ _).trans (Iff.trans ⟨And.left, fun h => ⟨h, HRS.out.2⟩⟩ (has_iff _ _ _).symm)))
      have A6 : Hid (leqI al ah J.1 J.2 = true) := (leqI_iff _ _ _ _).2 (fun v hv => by rw [HJM.out.1]; exact joinI_mem (Or.inl hv))
      have A7 : Hid (leqI M'.1 M'.2 bl bh = true) := (leqI_iff _ _ _ _).2 (fun v hv => by rw [HJM.out.2] at hv; exact ((meetI_mem _ _ _ _ _).1 hv).2)
      have A8 : Hid (leqI al ah bl bh = true → hasI bl bh r = true) := fun h => (has_iff _ _ _).2 ((leqI_iff _ _ _ _).1 h r HRS.out.1)
      obtain ⟨Z, hZ⟩ : ∃ Z, Z = wm.alloc (.cells #[.int .i64 M'.1, .int .i64 M'.2] 23) := ⟨_, rfl⟩
      obtain ⟨gm, hgm⟩ : ∃ gm, gm = wm.heap.size := ⟨_, rfl⟩
      have okZ : Ok wm Z := by rw [hZ]; exact (Ok.refl _).alloc _
      have rm : Z.heap[gm]? = some (.cells #[.int .i64 M'.1, .int .i64 M'.2] 23) := by rw [hZ]; exact heap_at _ _ _ hgm
      rw [← hZ, ← hgm]
      clear hZ hgm f0 f1 f2 f3 f4 f5 j0 j1 y0 y1
      have rp2 := Ok.row' okZ HP.out.1
      have rj2 := Ok.row' okZ HP.out.2.1
      obtain ⟨f0, f1, f2, f3, f4, f5⟩ := pair_facts rp2
      obtain ⟨j0, j1, _, _⟩ := row_facts rj2
      obtain ⟨m0, m1, _, _⟩ := row_facts rm
      have z0 := lt_row rp2
      have z1 := lt_row rj2
      have z2 := lt_row rm
      have HZ : Hid (Ok wr Z) := Ok.step HP.out.2.2 okZ
      clear rp2 rj2 rm okZ okm hbm hbj lj
      have bz : Ok Z Z := Ok.refl _
      go_region_held3 (fun w' => w'.cell? ⟨w.heap.size, 0, none⟩ = some (.int .i64 al) ∧ w'.cell? ⟨w.heap.size, 1, none⟩ = some (.int .i64 ah) ∧ w'.cell? ⟨w.heap.size, 2, none⟩ = some (.int .i64 bl) ∧ w'.cell? ⟨w.heap.size, 3, none⟩ = some (.int .i64 bh) ∧ w'.cell? ⟨w.heap.size, 4, none⟩ = some (.int .i64 x) ∧ w'.cell? ⟨w.heap.size, 5, none⟩ = some (.int .i64 y) ∧ w'.cell? ⟨gj, 0, none⟩ = some (.int .i64 J.1) ∧ w'.cell? ⟨gj, 1, none⟩ = some (.int .i64 J.2) ∧ w'.cell? ⟨gm, 0, none⟩ = some (.int .i64 M'.1) ∧ w'.cell? ⟨gm, 1, none⟩ = some (.int .i64 M'.2)) (go_keep)
        (first
        | (go_at_call 12; refine (phas_any _ _ _ Z _ (by first | assumption | exact Below.drew (by assumption))).mono ?_; rintro e w' ⟨rfl, hb⟩; (first | rw [A1.out] | rw [A2.out] | rw [A3.out] | rw [A4.out] | rw [A5.out] | skip); have q0 := Ok.cell hb z0 f0; have q1 := Ok.cell hb z0 f1; have q2 := Ok.cell hb z0 f2; have q3 := Ok.cell hb z0 f3; have q4 := Ok.cell hb z0 f4; have q5 := Ok.cell hb z0 f5; have q6 := Ok.cell hb z1 j0; have q7 := Ok.cell hb z1 j1; have q8 := Ok.cell hb z2 m0; have q9 := Ok.cell hb z2 m1)
        | fail)
      have G : Hid (Ok Z w') := hb
      by_cases hL : leqI al ah bl bh = true
      · have A9 : Hid (hasI bl bh r = true) := A8.out hL
        have HL : Hid _ := hL
        clear hL
        go_wp2_with fail
        refine (pleq_any _ _ _ _ Z _ G.out).mono ?_
        rintro e w5 ⟨rfl, hb5⟩
        rw [A6.out]
        have k5_0 := Ok.cell hb5 z0 f0; have k5_1 := Ok.cell hb5 z0 f1; have k5_2 := Ok.cell hb5 z0 f2; have k5_3 := Ok.cell hb5 z0 f3; have k5_4 := Ok.cell hb5 z0 f4; have k5_5 := Ok.cell hb5 z0 f5; have k5_6 := Ok.cell hb5 z1 j0; have k5_7 := Ok.cell hb5 z1 j1; have k5_8 := Ok.cell hb5 z2 m0; have k5_9 := Ok.cell hb5 z2 m1
        go_wp2_with fail
        refine (pleq_any _ _ _ _ Z _ hb5).mono ?_
        rintro e w6 ⟨rfl, hb6⟩
        rw [A7.out]
        have k6_0 := Ok.cell hb6 z0 f0; have k6_1 := Ok.cell hb6 z0 f1; have k6_2 := Ok.cell hb6 z0 f2; have k6_3 := Ok.cell hb6 z0 f3; have k6_4 := Ok.cell hb6 z0 f4; have k6_5 := Ok.cell hb6 z0 f5; have k6_6 := Ok.cell hb6 z1 j0; have k6_7 := Ok.cell hb6 z1 j1; have k6_8 := Ok.cell hb6 z2 m0; have k6_9 := Ok.cell hb6 z2 m1
        go_wp2_with fail
        refine (pleq_any _ _ _ _ Z _ hb6).mono ?_
        rintro e w7 ⟨rfl, hb7⟩
        rw [HL.out]
        have k7_0 := Ok.cell hb7 z0 f0; have k7_1 := Ok.cell hb7 z0 f1; have k7_2 := Ok.cell hb7 z0 f2; have k7_3 := Ok.cell hb7 z0 f3; have k7_4 := Ok.cell hb7 z0 f4; have k7_5 := Ok.cell hb7 z0 f5; have k7_6 := Ok.cell hb7 z1 j0; have k7_7 := Ok.cell hb7 z1 j1; have k7_8 := Ok.cell hb7 z2 m0; have k7_9 := Ok.cell hb7 z2 m1
        go_wp2_with fail
        refine (phas_any _ _ _ Z _ hb7).mono ?_
        rintro e w8 ⟨rfl, hb8⟩
        rw [A9.out]
        go_wp2_with fail
        go_ret
        exact ⟨rfl, HW.out.2.1.step (Ok.step (Ok.step hI.out HZ.out) hb8)⟩
      · have HL : Hid (leqI al ah bl bh = false) := by unfold Hid; simpa using hL
        clear hL
        go_wp2_with fail
        refine (pleq_any _ _ _ _ Z _ G.out).mono ?_
        rintro e w5 ⟨rfl, hb5⟩
        rw [A6.out]
        have k5_0 := Ok.cell hb5 z0 f0; have k5_1 := Ok.cell hb5 z0 f1; have k5_2 := Ok.cell hb5 z0 f2; have k5_3 := Ok.cell hb5 z0 f3; have k5_4 := Ok.cell hb5 z0 f4; have k5_5 := Ok.cell hb5 z0 f5; have k5_6 := Ok.cell hb5 z1 j0; have k5_7 := Ok.cell hb5 z1 j1; have k5_8 := Ok.cell hb5 z2 m0; have k5_9 := Ok.cell hb5 z2 m1
        go_wp2_with fail
        refine (pleq_any _ _ _ _ Z _ hb5).mono ?_
        rintro e w6 ⟨rfl, hb6⟩
        rw [A7.out]
        have k6_0 := Ok.cell hb6 z0 f0; have k6_1 := Ok.cell hb6 z0 f1; have k6_2 := Ok.cell hb6 z0 f2; have k6_3 := Ok.cell hb6 z0 f3; have k6_4 := Ok.cell hb6 z0 f4; have k6_5 := Ok.cell hb6 z0 f5; have k6_6 := Ok.cell hb6 z1 j0; have k6_7 := Ok.cell hb6 z1 j1; have k6_8 := Ok.cell hb6 z2 m0; have k6_9 := Ok.cell hb6 z2 m1
        go_wp2_with fail
        refine (pleq_any _ _ _ _ Z _ hb6).mono ?_
        rintro e w7 ⟨rfl, hb7⟩
        rw [HL.out]
        go_wp2_with fail
        go_ret
        exact ⟨rfl, HW.out.2.1.step (Ok.step (Ok.step hI.out HZ.out) hb7)⟩
theorem holds_any (al ah bl bh x y : Int) (w0 w : World) (hok : Ok w0 w) (ha1 : In64 al) (ha2 : In64 ah) (hb1 : In64 bl) (hb2 : In64 bh) (hxi : In64 x) (hyi : In64 y) :
    Calls Try.prog 5 #[.agg #[.int .i64 al, .int .i64 ah, .int .i64 bl, .int .i64 bh, .int .i64 x, .int .i64 y]] w fun e w' => e = .returned (.bool true) ∧ Ok w0 w' := by
  by_cases h : ah < al ∨ bh < bl
  · exact holds_none al ah bl bh x y w0 w hok ha1 ha2 hb1 hb2 h
  · exact holds_some al ah bl bh x y w0 w hok ha1 ha2 hb1 hb2 hxi hyi (by omega) (by omega)
end Go.Proofs.Ytdbdgpcbhojcnaa
