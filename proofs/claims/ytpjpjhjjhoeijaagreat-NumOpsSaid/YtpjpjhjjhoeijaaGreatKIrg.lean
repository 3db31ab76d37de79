import Derived.Deep.RegionHeld3
import Derived.Test.YtpjpjhjjhoeijaaGreatKJr
set_option linter.unusedVariables false
set_option linter.unusedSimpArgs false
set_option linter.unnecessarySimpa false
/- The document's Rem (winnowref11): contract. -/
namespace Go.Proofs.YtpjpjhjjhoeijaaGreat
open Go.RowKit
theorem lt6 {g n : Nat} (h : g < n) : g < n ∧ g < n + 1 ∧ g < n + 1 + 1 ∧ g < n + 1 + 1 + 1 ∧ g < n + 1 + 1 + 1 + 1 ∧ g < n + 1 + 1 + 1 + 1 + 1 := by omega
theorem far_m {M x : Int} (hx : In64 x) (h0 : x ≠ 0) (e : M = farI x) : ∃ m, farI x = m + 1 ∧ Hid (M = m + 1) ∧ 0 ≤ m ∧ m ≤ 9223372036854775807 := by
  refine ⟨farI x - 1, by omega, by unfold Hid; omega, ?_, ?_⟩ <;> (unfold farI; unfold In64 at hx; split <;> omega)
theorem far_ge (x : Int) : 0 ≤ farI x := by unfold farI; split <;> omega
theorem far_ub {x : Int} (hx : In64 x) : farI x < 18446744073709551615 := by unfold farI; unfold In64 at hx; split <;> omega
theorem far_gt {x : Int} (h : x ≠ 0) : 0 < farI x := by unfold farI; split <;> omega
theorem pDof {D : Int × Int} (c : D = (1, 0) ∨ (-9223372036854775808 ≤ D.1 ∧ D.1 ≤ D.2 ∧ D.2 ≤ -1)) (e : ¬ D.2 < D.1) : D.1 ≤ D.2 ∧ D.2 ≤ -1 := by
  rcases c with c | c
  · rw [c] at e; simp only at e; omega
  · omega
theorem pUof {U : Int × Int} (c : U = (1, 0) ∨ (1 ≤ U.1 ∧ U.1 ≤ U.2 ∧ U.2 ≤ 9223372036854775807)) (e : ¬ U.2 < U.1) : 1 ≤ U.1 ∧ U.1 ≤ U.2 := by
  rcases c with c | c
  · rw [c] at e; simp only at e; omega
  · omega
theorem notz {bl bh : Int} (k : bl = bh) (h : ¬ ((rDn bl bh).2 < (rDn bl bh).1 ∧ (rUp bl bh).2 < (rUp bl bh).1)) : bl ≠ 0 := by
  intro h0
  have u1 : rDn bl bh = (1, 0) := by unfold rDn meetI normI; rw [if_pos (by omega)]
  have u2 : rUp bl bh = (1, 0) := by unfold rUp meetI normI; rw [if_pos (by omega)]
  apply h; rw [u1, u2]; simp
set_option maxRecDepth 100000 in
set_option maxHeartbeats 40000000 in
theorem rrem_any (al ah bl bh : Int) (w0 w : World) (hok : Ok w0 w) (ha1 : In64 al) (ha2 : In64 ah) (hb1 : In64 bl) (hb2 : In64 bh) :
    Calls Tryz.prog 43 #[.agg #[.int .i64 al, .int .i64 ah], .agg #[.int .i64 bl, .int .i64 bh]] w fun e w' => e = .returned (.tuple #[.agg #[.int .i64 (remI al ah bl bh).1, .int .i64 (remI al ah bl bh).2.1], .bool (remI al ah bl bh).2.2]) ∧ Ok w0 w' := by
  suffices h : Calls Tryz.prog 43 #[.agg #[.int .i64 al, .int .i64 ah], .agg #[.int .i64 bl, .int .i64 bh]] w fun e w' => e = .returned (.tuple #[.agg #[.int .i64 (remI al ah bl bh).1, .int .i64 (remI al ah bl bh).2.1], .bool (remI al ah bl bh).2.2]) ∧ Ok w w' by
    exact h.mono (fun e w' h => ⟨h.1, hok.step h.2⟩)
  clear hok

  have HU : Hid (rUp bl bh = meetI bl bh 1 9223372036854775807) := rfl
  have HD : Hid (rDn bl bh = meetI bl bh (-9223372036854775808) (-1)) := rfl
  go_enter Tryz.func43, Tryz.ntmps43
  go_wp2_with fail
  refine (rmeet_any _ _ _ _ _ _ (Ok.refl _)).mono ?_
  rintro e w1 ⟨rfl, hc1⟩
  have ra := Ok.rowR (g := w.heap.size) (o := (.cells #[.int .i64 al, .int .i64 ah] 24)) hc1 (by repeat (first | (refine heap_at _ _ _ ?hx; case hx => (first | (simp; done) | (simp; omega))) | (refine heap_past _ _ _ ?hy ?_; case hy => (first | (simp; done) | (simp; omega))) | fail))
  have rb := Ok.rowR (g := w.heap.size + 1) (o := (.cells #[.int .i64 bl, .int .i64 bh] 24)) hc1 (by repeat (first | (refine heap_at _ _ _ ?hx; case hx => (first | (simp; done) | (simp; omega))) | (refine heap_past _ _ _ ?hy ?_; case hy => (first | (simp; done) | (simp; omega))) | fail))
  have rr := Ok.rowR (g := w.heap.size + 2) (o := (.cells #[.int .i64 0, .int .i64 0] 24)) hc1 (by repeat (first | (refine heap_at _ _ _ ?hx; case hx => (first | (simp; done) | (simp; omega))) | (refine heap_past _ _ _ ?hy ?_; case hy => (first | (simp; done) | (simp; omega))) | fail))
  have ok1 : Ok w w1 := Ok.step (by repeat (first | exact Ok.refl _ | refine Ok.alloc ?_ _ | fail)) hc1
  rw [← HD.out]
  generalize hDD : rDn bl bh = D at *
  obtain ⟨b0, b1, _, _⟩ := row_facts rb
  have l1 := lt_rowV rr
  have z1 : w.heap.size + 1 < w1.heap.size := by omega
  have z2 : ¬ w.heap.size + 1 = w1.heap.size := by omega
  go_wp2_with fail
  refine (rmeet_any _ _ _ _ _ _ (Ok.refl _)).mono ?_
  rintro e w2 ⟨rfl, hc2⟩
  rw [← HU.out]
  generalize hUU : rUp bl bh = U at *
  have ok12 : Ok w1 w2 := Ok.step ((Ok.refl _).alloc _) hc2
  have rd := Ok.rowR hc2 (heap_new0 _ _)
  obtain ⟨gd, hgd⟩ : ∃ gd, gd = w1.heap.size := ⟨_, rfl⟩
  obtain ⟨gu, hgu⟩ : ∃ gu, gu = w2.heap.size := ⟨_, rfl⟩
  obtain ⟨X, hX⟩ : ∃ X, X = w2.alloc (.cells #[.int .i64 U.1, .int .i64 U.2] 24) := ⟨_, rfl⟩
  have ok2X : Ok w2 X := by rw [hX]; exact (Ok.refl _).alloc _
  have HI : Hid (RemInv al ah bl bh w X gd gu D U) := by
    have l2 := lt_rowV rd
    refine ⟨(ok1.step ok12).step ok2X, Ok.rowR (ok12.step ok2X) ra, Ok.rowR (ok12.step ok2X) rb, Ok.rowR (ok12.step ok2X) rr, ?_, ?_, ?_, ?_⟩
    · rw [hgd]; exact Ok.rowR ok2X rd
    · rw [hX]; exact heap_at _ _ _ hgu
    · omega
    · omega
  have HDU : Hid _ := And.intro hDD hUU
  have ra2 := Ok.rowR ok12 ra
  obtain ⟨a0, a1, _, _⟩ := row_facts ra2
  have y1 := lt_rowV ra2
  have y2 : ¬ w.heap.size = w2.heap.size := by omega
  go_wp2_with fail
  rw [← hX, ← hgd, ← hgu]
  clear a0 a1 y1 y2 ra2 b0 b1 ra rb rr rd l1 z1 z2 ok1 ok12 ok2X hX hgd hgu hDD hUU hc1 hc2
  obtain ⟨_, ra, rb, rr, rd, ru, j0, j1⟩ := HI.out
  obtain ⟨a0, a1, _, _⟩ := row_facts ra
  obtain ⟨b0, b1, _, _⟩ := row_facts rb
  obtain ⟨r0, r1, r2, r3⟩ := row_facts rr
  obtain ⟨d0, d1, _, _⟩ := row_facts rd
  obtain ⟨u0, u1, _, _⟩ := row_facts ru
  have s0 := lt_rowV ra
  have s1 := lt_rowV rb
  have s2 := lt_rowV rr
  have s3 := lt_rowV rd
  have s4 := lt_rowV ru
  obtain ⟨xa0, xa1, xa2, xa3, xa4, xa5⟩ := lt6 (show w.heap.size < X.heap.size by omega)
  obtain ⟨xb0, xb1, xb2, xb3, xb4, xb5⟩ := lt6 (show w.heap.size + 1 < X.heap.size by omega)
  obtain ⟨xr0, xr1, xr2, xr3, xr4, xr5⟩ := lt6 (show w.heap.size + 1 + 1 < X.heap.size by omega)
  obtain ⟨xd0, xd1, xd2, xd3, xd4, xd5⟩ := lt6 (show gd < X.heap.size by omega)
  obtain ⟨xu0, xu1, xu2, xu3, xu4, xu5⟩ := lt6 (show gu < X.heap.size by omega)
  clear ra rb rr rd ru
  have cD := rDn_cases hb1 hb2
  have cU := rUp_cases hb1 hb2
  rw [HDU.out.1] at cD
  rw [HDU.out.2] at cU
  have IA : In64 D.1 ∧ In64 D.2 ∧ In64 U.1 ∧ In64 U.2 := by unfold In64; rcases cD with c | c <;> rcases cU with c' | c' <;> (try rw [c]) <;> (try rw [c']) <;> (try simp only) <;> (try simp only at c) <;> (try simp only at c') <;> omega
  obtain ⟨i1, i2, i3, i4⟩ := IA
  obtain ⟨N, hN⟩ : ∃ N, N = remNear bl bh := ⟨_, rfl⟩
  obtain ⟨M, hM⟩ : ∃ M, M = remMost bl bh := ⟨_, rfl⟩
  have RI : Hid (remI al ah bl bh = if ah < al ∨ (D.2 < D.1 ∧ U.2 < U.1) then (1, 0, true) else if al = ah ∧ bl = bh then (if bl = -1 then 0 else al.tmod bl, if bl = -1 then 0 else al.tmod bl, true) else if max (farI al) (farI ah) < N then (al, ah, true) else (min 0 (max al (-(M - 1))), max 0 (min ah (M - 1)), true)) := by unfold Hid remI; rw [HDU.out.1, HDU.out.2, hN, hM]
  have HN : Hid (N = min (if D.2 < D.1 then 18446744073709551615 else farI D.2) (if U.2 < U.1 then 18446744073709551615 else farI U.1)) := by unfold Hid; rw [hN]; unfold remNear; rw [HDU.out.1, HDU.out.2]
  have HM : Hid (M = max (if D.2 < D.1 then 0 else farI D.1) (if U.2 < U.1 then 0 else farI U.2)) := by unfold Hid; rw [hM]; unfold remMost; rw [HDU.out.1, HDU.out.2]
  have HZ : Hid (bl = bh → ¬ (D.2 < D.1 ∧ U.2 < U.1) → bl ≠ 0) := by unfold Hid; rw [← HDU.out.1, ← HDU.out.2]; exact notz
  clear hN hM
  by_cases e1 : ah < al
  · as_aux_lemma =>
      have E : Hid (remI al ah bl bh = (1, 0, true)) := by unfold Hid; rw [RI.out, if_pos (Or.inl e1)]
      have f1 : decide (ah < al) = true := decide_eq_true e1
      clear e1
      refine (rempty_ex _ _ _).mono ?_
      rintro e w' ⟨rfl, rfl⟩
      go_wp2_with (first | (go_at_call 100; refine (rempty_ex _ _ _).mono ?_; rintro e w' ⟨rfl, rfl⟩) | (go_at_call 101; refine (rnone_any _).mono ?_; rintro e w' ⟨rfl, rfl⟩) | (go_at_call 124; refine (rfar_any _ (by assumption) _).mono ?_; rintro e w' ⟨rfl, rfl⟩) | fail)
      (try simp only [Exit.inBlock, Exit.then]); refine bodyPost_ret (results_iv rfl _ _ (w.heap.size + 2) 24 #[_, _] (0, 0) _ rfl (by repeat (first | exact row_set2 HI.out.2.2.2.1 _ _ | refine heap_drewR ?_ | (refine heap_past _ _ _ ?hy ?_; case hy => (first | (simp; done) | (simp; omega))) | fail)) Tryz.underlying24 rfl infoI) rfl ?_
      exact ⟨retib E.out, (by repeat (first | exact (Ok.set (Ok.set HI.out.1 (show w.heap.size ≤ w.heap.size + 2 by omega) _) (show w.heap.size ≤ w.heap.size + 2 by omega) _) | refine Below.drew ?_ | refine Ok.alloc ?_ _ | fail))⟩
  have f1 : decide (ah < al) = false := decide_eq_false e1
  by_cases e23 : D.2 < D.1 ∧ U.2 < U.1
  · as_aux_lemma =>
      have E : Hid (remI al ah bl bh = (1, 0, true)) := by unfold Hid; rw [RI.out, if_pos (Or.inr e23)]
      have f2 : decide (D.2 < D.1) = true := decide_eq_true e23.1
      have f3 : decide (U.2 < U.1) = true := decide_eq_true e23.2
      clear e23 e1
      refine (rempty_ex _ _ _).mono ?_
      rintro e w' ⟨rfl, rfl⟩
      go_wp2_with (first | (go_at_call 100; refine (rempty_ex _ _ _).mono ?_; rintro e w' ⟨rfl, rfl⟩) | (go_at_call 101; refine (rnone_any _).mono ?_; rintro e w' ⟨rfl, rfl⟩) | (go_at_call 124; refine (rfar_any _ (by assumption) _).mono ?_; rintro e w' ⟨rfl, rfl⟩) | fail)
      (try simp only [Exit.inBlock, Exit.then]); refine bodyPost_ret (results_iv rfl _ _ (w.heap.size + 2) 24 #[_, _] (0, 0) _ rfl (by repeat (first | exact row_set2 HI.out.2.2.2.1 _ _ | refine heap_drewR ?_ | (refine heap_past _ _ _ ?hy ?_; case hy => (first | (simp; done) | (simp; omega))) | fail)) Tryz.underlying24 rfl infoI) rfl ?_
      exact ⟨retib E.out, (by repeat (first | exact (Ok.set (Ok.set HI.out.1 (show w.heap.size ≤ w.heap.size + 2 by omega) _) (show w.heap.size ≤ w.heap.size + 2 by omega) _) | refine Below.drew ?_ | refine Ok.alloc ?_ _ | fail))⟩
  have hnb : Hid (¬ (ah < al ∨ (D.2 < D.1 ∧ U.2 < U.1))) := fun h => h.elim e1 e23
  by_cases k : al = ah ∧ bl = bh
  · have E0 : Hid (remI al ah bl bh = (if bl = -1 then 0 else al.tmod bl, if bl = -1 then 0 else al.tmod bl, true)) := by unfold Hid; rw [RI.out, if_neg hnb.out, if_pos k]
    have hz : bl ≠ 0 := HZ.out k.2 e23
    have K1 : (al == ah) = true := by rw [beq_iff_eq]; exact k.1
    have K2 : (bl == bh) = true := by rw [beq_iff_eq]; exact k.2
    have HK : Hid _ := k
    clear k e1
    by_cases e2 : D.2 < D.1
    · have f2 : decide (D.2 < D.1) = true := decide_eq_true e2
      have f3 : decide (U.2 < U.1) = false := decide_eq_false (fun h => e23 ⟨e2, h⟩)
      clear e23 e2
      by_cases k3 : bl = -1
      · as_aux_lemma =>
          have K3 : (bl != -1) = false := by rw [k3]; rfl
          have E : Hid (remI al ah bl bh = (0, 0, true)) := by unfold Hid; rw [E0.out, if_pos k3]
          have HK3 : Hid _ := k3
          clear k3
          refine (rempty_ex _ _ _).mono ?_
          rintro e w' ⟨rfl, rfl⟩
          go_wp2_with (first | (go_at_call 100; refine (rempty_ex _ _ _).mono ?_; rintro e w' ⟨rfl, rfl⟩) | (go_at_call 101; refine (rnone_any _).mono ?_; rintro e w' ⟨rfl, rfl⟩) | (go_at_call 124; refine (rfar_any _ (by assumption) _).mono ?_; rintro e w' ⟨rfl, rfl⟩) | fail)
          (try simp only [Exit.inBlock, Exit.then]); refine bodyPost_ret (results_iv rfl _ _ (w.heap.size + 2) 24 #[_, _] (0, 0) _ rfl (by repeat (first | exact row_set2 HI.out.2.2.2.1 _ _ | refine heap_drewR ?_ | (refine heap_past _ _ _ ?hy ?_; case hy => (first | (simp; done) | (simp; omega))) | fail)) Tryz.underlying24 rfl infoI) rfl ?_
          exact ⟨retib E.out, (by repeat (first | exact (Ok.set (Ok.set HI.out.1 (show w.heap.size ≤ w.heap.size + 2 by omega) _) (show w.heap.size ≤ w.heap.size + 2 by omega) _) | refine Below.drew ?_ | refine Ok.alloc ?_ _ | fail))⟩
      · as_aux_lemma =>
          have K3 : (bl != -1) = true := by simpa using k3
          have E : Hid (remI al ah bl bh = (al.tmod bl, al.tmod bl, true)) := by unfold Hid; rw [E0.out, if_neg k3]
          clear k3
          refine (rempty_ex _ _ _).mono ?_
          rintro e w' ⟨rfl, rfl⟩
          go_wp2_with (first | (go_at_call 100; refine (rempty_ex _ _ _).mono ?_; rintro e w' ⟨rfl, rfl⟩) | (go_at_call 101; refine (rnone_any _).mono ?_; rintro e w' ⟨rfl, rfl⟩) | (go_at_call 124; refine (rfar_any _ (by assumption) _).mono ?_; rintro e w' ⟨rfl, rfl⟩) | fail)
          (try simp only [Exit.inBlock, Exit.then]); refine bodyPost_ret (results_iv rfl _ _ (w.heap.size + 2) 24 #[_, _] (0, 0) _ rfl (by repeat (first | exact row_set2 HI.out.2.2.2.1 _ _ | refine heap_drewR ?_ | (refine heap_past _ _ _ ?hy ?_; case hy => (first | (simp; done) | (simp; omega))) | fail)) Tryz.underlying24 rfl infoI) rfl ?_
          exact ⟨retib E.out, (by repeat (first | exact (Ok.set (Ok.set HI.out.1 (show w.heap.size ≤ w.heap.size + 2 by omega) _) (show w.heap.size ≤ w.heap.size + 2 by omega) _) | refine Below.drew ?_ | refine Ok.alloc ?_ _ | fail))⟩
    · have f2 : decide (D.2 < D.1) = false := decide_eq_false e2
      clear e23 e2
      by_cases k3 : bl = -1
      · as_aux_lemma =>
          have K3 : (bl != -1) = false := by rw [k3]; rfl
          have E : Hid (remI al ah bl bh = (0, 0, true)) := by unfold Hid; rw [E0.out, if_pos k3]
          have HK3 : Hid _ := k3
          clear k3
          refine (rempty_ex _ _ _).mono ?_
          rintro e w' ⟨rfl, rfl⟩
          go_wp2_with (first | (go_at_call 100; refine (rempty_ex _ _ _).mono ?_; rintro e w' ⟨rfl, rfl⟩) | (go_at_call 101; refine (rnone_any _).mono ?_; rintro e w' ⟨rfl, rfl⟩) | (go_at_call 124; refine (rfar_any _ (by assumption) _).mono ?_; rintro e w' ⟨rfl, rfl⟩) | fail)
          (try simp only [Exit.inBlock, Exit.then]); refine bodyPost_ret (results_iv rfl _ _ (w.heap.size + 2) 24 #[_, _] (0, 0) _ rfl (by repeat (first | exact row_set2 HI.out.2.2.2.1 _ _ | refine heap_drewR ?_ | (refine heap_past _ _ _ ?hy ?_; case hy => (first | (simp; done) | (simp; omega))) | fail)) Tryz.underlying24 rfl infoI) rfl ?_
          exact ⟨retib E.out, (by repeat (first | exact (Ok.set (Ok.set HI.out.1 (show w.heap.size ≤ w.heap.size + 2 by omega) _) (show w.heap.size ≤ w.heap.size + 2 by omega) _) | refine Below.drew ?_ | refine Ok.alloc ?_ _ | fail))⟩
      · as_aux_lemma =>
          have K3 : (bl != -1) = true := by simpa using k3
          have E : Hid (remI al ah bl bh = (al.tmod bl, al.tmod bl, true)) := by unfold Hid; rw [E0.out, if_neg k3]
          clear k3
          refine (rempty_ex _ _ _).mono ?_
          rintro e w' ⟨rfl, rfl⟩
          go_wp2_with (first | (go_at_call 100; refine (rempty_ex _ _ _).mono ?_; rintro e w' ⟨rfl, rfl⟩) | (go_at_call 101; refine (rnone_any _).mono ?_; rintro e w' ⟨rfl, rfl⟩) | (go_at_call 124; refine (rfar_any _ (by assumption) _).mono ?_; rintro e w' ⟨rfl, rfl⟩) | fail)
          (try simp only [Exit.inBlock, Exit.then]); refine bodyPost_ret (results_iv rfl _ _ (w.heap.size + 2) 24 #[_, _] (0, 0) _ rfl (by repeat (first | exact row_set2 HI.out.2.2.2.1 _ _ | refine heap_drewR ?_ | (refine heap_past _ _ _ ?hy ?_; case hy => (first | (simp; done) | (simp; omega))) | fail)) Tryz.underlying24 rfl infoI) rfl ?_
          exact ⟨retib E.out, (by repeat (first | exact (Ok.set (Ok.set HI.out.1 (show w.heap.size ≤ w.heap.size + 2 by omega) _) (show w.heap.size ≤ w.heap.size + 2 by omega) _) | refine Below.drew ?_ | refine Ok.alloc ?_ _ | fail))⟩
  have fl1 := far_ge D.1
  have fl2 := far_ge D.2
  have fl3 := far_ge U.1
  have fl4 := far_ge U.2
  have HKK : Hid _ := k
  rcases (show (D.2 < D.1 ∧ ¬ U.2 < U.1) ∨ (¬ D.2 < D.1 ∧ U.2 < U.1) ∨ (¬ D.2 < D.1 ∧ ¬ U.2 < U.1 ∧ farI U.1 < farI D.2 ∧ farI D.1 < farI U.2) ∨ (¬ D.2 < D.1 ∧ ¬ U.2 < U.1 ∧ farI U.1 < farI D.2 ∧ farI U.2 ≤ farI D.1) ∨ (¬ D.2 < D.1 ∧ ¬ U.2 < U.1 ∧ farI D.2 ≤ farI U.1 ∧ farI D.1 < farI U.2) ∨ (¬ D.2 < D.1 ∧ ¬ U.2 < U.1 ∧ farI D.2 ≤ farI U.1 ∧ farI U.2 ≤ farI D.1) by omega) with ⟨e2, e3⟩ | ⟨e2, e3⟩ | ⟨e2, e3, p, q⟩ | ⟨e2, e3, p, q⟩ | ⟨e2, e3, p, q⟩ | ⟨e2, e3, p, q⟩
  case' inl =>
    have pU := pUof cU e3
    have f2 : decide (D.2 < D.1) = true := decide_eq_true e2
    have f3 : decide (U.2 < U.1) = false := decide_eq_false e3
    have fA1 := far_ub i3
    have fA2 := far_gt (x := U.2) (by omega)
    have HNe : Hid (N = farI U.1) := by unfold Hid; rw [HN.out, if_pos e2, if_neg e3]; omega
    obtain ⟨m, hm, hMm, hm1, hm2⟩ := far_m (M := M) i4 (by omega) (by rw [HM.out, if_pos e2, if_neg e3]; omega)
    clear e2 e3 pU
  case' inr.inl =>
    have pD := pDof cD e2
    have f2 : decide (D.2 < D.1) = false := decide_eq_false e2
    have f3 : decide (U.2 < U.1) = true := decide_eq_true e3
    have fB2 := far_gt (x := D.1) (by omega)
    have HNe : Hid (N = farI D.2) := by unfold Hid; rw [HN.out, if_neg e2, if_pos e3]; have := far_ub i2; omega
    obtain ⟨m, hm, hMm, hm1, hm2⟩ := far_m (M := M) i1 (by omega) (by rw [HM.out, if_neg e2, if_pos e3]; omega)
    clear e2 e3 pD
  case' inr.inr.inl =>
    have pD := pDof cD e2
    have pU := pUof cU e3
    have f2 : decide (D.2 < D.1) = false := decide_eq_false e2
    have f3 : decide (U.2 < U.1) = false := decide_eq_false e3
    have fC1 := far_gt (x := D.1) (by omega)
    have fC2 := far_gt (x := U.2) (by omega)
    have HNe : Hid (N = farI U.1) := by unfold Hid; rw [HN.out, if_neg e2, if_neg e3]; omega
    obtain ⟨m, hm, hMm, hm1, hm2⟩ := far_m (M := M) i4 (by omega) (by rw [HM.out, if_neg e2, if_neg e3]; omega)
    clear e2 e3 pD pU
  case' inr.inr.inr.inl =>
    have pD := pDof cD e2
    have pU := pUof cU e3
    have f2 : decide (D.2 < D.1) = false := decide_eq_false e2
    have f3 : decide (U.2 < U.1) = false := decide_eq_false e3
    have fC1 := far_gt (x := D.1) (by omega)
    have fC2 := far_gt (x := U.2) (by omega)
    have HNe : Hid (N = farI U.1) := by unfold Hid; rw [HN.out, if_neg e2, if_neg e3]; omega
    obtain ⟨m, hm, hMm, hm1, hm2⟩ := far_m (M := M) i1 (by omega) (by rw [HM.out, if_neg e2, if_neg e3]; omega)
    clear e2 e3 pD pU
  case' inr.inr.inr.inr.inl =>
    have pD := pDof cD e2
    have pU := pUof cU e3
    have f2 : decide (D.2 < D.1) = false := decide_eq_false e2
    have f3 : decide (U.2 < U.1) = false := decide_eq_false e3
    have fC1 := far_gt (x := D.1) (by omega)
    have fC2 := far_gt (x := U.2) (by omega)
    have HNe : Hid (N = farI D.2) := by unfold Hid; rw [HN.out, if_neg e2, if_neg e3]; omega
    obtain ⟨m, hm, hMm, hm1, hm2⟩ := far_m (M := M) i4 (by omega) (by rw [HM.out, if_neg e2, if_neg e3]; omega)
    clear e2 e3 pD pU
  case' inr.inr.inr.inr.inr =>
    have pD := pDof cD e2
    have pU := pUof cU e3
    have f2 : decide (D.2 < D.1) = false := decide_eq_false e2
    have f3 : decide (U.2 < U.1) = false := decide_eq_false e3
    have fC1 := far_gt (x := D.1) (by omega)
    have fC2 := far_gt (x := U.2) (by omega)
    have HNe : Hid (N = farI D.2) := by unfold Hid; rw [HN.out, if_neg e2, if_neg e3]; omega
    obtain ⟨m, hm, hMm, hm1, hm2⟩ := far_m (M := M) i1 (by omega) (by rw [HM.out, if_neg e2, if_neg e3]; omega)
    clear e2 e3 pD pU
  all_goals
    have hw1 : IntKind.u64.wrap m = m := by rw [u64w]; omega
    have hw2 : wrap64 m = m := by unfold wrap64; omega
    have hw3 : wrap64 (-m) = -m := by unfold wrap64; omega
    have E : Hid (remI al ah bl bh = if max (farI al) (farI ah) < N then (al, ah, true) else (min 0 (max al (-m)), max 0 (min ah m), true)) := by unfold Hid; rw [RI.out, if_neg hnb.out, if_neg k, hMm.out, show m + 1 - 1 = m by omega]
    clear k RI HN HM HZ hnb cD cU e1 e23
    by_cases K : al = ah
    case' pos =>
      have K1 : (al == ah) = true := by rw [beq_iff_eq]; exact K
      have K2 : (bl == bh) = false := by rw [beq_eq_false_iff_ne]; exact fun h => HKK.out ⟨K, h⟩
    case' neg => have K1 : (al == ah) = false := by rw [beq_eq_false_iff_ne]; exact K
    all_goals
      clear K
      as_aux_lemma =>
        refine (rempty_ex _ _ _).mono ?_
        rintro e w' ⟨rfl, rfl⟩
        go_wp2_with (first | (go_at_call 100; refine (rempty_ex _ _ _).mono ?_; rintro e w' ⟨rfl, rfl⟩) | (go_at_call 101; refine (rnone_any _).mono ?_; rintro e w' ⟨rfl, rfl⟩) | (go_at_call 124; refine (rfar_any _ (by assumption) _).mono ?_; rintro e w' ⟨rfl, rfl⟩) | fail)
        first
          | (obtain ⟨Y, hY⟩ : ∃ Y, Y = ((((X.alloc (.cells #[.int .i64 al, .int .i64 ah] 24)).alloc (.cells #[.int .i64 D.1, .int .i64 D.2] 24)).alloc (.cells #[.int .i64 U.1, .int .i64 U.2] 24)).alloc (.cells #[.int .i64 D.1, .int .i64 D.2] 24)).alloc (.cells #[.int .i64 U.1, .int .i64 U.2] 24) := ⟨_, rfl⟩; have okXY : Ok X Y := (by rw [hY]; repeat (first | exact Ok.refl _ | refine Ok.alloc ?_ _ | fail)); rw [← hY]; clear hY)
          | (obtain ⟨Y, hY⟩ : ∃ Y, Y = (((X.alloc (.cells #[.int .i64 al, .int .i64 ah] 24)).alloc (.cells #[.int .i64 D.1, .int .i64 D.2] 24)).alloc (.cells #[.int .i64 D.1, .int .i64 D.2] 24)).alloc (.cells #[.int .i64 U.1, .int .i64 U.2] 24) := ⟨_, rfl⟩; have okXY : Ok X Y := (by rw [hY]; repeat (first | exact Ok.refl _ | refine Ok.alloc ?_ _ | fail)); rw [← hY]; clear hY)
        have a0' := Ok.cell okXY xa0 a0
        have a1' := Ok.cell okXY xa0 a1
        have HR5 : Hid _ := Ok.rowR okXY HI.out.2.2.2.1
        obtain ⟨r0', r1', r2', r3'⟩ := row_facts HR5.out
        have HOY : Hid _ := HI.out.1.step okXY
        have xx := okXY.le
        have x1' : w.heap.size < Y.heap.size := by omega
        have x2' : w.heap.size + 1 + 1 < Y.heap.size := by omega
        clear a0 a1 b0 b1 r0 r1 r2 r3 d0 d1 u0 u1 s0 s1 s2 s3 s4 j0 j1 okXY xx xa0 xa1 xa2 xa3 xa4 xa5 xb0 xb1 xb2 xb3 xb4 xb5 xr0 xr1 xr2 xr3 xr4 xr5 xd0 xd1 xd2 xd3 xd4 xd5 xu0 xu1 xu2 xu3 xu4 xu5
        go_region_held3 (fun w' => w'.cell? ⟨w.heap.size, 0, none⟩ = some (.int .i64 al) ∧ w'.cell? ⟨w.heap.size, 1, none⟩ = some (.int .i64 ah)) (go_keep) (first | (go_at_call 124; refine (rfar_any _ (by assumption) _).mono ?_; rintro e w' ⟨rfl, rfl⟩) | fail)
        all_goals go_wp2_with fail
        all_goals have hN := HNe.out
        all_goals first
          | (exfalso; omega)
          | ((try simp only [Exit.inBlock, Exit.then]); refine bodyPost_ret (results_iv rfl _ _ (w.heap.size + 2) 24 #[_, _] (0, 0) _ rfl (by repeat (first | exact row_set2 HR5.out _ _ | refine heap_drewR ?_ | (refine heap_past _ _ _ ?hy ?_; case hy => (first | (simp; done) | (simp; omega))) | fail)) Tryz.underlying24 rfl infoI) rfl ?_; exact ⟨retib (by first | (rw [E.out, if_pos (by omega)]; done) | (rw [E.out, if_neg (by omega)]; (try simp only [Prod.mk.injEq, and_true]); omega)), (by repeat (first | exact (Ok.set (Ok.set HOY.out (show w.heap.size ≤ w.heap.size + 2 by omega) _) (show w.heap.size ≤ w.heap.size + 2 by omega) _) | refine Below.drew ?_ | refine Ok.alloc ?_ _ | fail))⟩)
end Go.Proofs.YtpjpjhjjhoeijaaGreat
