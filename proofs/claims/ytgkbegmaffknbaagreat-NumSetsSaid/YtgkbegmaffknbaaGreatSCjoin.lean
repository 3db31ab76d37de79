import Derived.Test.YtgkbegmaffknbaaGreatSCjo
set_option linter.unusedVariables false
set_option linter.unusedSimpArgs false
set_option linter.unnecessarySimpa false
/- Cjoin -/
namespace Go.Proofs.YtgkbegmaffknbaaGreat
open Go.RowKit
theorem joinG_u64 {cM cR dM dR : Nat} (h1 : U64 cM) (h3 : U64 dM) : U64 (joinG cM cR dM dR) := by
  unfold U64 joinG at *
  by_cases hc : cM = 0
  · by_cases hd : dM = 0
    · subst hc hd
      rw [Nat.gcd_zero_left, Nat.gcd_zero_left, rI_zero, rI_zero]
      have a := wrap64_in (cR : Int)
      have b := wrap64_in (dR : Int)
      unfold In64 at a b; omega
    · have := Nat.le_of_dvd (by omega) (Nat.dvd_trans (Nat.gcd_dvd_left (Nat.gcd cM dM) (rI cM cR - rI dM dR).natAbs) (Nat.gcd_dvd_right cM dM))
      omega
  · have := Nat.le_of_dvd (by omega) (Nat.dvd_trans (Nat.gcd_dvd_left (Nat.gcd cM dM) (rI cM cR - rI dM dR).natAbs) (Nat.gcd_dvd_left cM dM))
    omega
theorem joinC_zero {cM cR dM dR : Nat} (hR : U64 cR) (h : joinG cM cR dM dR = 0) : joinC cM cR dM dR = normC cM cR := by
  have hc := (joinG_zero h).1
  subst hc
  unfold joinC classC
  rw [if_pos h, rI_zero]
  unfold normC
  rw [if_neg (by omega)]
  congr 1
  unfold U64 at hR; unfold bitsN wrap64; omega
theorem joinC_pos {cM cR dM dR : Nat} (h : joinG cM cR dM dR ≠ 0) : joinC cM cR dM dR = (joinG cM cR dM dR, restN (rF cM cR) (rS cM cR) (joinG cM cR dM dR)) := by
  unfold joinC classC
  rw [if_neg h]
  congr 1
  have := rest_mod (M := cM) (R := cR) (m := joinG cM cR dM dR) (by omega)
  omega
theorem new_ne' {W w' : World} {a : Nat} (hb : Ok W w') (h : a < W.heap.size) : ¬ w'.heap.size = a := by have := hb.le; omega
set_option maxRecDepth 100000 in
set_option maxHeartbeats 4000000 in
theorem cjoin_any (cM cR dM dR : Nat) (h1 : U64 cM) (h2 : U64 cR) (h3 : U64 dM) (h4 : U64 dR) (w0 w : World) (hok : Ok w0 w) :
    Calls Tryz.prog 74 #[cv cM cR, cv dM dR] w fun e w' => e = .returned (cv (joinC cM cR dM dR).1 (joinC cM cR dM dR).2) ∧ Ok w0 w' := by
  have hle := hok.le
  have HU : Hid _ := And.intro h1 (And.intro h2 (And.intro h3 h4))
  have HR1 : Hid _ := And.intro (rF_rng h1 h2) (rF_rng h3 h4)
  have HGU : Hid (U64 (joinG cM cR dM dR)) := joinG_u64 h1 h3
  clear h1 h2 h3 h4
  obtain ⟨G, hG⟩ : ∃ G, G = joinG cM cR dM dR := ⟨_, rfl⟩
  obtain ⟨f1, hf1⟩ : ∃ f, f = rF cM cR := ⟨_, rfl⟩
  obtain ⟨s1, hs1⟩ : ∃ s, s = rS cM cR := ⟨_, rfl⟩
  obtain ⟨f2, hf2⟩ : ∃ f, f = rF dM dR := ⟨_, rfl⟩
  obtain ⟨s2, hs2⟩ : ∃ s, s = rS dM dR := ⟨_, rfl⟩
  obtain ⟨P, hP⟩ : ∃ P, P = apartN f1 s1 f2 s2 := ⟨_, rfl⟩
  obtain ⟨K, hK⟩ : ∃ K, K = Nat.gcd cM dM := ⟨_, rfl⟩
  have HG : Hid (Nat.gcd K P = G) := by
    unfold Hid
    rw [hK, hP, hG, apart_val, hf1, hs1, hf2, hs2, r_val, r_val]; rfl
  have HB : Hid (Big cM ∧ Big dM ∧ Big K ∧ Big P ∧ Big f1) := by
    have a := HU.out.1
    have b := HU.out.2.2.1
    have c := HR1.out
    have d : K ≤ 18446744073709551615 := by
      rw [hK]
      by_cases hc : cM = 0
      · rw [hc, Nat.gcd_zero_left]; unfold U64 at b; omega
      · have := Nat.le_of_dvd (by omega) (Nat.gcd_dvd_left cM dM); unfold U64 at a; omega
    have e : P ≤ f1 + f2 := by rw [hP]; unfold apartN; split <;> (try split) <;> omega
    rw [← hf1, ← hf2] at c
    unfold U64 at a b
    unfold Hid Big; omega
  rw [← hG] at HGU
  rw [← hf1, ← hf2] at HR1
  have HF : Hid _ := And.intro hf1 (And.intro hs1 (And.intro hf2 (And.intro hs2 (And.intro hP (And.intro hK hG)))))
  have HZ : Hid (G = 0 → joinC cM cR dM dR = normC cM cR) := by rw [hG]; exact joinC_zero HU.out.2.1
  have HPp : Hid (G ≠ 0 → joinC cM cR dM dR = (G, restN f1 s1 G)) := by rw [hG, hf1, hs1]; exact joinC_pos
  clear hG hf1 hs1 hf2 hs2 hP hK
  unfold cv
  go_enter Tryz.func74, Tryz.ntmps74
  go_wp2_with fail
  rename_i Qq Kk aK
  obtain ⟨W, hW⟩ : ∃ W, W = ((w.alloc (.cells #[.int .u64 (cM : Int), .int .u64 (cR : Int)] 26)).alloc (.cells #[.int .u64 (dM : Int), .int .u64 (dR : Int)] 26)).alloc (.cells #[.int .u64 0, .int .u64 0] 26) := ⟨_, rfl⟩
  have ra : W.heap[w.heap.size]? = some (.cells #[.int .u64 (cM : Int), .int .u64 (cR : Int)] 26) := by rw [hW]; exact (by repeat (first | (refine heap_at _ _ _ ?hx; case hx => (first | (simp; done) | (simp; omega))) | (refine heap_past _ _ _ ?hy ?_; case hy => (first | (simp; done) | (simp; omega))) | fail))
  have rb : W.heap[w.heap.size + 1]? = some (.cells #[.int .u64 (dM : Int), .int .u64 (dR : Int)] 26) := by rw [hW]; exact (by repeat (first | (refine heap_at _ _ _ ?hx; case hx => (first | (simp; done) | (simp; omega))) | (refine heap_past _ _ _ ?hy ?_; case hy => (first | (simp; done) | (simp; omega))) | fail))
  have rr : W.heap[w.heap.size + 2]? = some (.cells #[.int .u64 0, .int .u64 0] 26) := by rw [hW]; exact (by repeat (first | (refine heap_at _ _ _ ?hx; case hx => (first | (simp; done) | (simp; omega))) | (refine heap_past _ _ _ ?hy ?_; case hy => (first | (simp; done) | (simp; omega))) | fail))
  have HW : Hid (Ok w0 W) := by rw [hW]; exact (by repeat (first | exact hok | refine Ok.alloc ?_ _ | refine Ok.draws ?_ _ | fail))
  rw [← hW]
  clear hW hok
  obtain ⟨g0, g1, _, _⟩ := row_facts ra
  obtain ⟨g2, g3, _, _⟩ := row_facts rb
  have z0 := lt_row ra
  have z1 := lt_row rb
  have HRR : Hid _ := And.intro ra rr
  clear ra rb rr
  have tail : ∀ (gy : Nat) (Y : World), Y.heap[gy]? = some (cB G) → Ok W Y → Exit.then Kk Qq Exit.normal
      { tmps := #[.agg #[.int .u64 (cM : Int), .int .u64 (cR : Int)], .agg #[.int .u64 (dM : Int), .int .u64 (dR : Int)], .pointer (some ⟨w.heap.size, 0, none⟩), .pointer (some ⟨w.heap.size + 1, 0, none⟩), .pointer (some ⟨w.heap.size + 1 + 1, 0, none⟩), .pointer (some ⟨gy, 0, none⟩), .pointer (some ⟨w.heap.size, 0, none⟩), .int .u64 (cM : Int), .agg #[.int .u64 (hiB cM), .int .u64 (loB cM)], .pointer (some ⟨w.heap.size + 1, 0, none⟩), .int .u64 (dM : Int), .agg #[.int .u64 (hiB dM), .int .u64 (loB dM)], .agg #[.int .u64 (hiB K), .int .u64 (loB K)], .agg #[.int .u64 (cM : Int), .int .u64 (cR : Int)], iv f1 s1, .agg #[.int .u64 (dM : Int), .int .u64 (dR : Int)], iv f2 s2, .agg #[.int .u64 (hiB P), .int .u64 (loB P)], .agg #[.int .u64 (hiB G), .int .u64 (loB G)], undef, undef, undef, undef, undef, undef, undef, undef, undef, undef], defers := [] } Y := by
    intro gy Y hrow hokY
    have HRY : Hid _ := Ok.row' hokY HRR.out.2
    obtain ⟨u0, u1, _, _⟩ := row_facts (Ok.row' hokY HRR.out.1)
    obtain ⟨k0, k1, _, _⟩ := cB_facts hrow
    have l0 := lt_row (Ok.row' hokY HRR.out.1)
    have l1 := lt_row hrow
    have HWY : Hid (Ok w0 Y) := HW.out.step hokY
    by_cases hG0 : G = 0
    · have E : Hid _ := HZ.out hG0
      have e1 : hiB G = 0 := by rw [hG0]; rfl
      have e2 : loB G = 0 := by rw [hG0]; rfl
      clear hG0
      go_wp2_with fail
      refine (cnorm_any cM cR Y Y (Ok.refl _)).mono ?_
      rintro e w5 ⟨rfl, hb5⟩
      have HR5 : Hid _ := Ok.row' hb5 HRY.out
      have HB5 : Hid (Ok w0 w5) := HWY.out.step hb5
      obtain ⟨c0, c1, c2, c3⟩ := row_facts HR5.out
      unfold cv
      go_wp2_with fail
      (try simp only [Exit.inBlock, Exit.then])
      refine bodyPost_ret (results_cell_row rfl _ _ (w.heap.size + 2) 26 #[_, _] (0, 0) _ rfl (row_set2 HR5.out _ _) Tryz.underlying26 rfl infoCg) rfl ?_
      rw [E.out]
      exact ⟨rfl, (HB5.out.set (show w0.heap.size ≤ w.heap.size + 2 by omega) _).set (show w0.heap.size ≤ w.heap.size + 2 by omega) _⟩
    · have E : Hid _ := HPp.out hG0
      have e1 : hiB G = 0 := (big_small HGU.out).1
      have e2 : loB G = (G : Int) := (big_small HGU.out).2
      have e3 : ((G : Int) == 0) = false := by simp; omega
      have HG0 : Hid (0 < G) := by unfold Hid; omega
      have e4 : (G == 0) = false := by simp [hG0]
      rw [e2] at k1
      go_wp2_with fail
      have bz : Ok Y Y := Ok.refl _
      have n1 : ¬ w.heap.size + 1 + 1 = w.heap.size := by omega
      have n2 : ¬ w.heap.size + 1 + 1 = gy := by
        intro h
        have h1 := HRY.out
        rw [show w.heap.size + 2 = gy from h, hrow] at h1
        injection h1 with h1
        injection h1 with _ h2 _
        cases h2
      go_region_held3 (fun w' => w'.cell? ⟨w.heap.size, 0, none⟩ = some (.int .u64 (cM : Int)) ∧ w'.cell? ⟨w.heap.size, 1, none⟩ = some (.int .u64 (cR : Int)) ∧ w'.cell? ⟨gy, 1, none⟩ = some (.int .u64 (G : Int))) (go_keep)
        (first
        | (go_at_call 126; refine (cr_any cM cR HU.out.1 HU.out.2.1 Y _ (by repeat (first | assumption | refine Ok.alloc ?_ _ | refine Below.drew ?_))).mono ?_; rintro e w' ⟨rfl, hb⟩; rw [← HF.out.1, ← HF.out.2.1]; have q0 := Ok.cell hb l0 u0; have q1 := Ok.cell hb l0 u1; have q2 := Ok.cell hb l1 k1; obtain ⟨c0, c1, c2, c3⟩ := row_facts (Ok.row' hb HRY.out))
        | (go_at_call 132; refine (cclass_any f1 s1 G HB.out.2.2.2.2 HGU.out HG0.out Y _ (by repeat (first | assumption | refine Ok.alloc ?_ _ | refine Below.drew ?_))).mono ?_; rintro e w' ⟨rfl, hb⟩; unfold cv; have q0 := Ok.cell hb l0 u0; have q1 := Ok.cell hb l0 u1; have q2 := Ok.cell hb l1 k1; obtain ⟨c0, c1, c2, c3⟩ := row_facts (Ok.row' hb HRY.out))
        | fail)
      have HR5 : Hid _ := Ok.row' hb HRY.out
      have HB5 : Hid (Ok w0 w') := HWY.out.step hb
      go_wp2_with fail
      (try simp only [Exit.inBlock, Exit.then])
      refine bodyPost_ret (results_cell_row rfl _ _ (w.heap.size + 2) 26 #[_, _] (0, 0) _ rfl (row_set2 HR5.out _ _) Tryz.underlying26 rfl infoCg) rfl ?_
      rw [E.out]
      exact ⟨rfl, (HB5.out.set (show w0.heap.size ≤ w.heap.size + 2 by omega) _).set (show w0.heap.size ≤ w.heap.size + 2 by omega) _⟩
  have HTAIL : Hid _ := tail
  clear tail
  have bz : Ok W W := Ok.refl _
  have rX := HRR.out.2
  have n1 : ¬ W.heap.size = w.heap.size := by omega
  have n2 : ¬ W.heap.size = w.heap.size + 1 := by omega
  go_region_held3 (fun w' => w'.cell? ⟨w.heap.size, 0, none⟩ = some (.int .u64 (cM : Int)) ∧ w'.cell? ⟨w.heap.size, 1, none⟩ = some (.int .u64 (cR : Int)) ∧ w'.cell? ⟨w.heap.size + 1, 0, none⟩ = some (.int .u64 (dM : Int)) ∧ w'.cell? ⟨w.heap.size + 1, 1, none⟩ = some (.int .u64 (dR : Int))) (go_keep)
    (first
    | (go_at_call 127; refine (bof_any _ (by first | exact HU.out.1 | exact HU.out.2.2.1) _ _ (Ok.refl _)).mono ?_; rintro e w' ⟨rfl, hc⟩; have hb : Ok W w' := Ok.step (by repeat (first | assumption | refine Ok.alloc ?_ _ | refine Below.drew ?_)) hc; (first | have rX := Ok.row' hc (heap_new0 _ _) | have rX := Ok.row' hc rX); have q0 := Ok.cell hb z0 g0; have q1 := Ok.cell hb z0 g1; have q2 := Ok.cell hb z1 g2; have q3 := Ok.cell hb z1 g3; have x0 := row_facts rX; have lz := hb.le; have n1 := new_ne' hb z0; have n2 := new_ne' hb z1)
    | (go_at_call 130; refine (bgcd_any _ _ (by first | exact HB.out.1 | exact HB.out.2.2.1) (by first | exact HB.out.2.1 | exact HB.out.2.2.2.1) _ _ (Ok.refl _)).mono ?_; rintro e w' ⟨rfl, hc⟩; (first | (rw [HG.out]; unfold bv) | rw [← HF.out.2.2.2.2.2.1]); have hb : Ok W w' := Ok.step (by repeat (first | assumption | refine Ok.alloc ?_ _ | refine Below.drew ?_)) hc; (first | have rX := Ok.row' hc (heap_new0 _ _) | have rX := Ok.row' hc rX); have q0 := Ok.cell hb z0 g0; have q1 := Ok.cell hb z0 g1; have q2 := Ok.cell hb z1 g2; have q3 := Ok.cell hb z1 g3; have x0 := row_facts rX; have lz := hb.le; have n1 := new_ne' hb z0; have n2 := new_ne' hb z1)
    | (go_at_call 126; refine (cr_any _ _ (by first | exact HU.out.1 | exact HU.out.2.2.1) (by first | exact HU.out.2.1 | exact HU.out.2.2.2) _ _ (Ok.refl _)).mono ?_; rintro e w' ⟨rfl, hc⟩; (first | rw [← HF.out.1, ← HF.out.2.1] | rw [← HF.out.2.2.1, ← HF.out.2.2.2.1]); have hb : Ok W w' := Ok.step (by repeat (first | assumption | refine Ok.alloc ?_ _ | refine Below.drew ?_)) hc; (first | have rX := Ok.row' hc (heap_new0 _ _) | have rX := Ok.row' hc rX); have q0 := Ok.cell hb z0 g0; have q1 := Ok.cell hb z0 g1; have q2 := Ok.cell hb z1 g2; have q3 := Ok.cell hb z1 g3; have x0 := row_facts rX; have lz := hb.le; have n1 := new_ne' hb z0; have n2 := new_ne' hb z1)
    | (go_at_call 131; refine (capart_any f1 s1 f2 s2 HR1.out.1 HR1.out.2 _ _ (Ok.refl _)).mono ?_; rintro e w' ⟨rfl, hc⟩; rw [← HF.out.2.2.2.2.1]; have hb : Ok W w' := Ok.step (by repeat (first | assumption | refine Ok.alloc ?_ _ | refine Below.drew ?_)) hc; (first | have rX := Ok.row' hc (heap_new0 _ _) | have rX := Ok.row' hc rX); have q0 := Ok.cell hb z0 g0; have q1 := Ok.cell hb z0 g1; have q2 := Ok.cell hb z1 g2; have q3 := Ok.cell hb z1 g3; have x0 := row_facts rX; have lz := hb.le; have n1 := new_ne' hb z0; have n2 := new_ne' hb z1)
    | fail)
  all_goals
    refine HTAIL.out _ _ ?_ ?_
    · first | exact heap_new0 _ _ | exact row_set2 rX _ _
    · first | exact hb.alloc _ | exact (hb.set (by simp only; omega) _).set (by simp only; omega) _
end Go.Proofs.YtgkbegmaffknbaaGreat
