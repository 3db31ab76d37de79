import Derived.Test.YtbkblijoimmdeaaGreatKCinv
import Derived.Test.YtbkblijoimmdeaaGreatKCmm
import Derived.Test.YtbkblijoimmdeaaGreatKNfm
set_option linter.unusedVariables false
set_option linter.unusedSimpArgs false
set_option linter.unnecessarySimpa false
/- Cmet -/
namespace Go.Proofs.YtbkblijoimmdeaaGreat
open Go.RowKit
attribute [local go_sem] field_lo
theorem bv_half : bv 9223372036854775808 = .agg #[.int .u64 0, .int .u64 9223372036854775808] := by
  unfold bv; rw [(big_small (n := 9223372036854775808) (by omega)).1, (big_small (n := 9223372036854775808) (by omega)).2]; rfl
theorem cless_half (X : Nat) (w0 w : World) (hok : Ok w0 w) :
    Calls Tryz.prog 64 #[bv X, .agg #[.int .u64 0, .int .u64 9223372036854775808]] w fun e w' => e = .returned (.bool (decide (X < 9223372036854775808))) ∧ Ok w0 w' := by
  rw [← bv_half]; exact bless_any X 9223372036854775808 w0 w hok
theorem cless_back (X : Nat) (w0 w : World) (hok : Ok w0 w) :
    Calls Tryz.prog 64 #[.agg #[.int .u64 0, .int .u64 9223372036854775808], bv X] w fun e w' => e = .returned (.bool (decide (9223372036854775808 < X))) ∧ Ok w0 w' := by
  rw [← bv_half]; exact bless_any 9223372036854775808 X w0 w hok
theorem cof_half (w0 w : World) (hok : Ok w0 w) :
    Calls Tryz.prog 60 #[.int .u64 9223372036854775808] w fun e w' => e = .returned (.agg #[.int .u64 0, .int .u64 9223372036854775808]) ∧ Ok w0 w' := by
  rw [← bv_half]; exact bof_any 9223372036854775808 (by unfold U64; omega) w0 w hok
theorem bits_lo {X : Nat} (h : X < 9223372036854775808) : bitsN (wrap64 (loB X)) = X := by
  have e : loB X = (X : Int) := (big_small (by omega)).2
  rw [e]; unfold wrap64 bitsN; omega
theorem bits_back {B : Nat} (h0 : 0 < B) (h : B ≤ 9223372036854775808) : bitsN (wrap64 (IntKind.u64.wrap (-(loB B)))) = bitsN (-(B : Int)) := by
  have e : loB B = (B : Int) := (big_small (by omega)).2
  rw [e, u64w]; unfold wrap64 bitsN; omega
theorem dec_no {p : Prop} [Decidable p] (h : false = decide p) : ¬ p := of_decide_eq_false h.symm
theorem dec_yes {p : Prop} [Decidable p] (h : true = decide p) : p := of_decide_eq_true h.symm
theorem exact_diff {a b g : Nat} (h : a % g = b % g) : g * ((b - a) / g) = b - a := Nat.mul_div_cancel' (Nat.dvd_of_mod_eq_zero (Nat.sub_mod_eq_zero_of_mod_eq h.symm))
theorem meet_steps {cM cR dM dR g k m i s : Nat} {q : Int} (hg : g = Nat.gcd cM dM) (hgp : 0 < g) (ek : cM = g * k) (em : dM = g * m) (hm : m = dM / g) (hmp : 0 < m) (hcp : 0 < cM) (hdp : 0 < dM)
    (hi : (m : Int) ∣ (i : Int) * k - 1) (hq : ((dR % dM : Nat) : Int) - ((cR % cM : Nat) : Int) = g * q) (hs : (m : Int) ∣ (s : Int) - q) :
    meetC cM cR dM dR = finC (cM * m) (cM * (s * i % m) + cR % cM) ∧ s * i % m < m := by
  have hl : s * i % m < m := Nat.mod_lt _ hmp
  refine ⟨meet_at hcp hdp (by rw [← hg]; exact hm) hl ?_, hl⟩
  refine common_at hgp (by rw [ek, Int.natCast_mul]) (by rw [em, Int.natCast_mul]) hi q hq ?_
  have a := mod_dvd (s * i) m
  have b : (m : Int) ∣ ((s : Int) - q) * i := Int.dvd_trans hs (Int.dvd_mul_right _ _)
  have c := Int.dvd_add a b
  rw [Int.natCast_mul, Int.sub_mul] at c
  rwa [show ((s * i % m : Nat) : Int) - (s : Int) * i + ((s : Int) * i - q * i) = ((s * i % m : Nat) : Int) - q * i by omega] at c
theorem leq_norm {cM cR dM dR : Nat} (h1 : U64 cM) (h2 : U64 cR) (h3 : U64 dM) (h4 : U64 dR) : leqC (normC cM cR).1 (normC cM cR).2 (normC dM dR).1 (normC dM dR).2 = leqC cM cR dM dR := by
  rw [Bool.eq_iff_iff, leqC_iff (normC_u64 h1 h2).2 (normC_u64 h3 h4).2, leqC_iff h2 h4]
  constructor <;> intro h v hv
  · rw [← normC_mem]; exact h v ((normC_mem _ _ _).2 hv)
  · rw [normC_mem] at hv ⊢; exact h v hv
theorem retM {M R : Nat} {b : Bool} {p : Nat × Nat × Bool} (e : p = (M, R, b)) : Ending.returned (.tuple #[.agg #[.int .u64 (M : Int), .int .u64 (R : Int)], .bool b]) = .returned (.tuple #[cv p.1 p.2.1, .bool p.2.2]) := by rw [e]; rfl
set_option maxRecDepth 100000 in
set_option maxHeartbeats 8000000 in
theorem cmeet_any (cM cR dM dR : Nat) (h1 : U64 cM) (h2 : U64 cR) (h3 : U64 dM) (h4 : U64 dR) (w0 w : World) (hok : Ok w0 w) :
    Calls Tryz.prog 39 #[cv cM cR, cv dM dR] w fun e w' => e = .returned (.tuple #[cv (meetC cM cR dM dR).1 (meetC cM cR dM dR).2.1, .bool (meetC cM cR dM dR).2.2]) ∧ Ok w0 w' := by
  have hle := hok.le
  obtain ⟨C, hC⟩ : ∃ C, C = meetC cM cR dM dR := ⟨_, rfl⟩
  obtain ⟨R1, hR1⟩ : ∃ R, R = (normC cM cR).2 := ⟨_, rfl⟩
  obtain ⟨R2, hR2⟩ : ∃ R, R = (normC dM dR).2 := ⟨_, rfl⟩
  have u1 : U64 R1 := by rw [hR1]; exact (normC_u64 h1 h2).2
  have u2 : U64 R2 := by rw [hR2]; exact (normC_u64 h3 h4).2
  have HL : Hid (leqC cM R1 dM R2 = leqC cM cR dM dR ∧ leqC dM R2 cM R1 = leqC dM dR cM cR) := by
    rw [hR1, hR2]; exact ⟨leq_norm h1 h2 h3 h4, leq_norm h3 h4 h1 h2⟩
  have HU : Hid _ := And.intro h1 (And.intro h2 (And.intro h3 (And.intro h4 (And.intro u1 u2))))
  have HN : Hid (normC cM cR = (cM, R1) ∧ normC dM dR = (dM, R2)) := by rw [hR1, hR2]; exact ⟨rfl, rfl⟩
  have HC : Hid _ := hC
  rw [← hC]
  clear h1 h2 h3 h4 u1 u2 hR1 hR2 hC
  unfold cv
  go_enter Tryz.func39, Tryz.ntmps39
  go_wp2_with fail
  rename_i Qq Kk aK
  obtain ⟨W, hW⟩ : ∃ W, W = ((w.alloc (.cells #[.int .u64 (cM : Int), .int .u64 (cR : Int)] 27)).alloc (.cells #[.int .u64 (dM : Int), .int .u64 (dR : Int)] 27)).alloc (.cells #[.int .u64 0, .int .u64 0] 27) := ⟨_, rfl⟩
  have ra : W.heap[w.heap.size]? = some (.cells #[.int .u64 (cM : Int), .int .u64 (cR : Int)] 27) := by rw [hW]; exact (by repeat (first | (refine heap_at _ _ _ ?hx; case hx => (first | (simp; done) | (simp; omega))) | (refine heap_past _ _ _ ?hy ?_; case hy => (first | (simp; done) | (simp; omega))) | fail))
  have rb : W.heap[w.heap.size + 1]? = some (.cells #[.int .u64 (dM : Int), .int .u64 (dR : Int)] 27) := by rw [hW]; exact (by repeat (first | (refine heap_at _ _ _ ?hx; case hx => (first | (simp; done) | (simp; omega))) | (refine heap_past _ _ _ ?hy ?_; case hy => (first | (simp; done) | (simp; omega))) | fail))
  have rr : W.heap[w.heap.size + 2]? = some (.cells #[.int .u64 0, .int .u64 0] 27) := by rw [hW]; exact (by repeat (first | (refine heap_at _ _ _ ?hx; case hx => (first | (simp; done) | (simp; omega))) | (refine heap_past _ _ _ ?hy ?_; case hy => (first | (simp; done) | (simp; omega))) | fail))
  have HW : Hid (Ok w0 W) := by rw [hW]; exact (by repeat (first | exact hok | refine Ok.alloc ?_ _ | refine Ok.draws ?_ _ | fail))
  rw [← hW]
  clear hW hok
  have HRR : Hid _ := And.intro ra (And.intro rb rr)
  obtain ⟨g0, g1, g4, g5⟩ := row_facts ra
  obtain ⟨g2, g3, g6, g7⟩ := row_facts rb
  have z0 := lt_row ra
  have z1 := lt_row rb
  clear ra rb rr
  have bz : Ok W W := Ok.refl _
  have n1 : ¬ w.heap.size = w.heap.size + 1 := by omega
  have n2 : ¬ w.heap.size + 1 = w.heap.size := by omega
  have tail : ∀ (Z : World), Z.heap[w.heap.size]? = some (.cells #[.int .u64 (cM : Int), .int .u64 (R1 : Int)] 27) → Z.heap[w.heap.size + 1]? = some (.cells #[.int .u64 (dM : Int), .int .u64 (R2 : Int)] 27) → Z.heap[w.heap.size + 2]? = some (.cells #[.int .u64 0, .int .u64 0] 27) → Ok w0 Z → Exit.then Kk Qq Exit.normal
      { tmps := #[.agg #[.int .u64 (cM : Int), .int .u64 (cR : Int)], .agg #[.int .u64 (dM : Int), .int .u64 (dR : Int)], .pointer (some ⟨w.heap.size, 0, none⟩), .pointer (some ⟨w.heap.size + 1, 0, none⟩), .pointer (some ⟨w.heap.size + 1 + 1, 0, none⟩), .bool false, undef, undef, undef, undef, undef, undef, undef, .agg #[.int .u64 (cM : Int), .int .u64 (cR : Int)], .agg #[.int .u64 (cM : Int), .int .u64 (R1 : Int)], .agg #[.int .u64 (dM : Int), .int .u64 (dR : Int)], .agg #[.int .u64 (dM : Int), .int .u64 (R2 : Int)], undef, undef, undef, undef, undef, undef, undef, undef, undef, undef, undef, undef, undef, undef, undef, undef, undef, undef, undef, undef, undef, undef, undef, undef, undef, undef, undef, undef, undef, undef, undef, undef, undef, undef, undef, undef, undef, undef, undef, undef, undef, undef, undef, undef, undef, undef, undef, undef, undef, undef, undef, undef, undef, undef, undef, undef, undef, undef, undef, undef, undef, undef, undef, undef, undef, undef, undef, undef, undef, undef, undef, undef, undef, undef, undef, undef, undef, undef, undef, undef, undef, undef, undef, undef, undef, undef, undef, undef, undef, undef, undef, undef, undef, undef, undef, undef, undef, undef, undef, undef, undef, undef, undef, undef, undef, undef, undef, undef, undef, undef, undef, undef, undef, undef, undef, undef, undef, undef, undef, undef, undef, undef, undef, undef, undef, undef, undef, undef], defers := [] } Z := by
    intro Z rc rd rr hokZ
    have HZ : Hid _ := And.intro rc (And.intro rd (And.intro rr hokZ))
    obtain ⟨a0, a1, _, _⟩ := row_facts rc
    obtain ⟨b0, b1, _, _⟩ := row_facts rd
    obtain ⟨c0, c1, c2, c3⟩ := row_facts rr
    clear rc rd rr hokZ z0 z1 n1 n2
    by_cases hz : cM = 0 ∨ dM = 0
    · have EC := HC.out
      unfold meetC at EC
      rw [if_pos hz, HN.out.1, HN.out.2] at EC
      obtain ⟨l1, hl1⟩ : ∃ l, l = leqC cM cR dM dR := ⟨_, rfl⟩
      obtain ⟨l2, hl2⟩ : ∃ l, l = leqC dM dR cM cR := ⟨_, rfl⟩
      rw [← hl1, ← hl2] at EC HL
      have HEC : Hid _ := EC
      have zc : ((cM : Int) == 0 || (dM : Int) == 0) = true := by simp; omega
      clear EC hl1 hl2
      by_cases hc : cM = 0
      · have hc1 : ((cM : Int) == 0) = true := by simp [hc]
        clear hc hz zc
        go_wp2_with fail
        refine (cleq_any cM R1 dM R2 HU.out.1 HU.out.2.2.2.2.1 HU.out.2.2.1 HU.out.2.2.2.2.2 Z Z (Ok.refl _)).mono ?_
        rintro e w2 ⟨rfl, hb2⟩
        rw [HL.out.1]
        have HR2 : Hid _ := And.intro (Ok.row' hb2 HZ.out.1) (And.intro (Ok.row' hb2 HZ.out.2.1) (Ok.row' hb2 HZ.out.2.2.1))
        have HB2 : Hid (Ok w0 w2) := HZ.out.2.2.2.step hb2
        clear hb2 a0 a1 b0 b1 c0 c1 c2 c3
        obtain ⟨a0, a1, _, _⟩ := row_facts HR2.out.1
        obtain ⟨b0, b1, _, _⟩ := row_facts HR2.out.2.1
        obtain ⟨c0, c1, c2, c3⟩ := row_facts HR2.out.2.2
        have n1 : ¬ w.heap.size + 1 + 1 = w.heap.size := by omega
        have n2 : ¬ w.heap.size + 1 + 1 = w.heap.size + 1 := by omega
        cases l1
        · go_wp2_with fail
          refine (cleq_any dM R2 cM R1 HU.out.2.2.1 HU.out.2.2.2.2.2 HU.out.1 HU.out.2.2.2.2.1 w2 w2 (Ok.refl _)).mono ?_
          rintro e w3 ⟨rfl, hb3⟩
          rw [HL.out.2]
          have HR3 : Hid _ := And.intro (Ok.row' hb3 HR2.out.1) (And.intro (Ok.row' hb3 HR2.out.2.1) (Ok.row' hb3 HR2.out.2.2))
          have HB3 : Hid (Ok w0 w3) := HB2.out.step hb3
          clear hb3 a0 a1 b0 b1 c0 c1 c2 c3
          obtain ⟨a0, a1, _, _⟩ := row_facts HR3.out.1
          obtain ⟨b0, b1, _, _⟩ := row_facts HR3.out.2.1
          obtain ⟨c0, c1, c2, c3⟩ := row_facts HR3.out.2.2
          cases l2
          · go_wp2_with fail
            (try simp only [Exit.inBlock, Exit.then])
            refine bodyPost_ret (results_iv rfl _ _ (w.heap.size + 2) 27 #[_, _] (0, 0) _ rfl (row_set2 HR3.out.2.2 _ _) Tryz.underlying27 rfl infoCg) rfl ?_
            exact ⟨retM (M := 0) (R := 0) HEC.out, (HB3.out.set (show w0.heap.size ≤ w.heap.size + 2 by omega) _).set (show w0.heap.size ≤ w.heap.size + 2 by omega) _⟩
          · go_wp2_with fail
            (try simp only [Exit.inBlock, Exit.then])
            refine bodyPost_ret (results_iv rfl _ _ (w.heap.size + 2) 27 #[_, _] (0, 0) _ rfl (row_set2 HR3.out.2.2 _ _) Tryz.underlying27 rfl infoCg) rfl ?_
            exact ⟨retM HEC.out, (HB3.out.set (show w0.heap.size ≤ w.heap.size + 2 by omega) _).set (show w0.heap.size ≤ w.heap.size + 2 by omega) _⟩
        · go_wp2_with fail
          (try simp only [Exit.inBlock, Exit.then])
          refine bodyPost_ret (results_iv rfl _ _ (w.heap.size + 2) 27 #[_, _] (0, 0) _ rfl (row_set2 HR2.out.2.2 _ _) Tryz.underlying27 rfl infoCg) rfl ?_
          exact ⟨retM HEC.out, (HB2.out.set (show w0.heap.size ≤ w.heap.size + 2 by omega) _).set (show w0.heap.size ≤ w.heap.size + 2 by omega) _⟩
      · have hc1 : ((cM : Int) == 0) = false := by simp [hc]
        have hd1 : ((dM : Int) == 0) = true := by simp; omega
        clear hc hz zc
        go_wp2_with fail
        refine (cleq_any cM R1 dM R2 HU.out.1 HU.out.2.2.2.2.1 HU.out.2.2.1 HU.out.2.2.2.2.2 Z Z (Ok.refl _)).mono ?_
        rintro e w2 ⟨rfl, hb2⟩
        rw [HL.out.1]
        have HR2 : Hid _ := And.intro (Ok.row' hb2 HZ.out.1) (And.intro (Ok.row' hb2 HZ.out.2.1) (Ok.row' hb2 HZ.out.2.2.1))
        have HB2 : Hid (Ok w0 w2) := HZ.out.2.2.2.step hb2
        clear hb2 a0 a1 b0 b1 c0 c1 c2 c3
        obtain ⟨a0, a1, _, _⟩ := row_facts HR2.out.1
        obtain ⟨b0, b1, _, _⟩ := row_facts HR2.out.2.1
        obtain ⟨c0, c1, c2, c3⟩ := row_facts HR2.out.2.2
        have n1 : ¬ w.heap.size + 1 + 1 = w.heap.size := by omega
        have n2 : ¬ w.heap.size + 1 + 1 = w.heap.size + 1 := by omega
        cases l1
        · go_wp2_with fail
          refine (cleq_any dM R2 cM R1 HU.out.2.2.1 HU.out.2.2.2.2.2 HU.out.1 HU.out.2.2.2.2.1 w2 w2 (Ok.refl _)).mono ?_
          rintro e w3 ⟨rfl, hb3⟩
          rw [HL.out.2]
          have HR3 : Hid _ := And.intro (Ok.row' hb3 HR2.out.1) (And.intro (Ok.row' hb3 HR2.out.2.1) (Ok.row' hb3 HR2.out.2.2))
          have HB3 : Hid (Ok w0 w3) := HB2.out.step hb3
          clear hb3 a0 a1 b0 b1 c0 c1 c2 c3
          obtain ⟨a0, a1, _, _⟩ := row_facts HR3.out.1
          obtain ⟨b0, b1, _, _⟩ := row_facts HR3.out.2.1
          obtain ⟨c0, c1, c2, c3⟩ := row_facts HR3.out.2.2
          cases l2
          · go_wp2_with fail
            (try simp only [Exit.inBlock, Exit.then])
            refine bodyPost_ret (results_iv rfl _ _ (w.heap.size + 2) 27 #[_, _] (0, 0) _ rfl (row_set2 HR3.out.2.2 _ _) Tryz.underlying27 rfl infoCg) rfl ?_
            exact ⟨retM (M := 0) (R := 0) HEC.out, (HB3.out.set (show w0.heap.size ≤ w.heap.size + 2 by omega) _).set (show w0.heap.size ≤ w.heap.size + 2 by omega) _⟩
          · go_wp2_with fail
            (try simp only [Exit.inBlock, Exit.then])
            refine bodyPost_ret (results_iv rfl _ _ (w.heap.size + 2) 27 #[_, _] (0, 0) _ rfl (row_set2 HR3.out.2.2 _ _) Tryz.underlying27 rfl infoCg) rfl ?_
            exact ⟨retM HEC.out, (HB3.out.set (show w0.heap.size ≤ w.heap.size + 2 by omega) _).set (show w0.heap.size ≤ w.heap.size + 2 by omega) _⟩
        · go_wp2_with fail
          (try simp only [Exit.inBlock, Exit.then])
          refine bodyPost_ret (results_iv rfl _ _ (w.heap.size + 2) 27 #[_, _] (0, 0) _ rfl (row_set2 HR2.out.2.2 _ _) Tryz.underlying27 rfl infoCg) rfl ?_
          exact ⟨retM HEC.out, (HB2.out.set (show w0.heap.size ≤ w.heap.size + 2 by omega) _).set (show w0.heap.size ≤ w.heap.size + 2 by omega) _⟩
    · skip
      have hcp : 0 < cM := by omega
      have hdp : 0 < dM := by omega
      obtain ⟨g, hg⟩ : ∃ g, g = Nat.gcd cM dM := ⟨_, rfl⟩
      have hgp : 0 < g := by rw [hg]; exact Nat.gcd_pos_of_pos_left _ hcp
      have hg1 : g ∣ cM := by rw [hg]; exact Nat.gcd_dvd_left _ _
      have hg2 : g ∣ dM := by rw [hg]; exact Nat.gcd_dvd_right _ _
      obtain ⟨k, hk⟩ : ∃ k, k = cM / g := ⟨_, rfl⟩
      obtain ⟨m, hm⟩ : ∃ m, m = dM / g := ⟨_, rfl⟩
      have ek : cM = g * k := by rw [hk, Nat.mul_div_cancel' hg1]
      have em : dM = g * m := by rw [hm, Nat.mul_div_cancel' hg2]
      have hR1 : R1 = cR % cM := by have := HN.out.1; unfold normC at this; rw [if_pos hcp] at this; exact (Prod.mk.inj this).2.symm
      have hR2 : R2 = dR % dM := by have := HN.out.2; unfold normC at this; rw [if_pos hdp] at this; exact (Prod.mk.inj this).2.symm
      have hmp : 0 < m := by
        rcases Nat.eq_zero_or_pos m with h | h
        · rw [h] at em; simp at em; omega
        · exact h
      have uc := HU.out.1
      have ud := HU.out.2.2.1
      have gle : g ≤ cM := Nat.le_of_dvd hcp hg1
      have mle : m ≤ dM := by rw [hm]; exact Nat.div_le_self _ _
      have kle : k ≤ cM := by rw [hk]; exact Nat.div_le_self _ _
      unfold U64 at uc ud
      have HG : Hid (loB g = (g : Int) ∧ Big cM ∧ Big dM) := ⟨(big_small (by omega)).2, by unfold Big; omega, by unfold Big; omega⟩
      have HF : Hid (g = Nat.gcd cM dM ∧ 0 < g ∧ cM = g * k ∧ dM = g * m ∧ R1 = cR % cM ∧ R2 = dR % dM ∧ 0 < m ∧ m = dM / g ∧ k = cM / g ∧ g < 18446744073709551616 ∧ m < 18446744073709551616 ∧ k < 18446744073709551616 ∧ 0 < cM ∧ 0 < dM) := by
        refine ⟨hg, hgp, ek, em, hR1, hR2, hmp, hm, hk, ?_, ?_, ?_, hcp, hdp⟩ <;> omega
      obtain ⟨T1, hT1⟩ : ∃ T, T = R1 % g := ⟨_, rfl⟩
      obtain ⟨T2, hT2⟩ : ∃ T, T = R2 % g := ⟨_, rfl⟩
      have t1 : (R1 : Int).tmod (g : Int) = (T1 : Int) := by rw [hT1, Int.tmod_eq_emod_of_nonneg (by omega), Int.natCast_emod]
      have t2 : (R2 : Int).tmod (g : Int) = (T2 : Int) := by rw [hT2, Int.tmod_eq_emod_of_nonneg (by omega), Int.natCast_emod]
      have t3 : (R1 : Int) % (g : Int) = (T1 : Int) := by rw [hT1, Int.natCast_emod]
      have t4 : (R2 : Int) % (g : Int) = (T2 : Int) := by rw [hT2, Int.natCast_emod]
      have HT : Hid _ := And.intro hT1 hT2
      have f1 : ((g : Int) == 0) = false := by simp; omega
      have f2 : ¬ (g : Int) = 0 := by omega
      have f3 : (g == 0) = false := by simp; omega
      have f4 : ¬ g = 0 := by omega
      have hc1 : ((cM : Int) == 0) = false := by simp; omega
      have hd1 : ((dM : Int) == 0) = false := by simp; omega
      clear hz hcp hdp hg hgp hg1 hg2 hk hm ek em hR1 hR2 hmp uc ud gle mle kle hT1 hT2
      go_wp2_with fail
      have z0 := lt_row HZ.out.1
      have z1 := lt_row HZ.out.2.1
      have bz : Ok Z Z := Ok.refl _
      go_region_held3 (fun w' => w'.cell? ⟨w.heap.size, 0, none⟩ = some (.int .u64 (cM : Int)) ∧ w'.cell? ⟨w.heap.size + 1, 0, none⟩ = some (.int .u64 (dM : Int))) (go_keep)
        (first
        | (go_at_call 60; refine (bof_any _ (by first | exact HU.out.1 | exact HU.out.2.2.1) Z _ (by repeat (first | assumption | refine Ok.alloc ?_ _ | refine Below.drew ?_))).mono ?_; rintro e w' ⟨rfl, hb⟩; unfold bv; have q0 := Ok.cell hb z0 a0; have q1 := Ok.cell hb z1 b0)
        | (go_at_call 59; refine (bgcd_any cM dM HG.out.2.1 HG.out.2.2 Z _ (by repeat (first | assumption | refine Ok.alloc ?_ _ | refine Below.drew ?_))).mono ?_; rintro e w' ⟨rfl, hb⟩; rw [← HF.out.1]; unfold bv; rw [HG.out.1]; have q0 := Ok.cell hb z0 a0; have q1 := Ok.cell hb z1 b0)
        | fail)
      have HY : Hid _ := And.intro (Ok.row' hb HZ.out.1) (And.intro (Ok.row' hb HZ.out.2.1) (And.intro (Ok.row' hb HZ.out.2.2.1) (HZ.out.2.2.2.step hb)))
      clear a0 a1 b0 b1 c0 c1 c2 c3 z0 z1 hb
      obtain ⟨Y, hYY⟩ : ∃ Y, Y = w' := ⟨_, rfl⟩
      rw [← hYY] at HY ⊢
      clear hYY
      obtain ⟨a0, a1, _, _⟩ := row_facts HY.out.1
      obtain ⟨b0, b1, _, _⟩ := row_facts HY.out.2.1
      obtain ⟨c0, c1, c2, c3⟩ := row_facts HY.out.2.2.1
      have n1 : ¬ w.heap.size + 1 + 1 = w.heap.size := by omega
      have n2 : ¬ w.heap.size + 1 + 1 = w.heap.size + 1 := by omega
      go_wp2_with fail
      by_cases hT : T1 = T2
      · have p1 : ((T1 : Int) != (T2 : Int)) = false := by simp [hT]
        have HT3 : Hid _ := hT
        clear hT
        obtain ⟨D, hD⟩ : ∃ D : Int, D = (R2 : Int) - (R1 : Int) := ⟨_, rfl⟩
        have e1 : (dM : Int).tdiv (g : Int) = (m : Int) := by rw [HF.out.2.2.2.2.2.2.2.1, Int.tdiv_eq_ediv_of_nonneg (by omega), Int.natCast_ediv]
        have e2 : IntKind.u64.wrap (m : Int) = (m : Int) := by have := HF.out; rw [u64w]; omega
        have e3 : (cM : Int).tdiv (g : Int) = (k : Int) := by rw [HF.out.2.2.2.2.2.2.2.2.1, Int.tdiv_eq_ediv_of_nonneg (by omega), Int.natCast_ediv]
        have e4 : IntKind.u64.wrap (k : Int) = (k : Int) := by have := HF.out; rw [u64w]; omega
        clear hD D
        go_quiet (fail)
        by_cases hm1 : 1 < m
        · skip
          have hm2 : (1 : Int) < (m : Int) := by omega
          have h := HF.out
          have HI : Hid (Nat.gcd m (k % m) = 1) := by
            have a : Nat.gcd k m = 1 := by
              have b := Nat.gcd_mul_left g k m
              rw [← h.2.2.1, ← h.2.2.2.1, ← h.1] at b
              exact Nat.eq_of_mul_eq_mul_left h.2.1 (by omega)
            rw [Nat.gcd_comm, ← Nat.gcd_rec, Nat.gcd_comm]; exact a
          have m1 : ((m : Int) == 0) = false := by simp; omega
          have m2 : ¬ (m : Int) = 0 := by omega
          have m3 : (m == 0) = false := by simp; omega
          have m4 : ¬ m = 0 := by omega
          have HM : Hid (2 ≤ m) := hm1
          have ur1 := HU.out.2.2.2.2.1
          have ur2 := HU.out.2.2.2.2.2
          unfold U64 at ur1 ur2
          obtain ⟨hgl, hml, hkl⟩ : g < 18446744073709551616 ∧ m < 18446744073709551616 ∧ k < 18446744073709551616 := ⟨h.2.2.2.2.2.2.2.2.2.1, h.2.2.2.2.2.2.2.2.2.2.1, h.2.2.2.2.2.2.2.2.2.2.2.1⟩
          by_cases hr : R1 ≤ R2
          · have hr2 : ¬ (R2 : Int) < (R1 : Int) := by omega
            obtain ⟨D, hD⟩ : ∃ D, D = R2 - R1 := ⟨_, rfl⟩
            obtain ⟨D1, hD1⟩ : ∃ D1, D1 = D / g := ⟨_, rfl⟩
            obtain ⟨s, hs⟩ : ∃ s, s = D1 % m := ⟨_, rfl⟩
            have k1 : IntKind.u64.wrap ((R2 : Int) - (R1 : Int)) = (D : Int) := by rw [u64w]; omega
            have k2 : (D : Int).tdiv (g : Int) = (D1 : Int) := by rw [hD1, Int.tdiv_eq_ediv_of_nonneg (by omega), Int.natCast_ediv]
            have d1 := Nat.div_le_self D g
            rw [← hD1] at d1
            have k3 : IntKind.u64.wrap (D1 : Int) = (D1 : Int) := by rw [u64w]; omega
            have k4 : (D1 : Int).tmod (m : Int) = (s : Int) := by rw [hs, Int.tmod_eq_emod_of_nonneg (by omega), Int.natCast_emod]
            have HS : Hid (s < m) := by unfold Hid; rw [hs]; exact Nat.mod_lt _ (by omega)
            have HEQ : Hid (∀ i : Nat, (m : Int) ∣ (i : Int) * k - 1 → C = finC (cM * m) (cM * (s * i % m) + R1) ∧ s * i % m < m) := by
              intro i hi
              rw [HC.out, h.2.2.2.2.1]
              refine meet_steps (q := (D1 : Int)) h.1 h.2.1 h.2.2.1 h.2.2.2.1 h.2.2.2.2.2.2.2.1 h.2.2.2.2.2.2.1 h.2.2.2.2.2.2.2.2.2.2.2.2.1 h.2.2.2.2.2.2.2.2.2.2.2.2.2 hi ?_ ?_
              · rw [← h.2.2.2.2.1, ← h.2.2.2.2.2.1, ← Int.natCast_mul, hD1, hD, exact_diff (by rw [← HT.out.1, ← HT.out.2]; exact HT3.out)]
                omega
              · rw [hs]; exact mod_dvd D1 m
            clear hm1 hr hD hD1 hs d1 h ur1 ur2 hgl hml hkl
            have HY2 : Hid (_ ∧ _ ∧ _ ∧ _) := And.intro (Ok.row' (Ok.draws (Ok.refl Y) nq) HY.out.1) (And.intro (Ok.row' (Ok.draws (Ok.refl Y) nq) HY.out.2.1) (And.intro (Ok.row' (Ok.draws (Ok.refl Y) nq) HY.out.2.2.1) (HY.out.2.2.2.draws nq)))
            go_wp2_with fail
            refine (cinverse_any k m HF.out.2.2.2.2.2.2.2.2.2.2.2.1 HF.out.2.2.2.2.2.2.2.2.2.2.1 HM.out HI.out _ _ (Ok.refl _)).mono ?_
            rintro e w1 ⟨⟨i, hi1, hi2, rfl⟩, hb1⟩
            have HE1 : Hid _ := HEQ.out i hi2
            have HIL : Hid (i < m) := hi1
            have HQ1 : Hid (_ ∧ _ ∧ _ ∧ _) := And.intro (Ok.row' hb1 HY2.out.1) (And.intro (Ok.row' hb1 HY2.out.2.1) (And.intro (Ok.row' hb1 HY2.out.2.2.1) (HY2.out.2.2.2.step hb1)))
            clear hi1 hi2 hb1 a0 a1 b0 b1 c0 c1 c2 c3
            obtain ⟨a0, a1, _, _⟩ := row_facts HQ1.out.1
            go_wp2_with fail
            refine (ctimesMod_any s i m (by have := HS.out; have := HF.out; unfold U64; omega) (by have := HIL.out; have := HF.out; unfold U64; omega) HF.out.2.2.2.2.2.2.2.2.2.2.1 HF.out.2.2.2.2.2.2.1 w1 w1 (Ok.refl _)).mono ?_
            rintro e w2 ⟨rfl, hb2⟩
            obtain ⟨t, ht⟩ : ∃ t, t = s * i % m := ⟨_, rfl⟩
            rw [← ht] at HE1 ⊢
            have HE : Hid (C = finC (cM * m) (cM * t + R1) ∧ t < m) := HE1.out
            have HTU : Hid (t < 18446744073709551616) := by have := HE.out.2; have := HF.out; unfold Hid; omega
            have HPt : Hid (cM * t = cM * t) := by unfold Hid; rfl
            have HQ : Hid (_ ∧ _ ∧ _ ∧ _) := And.intro (Ok.row' hb2 HQ1.out.1) (And.intro (Ok.row' hb2 HQ1.out.2.1) (And.intro (Ok.row' hb2 HQ1.out.2.2.1) (HQ1.out.2.2.2.step hb2)))
            clear ht hb2 a0 a1
            obtain ⟨a0, a1, _, _⟩ := row_facts HQ.out.1
            obtain ⟨b0, b1, _, _⟩ := row_facts HQ.out.2.1
            obtain ⟨c0, c1, c2, c3⟩ := row_facts HQ.out.2.2.1
            go_wp2_with fail
            refine (btimes_any cM t HU.out.1 HTU.out _ _ (Ok.refl _)).mono ?_
            rintro e w3 ⟨rfl, hb3⟩
            (try rw [HPt.out])
            obtain ⟨P, hP⟩ : ∃ P, P = cM * t := ⟨_, rfl⟩
            obtain ⟨X, hX⟩ : ∃ X, X = P + R1 := ⟨_, rfl⟩
            obtain ⟨L, hL⟩ : ∃ L, L = cM * m := ⟨_, rfl⟩
            rw [← hP] at HE ⊢
            rw [← hX, ← hL] at HE
            have HXB : Hid (Big X ∧ Big L ∧ X < L) := by
              have h := HF.out
              have hLB : Big L := by rw [hL]; exact prod_big HU.out.1 h.2.2.2.2.2.2.2.2.2.2.1
              have hXL : X < L := by
                have a : R1 < cM := by rw [h.2.2.2.2.1]; exact Nat.mod_lt _ h.2.2.2.2.2.2.2.2.2.2.2.2.1
                have b : cM * (t + 1) ≤ cM * m := Nat.mul_le_mul_left _ HE.out.2
                rw [Nat.mul_add, Nat.mul_one] at b
                omega
              refine ⟨?_, hLB, hXL⟩
              unfold Big at *; omega
            have HXL : Hid _ := And.intro hX hL
            have HQ3 : Hid (_ ∧ _ ∧ _ ∧ _) := And.intro (Ok.row' hb3 HQ.out.1) (And.intro (Ok.row' hb3 HQ.out.2.1) (And.intro (Ok.row' hb3 HQ.out.2.2.1) (HQ.out.2.2.2.step hb3)))
            clear a0 a1 b0 b1 c0 c1 c2 c3 hb3 hP hX hL e3 e4
            obtain ⟨a0, a1, _, _⟩ := row_facts HQ3.out.1
            have z0 := lt_row HQ3.out.1
            have z2 := lt_row HQ3.out.2.2.1
            unfold bv
            by_cases hcar : IntKind.u64.wrap (loB P + (R1 : Int)) < (R1 : Int)
            · have HX2 : Hid (hiB X = IntKind.u64.wrap (hiB P + 1) ∧ loB X = IntKind.u64.wrap (loB P + (R1 : Int))) := by
                have := tim_carry (S := P) (a := R1) HU.out.2.2.2.2.1 (by rw [← HXL.out.1]; exact HXB.out.1) hcar
                rw [HXL.out.1]; exact this
              go_wp2_with fail
              rw [← HX2.out.1, ← HX2.out.2]
              as_aux_lemma =>
                obtain ⟨V, hV⟩ : ∃ V, V = w3.alloc (.cells #[.int .u64 (hiB X), .int .u64 (loB X)] 72) := ⟨_, rfl⟩
                have hrx : V.heap[w3.heap.size]? = some (cB X) := by rw [hV]; exact heap_new0 _ _
                have hrv : V.heap[w.heap.size + 2]? = some (.cells #[.int .u64 0, .int .u64 0] 27) := by rw [hV]; exact heap_past _ _ _ z2 HQ3.out.2.2.1
                have hov : Ok w0 V := by rw [hV]; exact HQ3.out.2.2.2.alloc _
                rw [← hV]
                refine (btimes_any cM m HU.out.1 HF.out.2.2.2.2.2.2.2.2.2.2.1 V V (Ok.refl _)).mono ?_
                rintro e w4 ⟨rfl, hb4⟩
                rw [← HXL.out.2]
                have HQ4 : Hid (_ ∧ _ ∧ _) := And.intro (Ok.row' hb4 hrx) (And.intro (Ok.row' hb4 hrv) (hov.step hb4))
                clear hV hrx hrv hov hb4 a0 a1 z0 hcar HX2
                have zx := lt_row HQ4.out.1
                have zr := lt_row HQ4.out.2.1
                have nx : ¬ w.heap.size + 1 + 1 = w3.heap.size := by omega
                have hwx : w0.heap.size ≤ w.heap.size + 2 := by omega
                obtain ⟨k0, k1, k2, k3⟩ := cB_facts HQ4.out.1
                obtain ⟨c0, c1, c2, c3⟩ := row_facts HQ4.out.2.1
                obtain ⟨gx, hgx⟩ : ∃ gx, gx = w3.heap.size := ⟨_, rfl⟩
                rw [← hgx] at nx zx HQ4 k0 k1 k2 k3 ⊢
                clear hgx z2
                unfold bv
                by_cases hL : L < 18446744073709551616
                · have HEC : Hid (C = (L, X, true)) := by unfold Hid; rw [HE.out.1]; unfold finC; rw [if_pos hL]
                  have l0 : hiB L = 0 := (big_small hL).1
                  have HLL : Hid (loB L = (L : Int) ∧ loB X = (X : Int)) := ⟨(big_small hL).2, (big_small (by have := HXB.out.2.2; omega)).2⟩
                  clear hL
                  go_wp2_with fail
                  rw [HLL.out.1, HLL.out.2]
                  (try simp only [Exit.inBlock, Exit.then])
                  refine bodyPost_ret (results_iv rfl _ _ (w.heap.size + 2) 27 #[_, _] (0, 0) _ rfl (heap_past _ _ _ (by simp; omega) (row_set2 HQ4.out.2.1 _ _)) Tryz.underlying27 rfl infoCg) rfl ?_
                  exact ⟨retM HEC.out, ((HQ4.out.2.2.set hwx _).set hwx _).alloc _⟩
                · have l0 : (hiB L == 0) = false := by simp; unfold hiB; omega
                  have HE2 : Hid (C = if X < 9223372036854775808 then (0, X, true) else if L - X ≤ 9223372036854775808 then (0, bitsN (-((L - X : Nat) : Int)), true) else (0, 0, false)) := by unfold Hid; rw [HE.out.1]; unfold finC; rw [if_neg hL]
                  clear hL
                  go_wp2_with fail
                  obtain ⟨U, hU⟩ : ∃ U, U = w4.alloc (.cells #[.int .u64 (hiB L), .int .u64 (loB L)] 72) := ⟨_, rfl⟩
                  have hr1 : U.heap[w4.heap.size]? = some (cB L) := by rw [hU]; exact heap_new0 _ _
                  have hr2 : U.heap[w.heap.size + 2]? = some (.cells #[.int .u64 0, .int .u64 0] 27) := by rw [hU]; exact heap_past _ _ _ zr HQ4.out.2.1
                  have hr3 : U.heap[gx]? = some (cB X) := by rw [hU]; exact heap_past _ _ _ zx HQ4.out.1
                  have hr4 : Ok w0 U := by rw [hU]; exact HQ4.out.2.2.alloc _
                  rw [← hU]
                  have HQ5 : Hid (_ ∧ _ ∧ _ ∧ _) := And.intro hr3 (And.intro hr1 (And.intro hr2 hr4))
                  have ny : ¬ w.heap.size + 1 + 1 = w4.heap.size := by omega
                  obtain ⟨gy, hgy⟩ : ∃ gy, gy = w4.heap.size := ⟨_, rfl⟩
                  rw [← hgy] at ny HQ5 ⊢
                  clear hU hr1 hr2 hr3 hr4 hgy zx zr c0 c1 c2 c3 k0 k1 k2 k3
                  obtain ⟨k0, k1, _, _⟩ := cB_facts HQ5.out.1
                  obtain ⟨j0, j1, _, _⟩ := cB_facts HQ5.out.2.1
                  have zx := lt_row HQ5.out.1
                  have zy := lt_row HQ5.out.2.1
                  have bz : Ok U U := Ok.refl _
                  obtain ⟨bx, hbx⟩ : ∃ b, b = decide (X < 9223372036854775808) := ⟨_, rfl⟩
                  have HBX : Hid _ := hbx
                  clear hbx
                  go_region_held3 (fun w' => w'.cell? ⟨gx, 0, none⟩ = some (.int .u64 (hiB X)) ∧ w'.cell? ⟨gx, 1, none⟩ = some (.int .u64 (loB X))) (go_keep)
                    (first
                    | (go_at_call 60; refine (cof_half U _ (by repeat (first | assumption | refine Ok.alloc ?_ _ | refine Below.drew ?_))).mono ?_; rintro e w' ⟨rfl, hb⟩; have q0 := Ok.cell hb zx k0; have q1 := Ok.cell hb zx k1)
                    | (go_at_call 64; refine (cless_half X U _ (by repeat (first | assumption | refine Ok.alloc ?_ _ | refine Below.drew ?_))).mono ?_; rintro e w' ⟨rfl, hb⟩; rw [← HBX.out]; have q0 := Ok.cell hb zx k0; have q1 := Ok.cell hb zx k1)
                    | fail)
                  have HQ6 : Hid (_ ∧ _ ∧ _ ∧ _) := And.intro (Ok.row' hb HQ5.out.1) (And.intro (Ok.row' hb HQ5.out.2.1) (And.intro (Ok.row' hb HQ5.out.2.2.1) (HQ5.out.2.2.2.step hb)))
                  obtain ⟨O, hO⟩ : ∃ O, O = w' := ⟨_, rfl⟩
                  rw [← hO] at HQ6 ⊢
                  clear hO hb k0 k1 j0 j1 zx zy
                  obtain ⟨k0, k1, _, _⟩ := cB_facts HQ6.out.1
                  obtain ⟨j0, j1, _, _⟩ := cB_facts HQ6.out.2.1
                  cases bx
                  · have hx : ¬ X < 9223372036854775808 := dec_no HBX.out
                    have HE3 : Hid _ := HE2.out.trans (if_neg hx)
                    clear hx
                    go_wp2_with fail
                    refine (bminus_any L X HXB.out.2.1 HXB.out.1 O O (Ok.refl _)).mono ?_
                    rintro e w6 ⟨rfl, hb6⟩
                    rw [subB_le HXB.out.2.1 (Nat.le_of_lt HXB.out.2.2)]
                    obtain ⟨B, hB⟩ : ∃ B, B = L - X := ⟨_, rfl⟩
                    rw [← hB] at HE3 ⊢
                    have HB : Hid (0 < B) := by have := HXB.out.2.2; unfold Hid; omega
                    have HQ7 : Hid (_ ∧ _) := And.intro (Ok.row' hb6 HQ6.out.2.2.1) (HQ6.out.2.2.2.step hb6)
                    clear hB hb6 k0 k1 j0 j1
                    unfold bv
                    go_wp2_with fail
                    obtain ⟨S, hS⟩ : ∃ S, S = w6.alloc (.cells #[.int .u64 (hiB B), .int .u64 (loB B)] 72) := ⟨_, rfl⟩
                    have hr1 : S.heap[w6.heap.size]? = some (cB B) := by rw [hS]; exact heap_new0 _ _
                    have zr := lt_row HQ7.out.1
                    have hr2 : S.heap[w.heap.size + 2]? = some (.cells #[.int .u64 0, .int .u64 0] 27) := by rw [hS]; exact heap_past _ _ _ zr HQ7.out.1
                    have hr4 : Ok w0 S := by rw [hS]; exact HQ7.out.2.alloc _
                    rw [← hS]
                    have nz : ¬ w.heap.size + 1 + 1 = w6.heap.size := by omega
                    have HQ8 : Hid (_ ∧ _ ∧ _) := And.intro hr1 (And.intro hr2 hr4)
                    obtain ⟨gz, hgz⟩ : ∃ gz, gz = w6.heap.size := ⟨_, rfl⟩
                    rw [← hgz] at nz HQ8 ⊢
                    clear hS hr1 hr2 hr4 hgz zr
                    obtain ⟨k0, k1, _, _⟩ := cB_facts HQ8.out.1
                    have zz := lt_row HQ8.out.1
                    have bz : Ok S S := Ok.refl _
                    obtain ⟨by', hby⟩ : ∃ b, b = decide (9223372036854775808 < B) := ⟨_, rfl⟩
                    have HBY : Hid _ := hby
                    clear hby
                    go_region_held3 (fun w' => w'.cell? ⟨gz, 0, none⟩ = some (.int .u64 (hiB B)) ∧ w'.cell? ⟨gz, 1, none⟩ = some (.int .u64 (loB B))) (go_keep)
                      (first
                      | (go_at_call 60; refine (cof_half S _ (by repeat (first | assumption | refine Ok.alloc ?_ _ | refine Below.drew ?_))).mono ?_; rintro e w' ⟨rfl, hb⟩; have q0 := Ok.cell hb zz k0; have q1 := Ok.cell hb zz k1)
                      | (go_at_call 64; refine (cless_back B S _ (by repeat (first | assumption | refine Ok.alloc ?_ _ | refine Below.drew ?_))).mono ?_; rintro e w' ⟨rfl, hb⟩; rw [← HBY.out]; have q0 := Ok.cell hb zz k0; have q1 := Ok.cell hb zz k1)
                      | fail)
                    have HQ9 : Hid (_ ∧ _ ∧ _) := And.intro (Ok.row' hb HQ8.out.1) (And.intro (Ok.row' hb HQ8.out.2.1) (HQ8.out.2.2.step hb))
                    obtain ⟨O2, hO2⟩ : ∃ O, O = w' := ⟨_, rfl⟩
                    rw [← hO2] at HQ9 ⊢
                    clear hO2 hb k0 k1 zz
                    obtain ⟨k0, k1, _, _⟩ := cB_facts HQ9.out.1
                    obtain ⟨c0, c1, c2, c3⟩ := row_facts HQ9.out.2.1
                    cases by'
                    · have hx : B ≤ 9223372036854775808 := Nat.le_of_not_lt (dec_no HBY.out)
                      have HE4 : Hid _ := HE3.out.trans (if_pos hx)
                      have HBL : Hid (bitsN (wrap64 (IntKind.u64.wrap (-(loB B)))) = bitsN (-(B : Int))) := bits_back HB.out hx
                      clear hx
                      go_wp2_with fail
                      refine (cconst_any _ O2 O2 (Ok.refl _)).mono ?_
                      rintro e w7 ⟨rfl, hb7⟩
                      have HQ10 : Hid (_ ∧ _) := And.intro (Ok.row' hb7 HQ9.out.2.1) (HQ9.out.2.2.step hb7)
                      clear hb7 c0 c1 c2 c3 k0 k1
                      obtain ⟨c0, c1, c2, c3⟩ := row_facts HQ10.out.1
                      unfold cv
                      go_wp2_with fail
                      (try simp only [Exit.inBlock, Exit.then])
                      refine bodyPost_ret (results_iv rfl _ _ (w.heap.size + 2) 27 #[_, _] (0, 0) _ rfl (row_set2 HQ10.out.1 _ _) Tryz.underlying27 rfl infoCg) rfl ?_
                      refine ⟨retM (M := 0) ?_, (HQ10.out.2.set hwx _).set hwx _⟩
                      rw [HE4.out]
                      first | rw [HBL.out] | rfl
                    · have hx : ¬ B ≤ 9223372036854775808 := Nat.not_le_of_lt (dec_yes HBY.out)
                      have HE4 : Hid _ := HE3.out.trans (if_neg hx)
                      clear hx
                      go_wp2_with fail
                      (try simp only [Exit.inBlock, Exit.then])
                      refine bodyPost_ret (results_iv rfl _ _ (w.heap.size + 2) 27 #[_, _] (0, 0) _ rfl (row_set2 HQ9.out.2.1 _ _) Tryz.underlying27 rfl infoCg) rfl ?_
                      exact ⟨retM (M := 0) (R := 0) HE4.out, (HQ9.out.2.2.set hwx _).set hwx _⟩
                  · have hx : X < 9223372036854775808 := dec_yes HBX.out
                    have HE3 : Hid _ := HE2.out.trans (if_pos hx)
                    have HBL : Hid (bitsN (wrap64 (loB X)) = X) := bits_lo hx
                    clear hx
                    go_wp2_with fail
                    refine (cconst_any _ O O (Ok.refl _)).mono ?_
                    rintro e w7 ⟨rfl, hb7⟩
                    rw [HBL.out]
                    have HQ10 : Hid (_ ∧ _) := And.intro (Ok.row' hb7 HQ6.out.2.2.1) (HQ6.out.2.2.2.step hb7)
                    clear hb7 k0 k1 j0 j1
                    obtain ⟨c0, c1, c2, c3⟩ := row_facts HQ10.out.1
                    unfold cv
                    go_wp2_with fail
                    (try simp only [Exit.inBlock, Exit.then])
                    refine bodyPost_ret (results_iv rfl _ _ (w.heap.size + 2) 27 #[_, _] (0, 0) _ rfl (row_set2 HQ10.out.1 _ _) Tryz.underlying27 rfl infoCg) rfl ?_
                    exact ⟨retM (M := 0) HE3.out, (HQ10.out.2.set hwx _).set hwx _⟩
            · have HX2 : Hid (hiB X = hiB P ∧ loB X = IntKind.u64.wrap (loB P + (R1 : Int))) := by
                have := tim_none (S := P) (a := R1) HU.out.2.2.2.2.1 hcar
                rw [HXL.out.1]; exact this
              go_wp2_with fail
              rw [← HX2.out.1, ← HX2.out.2]
              as_aux_lemma =>
                obtain ⟨V, hV⟩ : ∃ V, V = w3.alloc (.cells #[.int .u64 (hiB X), .int .u64 (loB X)] 72) := ⟨_, rfl⟩
                have hrx : V.heap[w3.heap.size]? = some (cB X) := by rw [hV]; exact heap_new0 _ _
                have hrv : V.heap[w.heap.size + 2]? = some (.cells #[.int .u64 0, .int .u64 0] 27) := by rw [hV]; exact heap_past _ _ _ z2 HQ3.out.2.2.1
                have hov : Ok w0 V := by rw [hV]; exact HQ3.out.2.2.2.alloc _
                rw [← hV]
                refine (btimes_any cM m HU.out.1 HF.out.2.2.2.2.2.2.2.2.2.2.1 V V (Ok.refl _)).mono ?_
                rintro e w4 ⟨rfl, hb4⟩
                rw [← HXL.out.2]
                have HQ4 : Hid (_ ∧ _ ∧ _) := And.intro (Ok.row' hb4 hrx) (And.intro (Ok.row' hb4 hrv) (hov.step hb4))
                clear hV hrx hrv hov hb4 a0 a1 z0 hcar HX2
                have zx := lt_row HQ4.out.1
                have zr := lt_row HQ4.out.2.1
                have nx : ¬ w.heap.size + 1 + 1 = w3.heap.size := by omega
                have hwx : w0.heap.size ≤ w.heap.size + 2 := by omega
                obtain ⟨k0, k1, k2, k3⟩ := cB_facts HQ4.out.1
                obtain ⟨c0, c1, c2, c3⟩ := row_facts HQ4.out.2.1
                obtain ⟨gx, hgx⟩ : ∃ gx, gx = w3.heap.size := ⟨_, rfl⟩
                rw [← hgx] at nx zx HQ4 k0 k1 k2 k3 ⊢
                clear hgx z2
                unfold bv
                by_cases hL : L < 18446744073709551616
                · have HEC : Hid (C = (L, X, true)) := by unfold Hid; rw [HE.out.1]; unfold finC; rw [if_pos hL]
                  have l0 : hiB L = 0 := (big_small hL).1
                  have HLL : Hid (loB L = (L : Int) ∧ loB X = (X : Int)) := ⟨(big_small hL).2, (big_small (by have := HXB.out.2.2; omega)).2⟩
                  clear hL
                  go_wp2_with fail
                  rw [HLL.out.1, HLL.out.2]
                  (try simp only [Exit.inBlock, Exit.then])
                  refine bodyPost_ret (results_iv rfl _ _ (w.heap.size + 2) 27 #[_, _] (0, 0) _ rfl (heap_past _ _ _ (by simp; omega) (row_set2 HQ4.out.2.1 _ _)) Tryz.underlying27 rfl infoCg) rfl ?_
                  exact ⟨retM HEC.out, ((HQ4.out.2.2.set hwx _).set hwx _).alloc _⟩
                · have l0 : (hiB L == 0) = false := by simp; unfold hiB; omega
                  have HE2 : Hid (C = if X < 9223372036854775808 then (0, X, true) else if L - X ≤ 9223372036854775808 then (0, bitsN (-((L - X : Nat) : Int)), true) else (0, 0, false)) := by unfold Hid; rw [HE.out.1]; unfold finC; rw [if_neg hL]
                  clear hL
                  go_wp2_with fail
                  obtain ⟨U, hU⟩ : ∃ U, U = w4.alloc (.cells #[.int .u64 (hiB L), .int .u64 (loB L)] 72) := ⟨_, rfl⟩
                  have hr1 : U.heap[w4.heap.size]? = some (cB L) := by rw [hU]; exact heap_new0 _ _
                  have hr2 : U.heap[w.heap.size + 2]? = some (.cells #[.int .u64 0, .int .u64 0] 27) := by rw [hU]; exact heap_past _ _ _ zr HQ4.out.2.1
                  have hr3 : U.heap[gx]? = some (cB X) := by rw [hU]; exact heap_past _ _ _ zx HQ4.out.1
                  have hr4 : Ok w0 U := by rw [hU]; exact HQ4.out.2.2.alloc _
                  rw [← hU]
                  have HQ5 : Hid (_ ∧ _ ∧ _ ∧ _) := And.intro hr3 (And.intro hr1 (And.intro hr2 hr4))
                  have ny : ¬ w.heap.size + 1 + 1 = w4.heap.size := by omega
                  obtain ⟨gy, hgy⟩ : ∃ gy, gy = w4.heap.size := ⟨_, rfl⟩
                  rw [← hgy] at ny HQ5 ⊢
                  clear hU hr1 hr2 hr3 hr4 hgy zx zr c0 c1 c2 c3 k0 k1 k2 k3
                  obtain ⟨k0, k1, _, _⟩ := cB_facts HQ5.out.1
                  obtain ⟨j0, j1, _, _⟩ := cB_facts HQ5.out.2.1
                  have zx := lt_row HQ5.out.1
                  have zy := lt_row HQ5.out.2.1
                  have bz : Ok U U := Ok.refl _
                  obtain ⟨bx, hbx⟩ : ∃ b, b = decide (X < 9223372036854775808) := ⟨_, rfl⟩
                  have HBX : Hid _ := hbx
                  clear hbx
                  go_region_held3 (fun w' => w'.cell? ⟨gx, 0, none⟩ = some (.int .u64 (hiB X)) ∧ w'.cell? ⟨gx, 1, none⟩ = some (.int .u64 (loB X))) (go_keep)
                    (first
                    | (go_at_call 60; refine (cof_half U _ (by repeat (first | assumption | refine Ok.alloc ?_ _ | refine Below.drew ?_))).mono ?_; rintro e w' ⟨rfl, hb⟩; have q0 := Ok.cell hb zx k0; have q1 := Ok.cell hb zx k1)
                    | (go_at_call 64; refine (cless_half X U _ (by repeat (first | assumption | refine Ok.alloc ?_ _ | refine Below.drew ?_))).mono ?_; rintro e w' ⟨rfl, hb⟩; rw [← HBX.out]; have q0 := Ok.cell hb zx k0; have q1 := Ok.cell hb zx k1)
                    | fail)
                  have HQ6 : Hid (_ ∧ _ ∧ _ ∧ _) := And.intro (Ok.row' hb HQ5.out.1) (And.intro (Ok.row' hb HQ5.out.2.1) (And.intro (Ok.row' hb HQ5.out.2.2.1) (HQ5.out.2.2.2.step hb)))
                  obtain ⟨O, hO⟩ : ∃ O, O = w' := ⟨_, rfl⟩
                  rw [← hO] at HQ6 ⊢
                  clear hO hb k0 k1 j0 j1 zx zy
                  obtain ⟨k0, k1, _, _⟩ := cB_facts HQ6.out.1
                  obtain ⟨j0, j1, _, _⟩ := cB_facts HQ6.out.2.1
                  cases bx
                  · have hx : ¬ X < 9223372036854775808 := dec_no HBX.out
                    have HE3 : Hid _ := HE2.out.trans (if_neg hx)
                    clear hx
                    go_wp2_with fail
                    refine (bminus_any L X HXB.out.2.1 HXB.out.1 O O (Ok.refl _)).mono ?_
                    rintro e w6 ⟨rfl, hb6⟩
                    rw [subB_le HXB.out.2.1 (Nat.le_of_lt HXB.out.2.2)]
                    obtain ⟨B, hB⟩ : ∃ B, B = L - X := ⟨_, rfl⟩
                    rw [← hB] at HE3 ⊢
                    have HB : Hid (0 < B) := by have := HXB.out.2.2; unfold Hid; omega
                    have HQ7 : Hid (_ ∧ _) := And.intro (Ok.row' hb6 HQ6.out.2.2.1) (HQ6.out.2.2.2.step hb6)
                    clear hB hb6 k0 k1 j0 j1
                    unfold bv
                    go_wp2_with fail
                    obtain ⟨S, hS⟩ : ∃ S, S = w6.alloc (.cells #[.int .u64 (hiB B), .int .u64 (loB B)] 72) := ⟨_, rfl⟩
                    have hr1 : S.heap[w6.heap.size]? = some (cB B) := by rw [hS]; exact heap_new0 _ _
                    have zr := lt_row HQ7.out.1
                    have hr2 : S.heap[w.heap.size + 2]? = some (.cells #[.int .u64 0, .int .u64 0] 27) := by rw [hS]; exact heap_past _ _ _ zr HQ7.out.1
                    have hr4 : Ok w0 S := by rw [hS]; exact HQ7.out.2.alloc _
                    rw [← hS]
                    have nz : ¬ w.heap.size + 1 + 1 = w6.heap.size := by omega
                    have HQ8 : Hid (_ ∧ _ ∧ _) := And.intro hr1 (And.intro hr2 hr4)
                    obtain ⟨gz, hgz⟩ : ∃ gz, gz = w6.heap.size := ⟨_, rfl⟩
                    rw [← hgz] at nz HQ8 ⊢
                    clear hS hr1 hr2 hr4 hgz zr
                    obtain ⟨k0, k1, _, _⟩ := cB_facts HQ8.out.1
                    have zz := lt_row HQ8.out.1
                    have bz : Ok S S := Ok.refl _
                    obtain ⟨by', hby⟩ : ∃ b, b = decide (9223372036854775808 < B) := ⟨_, rfl⟩
                    have HBY : Hid _ := hby
                    clear hby
                    go_region_held3 (fun w' => w'.cell? ⟨gz, 0, none⟩ = some (.int .u64 (hiB B)) ∧ w'.cell? ⟨gz, 1, none⟩ = some (.int .u64 (loB B))) (go_keep)
                      (first
                      | (go_at_call 60; refine (cof_half S _ (by repeat (first | assumption | refine Ok.alloc ?_ _ | refine Below.drew ?_))).mono ?_; rintro e w' ⟨rfl, hb⟩; have q0 := Ok.cell hb zz k0; have q1 := Ok.cell hb zz k1)
                      | (go_at_call 64; refine (cless_back B S _ (by repeat (first | assumption | refine Ok.alloc ?_ _ | refine Below.drew ?_))).mono ?_; rintro e w' ⟨rfl, hb⟩; rw [← HBY.out]; have q0 := Ok.cell hb zz k0; have q1 := Ok.cell hb zz k1)
                      | fail)
                    have HQ9 : Hid (_ ∧ _ ∧ _) := And.intro (Ok.row' hb HQ8.out.1) (And.intro (Ok.row' hb HQ8.out.2.1) (HQ8.out.2.2.step hb))
                    obtain ⟨O2, hO2⟩ : ∃ O, O = w' := ⟨_, rfl⟩
                    rw [← hO2] at HQ9 ⊢
                    clear hO2 hb k0 k1 zz
                    obtain ⟨k0, k1, _, _⟩ := cB_facts HQ9.out.1
                    obtain ⟨c0, c1, c2, c3⟩ := row_facts HQ9.out.2.1
                    cases by'
                    · have hx : B ≤ 9223372036854775808 := Nat.le_of_not_lt (dec_no HBY.out)
                      have HE4 : Hid _ := HE3.out.trans (if_pos hx)
                      have HBL : Hid (bitsN (wrap64 (IntKind.u64.wrap (-(loB B)))) = bitsN (-(B : Int))) := bits_back HB.out hx
                      clear hx
                      go_wp2_with fail
                      refine (cconst_any _ O2 O2 (Ok.refl _)).mono ?_
                      rintro e w7 ⟨rfl, hb7⟩
                      have HQ10 : Hid (_ ∧ _) := And.intro (Ok.row' hb7 HQ9.out.2.1) (HQ9.out.2.2.step hb7)
                      clear hb7 c0 c1 c2 c3 k0 k1
                      obtain ⟨c0, c1, c2, c3⟩ := row_facts HQ10.out.1
                      unfold cv
                      go_wp2_with fail
                      (try simp only [Exit.inBlock, Exit.then])
                      refine bodyPost_ret (results_iv rfl _ _ (w.heap.size + 2) 27 #[_, _] (0, 0) _ rfl (row_set2 HQ10.out.1 _ _) Tryz.underlying27 rfl infoCg) rfl ?_
                      refine ⟨retM (M := 0) ?_, (HQ10.out.2.set hwx _).set hwx _⟩
                      rw [HE4.out]
                      first | rw [HBL.out] | rfl
                    · have hx : ¬ B ≤ 9223372036854775808 := Nat.not_le_of_lt (dec_yes HBY.out)
                      have HE4 : Hid _ := HE3.out.trans (if_neg hx)
                      clear hx
                      go_wp2_with fail
                      (try simp only [Exit.inBlock, Exit.then])
                      refine bodyPost_ret (results_iv rfl _ _ (w.heap.size + 2) 27 #[_, _] (0, 0) _ rfl (row_set2 HQ9.out.2.1 _ _) Tryz.underlying27 rfl infoCg) rfl ?_
                      exact ⟨retM (M := 0) (R := 0) HE4.out, (HQ9.out.2.2.set hwx _).set hwx _⟩
                  · have hx : X < 9223372036854775808 := dec_yes HBX.out
                    have HE3 : Hid _ := HE2.out.trans (if_pos hx)
                    have HBL : Hid (bitsN (wrap64 (loB X)) = X) := bits_lo hx
                    clear hx
                    go_wp2_with fail
                    refine (cconst_any _ O O (Ok.refl _)).mono ?_
                    rintro e w7 ⟨rfl, hb7⟩
                    rw [HBL.out]
                    have HQ10 : Hid (_ ∧ _) := And.intro (Ok.row' hb7 HQ6.out.2.2.1) (HQ6.out.2.2.2.step hb7)
                    clear hb7 k0 k1 j0 j1
                    obtain ⟨c0, c1, c2, c3⟩ := row_facts HQ10.out.1
                    unfold cv
                    go_wp2_with fail
                    (try simp only [Exit.inBlock, Exit.then])
                    refine bodyPost_ret (results_iv rfl _ _ (w.heap.size + 2) 27 #[_, _] (0, 0) _ rfl (row_set2 HQ10.out.1 _ _) Tryz.underlying27 rfl infoCg) rfl ?_
                    exact ⟨retM (M := 0) HE3.out, (HQ10.out.2.set hwx _).set hwx _⟩
          · have hr2 : (R2 : Int) < (R1 : Int) := by omega
            obtain ⟨E0, hE0⟩ : ∃ D : Nat, D = 18446744073709551616 + R2 - R1 := ⟨_, rfl⟩
            obtain ⟨E1, hE1⟩ : ∃ D1, D1 = E0 / g := ⟨_, rfl⟩
            obtain ⟨E2, hE2⟩ : ∃ s, s = E1 % m := ⟨_, rfl⟩
            have k1 : IntKind.u64.wrap ((R2 : Int) - (R1 : Int)) = (E0 : Int) := by rw [u64w]; omega
            have k2 : (E0 : Int).tdiv (g : Int) = (E1 : Int) := by rw [hE1, Int.tdiv_eq_ediv_of_nonneg (by omega), Int.natCast_ediv]
            have d1 := Nat.div_le_self E0 g
            rw [← hE1] at d1
            have k3 : IntKind.u64.wrap (E1 : Int) = (E1 : Int) := by rw [u64w]; omega
            have k4 : (E1 : Int).tmod (m : Int) = (E2 : Int) := by rw [hE2, Int.tmod_eq_emod_of_nonneg (by omega), Int.natCast_emod]
            obtain ⟨D, hD⟩ : ∃ D, D = R1 - R2 := ⟨_, rfl⟩
            obtain ⟨D1, hD1⟩ : ∃ D1, D1 = D / g := ⟨_, rfl⟩
            obtain ⟨D2, hD2⟩ : ∃ s, s = D1 % m := ⟨_, rfl⟩
            have hD2l : D2 < m := by rw [hD2]; exact Nat.mod_lt _ (by omega)
            obtain ⟨N, hN⟩ : ∃ N, N = m - D2 := ⟨_, rfl⟩
            obtain ⟨s, hs⟩ : ∃ s, s = N % m := ⟨_, rfl⟩
            have k5 : IntKind.u64.wrap ((R1 : Int) - (R2 : Int)) = (D : Int) := by rw [u64w]; omega
            have k6 : (D : Int).tdiv (g : Int) = (D1 : Int) := by rw [hD1, Int.tdiv_eq_ediv_of_nonneg (by omega), Int.natCast_ediv]
            have d2 := Nat.div_le_self D g
            rw [← hD1] at d2
            have k7 : IntKind.u64.wrap (D1 : Int) = (D1 : Int) := by rw [u64w]; omega
            have k8 : (D1 : Int).tmod (m : Int) = (D2 : Int) := by rw [hD2, Int.tmod_eq_emod_of_nonneg (by omega), Int.natCast_emod]
            have k9 : IntKind.u64.wrap ((m : Int) - (D2 : Int)) = (N : Int) := by rw [u64w]; omega
            have k10 : (N : Int).tmod (m : Int) = (s : Int) := by rw [hs, Int.tmod_eq_emod_of_nonneg (by omega), Int.natCast_emod]
            have HS : Hid (s < m) := by unfold Hid; rw [hs]; exact Nat.mod_lt _ (by omega)
            have HEQ : Hid (∀ i : Nat, (m : Int) ∣ (i : Int) * k - 1 → C = finC (cM * m) (cM * (s * i % m) + R1) ∧ s * i % m < m) := by
              intro i hi
              rw [HC.out, h.2.2.2.2.1]
              refine meet_steps (q := -(D1 : Int)) h.1 h.2.1 h.2.2.1 h.2.2.2.1 h.2.2.2.2.2.2.2.1 h.2.2.2.2.2.2.1 h.2.2.2.2.2.2.2.2.2.2.2.2.1 h.2.2.2.2.2.2.2.2.2.2.2.2.2 hi ?_ ?_
              · rw [← h.2.2.2.2.1, ← h.2.2.2.2.2.1, Int.mul_neg, ← Int.natCast_mul, hD1, hD, exact_diff (by rw [← HT.out.1, ← HT.out.2]; exact HT3.out.symm)]
                omega
              · have a := mod_dvd N m
                have b := mod_dvd D1 m
                rw [← hs] at a
                rw [← hD2] at b
                have c := Int.dvd_sub (Int.dvd_add a (Int.dvd_refl (m : Int))) b
                rwa [show (s : Int) - N + m - ((D2 : Int) - D1) = (s : Int) - -(D1 : Int) by omega] at c
            clear hm1 hr hD hD1 hs d1 d2 h ur1 ur2 hgl hml hkl hE0 hE1 hE2 hD2 hN hD2l
            have HY2 : Hid (_ ∧ _ ∧ _ ∧ _) := And.intro (Ok.row' (Ok.draws (Ok.refl Y) nq) HY.out.1) (And.intro (Ok.row' (Ok.draws (Ok.refl Y) nq) HY.out.2.1) (And.intro (Ok.row' (Ok.draws (Ok.refl Y) nq) HY.out.2.2.1) (HY.out.2.2.2.draws nq)))
            go_wp2_with fail
            refine (cinverse_any k m HF.out.2.2.2.2.2.2.2.2.2.2.2.1 HF.out.2.2.2.2.2.2.2.2.2.2.1 HM.out HI.out _ _ (Ok.refl _)).mono ?_
            rintro e w1 ⟨⟨i, hi1, hi2, rfl⟩, hb1⟩
            have HE1 : Hid _ := HEQ.out i hi2
            have HIL : Hid (i < m) := hi1
            have HQ1 : Hid (_ ∧ _ ∧ _ ∧ _) := And.intro (Ok.row' hb1 HY2.out.1) (And.intro (Ok.row' hb1 HY2.out.2.1) (And.intro (Ok.row' hb1 HY2.out.2.2.1) (HY2.out.2.2.2.step hb1)))
            clear hi1 hi2 hb1 a0 a1 b0 b1 c0 c1 c2 c3
            obtain ⟨a0, a1, _, _⟩ := row_facts HQ1.out.1
            go_wp2_with fail
            refine (ctimesMod_any s i m (by have := HS.out; have := HF.out; unfold U64; omega) (by have := HIL.out; have := HF.out; unfold U64; omega) HF.out.2.2.2.2.2.2.2.2.2.2.1 HF.out.2.2.2.2.2.2.1 w1 w1 (Ok.refl _)).mono ?_
            rintro e w2 ⟨rfl, hb2⟩
            obtain ⟨t, ht⟩ : ∃ t, t = s * i % m := ⟨_, rfl⟩
            rw [← ht] at HE1 ⊢
            have HE : Hid (C = finC (cM * m) (cM * t + R1) ∧ t < m) := HE1.out
            have HTU : Hid (t < 18446744073709551616) := by have := HE.out.2; have := HF.out; unfold Hid; omega
            have HPt : Hid (cM * t = cM * t) := by unfold Hid; rfl
            have HQ : Hid (_ ∧ _ ∧ _ ∧ _) := And.intro (Ok.row' hb2 HQ1.out.1) (And.intro (Ok.row' hb2 HQ1.out.2.1) (And.intro (Ok.row' hb2 HQ1.out.2.2.1) (HQ1.out.2.2.2.step hb2)))
            clear ht hb2 a0 a1
            obtain ⟨a0, a1, _, _⟩ := row_facts HQ.out.1
            obtain ⟨b0, b1, _, _⟩ := row_facts HQ.out.2.1
            obtain ⟨c0, c1, c2, c3⟩ := row_facts HQ.out.2.2.1
            go_wp2_with fail
            refine (btimes_any cM t HU.out.1 HTU.out _ _ (Ok.refl _)).mono ?_
            rintro e w3 ⟨rfl, hb3⟩
            (try rw [HPt.out])
            obtain ⟨P, hP⟩ : ∃ P, P = cM * t := ⟨_, rfl⟩
            obtain ⟨X, hX⟩ : ∃ X, X = P + R1 := ⟨_, rfl⟩
            obtain ⟨L, hL⟩ : ∃ L, L = cM * m := ⟨_, rfl⟩
            rw [← hP] at HE ⊢
            rw [← hX, ← hL] at HE
            have HXB : Hid (Big X ∧ Big L ∧ X < L) := by
              have h := HF.out
              have hLB : Big L := by rw [hL]; exact prod_big HU.out.1 h.2.2.2.2.2.2.2.2.2.2.1
              have hXL : X < L := by
                have a : R1 < cM := by rw [h.2.2.2.2.1]; exact Nat.mod_lt _ h.2.2.2.2.2.2.2.2.2.2.2.2.1
                have b : cM * (t + 1) ≤ cM * m := Nat.mul_le_mul_left _ HE.out.2
                rw [Nat.mul_add, Nat.mul_one] at b
                omega
              refine ⟨?_, hLB, hXL⟩
              unfold Big at *; omega
            have HXL : Hid _ := And.intro hX hL
            have HQ3 : Hid (_ ∧ _ ∧ _ ∧ _) := And.intro (Ok.row' hb3 HQ.out.1) (And.intro (Ok.row' hb3 HQ.out.2.1) (And.intro (Ok.row' hb3 HQ.out.2.2.1) (HQ.out.2.2.2.step hb3)))
            clear a0 a1 b0 b1 c0 c1 c2 c3 hb3 hP hX hL e3 e4
            obtain ⟨a0, a1, _, _⟩ := row_facts HQ3.out.1
            have z0 := lt_row HQ3.out.1
            have z2 := lt_row HQ3.out.2.2.1
            unfold bv
            by_cases hcar : IntKind.u64.wrap (loB P + (R1 : Int)) < (R1 : Int)
            · have HX2 : Hid (hiB X = IntKind.u64.wrap (hiB P + 1) ∧ loB X = IntKind.u64.wrap (loB P + (R1 : Int))) := by
                have := tim_carry (S := P) (a := R1) HU.out.2.2.2.2.1 (by rw [← HXL.out.1]; exact HXB.out.1) hcar
                rw [HXL.out.1]; exact this
              go_wp2_with fail
              rw [← HX2.out.1, ← HX2.out.2]
              as_aux_lemma =>
                obtain ⟨V, hV⟩ : ∃ V, V = w3.alloc (.cells #[.int .u64 (hiB X), .int .u64 (loB X)] 72) := ⟨_, rfl⟩
                have hrx : V.heap[w3.heap.size]? = some (cB X) := by rw [hV]; exact heap_new0 _ _
                have hrv : V.heap[w.heap.size + 2]? = some (.cells #[.int .u64 0, .int .u64 0] 27) := by rw [hV]; exact heap_past _ _ _ z2 HQ3.out.2.2.1
                have hov : Ok w0 V := by rw [hV]; exact HQ3.out.2.2.2.alloc _
                rw [← hV]
                refine (btimes_any cM m HU.out.1 HF.out.2.2.2.2.2.2.2.2.2.2.1 V V (Ok.refl _)).mono ?_
                rintro e w4 ⟨rfl, hb4⟩
                rw [← HXL.out.2]
                have HQ4 : Hid (_ ∧ _ ∧ _) := And.intro (Ok.row' hb4 hrx) (And.intro (Ok.row' hb4 hrv) (hov.step hb4))
                clear hV hrx hrv hov hb4 a0 a1 z0 hcar HX2
                have zx := lt_row HQ4.out.1
                have zr := lt_row HQ4.out.2.1
                have nx : ¬ w.heap.size + 1 + 1 = w3.heap.size := by omega
                have hwx : w0.heap.size ≤ w.heap.size + 2 := by omega
                obtain ⟨k0, k1, k2, k3⟩ := cB_facts HQ4.out.1
                obtain ⟨c0, c1, c2, c3⟩ := row_facts HQ4.out.2.1
                obtain ⟨gx, hgx⟩ : ∃ gx, gx = w3.heap.size := ⟨_, rfl⟩
                rw [← hgx] at nx zx HQ4 k0 k1 k2 k3 ⊢
                clear hgx z2
                unfold bv
                by_cases hL : L < 18446744073709551616
                · have HEC : Hid (C = (L, X, true)) := by unfold Hid; rw [HE.out.1]; unfold finC; rw [if_pos hL]
                  have l0 : hiB L = 0 := (big_small hL).1
                  have HLL : Hid (loB L = (L : Int) ∧ loB X = (X : Int)) := ⟨(big_small hL).2, (big_small (by have := HXB.out.2.2; omega)).2⟩
                  clear hL
                  go_wp2_with fail
                  rw [HLL.out.1, HLL.out.2]
                  (try simp only [Exit.inBlock, Exit.then])
                  refine bodyPost_ret (results_iv rfl _ _ (w.heap.size + 2) 27 #[_, _] (0, 0) _ rfl (heap_past _ _ _ (by simp; omega) (row_set2 HQ4.out.2.1 _ _)) Tryz.underlying27 rfl infoCg) rfl ?_
                  exact ⟨retM HEC.out, ((HQ4.out.2.2.set hwx _).set hwx _).alloc _⟩
                · have l0 : (hiB L == 0) = false := by simp; unfold hiB; omega
                  have HE2 : Hid (C = if X < 9223372036854775808 then (0, X, true) else if L - X ≤ 9223372036854775808 then (0, bitsN (-((L - X : Nat) : Int)), true) else (0, 0, false)) := by unfold Hid; rw [HE.out.1]; unfold finC; rw [if_neg hL]
                  clear hL
                  go_wp2_with fail
                  obtain ⟨U, hU⟩ : ∃ U, U = w4.alloc (.cells #[.int .u64 (hiB L), .int .u64 (loB L)] 72) := ⟨_, rfl⟩
                  have hr1 : U.heap[w4.heap.size]? = some (cB L) := by rw [hU]; exact heap_new0 _ _
                  have hr2 : U.heap[w.heap.size + 2]? = some (.cells #[.int .u64 0, .int .u64 0] 27) := by rw [hU]; exact heap_past _ _ _ zr HQ4.out.2.1
                  have hr3 : U.heap[gx]? = some (cB X) := by rw [hU]; exact heap_past _ _ _ zx HQ4.out.1
                  have hr4 : Ok w0 U := by rw [hU]; exact HQ4.out.2.2.alloc _
                  rw [← hU]
                  have HQ5 : Hid (_ ∧ _ ∧ _ ∧ _) := And.intro hr3 (And.intro hr1 (And.intro hr2 hr4))
                  have ny : ¬ w.heap.size + 1 + 1 = w4.heap.size := by omega
                  obtain ⟨gy, hgy⟩ : ∃ gy, gy = w4.heap.size := ⟨_, rfl⟩
                  rw [← hgy] at ny HQ5 ⊢
                  clear hU hr1 hr2 hr3 hr4 hgy zx zr c0 c1 c2 c3 k0 k1 k2 k3
                  obtain ⟨k0, k1, _, _⟩ := cB_facts HQ5.out.1
                  obtain ⟨j0, j1, _, _⟩ := cB_facts HQ5.out.2.1
                  have zx := lt_row HQ5.out.1
                  have zy := lt_row HQ5.out.2.1
                  have bz : Ok U U := Ok.refl _
                  obtain ⟨bx, hbx⟩ : ∃ b, b = decide (X < 9223372036854775808) := ⟨_, rfl⟩
                  have HBX : Hid _ := hbx
                  clear hbx
                  go_region_held3 (fun w' => w'.cell? ⟨gx, 0, none⟩ = some (.int .u64 (hiB X)) ∧ w'.cell? ⟨gx, 1, none⟩ = some (.int .u64 (loB X))) (go_keep)
                    (first
                    | (go_at_call 60; refine (cof_half U _ (by repeat (first | assumption | refine Ok.alloc ?_ _ | refine Below.drew ?_))).mono ?_; rintro e w' ⟨rfl, hb⟩; have q0 := Ok.cell hb zx k0; have q1 := Ok.cell hb zx k1)
                    | (go_at_call 64; refine (cless_half X U _ (by repeat (first | assumption | refine Ok.alloc ?_ _ | refine Below.drew ?_))).mono ?_; rintro e w' ⟨rfl, hb⟩; rw [← HBX.out]; have q0 := Ok.cell hb zx k0; have q1 := Ok.cell hb zx k1)
                    | fail)
                  have HQ6 : Hid (_ ∧ _ ∧ _ ∧ _) := And.intro (Ok.row' hb HQ5.out.1) (And.intro (Ok.row' hb HQ5.out.2.1) (And.intro (Ok.row' hb HQ5.out.2.2.1) (HQ5.out.2.2.2.step hb)))
                  obtain ⟨O, hO⟩ : ∃ O, O = w' := ⟨_, rfl⟩
                  rw [← hO] at HQ6 ⊢
                  clear hO hb k0 k1 j0 j1 zx zy
                  obtain ⟨k0, k1, _, _⟩ := cB_facts HQ6.out.1
                  obtain ⟨j0, j1, _, _⟩ := cB_facts HQ6.out.2.1
                  cases bx
                  · have hx : ¬ X < 9223372036854775808 := dec_no HBX.out
                    have HE3 : Hid _ := HE2.out.trans (if_neg hx)
                    clear hx
                    go_wp2_with fail
                    refine (bminus_any L X HXB.out.2.1 HXB.out.1 O O (Ok.refl _)).mono ?_
                    rintro e w6 ⟨rfl, hb6⟩
                    rw [subB_le HXB.out.2.1 (Nat.le_of_lt HXB.out.2.2)]
                    obtain ⟨B, hB⟩ : ∃ B, B = L - X := ⟨_, rfl⟩
                    rw [← hB] at HE3 ⊢
                    have HB : Hid (0 < B) := by have := HXB.out.2.2; unfold Hid; omega
                    have HQ7 : Hid (_ ∧ _) := And.intro (Ok.row' hb6 HQ6.out.2.2.1) (HQ6.out.2.2.2.step hb6)
                    clear hB hb6 k0 k1 j0 j1
                    unfold bv
                    go_wp2_with fail
                    obtain ⟨S, hS⟩ : ∃ S, S = w6.alloc (.cells #[.int .u64 (hiB B), .int .u64 (loB B)] 72) := ⟨_, rfl⟩
                    have hr1 : S.heap[w6.heap.size]? = some (cB B) := by rw [hS]; exact heap_new0 _ _
                    have zr := lt_row HQ7.out.1
                    have hr2 : S.heap[w.heap.size + 2]? = some (.cells #[.int .u64 0, .int .u64 0] 27) := by rw [hS]; exact heap_past _ _ _ zr HQ7.out.1
                    have hr4 : Ok w0 S := by rw [hS]; exact HQ7.out.2.alloc _
                    rw [← hS]
                    have nz : ¬ w.heap.size + 1 + 1 = w6.heap.size := by omega
                    have HQ8 : Hid (_ ∧ _ ∧ _) := And.intro hr1 (And.intro hr2 hr4)
                    obtain ⟨gz, hgz⟩ : ∃ gz, gz = w6.heap.size := ⟨_, rfl⟩
                    rw [← hgz] at nz HQ8 ⊢
                    clear hS hr1 hr2 hr4 hgz zr
                    obtain ⟨k0, k1, _, _⟩ := cB_facts HQ8.out.1
                    have zz := lt_row HQ8.out.1
                    have bz : Ok S S := Ok.refl _
                    obtain ⟨by', hby⟩ : ∃ b, b = decide (9223372036854775808 < B) := ⟨_, rfl⟩
                    have HBY : Hid _ := hby
                    clear hby
                    go_region_held3 (fun w' => w'.cell? ⟨gz, 0, none⟩ = some (.int .u64 (hiB B)) ∧ w'.cell? ⟨gz, 1, none⟩ = some (.int .u64 (loB B))) (go_keep)
                      (first
                      | (go_at_call 60; refine (cof_half S _ (by repeat (first | assumption | refine Ok.alloc ?_ _ | refine Below.drew ?_))).mono ?_; rintro e w' ⟨rfl, hb⟩; have q0 := Ok.cell hb zz k0; have q1 := Ok.cell hb zz k1)
                      | (go_at_call 64; refine (cless_back B S _ (by repeat (first | assumption | refine Ok.alloc ?_ _ | refine Below.drew ?_))).mono ?_; rintro e w' ⟨rfl, hb⟩; rw [← HBY.out]; have q0 := Ok.cell hb zz k0; have q1 := Ok.cell hb zz k1)
                      | fail)
                    have HQ9 : Hid (_ ∧ _ ∧ _) := And.intro (Ok.row' hb HQ8.out.1) (And.intro (Ok.row' hb HQ8.out.2.1) (HQ8.out.2.2.step hb))
                    obtain ⟨O2, hO2⟩ : ∃ O, O = w' := ⟨_, rfl⟩
                    rw [← hO2] at HQ9 ⊢
                    clear hO2 hb k0 k1 zz
                    obtain ⟨k0, k1, _, _⟩ := cB_facts HQ9.out.1
                    obtain ⟨c0, c1, c2, c3⟩ := row_facts HQ9.out.2.1
                    cases by'
                    · have hx : B ≤ 9223372036854775808 := Nat.le_of_not_lt (dec_no HBY.out)
                      have HE4 : Hid _ := HE3.out.trans (if_pos hx)
                      have HBL : Hid (bitsN (wrap64 (IntKind.u64.wrap (-(loB B)))) = bitsN (-(B : Int))) := bits_back HB.out hx
                      clear hx
                      go_wp2_with fail
                      refine (cconst_any _ O2 O2 (Ok.refl _)).mono ?_
                      rintro e w7 ⟨rfl, hb7⟩
                      have HQ10 : Hid (_ ∧ _) := And.intro (Ok.row' hb7 HQ9.out.2.1) (HQ9.out.2.2.step hb7)
                      clear hb7 c0 c1 c2 c3 k0 k1
                      obtain ⟨c0, c1, c2, c3⟩ := row_facts HQ10.out.1
                      unfold cv
                      go_wp2_with fail
                      (try simp only [Exit.inBlock, Exit.then])
                      refine bodyPost_ret (results_iv rfl _ _ (w.heap.size + 2) 27 #[_, _] (0, 0) _ rfl (row_set2 HQ10.out.1 _ _) Tryz.underlying27 rfl infoCg) rfl ?_
                      refine ⟨retM (M := 0) ?_, (HQ10.out.2.set hwx _).set hwx _⟩
                      rw [HE4.out]
                      first | rw [HBL.out] | rfl
                    · have hx : ¬ B ≤ 9223372036854775808 := Nat.not_le_of_lt (dec_yes HBY.out)
                      have HE4 : Hid _ := HE3.out.trans (if_neg hx)
                      clear hx
                      go_wp2_with fail
                      (try simp only [Exit.inBlock, Exit.then])
                      refine bodyPost_ret (results_iv rfl _ _ (w.heap.size + 2) 27 #[_, _] (0, 0) _ rfl (row_set2 HQ9.out.2.1 _ _) Tryz.underlying27 rfl infoCg) rfl ?_
                      exact ⟨retM (M := 0) (R := 0) HE4.out, (HQ9.out.2.2.set hwx _).set hwx _⟩
                  · have hx : X < 9223372036854775808 := dec_yes HBX.out
                    have HE3 : Hid _ := HE2.out.trans (if_pos hx)
                    have HBL : Hid (bitsN (wrap64 (loB X)) = X) := bits_lo hx
                    clear hx
                    go_wp2_with fail
                    refine (cconst_any _ O O (Ok.refl _)).mono ?_
                    rintro e w7 ⟨rfl, hb7⟩
                    rw [HBL.out]
                    have HQ10 : Hid (_ ∧ _) := And.intro (Ok.row' hb7 HQ6.out.2.2.1) (HQ6.out.2.2.2.step hb7)
                    clear hb7 k0 k1 j0 j1
                    obtain ⟨c0, c1, c2, c3⟩ := row_facts HQ10.out.1
                    unfold cv
                    go_wp2_with fail
                    (try simp only [Exit.inBlock, Exit.then])
                    refine bodyPost_ret (results_iv rfl _ _ (w.heap.size + 2) 27 #[_, _] (0, 0) _ rfl (row_set2 HQ10.out.1 _ _) Tryz.underlying27 rfl infoCg) rfl ?_
                    exact ⟨retM (M := 0) HE3.out, (HQ10.out.2.set hwx _).set hwx _⟩
            · have HX2 : Hid (hiB X = hiB P ∧ loB X = IntKind.u64.wrap (loB P + (R1 : Int))) := by
                have := tim_none (S := P) (a := R1) HU.out.2.2.2.2.1 hcar
                rw [HXL.out.1]; exact this
              go_wp2_with fail
              rw [← HX2.out.1, ← HX2.out.2]
              as_aux_lemma =>
                obtain ⟨V, hV⟩ : ∃ V, V = w3.alloc (.cells #[.int .u64 (hiB X), .int .u64 (loB X)] 72) := ⟨_, rfl⟩
                have hrx : V.heap[w3.heap.size]? = some (cB X) := by rw [hV]; exact heap_new0 _ _
                have hrv : V.heap[w.heap.size + 2]? = some (.cells #[.int .u64 0, .int .u64 0] 27) := by rw [hV]; exact heap_past _ _ _ z2 HQ3.out.2.2.1
                have hov : Ok w0 V := by rw [hV]; exact HQ3.out.2.2.2.alloc _
                rw [← hV]
                refine (btimes_any cM m HU.out.1 HF.out.2.2.2.2.2.2.2.2.2.2.1 V V (Ok.refl _)).mono ?_
                rintro e w4 ⟨rfl, hb4⟩
                rw [← HXL.out.2]
                have HQ4 : Hid (_ ∧ _ ∧ _) := And.intro (Ok.row' hb4 hrx) (And.intro (Ok.row' hb4 hrv) (hov.step hb4))
                clear hV hrx hrv hov hb4 a0 a1 z0 hcar HX2
                have zx := lt_row HQ4.out.1
                have zr := lt_row HQ4.out.2.1
                have nx : ¬ w.heap.size + 1 + 1 = w3.heap.size := by omega
                have hwx : w0.heap.size ≤ w.heap.size + 2 := by omega
                obtain ⟨k0, k1, k2, k3⟩ := cB_facts HQ4.out.1
                obtain ⟨c0, c1, c2, c3⟩ := row_facts HQ4.out.2.1
                obtain ⟨gx, hgx⟩ : ∃ gx, gx = w3.heap.size := ⟨_, rfl⟩
                rw [← hgx] at nx zx HQ4 k0 k1 k2 k3 ⊢
                clear hgx z2
                unfold bv
                by_cases hL : L < 18446744073709551616
                · have HEC : Hid (C = (L, X, true)) := by unfold Hid; rw [HE.out.1]; unfold finC; rw [if_pos hL]
                  have l0 : hiB L = 0 := (big_small hL).1
                  have HLL : Hid (loB L = (L : Int) ∧ loB X = (X : Int)) := ⟨(big_small hL).2, (big_small (by have := HXB.out.2.2; omega)).2⟩
                  clear hL
                  go_wp2_with fail
                  rw [HLL.out.1, HLL.out.2]
                  (try simp only [Exit.inBlock, Exit.then])
                  refine bodyPost_ret (results_iv rfl _ _ (w.heap.size + 2) 27 #[_, _] (0, 0) _ rfl (heap_past _ _ _ (by simp; omega) (row_set2 HQ4.out.2.1 _ _)) Tryz.underlying27 rfl infoCg) rfl ?_
                  exact ⟨retM HEC.out, ((HQ4.out.2.2.set hwx _).set hwx _).alloc _⟩
                · have l0 : (hiB L == 0) = false := by simp; unfold hiB; omega
                  have HE2 : Hid (C = if X < 9223372036854775808 then (0, X, true) else if L - X ≤ 9223372036854775808 then (0, bitsN (-((L - X : Nat) : Int)), true) else (0, 0, false)) := by unfold Hid; rw [HE.out.1]; unfold finC; rw [if_neg hL]
                  clear hL
                  go_wp2_with fail
                  obtain ⟨U, hU⟩ : ∃ U, U = w4.alloc (.cells #[.int .u64 (hiB L), .int .u64 (loB L)] 72) := ⟨_, rfl⟩
                  have hr1 : U.heap[w4.heap.size]? = some (cB L) := by rw [hU]; exact heap_new0 _ _
                  have hr2 : U.heap[w.heap.size + 2]? = some (.cells #[.int .u64 0, .int .u64 0] 27) := by rw [hU]; exact heap_past _ _ _ zr HQ4.out.2.1
                  have hr3 : U.heap[gx]? = some (cB X) := by rw [hU]; exact heap_past _ _ _ zx HQ4.out.1
                  have hr4 : Ok w0 U := by rw [hU]; exact HQ4.out.2.2.alloc _
                  rw [← hU]
                  have HQ5 : Hid (_ ∧ _ ∧ _ ∧ _) := And.intro hr3 (And.intro hr1 (And.intro hr2 hr4))
                  have ny : ¬ w.heap.size + 1 + 1 = w4.heap.size := by omega
                  obtain ⟨gy, hgy⟩ : ∃ gy, gy = w4.heap.size := ⟨_, rfl⟩
                  rw [← hgy] at ny HQ5 ⊢
                  clear hU hr1 hr2 hr3 hr4 hgy zx zr c0 c1 c2 c3 k0 k1 k2 k3
                  obtain ⟨k0, k1, _, _⟩ := cB_facts HQ5.out.1
                  obtain ⟨j0, j1, _, _⟩ := cB_facts HQ5.out.2.1
                  have zx := lt_row HQ5.out.1
                  have zy := lt_row HQ5.out.2.1
                  have bz : Ok U U := Ok.refl _
                  obtain ⟨bx, hbx⟩ : ∃ b, b = decide (X < 9223372036854775808) := ⟨_, rfl⟩
                  have HBX : Hid _ := hbx
                  clear hbx
                  go_region_held3 (fun w' => w'.cell? ⟨gx, 0, none⟩ = some (.int .u64 (hiB X)) ∧ w'.cell? ⟨gx, 1, none⟩ = some (.int .u64 (loB X))) (go_keep)
                    (first
                    | (go_at_call 60; refine (cof_half U _ (by repeat (first | assumption | refine Ok.alloc ?_ _ | refine Below.drew ?_))).mono ?_; rintro e w' ⟨rfl, hb⟩; have q0 := Ok.cell hb zx k0; have q1 := Ok.cell hb zx k1)
                    | (go_at_call 64; refine (cless_half X U _ (by repeat (first | assumption | refine Ok.alloc ?_ _ | refine Below.drew ?_))).mono ?_; rintro e w' ⟨rfl, hb⟩; rw [← HBX.out]; have q0 := Ok.cell hb zx k0; have q1 := Ok.cell hb zx k1)
                    | fail)
                  have HQ6 : Hid (_ ∧ _ ∧ _ ∧ _) := And.intro (Ok.row' hb HQ5.out.1) (And.intro (Ok.row' hb HQ5.out.2.1) (And.intro (Ok.row' hb HQ5.out.2.2.1) (HQ5.out.2.2.2.step hb)))
                  obtain ⟨O, hO⟩ : ∃ O, O = w' := ⟨_, rfl⟩
                  rw [← hO] at HQ6 ⊢
                  clear hO hb k0 k1 j0 j1 zx zy
                  obtain ⟨k0, k1, _, _⟩ := cB_facts HQ6.out.1
                  obtain ⟨j0, j1, _, _⟩ := cB_facts HQ6.out.2.1
                  cases bx
                  · have hx : ¬ X < 9223372036854775808 := dec_no HBX.out
                    have HE3 : Hid _ := HE2.out.trans (if_neg hx)
                    clear hx
                    go_wp2_with fail
                    refine (bminus_any L X HXB.out.2.1 HXB.out.1 O O (Ok.refl _)).mono ?_
                    rintro e w6 ⟨rfl, hb6⟩
                    rw [subB_le HXB.out.2.1 (Nat.le_of_lt HXB.out.2.2)]
                    obtain ⟨B, hB⟩ : ∃ B, B = L - X := ⟨_, rfl⟩
                    rw [← hB] at HE3 ⊢
                    have HB : Hid (0 < B) := by have := HXB.out.2.2; unfold Hid; omega
                    have HQ7 : Hid (_ ∧ _) := And.intro (Ok.row' hb6 HQ6.out.2.2.1) (HQ6.out.2.2.2.step hb6)
                    clear hB hb6 k0 k1 j0 j1
                    unfold bv
                    go_wp2_with fail
                    obtain ⟨S, hS⟩ : ∃ S, S = w6.alloc (.cells #[.int .u64 (hiB B), .int .u64 (loB B)] 72) := ⟨_, rfl⟩
                    have hr1 : S.heap[w6.heap.size]? = some (cB B) := by rw [hS]; exact heap_new0 _ _
                    have zr := lt_row HQ7.out.1
                    have hr2 : S.heap[w.heap.size + 2]? = some (.cells #[.int .u64 0, .int .u64 0] 27) := by rw [hS]; exact heap_past _ _ _ zr HQ7.out.1
                    have hr4 : Ok w0 S := by rw [hS]; exact HQ7.out.2.alloc _
                    rw [← hS]
                    have nz : ¬ w.heap.size + 1 + 1 = w6.heap.size := by omega
                    have HQ8 : Hid (_ ∧ _ ∧ _) := And.intro hr1 (And.intro hr2 hr4)
                    obtain ⟨gz, hgz⟩ : ∃ gz, gz = w6.heap.size := ⟨_, rfl⟩
                    rw [← hgz] at nz HQ8 ⊢
                    clear hS hr1 hr2 hr4 hgz zr
                    obtain ⟨k0, k1, _, _⟩ := cB_facts HQ8.out.1
                    have zz := lt_row HQ8.out.1
                    have bz : Ok S S := Ok.refl _
                    obtain ⟨by', hby⟩ : ∃ b, b = decide (9223372036854775808 < B) := ⟨_, rfl⟩
                    have HBY : Hid _ := hby
                    clear hby
                    go_region_held3 (fun w' => w'.cell? ⟨gz, 0, none⟩ = some (.int .u64 (hiB B)) ∧ w'.cell? ⟨gz, 1, none⟩ = some (.int .u64 (loB B))) (go_keep)
                      (first
                      | (go_at_call 60; refine (cof_half S _ (by repeat (first | assumption | refine Ok.alloc ?_ _ | refine Below.drew ?_))).mono ?_; rintro e w' ⟨rfl, hb⟩; have q0 := Ok.cell hb zz k0; have q1 := Ok.cell hb zz k1)
                      | (go_at_call 64; refine (cless_back B S _ (by repeat (first | assumption | refine Ok.alloc ?_ _ | refine Below.drew ?_))).mono ?_; rintro e w' ⟨rfl, hb⟩; rw [← HBY.out]; have q0 := Ok.cell hb zz k0; have q1 := Ok.cell hb zz k1)
                      | fail)
                    have HQ9 : Hid (_ ∧ _ ∧ _) := And.intro (Ok.row' hb HQ8.out.1) (And.intro (Ok.row' hb HQ8.out.2.1) (HQ8.out.2.2.step hb))
                    obtain ⟨O2, hO2⟩ : ∃ O, O = w' := ⟨_, rfl⟩
                    rw [← hO2] at HQ9 ⊢
                    clear hO2 hb k0 k1 zz
                    obtain ⟨k0, k1, _, _⟩ := cB_facts HQ9.out.1
                    obtain ⟨c0, c1, c2, c3⟩ := row_facts HQ9.out.2.1
                    cases by'
                    · have hx : B ≤ 9223372036854775808 := Nat.le_of_not_lt (dec_no HBY.out)
                      have HE4 : Hid _ := HE3.out.trans (if_pos hx)
                      have HBL : Hid (bitsN (wrap64 (IntKind.u64.wrap (-(loB B)))) = bitsN (-(B : Int))) := bits_back HB.out hx
                      clear hx
                      go_wp2_with fail
                      refine (cconst_any _ O2 O2 (Ok.refl _)).mono ?_
                      rintro e w7 ⟨rfl, hb7⟩
                      have HQ10 : Hid (_ ∧ _) := And.intro (Ok.row' hb7 HQ9.out.2.1) (HQ9.out.2.2.step hb7)
                      clear hb7 c0 c1 c2 c3 k0 k1
                      obtain ⟨c0, c1, c2, c3⟩ := row_facts HQ10.out.1
                      unfold cv
                      go_wp2_with fail
                      (try simp only [Exit.inBlock, Exit.then])
                      refine bodyPost_ret (results_iv rfl _ _ (w.heap.size + 2) 27 #[_, _] (0, 0) _ rfl (row_set2 HQ10.out.1 _ _) Tryz.underlying27 rfl infoCg) rfl ?_
                      refine ⟨retM (M := 0) ?_, (HQ10.out.2.set hwx _).set hwx _⟩
                      rw [HE4.out]
                      first | rw [HBL.out] | rfl
                    · have hx : ¬ B ≤ 9223372036854775808 := Nat.not_le_of_lt (dec_yes HBY.out)
                      have HE4 : Hid _ := HE3.out.trans (if_neg hx)
                      clear hx
                      go_wp2_with fail
                      (try simp only [Exit.inBlock, Exit.then])
                      refine bodyPost_ret (results_iv rfl _ _ (w.heap.size + 2) 27 #[_, _] (0, 0) _ rfl (row_set2 HQ9.out.2.1 _ _) Tryz.underlying27 rfl infoCg) rfl ?_
                      exact ⟨retM (M := 0) (R := 0) HE4.out, (HQ9.out.2.2.set hwx _).set hwx _⟩
                  · have hx : X < 9223372036854775808 := dec_yes HBX.out
                    have HE3 : Hid _ := HE2.out.trans (if_pos hx)
                    have HBL : Hid (bitsN (wrap64 (loB X)) = X) := bits_lo hx
                    clear hx
                    go_wp2_with fail
                    refine (cconst_any _ O O (Ok.refl _)).mono ?_
                    rintro e w7 ⟨rfl, hb7⟩
                    rw [HBL.out]
                    have HQ10 : Hid (_ ∧ _) := And.intro (Ok.row' hb7 HQ6.out.2.2.1) (HQ6.out.2.2.2.step hb7)
                    clear hb7 k0 k1 j0 j1
                    obtain ⟨c0, c1, c2, c3⟩ := row_facts HQ10.out.1
                    unfold cv
                    go_wp2_with fail
                    (try simp only [Exit.inBlock, Exit.then])
                    refine bodyPost_ret (results_iv rfl _ _ (w.heap.size + 2) 27 #[_, _] (0, 0) _ rfl (row_set2 HQ10.out.1 _ _) Tryz.underlying27 rfl infoCg) rfl ?_
                    exact ⟨retM (M := 0) HE3.out, (HQ10.out.2.set hwx _).set hwx _⟩
        · have hm2 : ¬ (1 : Int) < (m : Int) := by omega
          obtain ⟨t, ht⟩ : ∃ t, t = 0 := ⟨_, rfl⟩
          have HE : Hid (C = finC (cM * m) (cM * t + R1) ∧ t < m) := by
            have h := HF.out
            refine ⟨?_, by omega⟩
            rw [HC.out, h.2.2.2.2.1]
            refine meet_at h.2.2.2.2.2.2.2.2.2.2.2.2.1 h.2.2.2.2.2.2.2.2.2.2.2.2.2 (by rw [← h.1]; exact h.2.2.2.2.2.2.2.1) (by omega) ?_
            have hmm : m = 1 := by omega
            have hg : dM = g := by rw [h.2.2.2.1, hmm, Nat.mul_one]
            rw [← h.2.2.2.2.1, ← h.2.2.2.2.2.1, ht, hg]
            have h1 := Nat.div_add_mod R1 g
            have h2 := Nat.div_add_mod R2 g
            rw [← HT.out.1] at h1
            rw [← HT.out.2] at h2
            have h3 := HT3.out
            refine ⟨((R1 / g : Nat) : Int) - ((R2 / g : Nat) : Int), ?_⟩
            rw [Int.mul_sub, ← Int.natCast_mul, ← Int.natCast_mul]
            first | omega | (simp; omega)
          have HTU : Hid (t < 18446744073709551616) := by unfold Hid; omega
          have HPt : Hid (cM * 0 = cM * t) := by unfold Hid; rw [ht]
          have HQ : Hid (_ ∧ _ ∧ _ ∧ _) := And.intro (Ok.row' (Ok.draws (Ok.refl Y) nq) HY.out.1) (And.intro (Ok.row' (Ok.draws (Ok.refl Y) nq) HY.out.2.1) (And.intro (Ok.row' (Ok.draws (Ok.refl Y) nq) HY.out.2.2.1) (HY.out.2.2.2.draws nq)))
          clear hm1 ht
          go_wp2_with fail
          refine (btimes_any cM 0 HU.out.1 (by omega) _ _ (Ok.refl _)).mono ?_
          rintro e w3 ⟨rfl, hb3⟩
          (try rw [HPt.out])
          obtain ⟨P, hP⟩ : ∃ P, P = cM * t := ⟨_, rfl⟩
          obtain ⟨X, hX⟩ : ∃ X, X = P + R1 := ⟨_, rfl⟩
          obtain ⟨L, hL⟩ : ∃ L, L = cM * m := ⟨_, rfl⟩
          rw [← hP] at HE ⊢
          rw [← hX, ← hL] at HE
          have HXB : Hid (Big X ∧ Big L ∧ X < L) := by
            have h := HF.out
            have hLB : Big L := by rw [hL]; exact prod_big HU.out.1 h.2.2.2.2.2.2.2.2.2.2.1
            have hXL : X < L := by
              have a : R1 < cM := by rw [h.2.2.2.2.1]; exact Nat.mod_lt _ h.2.2.2.2.2.2.2.2.2.2.2.2.1
              have b : cM * (t + 1) ≤ cM * m := Nat.mul_le_mul_left _ HE.out.2
              rw [Nat.mul_add, Nat.mul_one] at b
              omega
            refine ⟨?_, hLB, hXL⟩
            unfold Big at *; omega
          have HXL : Hid _ := And.intro hX hL
          have HQ3 : Hid (_ ∧ _ ∧ _ ∧ _) := And.intro (Ok.row' hb3 HQ.out.1) (And.intro (Ok.row' hb3 HQ.out.2.1) (And.intro (Ok.row' hb3 HQ.out.2.2.1) (HQ.out.2.2.2.step hb3)))
          clear a0 a1 b0 b1 c0 c1 c2 c3 hb3 hP hX hL e3 e4
          obtain ⟨a0, a1, _, _⟩ := row_facts HQ3.out.1
          have z0 := lt_row HQ3.out.1
          have z2 := lt_row HQ3.out.2.2.1
          unfold bv
          by_cases hcar : IntKind.u64.wrap (loB P + (R1 : Int)) < (R1 : Int)
          · have HX2 : Hid (hiB X = IntKind.u64.wrap (hiB P + 1) ∧ loB X = IntKind.u64.wrap (loB P + (R1 : Int))) := by
              have := tim_carry (S := P) (a := R1) HU.out.2.2.2.2.1 (by rw [← HXL.out.1]; exact HXB.out.1) hcar
              rw [HXL.out.1]; exact this
            go_wp2_with fail
            rw [← HX2.out.1, ← HX2.out.2]
            as_aux_lemma =>
              obtain ⟨V, hV⟩ : ∃ V, V = w3.alloc (.cells #[.int .u64 (hiB X), .int .u64 (loB X)] 72) := ⟨_, rfl⟩
              have hrx : V.heap[w3.heap.size]? = some (cB X) := by rw [hV]; exact heap_new0 _ _
              have hrv : V.heap[w.heap.size + 2]? = some (.cells #[.int .u64 0, .int .u64 0] 27) := by rw [hV]; exact heap_past _ _ _ z2 HQ3.out.2.2.1
              have hov : Ok w0 V := by rw [hV]; exact HQ3.out.2.2.2.alloc _
              rw [← hV]
              refine (btimes_any cM m HU.out.1 HF.out.2.2.2.2.2.2.2.2.2.2.1 V V (Ok.refl _)).mono ?_
              rintro e w4 ⟨rfl, hb4⟩
              rw [← HXL.out.2]
              have HQ4 : Hid (_ ∧ _ ∧ _) := And.intro (Ok.row' hb4 hrx) (And.intro (Ok.row' hb4 hrv) (hov.step hb4))
              clear hV hrx hrv hov hb4 a0 a1 z0 hcar HX2
              have zx := lt_row HQ4.out.1
              have zr := lt_row HQ4.out.2.1
              have nx : ¬ w.heap.size + 1 + 1 = w3.heap.size := by omega
              have hwx : w0.heap.size ≤ w.heap.size + 2 := by omega
              obtain ⟨k0, k1, k2, k3⟩ := cB_facts HQ4.out.1
              obtain ⟨c0, c1, c2, c3⟩ := row_facts HQ4.out.2.1
              obtain ⟨gx, hgx⟩ : ∃ gx, gx = w3.heap.size := ⟨_, rfl⟩
              rw [← hgx] at nx zx HQ4 k0 k1 k2 k3 ⊢
              clear hgx z2
              unfold bv
              by_cases hL : L < 18446744073709551616
              · have HEC : Hid (C = (L, X, true)) := by unfold Hid; rw [HE.out.1]; unfold finC; rw [if_pos hL]
                have l0 : hiB L = 0 := (big_small hL).1
                have HLL : Hid (loB L = (L : Int) ∧ loB X = (X : Int)) := ⟨(big_small hL).2, (big_small (by have := HXB.out.2.2; omega)).2⟩
                clear hL
                go_wp2_with fail
                rw [HLL.out.1, HLL.out.2]
                (try simp only [Exit.inBlock, Exit.then])
                refine bodyPost_ret (results_iv rfl _ _ (w.heap.size + 2) 27 #[_, _] (0, 0) _ rfl (heap_past _ _ _ (by simp; omega) (row_set2 HQ4.out.2.1 _ _)) Tryz.underlying27 rfl infoCg) rfl ?_
                exact ⟨retM HEC.out, ((HQ4.out.2.2.set hwx _).set hwx _).alloc _⟩
              · have l0 : (hiB L == 0) = false := by simp; unfold hiB; omega
                have HE2 : Hid (C = if X < 9223372036854775808 then (0, X, true) else if L - X ≤ 9223372036854775808 then (0, bitsN (-((L - X : Nat) : Int)), true) else (0, 0, false)) := by unfold Hid; rw [HE.out.1]; unfold finC; rw [if_neg hL]
                clear hL
                go_wp2_with fail
                obtain ⟨U, hU⟩ : ∃ U, U = w4.alloc (.cells #[.int .u64 (hiB L), .int .u64 (loB L)] 72) := ⟨_, rfl⟩
                have hr1 : U.heap[w4.heap.size]? = some (cB L) := by rw [hU]; exact heap_new0 _ _
                have hr2 : U.heap[w.heap.size + 2]? = some (.cells #[.int .u64 0, .int .u64 0] 27) := by rw [hU]; exact heap_past _ _ _ zr HQ4.out.2.1
                have hr3 : U.heap[gx]? = some (cB X) := by rw [hU]; exact heap_past _ _ _ zx HQ4.out.1
                have hr4 : Ok w0 U := by rw [hU]; exact HQ4.out.2.2.alloc _
                rw [← hU]
                have HQ5 : Hid (_ ∧ _ ∧ _ ∧ _) := And.intro hr3 (And.intro hr1 (And.intro hr2 hr4))
                have ny : ¬ w.heap.size + 1 + 1 = w4.heap.size := by omega
                obtain ⟨gy, hgy⟩ : ∃ gy, gy = w4.heap.size := ⟨_, rfl⟩
                rw [← hgy] at ny HQ5 ⊢
                clear hU hr1 hr2 hr3 hr4 hgy zx zr c0 c1 c2 c3 k0 k1 k2 k3
                obtain ⟨k0, k1, _, _⟩ := cB_facts HQ5.out.1
                obtain ⟨j0, j1, _, _⟩ := cB_facts HQ5.out.2.1
                have zx := lt_row HQ5.out.1
                have zy := lt_row HQ5.out.2.1
                have bz : Ok U U := Ok.refl _
                obtain ⟨bx, hbx⟩ : ∃ b, b = decide (X < 9223372036854775808) := ⟨_, rfl⟩
                have HBX : Hid _ := hbx
                clear hbx
                go_region_held3 (fun w' => w'.cell? ⟨gx, 0, none⟩ = some (.int .u64 (hiB X)) ∧ w'.cell? ⟨gx, 1, none⟩ = some (.int .u64 (loB X))) (go_keep)
                  (first
                  | (go_at_call 60; refine (cof_half U _ (by repeat (first | assumption | refine Ok.alloc ?_ _ | refine Below.drew ?_))).mono ?_; rintro e w' ⟨rfl, hb⟩; have q0 := Ok.cell hb zx k0; have q1 := Ok.cell hb zx k1)
                  | (go_at_call 64; refine (cless_half X U _ (by repeat (first | assumption | refine Ok.alloc ?_ _ | refine Below.drew ?_))).mono ?_; rintro e w' ⟨rfl, hb⟩; rw [← HBX.out]; have q0 := Ok.cell hb zx k0; have q1 := Ok.cell hb zx k1)
                  | fail)
                have HQ6 : Hid (_ ∧ _ ∧ _ ∧ _) := And.intro (Ok.row' hb HQ5.out.1) (And.intro (Ok.row' hb HQ5.out.2.1) (And.intro (Ok.row' hb HQ5.out.2.2.1) (HQ5.out.2.2.2.step hb)))
                obtain ⟨O, hO⟩ : ∃ O, O = w' := ⟨_, rfl⟩
                rw [← hO] at HQ6 ⊢
                clear hO hb k0 k1 j0 j1 zx zy
                obtain ⟨k0, k1, _, _⟩ := cB_facts HQ6.out.1
                obtain ⟨j0, j1, _, _⟩ := cB_facts HQ6.out.2.1
                cases bx
                · have hx : ¬ X < 9223372036854775808 := dec_no HBX.out
                  have HE3 : Hid _ := HE2.out.trans (if_neg hx)
                  clear hx
                  go_wp2_with fail
                  refine (bminus_any L X HXB.out.2.1 HXB.out.1 O O (Ok.refl _)).mono ?_
                  rintro e w6 ⟨rfl, hb6⟩
                  rw [subB_le HXB.out.2.1 (Nat.le_of_lt HXB.out.2.2)]
                  obtain ⟨B, hB⟩ : ∃ B, B = L - X := ⟨_, rfl⟩
                  rw [← hB] at HE3 ⊢
                  have HB : Hid (0 < B) := by have := HXB.out.2.2; unfold Hid; omega
                  have HQ7 : Hid (_ ∧ _) := And.intro (Ok.row' hb6 HQ6.out.2.2.1) (HQ6.out.2.2.2.step hb6)
                  clear hB hb6 k0 k1 j0 j1
                  unfold bv
                  go_wp2_with fail
                  obtain ⟨S, hS⟩ : ∃ S, S = w6.alloc (.cells #[.int .u64 (hiB B), .int .u64 (loB B)] 72) := ⟨_, rfl⟩
                  have hr1 : S.heap[w6.heap.size]? = some (cB B) := by rw [hS]; exact heap_new0 _ _
                  have zr := lt_row HQ7.out.1
                  have hr2 : S.heap[w.heap.size + 2]? = some (.cells #[.int .u64 0, .int .u64 0] 27) := by rw [hS]; exact heap_past _ _ _ zr HQ7.out.1
                  have hr4 : Ok w0 S := by rw [hS]; exact HQ7.out.2.alloc _
                  rw [← hS]
                  have nz : ¬ w.heap.size + 1 + 1 = w6.heap.size := by omega
                  have HQ8 : Hid (_ ∧ _ ∧ _) := And.intro hr1 (And.intro hr2 hr4)
                  obtain ⟨gz, hgz⟩ : ∃ gz, gz = w6.heap.size := ⟨_, rfl⟩
                  rw [← hgz] at nz HQ8 ⊢
                  clear hS hr1 hr2 hr4 hgz zr
                  obtain ⟨k0, k1, _, _⟩ := cB_facts HQ8.out.1
                  have zz := lt_row HQ8.out.1
                  have bz : Ok S S := Ok.refl _
                  obtain ⟨by', hby⟩ : ∃ b, b = decide (9223372036854775808 < B) := ⟨_, rfl⟩
                  have HBY : Hid _ := hby
                  clear hby
                  go_region_held3 (fun w' => w'.cell? ⟨gz, 0, none⟩ = some (.int .u64 (hiB B)) ∧ w'.cell? ⟨gz, 1, none⟩ = some (.int .u64 (loB B))) (go_keep)
                    (first
                    | (go_at_call 60; refine (cof_half S _ (by repeat (first | assumption | refine Ok.alloc ?_ _ | refine Below.drew ?_))).mono ?_; rintro e w' ⟨rfl, hb⟩; have q0 := Ok.cell hb zz k0; have q1 := Ok.cell hb zz k1)
                    | (go_at_call 64; refine (cless_back B S _ (by repeat (first | assumption | refine Ok.alloc ?_ _ | refine Below.drew ?_))).mono ?_; rintro e w' ⟨rfl, hb⟩; rw [← HBY.out]; have q0 := Ok.cell hb zz k0; have q1 := Ok.cell hb zz k1)
                    | fail)
                  have HQ9 : Hid (_ ∧ _ ∧ _) := And.intro (Ok.row' hb HQ8.out.1) (And.intro (Ok.row' hb HQ8.out.2.1) (HQ8.out.2.2.step hb))
                  obtain ⟨O2, hO2⟩ : ∃ O, O = w' := ⟨_, rfl⟩
                  rw [← hO2] at HQ9 ⊢
                  clear hO2 hb k0 k1 zz
                  obtain ⟨k0, k1, _, _⟩ := cB_facts HQ9.out.1
                  obtain ⟨c0, c1, c2, c3⟩ := row_facts HQ9.out.2.1
                  cases by'
                  · have hx : B ≤ 9223372036854775808 := Nat.le_of_not_lt (dec_no HBY.out)
                    have HE4 : Hid _ := HE3.out.trans (if_pos hx)
                    have HBL : Hid (bitsN (wrap64 (IntKind.u64.wrap (-(loB B)))) = bitsN (-(B : Int))) := bits_back HB.out hx
                    clear hx
                    go_wp2_with fail
                    refine (cconst_any _ O2 O2 (Ok.refl _)).mono ?_
                    rintro e w7 ⟨rfl, hb7⟩
                    have HQ10 : Hid (_ ∧ _) := And.intro (Ok.row' hb7 HQ9.out.2.1) (HQ9.out.2.2.step hb7)
                    clear hb7 c0 c1 c2 c3 k0 k1
                    obtain ⟨c0, c1, c2, c3⟩ := row_facts HQ10.out.1
                    unfold cv
                    go_wp2_with fail
                    (try simp only [Exit.inBlock, Exit.then])
                    refine bodyPost_ret (results_iv rfl _ _ (w.heap.size + 2) 27 #[_, _] (0, 0) _ rfl (row_set2 HQ10.out.1 _ _) Tryz.underlying27 rfl infoCg) rfl ?_
                    refine ⟨retM (M := 0) ?_, (HQ10.out.2.set hwx _).set hwx _⟩
                    rw [HE4.out]
                    first | rw [HBL.out] | rfl
                  · have hx : ¬ B ≤ 9223372036854775808 := Nat.not_le_of_lt (dec_yes HBY.out)
                    have HE4 : Hid _ := HE3.out.trans (if_neg hx)
                    clear hx
                    go_wp2_with fail
                    (try simp only [Exit.inBlock, Exit.then])
                    refine bodyPost_ret (results_iv rfl _ _ (w.heap.size + 2) 27 #[_, _] (0, 0) _ rfl (row_set2 HQ9.out.2.1 _ _) Tryz.underlying27 rfl infoCg) rfl ?_
                    exact ⟨retM (M := 0) (R := 0) HE4.out, (HQ9.out.2.2.set hwx _).set hwx _⟩
                · have hx : X < 9223372036854775808 := dec_yes HBX.out
                  have HE3 : Hid _ := HE2.out.trans (if_pos hx)
                  have HBL : Hid (bitsN (wrap64 (loB X)) = X) := bits_lo hx
                  clear hx
                  go_wp2_with fail
                  refine (cconst_any _ O O (Ok.refl _)).mono ?_
                  rintro e w7 ⟨rfl, hb7⟩
                  rw [HBL.out]
                  have HQ10 : Hid (_ ∧ _) := And.intro (Ok.row' hb7 HQ6.out.2.2.1) (HQ6.out.2.2.2.step hb7)
                  clear hb7 k0 k1 j0 j1
                  obtain ⟨c0, c1, c2, c3⟩ := row_facts HQ10.out.1
                  unfold cv
                  go_wp2_with fail
                  (try simp only [Exit.inBlock, Exit.then])
                  refine bodyPost_ret (results_iv rfl _ _ (w.heap.size + 2) 27 #[_, _] (0, 0) _ rfl (row_set2 HQ10.out.1 _ _) Tryz.underlying27 rfl infoCg) rfl ?_
                  exact ⟨retM (M := 0) HE3.out, (HQ10.out.2.set hwx _).set hwx _⟩
          · have HX2 : Hid (hiB X = hiB P ∧ loB X = IntKind.u64.wrap (loB P + (R1 : Int))) := by
              have := tim_none (S := P) (a := R1) HU.out.2.2.2.2.1 hcar
              rw [HXL.out.1]; exact this
            go_wp2_with fail
            rw [← HX2.out.1, ← HX2.out.2]
            as_aux_lemma =>
              obtain ⟨V, hV⟩ : ∃ V, V = w3.alloc (.cells #[.int .u64 (hiB X), .int .u64 (loB X)] 72) := ⟨_, rfl⟩
              have hrx : V.heap[w3.heap.size]? = some (cB X) := by rw [hV]; exact heap_new0 _ _
              have hrv : V.heap[w.heap.size + 2]? = some (.cells #[.int .u64 0, .int .u64 0] 27) := by rw [hV]; exact heap_past _ _ _ z2 HQ3.out.2.2.1
              have hov : Ok w0 V := by rw [hV]; exact HQ3.out.2.2.2.alloc _
              rw [← hV]
              refine (btimes_any cM m HU.out.1 HF.out.2.2.2.2.2.2.2.2.2.2.1 V V (Ok.refl _)).mono ?_
              rintro e w4 ⟨rfl, hb4⟩
              rw [← HXL.out.2]
              have HQ4 : Hid (_ ∧ _ ∧ _) := And.intro (Ok.row' hb4 hrx) (And.intro (Ok.row' hb4 hrv) (hov.step hb4))
              clear hV hrx hrv hov hb4 a0 a1 z0 hcar HX2
              have zx := lt_row HQ4.out.1
              have zr := lt_row HQ4.out.2.1
              have nx : ¬ w.heap.size + 1 + 1 = w3.heap.size := by omega
              have hwx : w0.heap.size ≤ w.heap.size + 2 := by omega
              obtain ⟨k0, k1, k2, k3⟩ := cB_facts HQ4.out.1
              obtain ⟨c0, c1, c2, c3⟩ := row_facts HQ4.out.2.1
              obtain ⟨gx, hgx⟩ : ∃ gx, gx = w3.heap.size := ⟨_, rfl⟩
              rw [← hgx] at nx zx HQ4 k0 k1 k2 k3 ⊢
              clear hgx z2
              unfold bv
              by_cases hL : L < 18446744073709551616
              · have HEC : Hid (C = (L, X, true)) := by unfold Hid; rw [HE.out.1]; unfold finC; rw [if_pos hL]
                have l0 : hiB L = 0 := (big_small hL).1
                have HLL : Hid (loB L = (L : Int) ∧ loB X = (X : Int)) := ⟨(big_small hL).2, (big_small (by have := HXB.out.2.2; omega)).2⟩
                clear hL
                go_wp2_with fail
                rw [HLL.out.1, HLL.out.2]
                (try simp only [Exit.inBlock, Exit.then])
                refine bodyPost_ret (results_iv rfl _ _ (w.heap.size + 2) 27 #[_, _] (0, 0) _ rfl (heap_past _ _ _ (by simp; omega) (row_set2 HQ4.out.2.1 _ _)) Tryz.underlying27 rfl infoCg) rfl ?_
                exact ⟨retM HEC.out, ((HQ4.out.2.2.set hwx _).set hwx _).alloc _⟩
              · have l0 : (hiB L == 0) = false := by simp; unfold hiB; omega
                have HE2 : Hid (C = if X < 9223372036854775808 then (0, X, true) else if L - X ≤ 9223372036854775808 then (0, bitsN (-((L - X : Nat) : Int)), true) else (0, 0, false)) := by unfold Hid; rw [HE.out.1]; unfold finC; rw [if_neg hL]
                clear hL
                go_wp2_with fail
                obtain ⟨U, hU⟩ : ∃ U, U = w4.alloc (.cells #[.int .u64 (hiB L), .int .u64 (loB L)] 72) := ⟨_, rfl⟩
                have hr1 : U.heap[w4.heap.size]? = some (cB L) := by rw [hU]; exact heap_new0 _ _
                have hr2 : U.heap[w.heap.size + 2]? = some (.cells #[.int .u64 0, .int .u64 0] 27) := by rw [hU]; exact heap_past _ _ _ zr HQ4.out.2.1
                have hr3 : U.heap[gx]? = some (cB X) := by rw [hU]; exact heap_past _ _ _ zx HQ4.out.1
                have hr4 : Ok w0 U := by rw [hU]; exact HQ4.out.2.2.alloc _
                rw [← hU]
                have HQ5 : Hid (_ ∧ _ ∧ _ ∧ _) := And.intro hr3 (And.intro hr1 (And.intro hr2 hr4))
                have ny : ¬ w.heap.size + 1 + 1 = w4.heap.size := by omega
                obtain ⟨gy, hgy⟩ : ∃ gy, gy = w4.heap.size := ⟨_, rfl⟩
                rw [← hgy] at ny HQ5 ⊢
                clear hU hr1 hr2 hr3 hr4 hgy zx zr c0 c1 c2 c3 k0 k1 k2 k3
                obtain ⟨k0, k1, _, _⟩ := cB_facts HQ5.out.1
                obtain ⟨j0, j1, _, _⟩ := cB_facts HQ5.out.2.1
                have zx := lt_row HQ5.out.1
                have zy := lt_row HQ5.out.2.1
                have bz : Ok U U := Ok.refl _
                obtain ⟨bx, hbx⟩ : ∃ b, b = decide (X < 9223372036854775808) := ⟨_, rfl⟩
                have HBX : Hid _ := hbx
                clear hbx
                go_region_held3 (fun w' => w'.cell? ⟨gx, 0, none⟩ = some (.int .u64 (hiB X)) ∧ w'.cell? ⟨gx, 1, none⟩ = some (.int .u64 (loB X))) (go_keep)
                  (first
                  | (go_at_call 60; refine (cof_half U _ (by repeat (first | assumption | refine Ok.alloc ?_ _ | refine Below.drew ?_))).mono ?_; rintro e w' ⟨rfl, hb⟩; have q0 := Ok.cell hb zx k0; have q1 := Ok.cell hb zx k1)
                  | (go_at_call 64; refine (cless_half X U _ (by repeat (first | assumption | refine Ok.alloc ?_ _ | refine Below.drew ?_))).mono ?_; rintro e w' ⟨rfl, hb⟩; rw [← HBX.out]; have q0 := Ok.cell hb zx k0; have q1 := Ok.cell hb zx k1)
                  | fail)
                have HQ6 : Hid (_ ∧ _ ∧ _ ∧ _) := And.intro (Ok.row' hb HQ5.out.1) (And.intro (Ok.row' hb HQ5.out.2.1) (And.intro (Ok.row' hb HQ5.out.2.2.1) (HQ5.out.2.2.2.step hb)))
                obtain ⟨O, hO⟩ : ∃ O, O = w' := ⟨_, rfl⟩
                rw [← hO] at HQ6 ⊢
                clear hO hb k0 k1 j0 j1 zx zy
                obtain ⟨k0, k1, _, _⟩ := cB_facts HQ6.out.1
                obtain ⟨j0, j1, _, _⟩ := cB_facts HQ6.out.2.1
                cases bx
                · have hx : ¬ X < 9223372036854775808 := dec_no HBX.out
                  have HE3 : Hid _ := HE2.out.trans (if_neg hx)
                  clear hx
                  go_wp2_with fail
                  refine (bminus_any L X HXB.out.2.1 HXB.out.1 O O (Ok.refl _)).mono ?_
                  rintro e w6 ⟨rfl, hb6⟩
                  rw [subB_le HXB.out.2.1 (Nat.le_of_lt HXB.out.2.2)]
                  obtain ⟨B, hB⟩ : ∃ B, B = L - X := ⟨_, rfl⟩
                  rw [← hB] at HE3 ⊢
                  have HB : Hid (0 < B) := by have := HXB.out.2.2; unfold Hid; omega
                  have HQ7 : Hid (_ ∧ _) := And.intro (Ok.row' hb6 HQ6.out.2.2.1) (HQ6.out.2.2.2.step hb6)
                  clear hB hb6 k0 k1 j0 j1
                  unfold bv
                  go_wp2_with fail
                  obtain ⟨S, hS⟩ : ∃ S, S = w6.alloc (.cells #[.int .u64 (hiB B), .int .u64 (loB B)] 72) := ⟨_, rfl⟩
                  have hr1 : S.heap[w6.heap.size]? = some (cB B) := by rw [hS]; exact heap_new0 _ _
                  have zr := lt_row HQ7.out.1
                  have hr2 : S.heap[w.heap.size + 2]? = some (.cells #[.int .u64 0, .int .u64 0] 27) := by rw [hS]; exact heap_past _ _ _ zr HQ7.out.1
                  have hr4 : Ok w0 S := by rw [hS]; exact HQ7.out.2.alloc _
                  rw [← hS]
                  have nz : ¬ w.heap.size + 1 + 1 = w6.heap.size := by omega
                  have HQ8 : Hid (_ ∧ _ ∧ _) := And.intro hr1 (And.intro hr2 hr4)
                  obtain ⟨gz, hgz⟩ : ∃ gz, gz = w6.heap.size := ⟨_, rfl⟩
                  rw [← hgz] at nz HQ8 ⊢
                  clear hS hr1 hr2 hr4 hgz zr
                  obtain ⟨k0, k1, _, _⟩ := cB_facts HQ8.out.1
                  have zz := lt_row HQ8.out.1
                  have bz : Ok S S := Ok.refl _
                  obtain ⟨by', hby⟩ : ∃ b, b = decide (9223372036854775808 < B) := ⟨_, rfl⟩
                  have HBY : Hid _ := hby
                  clear hby
                  go_region_held3 (fun w' => w'.cell? ⟨gz, 0, none⟩ = some (.int .u64 (hiB B)) ∧ w'.cell? ⟨gz, 1, none⟩ = some (.int .u64 (loB B))) (go_keep)
                    (first
                    | (go_at_call 60; refine (cof_half S _ (by repeat (first | assumption | refine Ok.alloc ?_ _ | refine Below.drew ?_))).mono ?_; rintro e w' ⟨rfl, hb⟩; have q0 := Ok.cell hb zz k0; have q1 := Ok.cell hb zz k1)
                    | (go_at_call 64; refine (cless_back B S _ (by repeat (first | assumption | refine Ok.alloc ?_ _ | refine Below.drew ?_))).mono ?_; rintro e w' ⟨rfl, hb⟩; rw [← HBY.out]; have q0 := Ok.cell hb zz k0; have q1 := Ok.cell hb zz k1)
                    | fail)
                  have HQ9 : Hid (_ ∧ _ ∧ _) := And.intro (Ok.row' hb HQ8.out.1) (And.intro (Ok.row' hb HQ8.out.2.1) (HQ8.out.2.2.step hb))
                  obtain ⟨O2, hO2⟩ : ∃ O, O = w' := ⟨_, rfl⟩
                  rw [← hO2] at HQ9 ⊢
                  clear hO2 hb k0 k1 zz
                  obtain ⟨k0, k1, _, _⟩ := cB_facts HQ9.out.1
                  obtain ⟨c0, c1, c2, c3⟩ := row_facts HQ9.out.2.1
                  cases by'
                  · have hx : B ≤ 9223372036854775808 := Nat.le_of_not_lt (dec_no HBY.out)
                    have HE4 : Hid _ := HE3.out.trans (if_pos hx)
                    have HBL : Hid (bitsN (wrap64 (IntKind.u64.wrap (-(loB B)))) = bitsN (-(B : Int))) := bits_back HB.out hx
                    clear hx
                    go_wp2_with fail
                    refine (cconst_any _ O2 O2 (Ok.refl _)).mono ?_
                    rintro e w7 ⟨rfl, hb7⟩
                    have HQ10 : Hid (_ ∧ _) := And.intro (Ok.row' hb7 HQ9.out.2.1) (HQ9.out.2.2.step hb7)
                    clear hb7 c0 c1 c2 c3 k0 k1
                    obtain ⟨c0, c1, c2, c3⟩ := row_facts HQ10.out.1
                    unfold cv
                    go_wp2_with fail
                    (try simp only [Exit.inBlock, Exit.then])
                    refine bodyPost_ret (results_iv rfl _ _ (w.heap.size + 2) 27 #[_, _] (0, 0) _ rfl (row_set2 HQ10.out.1 _ _) Tryz.underlying27 rfl infoCg) rfl ?_
                    refine ⟨retM (M := 0) ?_, (HQ10.out.2.set hwx _).set hwx _⟩
                    rw [HE4.out]
                    first | rw [HBL.out] | rfl
                  · have hx : ¬ B ≤ 9223372036854775808 := Nat.not_le_of_lt (dec_yes HBY.out)
                    have HE4 : Hid _ := HE3.out.trans (if_neg hx)
                    clear hx
                    go_wp2_with fail
                    (try simp only [Exit.inBlock, Exit.then])
                    refine bodyPost_ret (results_iv rfl _ _ (w.heap.size + 2) 27 #[_, _] (0, 0) _ rfl (row_set2 HQ9.out.2.1 _ _) Tryz.underlying27 rfl infoCg) rfl ?_
                    exact ⟨retM (M := 0) (R := 0) HE4.out, (HQ9.out.2.2.set hwx _).set hwx _⟩
                · have hx : X < 9223372036854775808 := dec_yes HBX.out
                  have HE3 : Hid _ := HE2.out.trans (if_pos hx)
                  have HBL : Hid (bitsN (wrap64 (loB X)) = X) := bits_lo hx
                  clear hx
                  go_wp2_with fail
                  refine (cconst_any _ O O (Ok.refl _)).mono ?_
                  rintro e w7 ⟨rfl, hb7⟩
                  rw [HBL.out]
                  have HQ10 : Hid (_ ∧ _) := And.intro (Ok.row' hb7 HQ6.out.2.2.1) (HQ6.out.2.2.2.step hb7)
                  clear hb7 k0 k1 j0 j1
                  obtain ⟨c0, c1, c2, c3⟩ := row_facts HQ10.out.1
                  unfold cv
                  go_wp2_with fail
                  (try simp only [Exit.inBlock, Exit.then])
                  refine bodyPost_ret (results_iv rfl _ _ (w.heap.size + 2) 27 #[_, _] (0, 0) _ rfl (row_set2 HQ10.out.1 _ _) Tryz.underlying27 rfl infoCg) rfl ?_
                  exact ⟨retM (M := 0) HE3.out, (HQ10.out.2.set hwx _).set hwx _⟩
      · have p1 : ((T1 : Int) != (T2 : Int)) = true := by simp; omega
        have HEC : Hid (C = (0, 0, false)) := by
          unfold Hid
          rw [HC.out]
          have h := HF.out
          exact meet_apart h.2.2.2.2.2.2.2.2.2.2.2.2.1 h.2.2.2.2.2.2.2.2.2.2.2.2.2 (by rw [← h.1, ← h.2.2.2.2.1, ← h.2.2.2.2.2.1, ← HT.out.1, ← HT.out.2]; exact hT)
        clear hT
        go_quiet (fail)
        go_wp2_with fail
        (try simp only [Exit.inBlock, Exit.then])
        refine bodyPost_ret (results_iv rfl _ _ (w.heap.size + 2) 27 #[_, _] (0, 0) _ rfl (row_set2 HY.out.2.2.1 _ _) Tryz.underlying27 rfl infoCg) rfl ?_
        exact ⟨retM (M := 0) (R := 0) HEC.out, by repeat (first | exact HY.out.2.2.2 | refine Ok.draws ?_ _ | refine Ok.set ?_ (show w0.heap.size ≤ w.heap.size + 2 by omega) _)⟩
  have HTAIL : Hid _ := tail
  clear tail
  go_region_with (first
    | (go_at_call 57; refine (cnorm_any _ _ W _ (by repeat (first | assumption | refine Ok.alloc ?_ _ | refine Below.drew ?_))).mono ?_; rintro e w' ⟨rfl, hb⟩; (first | rw [HN.out.1] | rw [HN.out.2]); unfold cv; have x0 := row_facts (Ok.row' hb HRR.out.1); have x1 := row_facts (Ok.row' hb HRR.out.2.1))
    | fail)
  all_goals
    refine HTAIL.out _ ?_ ?_ ?_ ?_
    · rw [heap_setCell_other _ _ _ _ (by simp), heap_setCell_other _ _ _ _ (by simp)]
      exact row_set2 (Ok.row' hb HRR.out.1) _ _
    · refine row_set2 (u := .int .u64 (dM : Int)) (v := .int .u64 (dR : Int)) ?_ _ _
      rw [heap_setCell_other _ _ _ _ (by simp), heap_setCell_other _ _ _ _ (by simp)]
      exact Ok.row' hb HRR.out.2.1
    · rw [heap_setCell_other _ _ _ _ (by simp), heap_setCell_other _ _ _ _ (by simp), heap_setCell_other _ _ _ _ (by simp), heap_setCell_other _ _ _ _ (by simp)]
      exact Ok.row' hb HRR.out.2.2
    · exact ((((HW.out.step hb).set hle _).set hle _).set (show w0.heap.size ≤ w.heap.size + 1 by omega) _).set (show w0.heap.size ≤ w.heap.size + 1 by omega) _
end Go.Proofs.YtbkblijoimmdeaaGreat
