import Derived.Test.YtgkbegmaffknbaaGreatFNfm
import Derived.Test.YtgkbegmaffknbaaGreatFNl
set_option linter.unusedVariables false
set_option linter.unusedSimpArgs false
set_option linter.unnecessarySimpa false
/- Nw -/
namespace Go.Proofs.YtgkbegmaffknbaaGreat
open Go.RowKit
theorem wemod_of {v r m k : Int} (h : v = r + m * k) (h0 : 0 ≤ r) (h1 : r < m) : v % m = r := by
  rw [h, Int.add_mul_emod_self_left, Int.emod_eq_of_lt h0 h1]
theorem wrest_below {v : Int} {m : Int} (hm : 0 < m) : m - 1 - (-(v + 1)) % m = v % m := by
  have a := Int.emod_nonneg (-(v + 1)) (show m ≠ 0 by omega)
  have b := Int.emod_lt_of_pos (-(v + 1)) hm
  have c := Int.mul_ediv_add_emod (-(v + 1)) m
  refine (wemod_of (k := -((-(v + 1)) / m) - 1) ?_ (by omega) (by omega)).symm
  rw [Int.mul_sub, Int.mul_neg]
  omega
def wrestN (v : Int) (m : Nat) : Nat := (v % (m : Int)).toNat
theorem wrest_val {v : Int} {m : Nat} (hm : 0 < m) : (wrestN v m : Int) = v % (m : Int) := by
  unfold wrestN
  have := Int.emod_nonneg v (show (m : Int) ≠ 0 by omega)
  omega
set_option maxHeartbeats 400000 in
theorem wrest_any (v : Int) (m : Nat) (hv : In64 v) (hm : U64 m) (hm0 : 0 < m) (w : World) :
    Calls Tryz.prog 51 #[.int .i64 v, .int .u64 (m : Int)] w fun e w' => e = .returned (.int .u64 (wrestN v m : Int)) ∧ w' = w := by
  have HV : Hid _ := And.intro hv (And.intro hm hm0)
  have g1 : ((m : Int) == 0) = false := by simp; omega
  have g2 : ¬ (m : Int) = 0 := by omega
  have g3 : (m == 0) = false := by simp; omega
  have g4 : ¬ m = 0 := by omega
  by_cases h : 0 ≤ v
  · clear hv hm hm0
    go_enter Tryz.func51, Tryz.ntmps51
    go_wp2
    go_ret
    refine ⟨retu ?_, rfl⟩
    have := HV.out; unfold In64 at this; rw [wrest_val this.2.2]; simp only [u64w]
    first | (rw [Int.emod_eq_of_lt (a := v) (by omega) (by omega)]; done) | (rw [Int.tmod_eq_emod_of_nonneg (by omega), Int.emod_eq_of_lt (a := v) (by omega) (by omega)]; done) | omega
  · clear hv hm hm0
    go_enter Tryz.func51, Tryz.ntmps51
    go_wp2
    go_ret
    refine ⟨retu ?_, rfl⟩
    have := HV.out
    rw [wrest_val this.2.2, ← wrest_below (show (0 : Int) < (m : Int) by omega)]
    unfold In64 U64 at this
    have e1 : wrap64 (v + 1) = v + 1 := by unfold wrap64; omega
    have e2 : wrap64 (-(v + 1)) = -(v + 1) := by unfold wrap64; omega
    rw [e1, e2]
    have e3 : IntKind.u64.wrap (-(v + 1)) = -(v + 1) := by rw [u64w]; omega
    have e4 : IntKind.u64.wrap ((m : Int) - 1) = (m : Int) - 1 := by rw [u64w]; omega
    rw [e3, e4, Int.tmod_eq_emod_of_nonneg (by omega), u64w]
    have a := Int.emod_nonneg (-(v + 1)) (show (m : Int) ≠ 0 by omega)
    have b := Int.emod_lt_of_pos (-(v + 1)) (show (0 : Int) < (m : Int) by omega)
    generalize -(v + 1) % (m : Int) = z at *
    omega
theorem insw_bot {l h v : Int} {M R : Nat} : insN (l, h, M, R, true) v = false := rfl
theorem insw_lo {l h v : Int} {M R : Nat} (c : v < l) : insN (l, h, M, R, false) v = false := by
  unfold insN hasI; simp; omega
theorem insw_hi {l h v : Int} {M R : Nat} (c : h < v) : insN (l, h, M, R, false) v = false := by
  unfold insN hasI; simp; omega
theorem insw_zero {l h v : Int} {R : Nat} (c : ¬ v < l) (d : ¬ h < v) (hR : U64 R) (hv : In64 v) : insN (l, h, 0, R, false) v = (IntKind.u64.wrap v == (R : Int)) := by
  apply bool_ext
  unfold insN hasI hasC leqC
  unfold U64 at hR; unfold In64 at hv
  rw [beq_iff_eq, u64w]
  simp only [Bool.not_false, Bool.true_and, if_true, decide_true, Bool.and_eq_true, decide_eq_true_eq]
  unfold bitsN
  omega
theorem insw_pos {l h v : Int} {M R : Nat} (c : ¬ v < l) (d : ¬ h < v) (hM : 0 < M) (hR : U64 R) (hv : In64 v) : insN (l, h, M, R, false) v = ((wrestN v M : Int) == ((R : Int).tmod (M : Int))) := by
  apply bool_ext
  rw [beq_iff_eq, wrest_val hM, Int.tmod_eq_emod_of_nonneg (by omega)]
  unfold insN
  have e := hasC_iff (M := M) (R := R) (v := v) hR hv
  rw [memC_pos hM] at e
  rw [Int.natCast_emod] at e
  simp only [Bool.not_false, Bool.true_and, Bool.and_eq_true, e]
  unfold hasI
  simp
  omega
set_option maxRecDepth 100000 in
set_option maxHeartbeats 2000000 in
theorem win5 (l h : Int) (M R : Nat) (B : Bool) (v : Int) (hM : U64 M) (hR : U64 R) (hv : In64 v) (w0 w : World) (hok : Ok w0 w) :
    Calls Tryz.prog 16 #[.agg #[.bool B, .int .i64 l, .int .i64 h, .int .u64 (M : Int), .int .u64 (R : Int)], .int .i64 v] w fun e w' => e = .returned (.bool (insN (l, h, M, R, B) v)) ∧ Ok w0 w' := by
  have hle := hok.le
  have HU : Hid _ := And.intro hM (And.intro hR hv)
  cases B
  · by_cases c : v < l
    · have HA : Hid _ := insw_lo (h := h) (M := M) (R := R) c
      clear hM hR hv
      go_enter Tryz.func16, Tryz.ntmps16
      go_wp2_with fail
      go_ret
      exact ⟨by rw [HA.out]; rfl, (by repeat (first | exact hok | refine Ok.alloc ?_ _ | refine Ok.draws ?_ _ | fail))⟩
    · by_cases d : h < v
      · have HA : Hid _ := insw_hi (l := l) (M := M) (R := R) d
        clear hM hR hv
        go_enter Tryz.func16, Tryz.ntmps16
        go_wp2_with fail
        go_ret
        exact ⟨by rw [HA.out]; rfl, (by repeat (first | exact hok | refine Ok.alloc ?_ _ | refine Ok.draws ?_ _ | fail))⟩
      · by_cases z : M = 0
        · subst z
          have HA : Hid _ := insw_zero c d hR hv
          clear hM hR hv
          go_enter Tryz.func16, Tryz.ntmps16
          go_wp2_with fail
          go_ret
          exact ⟨by rw [HA.out]; rfl, (by repeat (first | exact hok | refine Ok.alloc ?_ _ | refine Ok.draws ?_ _ | fail))⟩
        · have HM : Hid (0 < M) := by unfold Hid; omega
          have HA : Hid _ := insw_pos c d HM.out hR hv
          have g1 : ((M : Int) == 0) = false := by simp; omega
          have g2 : ¬ (M : Int) = 0 := by omega
          have g3 : (M == 0) = false := by simp; omega
          obtain ⟨T, hT⟩ : ∃ T, T = wrestN v M := ⟨_, rfl⟩
          have HT : Hid _ := hT
          clear hT hM hR hv
          go_enter Tryz.func16, Tryz.ntmps16
          go_wp2_with fail
          obtain ⟨W, hW⟩ : ∃ W, W = (w).alloc (.cells #[.bool false, .int .i64 l, .int .i64 h, .int .u64 (M : Int), .int .u64 (R : Int)] 28) := ⟨_, rfl⟩
          have ra : Hid (W.heap[w.heap.size]? = some (.cells #[.bool false, .int .i64 l, .int .i64 h, .int .u64 (M : Int), .int .u64 (R : Int)] 28)) := by unfold Hid; rw [hW]; exact (by repeat (first | (refine heap_at _ _ _ ?hx; case hx => (first | (simp; done) | (simp; omega))) | (refine heap_past _ _ _ ?hy ?_; case hy => (first | (simp; done) | (simp; omega))) | fail))
          have HW : Hid (Ok w0 W) := by unfold Hid; rw [hW]; exact (by repeat (first | exact hok | refine Ok.alloc ?_ _ | refine Ok.draws ?_ _ | fail))
          rw [← hW]
          clear hW
          clear hok
          obtain ⟨f0, f1, f2, f3, f4, f5, f6, f7, f8, f9⟩ := row5_facts ra.out
          go_region_held3 (fun w' => w'.cell? ⟨w.heap.size, 3, none⟩ = some (.int .u64 (M : Int)) ∧ w'.cell? ⟨w.heap.size, 4, none⟩ = some (.int .u64 (R : Int))) (go_keep)
            (first
            | (go_at_call 51; refine (wrest_any v M HU.out.2.2 HU.out.1 HM.out _).mono ?_; rintro e w' ⟨rfl, rfl⟩; rw [← HT.out])
            | fail)
          go_wp2_with fail
          go_ret
          refine ⟨by rw [HA.out, ← HT.out]; rfl, by repeat (first | exact HW.out | refine Below.drew ?_)⟩
  · have HA : Hid _ := insw_bot (l := l) (h := h) (M := M) (R := R) (v := v)
    clear hM hR hv
    go_enter Tryz.func16, Tryz.ntmps16
    go_wp2_with fail
    go_ret
    exact ⟨by rw [HA.out]; rfl, (by repeat (first | exact hok | refine Ok.alloc ?_ _ | refine Ok.draws ?_ _ | fail))⟩
theorem win_any (a : Int × Int × Nat × Nat × Bool) (v : Int) (ha : RawN a) (hv : In64 v) (w0 w : World) (hok : Ok w0 w) :
    Calls Tryz.prog 16 #[nv a, .int .i64 v] w fun e w' => e = .returned (.bool (insN a v)) ∧ Ok w0 w' := win5 a.1 a.2.1 a.2.2.1 a.2.2.2.1 a.2.2.2.2 v ha.2.2.1 ha.2.2.2 hv w0 w hok
set_option maxRecDepth 100000 in
set_option maxHeartbeats 2000000 in
theorem wnormal_any (a : Int × Int × Nat × Nat × Bool) (ha : RawN a) (nx : NormN a) (w0 w : World) (hok : Ok w0 w) :
    Calls Tryz.prog 14 #[nv a] w fun e w' => e = .returned (.bool true) ∧ Ok w0 w' := by
  have hle := hok.le
  have HU : Hid _ := And.intro ha nx
  rcases nx with nx | nx
  · subst nx
    unfold nv botN
    clear ha
    go_enter Tryz.func14, Tryz.ntmps14
    go_wp2_with fail
    go_ret
    exact ⟨rfl, (by repeat (first | exact hok | refine Ok.alloc ?_ _ | refine Ok.draws ?_ _ | fail))⟩
  · obtain ⟨l, h, M, R, B⟩ := a
    simp only at nx
    obtain ⟨rfl, nl, nh, nle, n1, n2, n3, n4⟩ := nx
    have I1 : Hid (insN (l, h, M, R, false) l = true) := (insN_iff ha nl).2 ⟨rfl, Int.le_refl _, nle, n1⟩
    have I2 : Hid (insN (l, h, M, R, false) h = true) := (insN_iff ha nh).2 ⟨rfl, nle, Int.le_refl _, n2⟩
    have HN : Hid _ := And.intro nl nh
    unfold nv
    simp only
    by_cases q : l = h
    · have HQ : Hid _ := And.intro q (n3 q)
      have q1 : (l == h) = true := by simp; exact q
      have q2 : ¬ h < l := by omega
      clear q nle
      clear ha nl nh n1 n2 n3 n4
      go_enter Tryz.func14, Tryz.ntmps14
      go_wp2_with fail
      obtain ⟨W, hW⟩ : ∃ W, W = (w).alloc (.cells #[.bool false, .int .i64 l, .int .i64 h, .int .u64 (M : Int), .int .u64 (R : Int)] 28) := ⟨_, rfl⟩
      have ra : Hid (W.heap[w.heap.size]? = some (.cells #[.bool false, .int .i64 l, .int .i64 h, .int .u64 (M : Int), .int .u64 (R : Int)] 28)) := by unfold Hid; rw [hW]; exact (by repeat (first | (refine heap_at _ _ _ ?hx; case hx => (first | (simp; done) | (simp; omega))) | (refine heap_past _ _ _ ?hy ?_; case hy => (first | (simp; done) | (simp; omega))) | fail))
      have HW : Hid (Ok w0 W) := by unfold Hid; rw [hW]; exact (by repeat (first | exact hok | refine Ok.alloc ?_ _ | refine Ok.draws ?_ _ | fail))
      rw [← hW]
      clear hW
      clear hok
      refine (win5 l h M R false l HU.out.1.2.2.1 HU.out.1.2.2.2 HN.out.1 W _ (Ok.refl _)).mono ?_
      rintro e w1 ⟨rfl, hb⟩
      rw [I1.out]
      replace ra : Hid _ := Ok.row' hb ra.out
      have Hw1 : Hid (Ok w0 w1) := HW.out.step hb
      clear hb
      obtain ⟨f0, f1, f2, f3, f4, f5, f6, f7, f8, f9⟩ := row5_facts ra.out
      go_wp2_with fail
      refine (win5 l h M R false h HU.out.1.2.2.1 HU.out.1.2.2.2 HN.out.2 w1 _ (Ok.refl _)).mono ?_
      rintro e w2 ⟨rfl, hb⟩
      rw [I2.out]
      replace ra : Hid _ := Ok.row' hb ra.out
      have Hw2 : Hid (Ok w0 w2) := Hw1.out.step hb
      clear hb f0 f1 f2 f3 f4 f5 f6 f7 f8 f9
      obtain ⟨f0, f1, f2, f3, f4, f5, f6, f7, f8, f9⟩ := row5_facts ra.out
      have HE : Hid ((M : Int) = 0 ∧ (R : Int) = IntKind.u64.wrap l) := by have z := HQ.out.2; rw [← bits_val, z.1, z.2]; exact ⟨rfl, rfl⟩
      obtain ⟨HE1, HE2⟩ := HE.out
      go_wp2_with fail
      go_ret
      refine ⟨?_, ?_⟩
      · first | rfl | simp
      · exact Hw2.out
    · have q2 : l < h := by omega
      have q3 : (l == h) = false := by simp; exact q
      have q4 : ¬ h < l := by omega
      obtain ⟨m0, r0⟩ := n4 q2
      have m1 : (0 : Int) < (M : Int) := by omega
      have r1 : (R : Int) < (M : Int) := by omega
      clear ha nl nh n1 n2 n3 n4
      go_enter Tryz.func14, Tryz.ntmps14
      go_wp2_with fail
      obtain ⟨W, hW⟩ : ∃ W, W = (w).alloc (.cells #[.bool false, .int .i64 l, .int .i64 h, .int .u64 (M : Int), .int .u64 (R : Int)] 28) := ⟨_, rfl⟩
      have ra : Hid (W.heap[w.heap.size]? = some (.cells #[.bool false, .int .i64 l, .int .i64 h, .int .u64 (M : Int), .int .u64 (R : Int)] 28)) := by unfold Hid; rw [hW]; exact (by repeat (first | (refine heap_at _ _ _ ?hx; case hx => (first | (simp; done) | (simp; omega))) | (refine heap_past _ _ _ ?hy ?_; case hy => (first | (simp; done) | (simp; omega))) | fail))
      have HW : Hid (Ok w0 W) := by unfold Hid; rw [hW]; exact (by repeat (first | exact hok | refine Ok.alloc ?_ _ | refine Ok.draws ?_ _ | fail))
      rw [← hW]
      clear hW
      clear hok
      refine (win5 l h M R false l HU.out.1.2.2.1 HU.out.1.2.2.2 HN.out.1 W _ (Ok.refl _)).mono ?_
      rintro e w1 ⟨rfl, hb⟩
      rw [I1.out]
      replace ra : Hid _ := Ok.row' hb ra.out
      have Hw1 : Hid (Ok w0 w1) := HW.out.step hb
      clear hb
      obtain ⟨f0, f1, f2, f3, f4, f5, f6, f7, f8, f9⟩ := row5_facts ra.out
      go_wp2_with fail
      refine (win5 l h M R false h HU.out.1.2.2.1 HU.out.1.2.2.2 HN.out.2 w1 _ (Ok.refl _)).mono ?_
      rintro e w2 ⟨rfl, hb⟩
      rw [I2.out]
      replace ra : Hid _ := Ok.row' hb ra.out
      have Hw2 : Hid (Ok w0 w2) := Hw1.out.step hb
      clear hb f0 f1 f2 f3 f4 f5 f6 f7 f8 f9
      obtain ⟨f0, f1, f2, f3, f4, f5, f6, f7, f8, f9⟩ := row5_facts ra.out
      go_wp2_with fail
      go_ret
      refine ⟨?_, ?_⟩
      · first | rfl | simp
      · exact Hw2.out
theorem wsome_n {l h : Int} {M : Nat} (hl : In64 l) (hh : In64 h) (hle : l ≤ h) (hM : U64 M) (h0 : 0 < M) : IntKind.u64.wrap (IntKind.u64.wrap ((IntKind.u64.wrap (IntKind.u64.wrap h - IntKind.u64.wrap l)).tdiv (M : Int)) + 1) = ((((h - l).toNat / M + 1) % 18446744073709551616 : Nat) : Int) := by
  have e : IntKind.u64.wrap (IntKind.u64.wrap h - IntKind.u64.wrap l) = ((h - l).toNat : Int) := by
    simp only [u64w]; unfold In64 at *; omega
  rw [e, Int.tdiv_eq_ediv_of_nonneg (by omega), u64w, u64w, ← Int.natCast_ediv]
  omega
theorem wsome_ret {a b : Int} (h : In64 b) (e : a % 18446744073709551616 = b % 18446744073709551616) : Ending.returned (.int .i64 (IntKind.i64.wrap a)) = .returned (.int .i64 b) := by
  rw [show IntKind.i64.wrap a = b by rw [IntKind.wrap_i64]; unfold In64 at h; omega]
set_option maxRecDepth 100000 in
set_option maxHeartbeats 2000000 in
theorem wsome_any (a : Int × Int × Nat × Nat × Bool) (v : Int) (ha : RawN a) (na : NormN a) (hv : In64 v) (w0 w : World) (hok : Ok w0 w) :
    Calls Tryz.prog 18 #[nv a, .int .i64 v] w fun e w' => e = .returned (.int .i64 (someN a v)) ∧ Ok w0 w' := by
  have hle := hok.le
  obtain ⟨l, h, M, R, B⟩ := a
  unfold nv
  simp only
  have le : l ≤ h := by rcases na with na | na; (· have q := congrArg (fun x => (x.1, x.2.1)) na; simp only [botN, Prod.mk.injEq] at q; omega); exact na.2.2.2.1
  by_cases z : M = 0
  · subst z
    have HA : Hid (someN (l, h, 0, R, B) v = l) := rfl
    clear ha na hv le
    go_enter Tryz.func18, Tryz.ntmps18
    go_wp2_with fail
    go_ret
    exact ⟨by rw [HA.out]; rfl, (by repeat (first | exact hok | refine Ok.alloc ?_ _ | refine Ok.draws ?_ _ | fail))⟩
  · have HM : Hid (0 < M) := by unfold Hid; omega
    have g1 : ((M : Int) == 0) = false := by simp; omega
    have g2 : ¬ (M : Int) = 0 := by omega
    have g3 : (M == 0) = false := by simp; omega
    obtain ⟨n, hn⟩ : ∃ n, n = ((h - l).toNat / M + 1) % 18446744073709551616 := ⟨_, rfl⟩
    have kn : IntKind.u64.wrap (IntKind.u64.wrap ((IntKind.u64.wrap (IntKind.u64.wrap h - IntKind.u64.wrap l)).tdiv (M : Int)) + 1) = (n : Int) := by rw [hn]; exact wsome_n ha.1 ha.2.1 le ha.2.2.1 HM.out
    obtain ⟨D, hD⟩ : ∃ D, D = IntKind.u64.wrap (IntKind.u64.wrap h - IntKind.u64.wrap l) := ⟨_, rfl⟩
    have HL : Hid _ := And.intro ha (And.intro na (And.intro hv le))
    have HN : Hid _ := hn
    have Hz : Hid _ := z
    clear hD D
    by_cases y : n = 0
    · have HA : Hid (someN (l, h, M, R, B) v = v) := by unfold Hid someN; simp only; rw [if_neg z, if_pos (by rw [← hn]; exact y)]
      clear ha na hv le hn z
      subst y
      go_enter Tryz.func18, Tryz.ntmps18
      go_wp2_with fail
      go_ret
      exact ⟨by rw [HA.out]; rfl, (by repeat (first | exact hok | refine Ok.alloc ?_ _ | refine Ok.draws ?_ _ | fail))⟩
    · have HA : Hid (someN (l, h, M, R, B) v = l + ((bitsN v % n * M : Nat) : Int)) := by unfold Hid someN; simp only; rw [if_neg z, if_neg (by rw [← hn]; exact y), ← hn]
      have HI : Hid (In64 (l + ((bitsN v % n * M : Nat) : Int))) := by have q := someN_in (a := (l, h, M, R, B)) ha na hv; rw [HA.out] at q; exact q
      have y1 : ((n : Int) == 0) = false := by simp; omega
      have y2 : ¬ (n : Int) = 0 := by omega
      have y3 : (n == 0) = false := by simp; omega
      clear ha na hv le hn z
      go_enter Tryz.func18, Tryz.ntmps18
      go_wp2_with fail
      obtain ⟨W, hW⟩ : ∃ W, W = (w).alloc (.cells #[.bool B, .int .i64 l, .int .i64 h, .int .u64 (M : Int), .int .u64 (R : Int)] 28) := ⟨_, rfl⟩
      have ra : Hid (W.heap[w.heap.size]? = some (.cells #[.bool B, .int .i64 l, .int .i64 h, .int .u64 (M : Int), .int .u64 (R : Int)] 28)) := by unfold Hid; rw [hW]; exact (by repeat (first | (refine heap_at _ _ _ ?hx; case hx => (first | (simp; done) | (simp; omega))) | (refine heap_past _ _ _ ?hy ?_; case hy => (first | (simp; done) | (simp; omega))) | fail))
      have HW : Hid (Ok w0 W) := by unfold Hid; rw [hW]; exact (by repeat (first | exact hok | refine Ok.alloc ?_ _ | refine Ok.draws ?_ _ | fail))
      rw [← hW]
      clear hW
      clear hok
      obtain ⟨f0, f1, f2, f3, f4, f5, f6, f7, f8, f9⟩ := row5_facts ra.out
      go_region_held3 (fun w' => w'.cell? ⟨w.heap.size, 1, none⟩ = some (.int .i64 l) ∧ w'.cell? ⟨w.heap.size, 3, none⟩ = some (.int .u64 (M : Int))) (go_keep)
        (fail)
      go_wp2_with fail
      go_ret
      refine ⟨?_, by repeat (first | exact HW.out | refine Below.drew ?_)⟩
      rw [HA.out]
      have e1 := HI.out
      have e2 : (IntKind.u64.wrap v).tmod (n : Int) = ((bitsN v % n : Nat) : Int) := by rw [← bits_val, Int.tmod_eq_emod_of_nonneg (by omega), Int.natCast_emod]
      rw [e2]
      refine wsome_ret e1 ?_
      simp only [u64w]
      rw [← Int.natCast_mul]
      omega
end Go.Proofs.YtgkbegmaffknbaaGreat
