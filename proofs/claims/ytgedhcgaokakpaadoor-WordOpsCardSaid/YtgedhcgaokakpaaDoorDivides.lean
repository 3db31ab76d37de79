import Derived.Test.YtgedhcgaokakpaaDoorTaken
import Derived.Test.YtgedhcgaokakpaaDoorEven
/- WordDivides. -/
namespace Go.Proofs.YtgedhcgaokakpaaDoor
open Go.RowKit
theorem gcd_next' {p q : Nat} {r : Nat} (h : Nat.gcd p q = r) (w0 w1 : World) (hok : ∃ n, w1 = w0.drewN n) (hq : q < 18446744073709551616) (h0 : ¬ q = 0) :
    (∃ p1 q1 : Nat, p1 < 18446744073709551616 ∧ q1 < 18446744073709551616 ∧ Value.int .u64 (q : Int) = .int .u64 p1 ∧ Value.int .u64 ((p : Int) % (q : Int)) = .int .u64 q1 ∧ Nat.gcd p1 q1 = r ∧ ∃ n, w1 = w0.drewN n) ∧ (intOf (Value.int .u64 ((p : Int) % (q : Int)))).toNat < (intOf (Value.int .u64 (q : Int))).toNat := by
  have hm : p % q < q := Nat.mod_lt _ (by omega)
  refine ⟨⟨q, p % q, hq, by omega, rfl, by rw [Int.natCast_emod], ?_, hok⟩, ?_⟩
  · rw [← h, Nat.gcd_comm p q, Nat.gcd_rec q p, Nat.gcd_comm]
  · simp only [intOf]
    rw [← Int.natCast_emod]
    omega
set_option maxHeartbeats 400000 in
theorem gcd_quiet (a b : Nat) (ha : a < 18446744073709551616) (hb : b < 18446744073709551616) (w : World) :
    Calls Tryd.prog 7 #[.int .u64 a, .int .u64 b] w fun e w' => e = .returned (.int .u64 (Nat.gcd a b)) ∧ ∃ n, w' = w.drewN n := by
  go_enter Tryd.func7, Tryd.ntmps7
  go_wp2
  go_loopw [0, 1] (fun x y wr => ∃ p q : Nat, p < 18446744073709551616 ∧ q < 18446744073709551616 ∧ x = .int .u64 p ∧ y = .int .u64 q ∧ Nat.gcd p q = Nat.gcd a b ∧ ∃ n, wr = w.drewN n) (fun _ y _ => (intOf y).toNat)
  case atStart => exact ⟨a, b, ha, hb, rfl, rfl, rfl, 0, rfl⟩
  case round =>
    obtain ⟨p, q, hp, hq, rfl, rfl, hg, n, rfl⟩ := hrel
    have HG : Hid _ := hg
    clear hg
    by_cases h0 : q = 0
    · subst h0
      go_wp2
      go_ret
      exact ⟨ret1 (by rw [← HG.out, Nat.gcd_zero_right]), n, rfl⟩
    · have hq0 : (q : Int) ≠ 0 := by omega
      have hq1 : ((q : Int) != 0) = true := by simpa using h0
      go_wp2
      go_quiet (fail)
      go_wp2
      exact gcd_next' HG.out w _ ⟨_, World.drewN_drewN _ _ _⟩ hq h0
set_option maxHeartbeats 400000 in
theorem even_any (m : Nat) (h0 : 0 < m) (h : m < 18446744073709551616) (w : World) :
    Calls Tryd.prog 8 #[.int .u64 m] w fun e w' => e = .returned (.int .u64 (evF 64 m)) ∧ w' = w :=
  (even_raw m w).mono fun _ _ ⟨he, hw⟩ => ⟨he.trans (ret1 (even_eq m h0 h)), hw⟩
set_option maxHeartbeats 400000 in
theorem even_zero (w : World) :
    Calls Tryd.prog 8 #[.int .u64 0] w fun e w' => e = .returned (.int .u64 0) ∧ w' = w :=
  (even_raw 0 w).mono fun _ _ ⟨he, hw⟩ => ⟨he.trans (ret1 (by decide)), hw⟩
theorem odd_left {m e : Nat} (hm : m < 18446744073709551616) (h : (m : Int) / (e : Int) % 2 = 1) : (IntKind.u64.wrap ((m : Int) / (e : Int))).tmod 2 = 1 := by
  have b : m / e ≤ m := Nat.div_le_self _ _
  have e1 : IntKind.u64.wrap ((m : Int) / (e : Int)) = (m : Int) / (e : Int) := by
    rw [← Int.natCast_ediv m e, u64w]; generalize m / e = q at *; omega
  rw [e1, Int.tmod_eq_emod_of_nonneg (by rw [← Int.natCast_ediv]; exact Int.natCast_nonneg _), h]
theorem even_zero' (m : Nat) (h : m = 0) (w : World) :
    Calls Tryd.prog 8 #[.int .u64 m] w fun e w' => e = .returned (.int .u64 0) ∧ w' = w := by
  subst h; exact even_zero w
theorem gcd_one (x y g : Nat) (hg : Nat.gcd x y = g) (h0 : 0 < g) (hx : x < 18446744073709551616) (hy : y < 18446744073709551616) (w : World) :
    Calls Tryd.prog 7 #[.int .u64 (IntKind.u64.wrap ((x : Int) / (g : Int))), .int .u64 (IntKind.u64.wrap ((y : Int) / (g : Int)))] w fun e w' => e = .returned (.int .u64 1) ∧ ∃ n, w' = w.drewN n := by
  have b1 : x / g ≤ x := Nat.div_le_self _ _
  have b2 : y / g ≤ y := Nat.div_le_self _ _
  have e1 : IntKind.u64.wrap ((x : Int) / (g : Int)) = ((x / g : Nat) : Int) := by rw [← Int.natCast_ediv x g, u64w]; generalize x / g = q at *; omega
  have e2 : IntKind.u64.wrap ((y : Int) / (g : Int)) = ((y / g : Nat) : Int) := by rw [← Int.natCast_ediv y g, u64w]; generalize y / g = q at *; omega
  rw [e1, e2]
  refine (gcd_quiet (x / g) (y / g) (by omega) (by omega) w).mono fun e w' ⟨he, hw⟩ => ⟨he.trans (ret1 ?_), hw⟩
  rw [← hg, Nat.gcd_div (Nat.gcd_dvd_left x y) (Nat.gcd_dvd_right x y), Nat.div_self (by omega)]
  rfl
set_option maxRecDepth 100000 in
set_option maxHeartbeats 4000000 in
theorem divides_pos (x y : Nat) (v : Int) (m : Nat) (hx : x < 18446744073709551616) (hy : y < 18446744073709551616) (hv : In64 v) (hm : m < 18446744073709551616) (hg0 : 0 < Nat.gcd x y) (w0 : World) (hT : Lib.TabIs Tryd.prog w0 "internal/strconv.uint64pow10" .u64 Lib.pow10Tab) :
    Calls Tryd.prog 3 #[.int .u64 x, .int .u64 y, .int .i64 v, .int .u64 m] w0 fun e w' => e = .returned (.bool true) ∧ Ok w0 w' := by
  have HT : Hid _ := hT
  clear hT
  obtain ⟨g, hg⟩ : ∃ g, Nat.gcd x y = g := ⟨_, rfl⟩
  have HG : Hid _ := hg
  rw [hg] at hg0
  have k1 : ((g : Int) == 0) = false := by rw [beq_eq_false_iff_ne]; omega
  have k2 : (x : Int) % (g : Int) = 0 := by
    have := Nat.mod_eq_zero_of_dvd (Nat.gcd_dvd_left x y)
    rw [hg] at this; omega
  have k3 : (y : Int) % (g : Int) = 0 := by
    have := Nat.mod_eq_zero_of_dvd (Nat.gcd_dvd_right x y)
    rw [hg] at this; omega
  have k4 : (((x : Int) == 0) && ((y : Int) == 0)) = false := by
    cases e1 : ((x : Int) == 0)
    · rfl
    · cases e2 : ((y : Int) == 0)
      · rfl
      · exfalso
        rw [beq_iff_eq] at e1 e2
        have : x = 0 := by omega
        have : y = 0 := by omega
        subst x y
        simp at hg
        omega
  have k5 : (g : Int) ≠ 0 := by omega
  have k6 : (0 : Int) < g := by omega
  have hgl : g ≤ 18446744073709551615 := by
    rw [← hg]
    by_cases hx0 : 0 < x
    · exact Nat.le_trans (Nat.gcd_le_left y hx0) (by omega)
    · have : x = 0 := by omega
      rw [this, Nat.gcd_zero_left]; omega
  have K2 : Hid _ := k2
  have K3 : Hid _ := k3
  clear hg k2 k3
  go_enter Tryd.func3, Tryd.ntmps3
  go_wp2_with fail
  refine (gcd_any x y hx hy w0 _ (Ok.refl _)).mono ?_
  rintro e w ⟨rfl, h⟩
  rw [HG.out]
  cases e1 : ((x : Int) == 0)
  all_goals
    rw [e1] at k4
    first | rw [Bool.true_and] at k4 | rw [Bool.false_and] at k4
    go_wp2_with fail
    refine (gcd_any y x hy hx w0 _ h).mono ?_
    clear h; rintro e w ⟨rfl, h⟩
    rw [Nat.gcd_comm y x, HG.out]
    have k2 := K2.out
    have k3 := K3.out
    go_wp2_with fail
    go_quiet ((go_at_call 7; exact Calls.quiet_of (gcd_one x y g HG.out hg0 hx hy _)))
    clear k2 k3 K2 K3
    have h2 := h.draws nq
    generalize w.drewN nq = w at *
    clear h
    have HE : Hid _ := e1
    clear k4 k5 k6 hgl e1 k1
    go_wp2_with fail
    by_cases hm0 : m = 0
    · have HM : Hid _ := hm0
      have km : ((m : Int) == 0) = true := by rw [beq_iff_eq]; omega
      clear hm0
      refine (even_zero' m HM.out _).mono ?_
      rintro e w' ⟨rfl, rfl⟩
      go_wp2_with fail
      refine (mod_zero v _).mono ?_
      rintro e w' ⟨rfl, rfl⟩
      go_wp2_with fail
      refine (taken_any w0 _ HT.out h2).mono ?_
      rintro e w' ⟨rfl, h3⟩
      go_wp2_with fail
      go_ret
      exact ⟨rfl, h3⟩
    · have hmp : 0 < m := by omega
      have km : ((m : Int) == 0) = false := by rw [beq_eq_false_iff_ne]; omega
      obtain ⟨e, he, f1, f2, f3, f4, f5⟩ := evF_facts m hmp hm
      have ke : ((e : Int) == 0) = false := by rw [beq_eq_false_iff_ne]; omega
      have g1 : (1 : Int) ≤ e := by omega
      have g2 : (e : Int) ≤ 18446744073709551615 := by omega
      have HF : Hid _ := he
      have f6 := odd_left hm f5
      clear he hm0 f5
      refine (even_any m hmp hm _).mono ?_
      rintro _ w' ⟨rfl, rfl⟩
      rw [HF.out]
      go_wp2_with fail
      clear f1 f2 f3 f4 f6 ke g1 g2 HF
      have m1 : (0 : Int) < m := by omega
      have m2 : (m : Int) ≤ 18446744073709551615 := by omega
      refine (mod_any v m hv m1 m2 _).mono ?_
      rintro _ w' ⟨rfl, rfl⟩
      have ms := mod_succ v m m1
      have r0 := Int.emod_nonneg v (show (m : Int) ≠ 0 by omega)
      have r1 := Int.emod_lt_of_pos v m1
      obtain ⟨r, hr⟩ : ∃ r, v % (m : Int) = r := ⟨_, rfl⟩
      rw [hr] at ms r0 r1
      rw [hr]
      have HR : Hid _ := hr
      have MS : Hid _ := ms
      clear hr ms
      go_wp2_with fail
      refine (mod_any 0 m (by unfold In64; omega) m1 m2 _).mono ?_
      rintro _ w' ⟨rfl, rfl⟩
      rw [Int.zero_emod]
      by_cases hv1 : v = 9223372036854775807
      · have k1 : (v != 9223372036854775807) = false := by simp [hv1]
        have k2 : 0 ≤ v := by omega
        have k3 : v ≤ 9223372036854775807 := by omega
        have hr := HR.out
        clear hv1
        go_wp2_with fail
        refine (taken_any w0 _ HT.out h2).mono ?_
        rintro _ w' ⟨rfl, h3⟩
        go_wp2_with fail
        go_ret
        exact ⟨rfl, h3⟩
      · have k1 : (v != 9223372036854775807) = true := by simpa using hv1
        have k2 : In64 (v + 1) := by unfold In64 at *; omega
        have k3 : wrap64 (v + 1) = v + 1 := wrap64_id k2
        have K2 : Hid _ := k2
        clear hv1 k2
        go_wp2_with fail
        refine (mod_any (v + 1) m K2.out m1 m2 _).mono ?_
        rintro _ w' ⟨rfl, rfl⟩
        by_cases hr1 : r = m - 1
        · rw [MS.out.1 hr1]
          have k4 : (r == (m : Int) - 1) = true := by rw [beq_iff_eq]; exact hr1
          have k5 : (m : Int) - 1 ≤ r := by omega
          clear hr1 MS k3 K2
          by_cases hv0 : 0 ≤ v
          · have hr := HR.out
            have k6 : v ≤ 9223372036854775807 := hv.2
            go_wp2_with fail
            refine (taken_any w0 _ HT.out h2).mono ?_
            rintro _ w' ⟨rfl, h3⟩
            go_wp2_with fail
            go_ret
            exact ⟨rfl, h3⟩
          · have k6 : v < 0 := by omega
            clear hv0
            go_wp2_with fail
            refine (taken_any w0 _ HT.out h2).mono ?_
            rintro _ w' ⟨rfl, h3⟩
            go_wp2_with fail
            go_ret
            exact ⟨rfl, h3⟩
        · have k5 : r < (m : Int) - 1 := by omega
          rw [MS.out.2 k5]
          have k4 : (r == (m : Int) - 1) = false := by rw [beq_eq_false_iff_ne]; exact hr1
          clear hr1 MS k3 K2
          by_cases hv0 : 0 ≤ v
          · have hr := HR.out
            have k6 : v ≤ 9223372036854775807 := hv.2
            go_wp2_with fail
            refine (taken_any w0 _ HT.out h2).mono ?_
            rintro _ w' ⟨rfl, h3⟩
            go_wp2_with fail
            go_ret
            exact ⟨rfl, h3⟩
          · have k6 : v < 0 := by omega
            clear hv0
            go_wp2_with fail
            refine (taken_any w0 _ HT.out h2).mono ?_
            rintro _ w' ⟨rfl, h3⟩
            go_wp2_with fail
            go_ret
            exact ⟨rfl, h3⟩
set_option maxRecDepth 100000 in
set_option maxHeartbeats 4000000 in
theorem divides_zero (x y : Nat) (v : Int) (m : Nat) (hx : x < 18446744073709551616) (hy : y < 18446744073709551616) (hv : In64 v) (hm : m < 18446744073709551616) (hg0 : Nat.gcd x y = 0) (w0 : World) (hT : Lib.TabIs Tryd.prog w0 "internal/strconv.uint64pow10" .u64 Lib.pow10Tab) :
    Calls Tryd.prog 3 #[.int .u64 x, .int .u64 y, .int .i64 v, .int .u64 m] w0 fun e w' => e = .returned (.bool true) ∧ Ok w0 w' := by
  have HT : Hid _ := hT
  clear hT
  have hx0 : x = 0 := Nat.eq_zero_of_gcd_eq_zero_left hg0
  have hy0 : y = 0 := Nat.eq_zero_of_gcd_eq_zero_right hg0
  have k1 : ((x : Int) == 0) = true := by rw [beq_iff_eq]; omega
  have k2 : ((y : Int) == 0) = true := by rw [beq_iff_eq]; omega
  obtain ⟨g, hg⟩ : ∃ g, Nat.gcd x y = g := ⟨_, rfl⟩
  have HG : Hid _ := hg
  have k3 : ((g : Int) == 0) = true := by rw [beq_iff_eq]; omega
  have k4 : decide (0 < g) = false := by rw [decide_eq_false_iff_not]; omega
  have k5 : (g : Int) ≤ 0 := by omega
  have k6 : (0 : Int) ≤ g := by omega
  clear hg hx0 hy0 hg0
  go_enter Tryd.func3, Tryd.ntmps3
  go_wp2_with fail
  refine (gcd_any x y hx hy w0 _ (Ok.refl _)).mono ?_
  rintro e w ⟨rfl, h⟩
  rw [HG.out]
  go_wp2_with fail
  refine (gcd_any y x hy hx w0 _ h).mono ?_
  clear h; rintro e w ⟨rfl, h⟩
  rw [Nat.gcd_comm y x, HG.out]
  go_wp2_with fail
  go_quiet (fail)
  have h2 := h.draws nq
  generalize w.drewN nq = w at *
  clear h
  clear k1 k2 k3 k4 k5 k6
  go_wp2_with fail
  by_cases hm0 : m = 0
  · have HM : Hid _ := hm0
    have km : ((m : Int) == 0) = true := by rw [beq_iff_eq]; omega
    clear hm0
    refine (even_zero' m HM.out _).mono ?_
    rintro e w' ⟨rfl, rfl⟩
    go_wp2_with fail
    refine (mod_zero v _).mono ?_
    rintro e w' ⟨rfl, rfl⟩
    go_wp2_with fail
    refine (taken_any w0 _ HT.out h2).mono ?_
    rintro e w' ⟨rfl, h3⟩
    go_wp2_with fail
    go_ret
    exact ⟨rfl, h3⟩
  · have hmp : 0 < m := by omega
    have km : ((m : Int) == 0) = false := by rw [beq_eq_false_iff_ne]; omega
    obtain ⟨e, he, f1, f2, f3, f4, f5⟩ := evF_facts m hmp hm
    have ke : ((e : Int) == 0) = false := by rw [beq_eq_false_iff_ne]; omega
    have g1 : (1 : Int) ≤ e := by omega
    have g2 : (e : Int) ≤ 18446744073709551615 := by omega
    have HF : Hid _ := he
    have f6 := odd_left hm f5
    clear he hm0 f5
    refine (even_any m hmp hm _).mono ?_
    rintro _ w' ⟨rfl, rfl⟩
    rw [HF.out]
    go_wp2_with fail
    clear f1 f2 f3 f4 f6 ke g1 g2 HF
    have m1 : (0 : Int) < m := by omega
    have m2 : (m : Int) ≤ 18446744073709551615 := by omega
    refine (mod_any v m hv m1 m2 _).mono ?_
    rintro _ w' ⟨rfl, rfl⟩
    have ms := mod_succ v m m1
    have r0 := Int.emod_nonneg v (show (m : Int) ≠ 0 by omega)
    have r1 := Int.emod_lt_of_pos v m1
    obtain ⟨r, hr⟩ : ∃ r, v % (m : Int) = r := ⟨_, rfl⟩
    rw [hr] at ms r0 r1
    rw [hr]
    have HR : Hid _ := hr
    have MS : Hid _ := ms
    clear hr ms
    go_wp2_with fail
    refine (mod_any 0 m (by unfold In64; omega) m1 m2 _).mono ?_
    rintro _ w' ⟨rfl, rfl⟩
    rw [Int.zero_emod]
    by_cases hv1 : v = 9223372036854775807
    · have k1 : (v != 9223372036854775807) = false := by simp [hv1]
      have k2 : 0 ≤ v := by omega
      have k3 : v ≤ 9223372036854775807 := by omega
      have hr := HR.out
      clear hv1
      go_wp2_with fail
      refine (taken_any w0 _ HT.out h2).mono ?_
      rintro _ w' ⟨rfl, h3⟩
      go_wp2_with fail
      go_ret
      exact ⟨rfl, h3⟩
    · have k1 : (v != 9223372036854775807) = true := by simpa using hv1
      have k2 : In64 (v + 1) := by unfold In64 at *; omega
      have k3 : wrap64 (v + 1) = v + 1 := wrap64_id k2
      have K2 : Hid _ := k2
      clear hv1 k2
      go_wp2_with fail
      refine (mod_any (v + 1) m K2.out m1 m2 _).mono ?_
      rintro _ w' ⟨rfl, rfl⟩
      by_cases hr1 : r = m - 1
      · rw [MS.out.1 hr1]
        have k4 : (r == (m : Int) - 1) = true := by rw [beq_iff_eq]; exact hr1
        have k5 : (m : Int) - 1 ≤ r := by omega
        clear hr1 MS k3 K2
        by_cases hv0 : 0 ≤ v
        · have hr := HR.out
          have k6 : v ≤ 9223372036854775807 := hv.2
          go_wp2_with fail
          refine (taken_any w0 _ HT.out h2).mono ?_
          rintro _ w' ⟨rfl, h3⟩
          go_wp2_with fail
          go_ret
          exact ⟨rfl, h3⟩
        · have k6 : v < 0 := by omega
          clear hv0
          go_wp2_with fail
          refine (taken_any w0 _ HT.out h2).mono ?_
          rintro _ w' ⟨rfl, h3⟩
          go_wp2_with fail
          go_ret
          exact ⟨rfl, h3⟩
      · have k5 : r < (m : Int) - 1 := by omega
        rw [MS.out.2 k5]
        have k4 : (r == (m : Int) - 1) = false := by rw [beq_eq_false_iff_ne]; exact hr1
        clear hr1 MS k3 K2
        by_cases hv0 : 0 ≤ v
        · have hr := HR.out
          have k6 : v ≤ 9223372036854775807 := hv.2
          go_wp2_with fail
          refine (taken_any w0 _ HT.out h2).mono ?_
          rintro _ w' ⟨rfl, h3⟩
          go_wp2_with fail
          go_ret
          exact ⟨rfl, h3⟩
        · have k6 : v < 0 := by omega
          clear hv0
          go_wp2_with fail
          refine (taken_any w0 _ HT.out h2).mono ?_
          rintro _ w' ⟨rfl, h3⟩
          go_wp2_with fail
          go_ret
          exact ⟨rfl, h3⟩
theorem divides_walk (a0 a1 a2 a3 : Int) (h0 : Un64 a0) (h1 : Un64 a1) (h2 : In64 a2) (h3 : Un64 a3) (w0 : World) (hT : Lib.TabIs Tryd.prog w0 "internal/strconv.uint64pow10" .u64 Lib.pow10Tab) :
    Calls Tryd.prog 3 #[.int .u64 a0, .int .u64 a1, .int .i64 a2, .int .u64 a3] w0 fun e w' => e = .returned (.bool true) ∧ Ok w0 w' := by
  unfold Un64 at h0 h1 h3
  obtain ⟨x, rfl⟩ := Int.eq_ofNat_of_zero_le h0.1
  obtain ⟨y, rfl⟩ := Int.eq_ofNat_of_zero_le h1.1
  obtain ⟨m, rfl⟩ := Int.eq_ofNat_of_zero_le h3.1
  by_cases hg : Nat.gcd x y = 0
  · exact divides_zero x y a2 m (by omega) (by omega) h2 (by omega) hg w0 hT
  · exact divides_pos x y a2 m (by omega) (by omega) h2 (by omega) (by omega) w0 hT
end Go.Proofs.YtgedhcgaokakpaaDoor
