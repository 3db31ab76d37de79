import Derived.Test.YtgedhcgaokakpaaDoorTaken
/- WordWhole. -/
namespace Go.Proofs.YtgedhcgaokakpaaDoor
open Go.RowKit
theorem div_zero' (a b : Int) (h : b = 0) (w : World) :
    Calls Tryd.prog 17 #[.int .i64 a, .int .i64 b] w fun e w' => e = .returned (.tuple #[.int .i64 0, .bool false]) ∧ w' = w := by
  subst h; exact div_zero a w
theorem rem_zero' (a b : Int) (h : b = 0) (w : World) :
    Calls Tryd.prog 18 #[.int .i64 a, .int .i64 b] w fun e w' => e = .returned (.tuple #[.int .i64 0, .bool false]) ∧ w' = w := by
  subst h; exact rem_zero a w
set_option maxRecDepth 100000 in
set_option maxHeartbeats 8000000 in
theorem whole_walk (a b c : Int) (ha : In64 a) (hb : In64 b) (w0 : World) (hT : Lib.TabIs Tryd.prog w0 "internal/strconv.uint64pow10" .u64 Lib.pow10Tab) :
    Calls Tryd.prog 4 #[.int .i64 a, .int .i64 b, .int .i64 c] w0 fun e w' => e = .returned (.bool true) ∧ Ok w0 w' := by
  have HT : Hid _ := hT
  clear hT
  go_enter Tryd.func4, Tryd.ntmps4
  go_wp2_with fail
  refine (add_any _ _ w0 _ (Ok.refl _)).mono ?_
  rintro e w ⟨rfl, h⟩
  go_wp2_with fail
  refine (sub_any _ _ w0 _ h).mono ?_
  clear h; rintro e w ⟨rfl, h⟩
  rw [ww1 ha b]
  go_wp2_with fail
  refine (neg_any _ w0 _ h).mono ?_
  clear h; rintro e w ⟨rfl, h⟩
  go_wp2_with fail
  refine (add_any _ _ w0 _ h).mono ?_
  clear h; rintro e w ⟨rfl, h⟩
  rw [ww2 a]
  go_wp2_with fail
  refine (sub_any _ _ w0 _ h).mono ?_
  clear h; rintro e w ⟨rfl, h⟩
  rw [ww3 a b]
  go_wp2_with fail
  refine (neg_any _ w0 _ h).mono ?_
  clear h; rintro e w ⟨rfl, h⟩
  go_wp2_with fail
  refine (add_any _ _ w0 _ h).mono ?_
  clear h; rintro e w ⟨rfl, h⟩
  go_wp2_with fail
  refine (add_any _ _ w0 _ h).mono ?_
  clear h; rintro e w ⟨rfl, h⟩
  go_wp2_with fail
  refine (mul_any _ _ w0 _ h).mono ?_
  clear h; rintro e w ⟨rfl, h⟩
  rw [ww4 a b c]
  go_wp2_with fail
  refine (mul_any _ _ w0 _ h).mono ?_
  clear h; rintro e w ⟨rfl, h⟩
  go_wp2_with fail
  refine (mul_any _ _ w0 _ h).mono ?_
  clear h; rintro e w ⟨rfl, h⟩
  go_wp2_with fail
  refine (add_any _ _ w0 _ h).mono ?_
  clear h; rintro e w ⟨rfl, h⟩
  go_wp2_with fail
  refine (mul_any _ _ w0 _ h).mono ?_
  clear h; rintro e w ⟨rfl, h⟩
  rw [ww5 ha]
  go_wp2_with fail
  refine (wide_any _ _ ha hb _).mono ?_
  rintro e w' ⟨rfl, rfl⟩
  go_wp2_with fail
  refine (mul_any _ _ w0 _ h).mono ?_
  clear h; rintro e w ⟨rfl, h⟩
  have q1 := (ww6 (a * b)).symm
  obtain ⟨q2, q3, q4⟩ := ww7 a hb
  have Q4 : Hid _ := q4
  clear q4
  go_wp2_with fail
  refine (wide_any _ _ ha (tdiv2_in hb).1 _).mono ?_
  rintro e w' ⟨rfl, rfl⟩
  go_wp2_with fail
  refine (wide_any _ _ ha (tdiv2_in hb).2 _).mono ?_
  rintro e w' ⟨rfl, rfl⟩
  go_wp2_with fail
  refine (sum_any _ _ _ _ _).mono ?_
  rintro e w' ⟨rfl, rfl⟩
  rw [(ww8 Q4.out (hi64_in ha hb)).1, (ww8 Q4.out (hi64_in ha hb)).2]
  clear q1 q2 q3
  go_wp2_with fail
  have In1 : In64 (1 : Int) := by unfold In64; omega
  refine (wide_any _ _ ha In1 _).mono ?_
  rintro e w' ⟨rfl, rfl⟩
  have q1 := (ww9 ha).1
  have q2 := (ww9 ha).2
  generalize hi64 (a * 1) = x1 at *
  generalize lo64 (a * 1) = x2 at *
  have Q2 : Hid _ := q2
  clear q2 In1 Q4
  by_cases hneg : a < 0
  all_goals
    have q2 := Q2.out
    first | rw [if_pos hneg] at q2 | rw [if_neg hneg] at q2
    subst q2
    clear Q2
  all_goals
    go_wp2_with fail
    clear q1
    by_cases hb0 : b = 0
    · have HB : Hid (b = 0) := hb0
      have hb1 : (b == 0) = true := by simpa using hb0
      clear hb0
      refine (div_zero' a b HB.out _).mono ?_
      rintro e w' ⟨rfl, rfl⟩
      go_wp2_with fail
      refine (rem_zero' a b HB.out _).mono ?_
      rintro e w' ⟨rfl, rfl⟩
      go_wp2_with fail
      refine (taken_any w0 _ HT.out h).mono ?_
      rintro e w1 ⟨rfl, h1⟩
      go_wp2_with fail
      go_ret
      exact ⟨rfl, h1⟩
    · have HB : Hid (b ≠ 0) := hb0
      have hb1 : (b == 0) = false := by simpa using hb0
      obtain ⟨_, f2, f3, f4⟩ := ww11 ha hb hb0
      have f1 := ww10 ha b
      clear hb0
      refine (div_any a b HB.out _).mono ?_
      rintro e w' ⟨rfl, rfl⟩
      go_wp2_with fail
      refine (rem_any a b HB.out _).mono ?_
      rintro e w' ⟨rfl, rfl⟩
      generalize a.tmod b = r at *
      generalize wrap64 (a.tdiv b) = q at *
      have F1 : Hid _ := f1
      have F2 : Hid _ := f2
      have F3 : Hid _ := f3
      have F4 : Hid _ := f4
      clear f1 f2 f3 f4
      go_wp2_with fail
      refine (mul_any _ _ w0 _ h).mono ?_
      clear h; rintro e w ⟨rfl, h⟩
      go_wp2_with fail
      refine (add_any _ _ w0 _ h).mono ?_
      clear h; rintro e w ⟨rfl, h⟩
      rw [F1.out]
      clear F1
      by_cases hm : b = -9223372036854775808
      · have m1 : (b == -9223372036854775808) = true := by simpa using hm
        have m2 : (b != -9223372036854775808) = false := by simp [hm]
        have m3 : (r != -9223372036854775808) = true := by simpa using F4.out hm
        clear hm F3 F4 HB
        rcases Int.lt_trichotomy r 0 with hr | hr | hr
        · have r1 : (r != 0) = true := by simp; omega
          have ht := F2.out (by omega)
          first
          | (exfalso; omega)
          | (clear ht F2
             go_wp2_with fail
             refine (taken_any w0 _ HT.out h).mono ?_
             rintro e w1 ⟨rfl, h1⟩
             go_wp2_with fail
             go_ret
             exact ⟨rfl, h1⟩)
        · have r1 : (r != 0) = false := by simp [hr]
          have r2 : 0 ≤ r := by omega
          have r3 : r ≤ 0 := by omega
          clear hr F2
          go_wp2_with fail
          refine (taken_any w0 _ HT.out h).mono ?_
          rintro e w1 ⟨rfl, h1⟩
          go_wp2_with fail
          go_ret
          exact ⟨rfl, h1⟩
        · have r1 : (r != 0) = true := by simp; omega
          have ht := F2.out (by omega)
          first
          | (exfalso; omega)
          | (clear ht F2
             have d1 : decide (r < 0) = false := by simp; omega
             have d2 : decide (a < 0) = false := by simp; omega
             go_wp2_with fail
             refine (taken_any w0 _ HT.out h).mono ?_
             rintro e w1 ⟨rfl, h1⟩
             go_wp2_with fail
             go_ret
             exact ⟨rfl, h1⟩)
      · have m1 : (b == -9223372036854775808) = false := by simpa using hm
        have m2 : (b != -9223372036854775808) = true := by simpa using hm
        have f3 := F3.out
        clear F3 F4
        by_cases hbs : b < 0
        · clear HB
          rcases Int.lt_trichotomy r 0 with hr | hr | hr
          · have r1 : (r != 0) = true := by simp; omega
            have ht := F2.out (by omega)
            first
            | (exfalso; omega)
            | (clear ht F2
               have k1 : b < r := by omega
               clear f3
               go_wp2_with fail
               refine (taken_any w0 _ HT.out h).mono ?_
               rintro e w1 ⟨rfl, h1⟩
               go_wp2_with fail
               go_ret
               exact ⟨rfl, h1⟩)
          · have r1 : (r != 0) = false := by simp [hr]
            have r2 : 0 ≤ r := by omega
            have r3 : r ≤ 0 := by omega
            have k1 : r < wrap64 (-b) := by omega
            clear f3
            clear hr F2
            go_wp2_with fail
            refine (taken_any w0 _ HT.out h).mono ?_
            rintro e w1 ⟨rfl, h1⟩
            go_wp2_with fail
            go_ret
            exact ⟨rfl, h1⟩
          · have r1 : (r != 0) = true := by simp; omega
            have ht := F2.out (by omega)
            first
            | (exfalso; omega)
            | (clear ht F2
               have d1 : decide (r < 0) = false := by simp; omega
               have d2 : decide (a < 0) = false := by simp; omega
               have k1 : r < wrap64 (-b) := by omega
               clear f3
               go_wp2_with fail
               refine (taken_any w0 _ HT.out h).mono ?_
               rintro e w1 ⟨rfl, h1⟩
               go_wp2_with fail
               go_ret
               exact ⟨rfl, h1⟩)
        · have hbp : 0 < b := by have := HB.out; omega
          clear HB
          rcases Int.lt_trichotomy r 0 with hr | hr | hr
          · have r1 : (r != 0) = true := by simp; omega
            have ht := F2.out (by omega)
            first
            | (exfalso; omega)
            | (clear ht F2
               have k1 : wrap64 (-b) < r := by omega
               clear f3
               go_wp2_with fail
               refine (taken_any w0 _ HT.out h).mono ?_
               rintro e w1 ⟨rfl, h1⟩
               go_wp2_with fail
               go_ret
               exact ⟨rfl, h1⟩)
          · have r1 : (r != 0) = false := by simp [hr]
            have r2 : 0 ≤ r := by omega
            have r3 : r ≤ 0 := by omega
            have k1 : r < b := by omega
            clear f3
            clear hr F2
            go_wp2_with fail
            refine (taken_any w0 _ HT.out h).mono ?_
            rintro e w1 ⟨rfl, h1⟩
            go_wp2_with fail
            go_ret
            exact ⟨rfl, h1⟩
          · have r1 : (r != 0) = true := by simp; omega
            have ht := F2.out (by omega)
            first
            | (exfalso; omega)
            | (clear ht F2
               have d1 : decide (r < 0) = false := by simp; omega
               have d2 : decide (a < 0) = false := by simp; omega
               have k1 : r < b := by omega
               clear f3
               go_wp2_with fail
               refine (taken_any w0 _ HT.out h).mono ?_
               rintro e w1 ⟨rfl, h1⟩
               go_wp2_with fail
               go_ret
               exact ⟨rfl, h1⟩)
end Go.Proofs.YtgedhcgaokakpaaDoor
