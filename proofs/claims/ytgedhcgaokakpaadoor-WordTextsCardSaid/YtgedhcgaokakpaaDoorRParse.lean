import Derived.Test.YtgedhcgaokakpaaDoorRef
/- The document's Parse. -/
namespace Go.Proofs.YtgedhcgaokakpaaDoor
open Go.RowKit
theorem neg_at (s : ByteArray) (h : 0 < s.size) {b : Bool} (hc : ((s[0].toNat : Int) == 45) = b) : neg? s.data.toList = b := by
  have e := drop_cons s 0 h
  rw [List.drop_zero] at e
  unfold neg?
  rw [e, List.head?_cons, ← hc, Bool.eq_iff_iff]
  simp only [beq_iff_eq, Option.some.injEq]
  constructor
  · intro h; rw [h]; rfl
  · intro h
    apply UInt8.toNat_inj.1
    have : (45 : UInt8).toNat = 45 := rfl
    omega
/-- What Parse answers, by cases. -/
theorem parse_cases (l : List UInt8) :
    ((run (body l) = 0 ∨ run (body l) < (body l).length) → pv l = 0 ∧ pe l = 10 ∧ pa l = ((off l + run (body l) : Nat) : Int)) ∧
    (¬ (run (body l) = 0 ∨ run (body l) < (body l).length) → pa l = 0 ∧ (most (neg? l) < val (body l) → pv l = 0 ∧ pe l = 11) ∧ (val (body l) ≤ most (neg? l) → pv l = num (neg? l) (val (body l)) ∧ pe l = 0)) := by
  constructor
  · intro h
    have hb : bad l = true := by
      unfold bad
      rcases h with h | h <;> simp [h]
    simp [pv, pe, pa, hb]
  · intro h
    have hb : bad l = false := by
      unfold bad
      simp only [not_or] at h
      exact Bool.or_eq_false_iff.2 ⟨beq_eq_false_iff_ne.2 h.1, decide_eq_false h.2⟩
    refine ⟨by simp [pa, hb], ?_, ?_⟩
    · intro hv
      have hg : big l = true := decide_eq_true hv
      simp [pv, pe, hb, hg]
    · intro hv
      have hg : big l = false := decide_eq_false (by omega)
      simp [pv, pe, hb, hg]
theorem rp_yes (s : ByteArray) (k o : Nat) {r : Nat} (h : k < s.size) (ho : o ≤ k) (h1 : 48 ≤ (s[k].toNat : Int)) (h2 : (s[k].toNat : Int) ≤ 57) (hr : r = (k - o) + run (s.data.toList.drop k)) : r = (k + 1 - o) + run (s.data.toList.drop (k + 1)) := by
  rw [drop_cons s k h, run_yes _ (by simp [isDig]; omega)] at hr
  omega
theorem rp_no (s : ByteArray) (k o : Nat) {r : Nat} (h : k < s.size) (h1 : ¬ (48 ≤ (s[k].toNat : Int) ∧ (s[k].toNat : Int) ≤ 57)) (hr : r = (k - o) + run (s.data.toList.drop k)) : r = k - o := by
  rw [drop_cons s k h, run_no _ (by simp [isDig]; omega)] at hr
  omega
/-- What the second loop holds behind n digits. -/
def Digs (L : List UInt8) (n : Nat) (a : Int) (b : Bool) : Prop := (b = false → a ≤ 9223372036854775808 ∧ a = (val (L.take n) : Int)) ∧ (b = true → 9223372036854775808 < (val (L.take n) : Int))
theorem digs_start (L : List UInt8) (o : Nat) : Digs L (o - o) 0 false := by
  rw [Nat.sub_self]
  exact ⟨fun _ => ⟨by omega, by simp [val]⟩, fun h => by cases h⟩
theorem mem_drop (s : ByteArray) (j o : Nat) (h : j < s.size) (ho : o ≤ j) : s[j] ∈ s.data.toList.drop o := by
  have e := drop_cons s j h
  have : s[j] ∈ s.data.toList.drop j := by rw [e]; simp
  have e2 : s.data.toList.drop j = (s.data.toList.drop o).drop (j - o) := by rw [List.drop_drop]; congr 1; omega
  rw [e2] at this
  exact List.mem_of_mem_drop this
theorem take_drop_snoc (s : ByteArray) (j o : Nat) (h : j < s.size) (ho : o ≤ j) : (s.data.toList.drop o).take (j + 1 - o) = (s.data.toList.drop o).take (j - o) ++ [s[j]] := by
  have e1 : j + 1 - o = (j - o) + 1 := by omega
  have hl : s.data.toList.length = s.size := by rw [Array.length_toList]; rfl
  rw [e1, List.take_succ_eq_append_getElem (by rw [List.length_drop, hl]; omega), List.getElem_drop]
  have e2 : o + (j - o) = j := by omega
  simp only [e2]
  rfl
theorem digs_over {L : List UInt8} {n m : Nat} {c : UInt8} {a : Int} (hs : L.take m = L.take n ++ [c]) (h1 : 48 ≤ (c.toNat : Int)) (ha : a = (val (L.take n) : Int)) (ho : (9223372036854775808 - ((c.toNat : Int) - 48)) / 10 < a) : ∀ x, Digs L m x true := by
  intro x
  refine ⟨(fun h => by cases h), fun _ => ?_⟩
  rw [hs, val_snoc]
  omega
theorem digs_on {L : List UInt8} {n m : Nat} {c : UInt8} {a : Int} (hs : L.take m = L.take n ++ [c]) (h1 : 48 ≤ (c.toNat : Int)) (ha : a = (val (L.take n) : Int)) (ho : a ≤ (9223372036854775808 - ((c.toNat : Int) - 48)) / 10) : Digs L m (a * 10 + ((c.toNat : Int) - 48)) false := by
  refine ⟨fun _ => ⟨by omega, ?_⟩, fun h => by cases h⟩
  rw [hs, val_snoc]
  omega
theorem digs_big {L : List UInt8} {n m : Nat} {c : UInt8} (hb : 9223372036854775808 < (val (L.take n) : Int)) (hs : L.take m = L.take n ++ [c]) : ∀ x, Digs L m x true := by
  intro x
  refine ⟨(fun h => by cases h), fun _ => ?_⟩
  rw [hs, val_snoc]
  omega
theorem u64_lo (n : Int) : 0 ≤ IntKind.u64.wrap n := by rw [u64w]; omega
theorem u64_hi (n : Int) : IntKind.u64.wrap n ≤ 18446744073709551615 := by rw [u64w]; omega
theorem rnum_neg {n : Nat} (h : n ≤ 9223372036854775808) : wrap64 (-(wrap64 n)) = num true n := by
  simp only [num]
  unfold wrap64
  simp
  omega
set_option maxRecDepth 100000 in
set_option maxHeartbeats 1000000 in
theorem rparse_neg (s : ByteArray) (hs : s.size ≤ maxLen) (h0 : 0 < s.size) (hc : ((s[0].toNat : Int) == 45) = true) (w : World) :
    Calls Tryd.prog 20 #[.string s] w fun e w' => e = .returned (.tuple #[.int .i64 (pv s.data.toList), .int .i64 (pe s.data.toList), .int .i64 (pa s.data.toList)]) ∧ w' = w := by
  have hl : s.data.toList.length = s.size := by rw [Array.length_toList]; rfl
  have hn : neg? s.data.toList = true := neg_at s h0 hc
  have ho : off s.data.toList = 1 := by unfold off; rw [hn]; rfl
  have hbd : body s.data.toList = s.data.toList.drop 1 := by unfold body; rw [hn]; simp
  have hbl : (body s.data.toList).length = s.size - 1 := by rw [hbd, List.length_drop, hl]
  have E1 : Hid _ := parse_cases s.data.toList
  rw [hn, ho, hbl] at E1
  obtain ⟨L, hL⟩ : ∃ L, body s.data.toList = L := ⟨_, rfl⟩
  rw [hL] at E1 hbl
  have HL : Hid (L = s.data.toList.drop 1) := by rw [← hL, hbd]; exact rfl
  have HN : Hid (L.length = s.size - 1) := hbl
  clear hn ho hbd hbl hL hl
  unfold maxLen at hs
  have g0 : (0 : Int) < (s.size : Int) := by omega
  have g1 : (0 : Int) < (s.size : Int) := g0
  go_enter Tryd.func20, Tryd.ntmps20
  go_wp2
  go_loop [5] (fun i => ∃ k : Nat, 1 ≤ k ∧ k ≤ s.size ∧ i = .int .i64 k ∧ Hid (run L = (k - 1) + run (s.data.toList.drop k))) (fun i => s.size - (intOf i).toNat)
  case atStart => exact ⟨1, Nat.le_refl _, by omega, rfl, by rw [HL.out]; unfold Hid; omega⟩
  case round =>
    obtain ⟨k, hk0, hk, rfl, hr⟩ := hrel
    by_cases hlt : k < s.size
    · by_cases hd : 48 ≤ (s[k].toNat : Int) ∧ (s[k].toNat : Int) ≤ 57
      · have H : Hid _ := rp_yes s k 1 hlt hk0 hd.1 hd.2 hr.out
        obtain ⟨hd1, hd2⟩ := hd
        clear hr
        go_wp2
        go_round
        case rel => exact ⟨k + 1, by omega, by omega, by go_num, H⟩
        case measure => simp [intOf]; omega
      · have H : Hid (run L = k - 1) := rp_no s k 1 hlt hd hr.out
        have HH : Hid (pv s.data.toList = 0 ∧ pe s.data.toList = 10 ∧ pa s.data.toList = k) := by
          have := E1.out.1 (by right; rw [H.out]; omega)
          rw [H.out] at this
          refine ⟨this.1, this.2.1, ?_⟩
          rw [this.2.2]; omega
        clear E1 hr H
        by_cases h1 : (s[k].toNat : Int) < 48
        · clear hd
          go_wp2
          go_ret3
          exact ⟨tup3 HH.out.1.symm HH.out.2.1.symm HH.out.2.2.symm, rfl⟩
        · have h2 : 57 < (s[k].toNat : Int) := by omega
          have h3 : 48 ≤ (s[k].toNat : Int) := by omega
          clear hd
          go_wp2
          go_ret3
          exact ⟨tup3 HH.out.1.symm HH.out.2.1.symm HH.out.2.2.symm, rfl⟩
    · have ek : k = s.size := by omega
      have H : Hid (run L = s.size - 1) := by
        have h := hr.out
        rw [ek, List.drop_of_length_le (by simp), run_nil] at h
        exact h
      by_cases hz : s.size = 1
      · have HH : Hid (pv s.data.toList = 0 ∧ pe s.data.toList = 10 ∧ pa s.data.toList = k) := by
          have := E1.out.1 (by left; rw [H.out]; omega)
          rw [H.out] at this
          refine ⟨this.1, this.2.1, ?_⟩
          rw [this.2.2]; omega
        have kz : ((k : Int) == 1) = true := by rw [beq_iff_eq]; omega
        clear E1 hr H ek hz
        go_wp2
        go_ret3
        exact ⟨tup3 HH.out.1.symm HH.out.2.1.symm HH.out.2.2.symm, rfl⟩
      · have kz : ((k : Int) == 1) = false := by rw [beq_eq_false_iff_ne]; omega
        have HA : Hid (∀ c ∈ L, isDig c = true) := all_of_run (by rw [H.out, HN.out])
        have E2 : Hid _ := E1.out.2 (by rw [H.out]; omega)
        clear E1 hr H ek hk
        go_wp2
        clear kz hlt
        go_loop [8, 9, 10, 11] (fun n bg i _ => ∃ (j : Nat) (a : Int) (b : Bool), 1 ≤ j ∧ j ≤ s.size ∧ i = .int .i64 j ∧ n = .int .u64 a ∧ bg = .bool b ∧ 0 ≤ a ∧ a ≤ 18446744073709551615 ∧ Hid (Digs L (j - 1) a b)) (fun _ _ i _ => s.size - (intOf i).toNat)
        case atStart => exact ⟨1, 0, false, Nat.le_refl _, by omega, rfl, rfl, rfl, by omega, by omega, by unfold Hid; exact digs_start L 1⟩
        case round =>
          obtain ⟨j, a, b, hj0, hj, rfl, rfl, rfl, ha0, ha1, hr⟩ := hrel
          by_cases hlt : j < s.size
          · have hdg : isDig s[j] = true := HA.out _ (by rw [HL.out]; exact mem_drop s j 1 hlt hj0)
            have hc1 : 48 ≤ (s[j].toNat : Int) := by simp [isDig] at hdg; omega
            have hc2 : (s[j].toNat : Int) ≤ 57 := by simp [isDig] at hdg; omega
            have HS : Hid (L.take (j + 1 - 1) = L.take (j - 1) ++ [s[j]]) := by rw [HL.out]; exact take_drop_snoc s j 1 hlt hj0
            clear hdg
            cases b
            · have hb := hr.out.1 rfl
              have ha2 : a ≤ 9223372036854775808 := hb.1
              by_cases hov : (9223372036854775808 - ((s[j].toNat : Int) - 48)) / 10 < a
              · have H : Hid _ := digs_over HS.out hc1 hb.2 hov
                clear hr hb
                go_wp2
                go_round
                case rel => exact ⟨j + 1, _, true, by omega, by omega, by go_num, rfl, rfl, u64_lo _, u64_hi _, H.out _⟩
                case measure => simp [intOf]; omega
              · have H : Hid _ := digs_on HS.out hc1 hb.2 (by omega)
                have hov1 : a ≤ (9223372036854775808 - ((s[j].toNat : Int) - 48)) / 10 := by omega
                clear hr hb hov
                go_wp2
                go_round
                case rel => exact ⟨j + 1, _, false, by omega, by omega, by go_num, rfl, congrArg Value.bool (decide_eq_false (by omega)), by omega, by omega, H⟩
                case measure => simp [intOf]; omega
            · have H : Hid _ := digs_big (hr.out.2 rfl) HS.out
              clear hr
              go_wp2
              go_round
              case rel => exact ⟨j + 1, _, true, by omega, by omega, by go_num, rfl, rfl, u64_lo _, u64_hi _, H.out _⟩
              case measure => simp [intOf]; omega
          · have ej : j = s.size := by omega
            have H : Hid (Digs L L.length a b) := by
              have h := hr.out
              rw [ej, ← HN.out] at h
              exact h
            clear hr ej
            cases b
            · obtain ⟨hb1, hb2⟩ := H.out.1 rfl
              rw [List.take_length] at hb2
              clear H
              have HH : Hid (pv s.data.toList = num true (val L) ∧ pe s.data.toList = 0 ∧ pa s.data.toList = 0) := ⟨(E2.out.2.2 (by simp [most]; omega)).1, (E2.out.2.2 (by simp [most]; omega)).2, E2.out.1⟩
              have HV : Hid (wrap64 (-(wrap64 a)) = num true (val L)) := by rw [hb2]; exact rnum_neg (by omega)
              have m1 : (a == 9223372036854775808) = true ∨ (a == 9223372036854775808) = false := by cases (a == 9223372036854775808) <;> simp
              clear E2 hb2
              rcases m1 with m1 | m1
              all_goals
                go_wp2_with (go_at_call 29; refine (rneg_any _ _).mono ?_; rintro e w' ⟨rfl, rfl⟩)
                go_ret3
                exact ⟨tup3 (HV.out.trans HH.out.1.symm) HH.out.2.1.symm HH.out.2.2.symm, rfl⟩
            · have hb := H.out.2 rfl
              rw [List.take_length] at hb
              have HH : Hid (pv s.data.toList = 0 ∧ pe s.data.toList = 11 ∧ pa s.data.toList = 0) := ⟨(E2.out.2.1 (by simp [most]; omega)).1, (E2.out.2.1 (by simp [most]; omega)).2, E2.out.1⟩
              clear H hb E2
              go_wp2
              go_ret3
              exact ⟨tup3 HH.out.1.symm HH.out.2.1.symm HH.out.2.2.symm, rfl⟩
set_option maxRecDepth 100000 in
set_option maxHeartbeats 1000000 in
theorem rparse_pos (s : ByteArray) (hs : s.size ≤ maxLen) (h0 : 0 < s.size) (hc : ((s[0].toNat : Int) == 45) = false) (w : World) :
    Calls Tryd.prog 20 #[.string s] w fun e w' => e = .returned (.tuple #[.int .i64 (pv s.data.toList), .int .i64 (pe s.data.toList), .int .i64 (pa s.data.toList)]) ∧ w' = w := by
  have hl : s.data.toList.length = s.size := by rw [Array.length_toList]; rfl
  have hn : neg? s.data.toList = false := neg_at s h0 hc
  have ho : off s.data.toList = 0 := by unfold off; rw [hn]; rfl
  have hbd : body s.data.toList = s.data.toList.drop 0 := by unfold body; rw [hn]; simp
  have hbl : (body s.data.toList).length = s.size - 0 := by rw [hbd, List.length_drop, hl]
  have E1 : Hid _ := parse_cases s.data.toList
  rw [hn, ho, hbl] at E1
  obtain ⟨L, hL⟩ : ∃ L, body s.data.toList = L := ⟨_, rfl⟩
  rw [hL] at E1 hbl
  have HL : Hid (L = s.data.toList.drop 0) := by rw [← hL, hbd]; exact rfl
  have HN : Hid (L.length = s.size - 0) := hbl
  clear hn ho hbd hbl hL hl
  unfold maxLen at hs
  have g0 : (0 : Int) < (s.size : Int) := by omega
  have g1 : (0 : Int) < (s.size : Int) := g0
  go_enter Tryd.func20, Tryd.ntmps20
  go_wp2
  go_loop [5] (fun i => ∃ k : Nat, 0 ≤ k ∧ k ≤ s.size ∧ i = .int .i64 k ∧ Hid (run L = (k - 0) + run (s.data.toList.drop k))) (fun i => s.size - (intOf i).toNat)
  case atStart => exact ⟨0, Nat.le_refl _, by omega, rfl, by rw [HL.out]; unfold Hid; omega⟩
  case round =>
    obtain ⟨k, hk0, hk, rfl, hr⟩ := hrel
    by_cases hlt : k < s.size
    · by_cases hd : 48 ≤ (s[k].toNat : Int) ∧ (s[k].toNat : Int) ≤ 57
      · have H : Hid _ := rp_yes s k 0 hlt hk0 hd.1 hd.2 hr.out
        obtain ⟨hd1, hd2⟩ := hd
        clear hr
        go_wp2
        go_round
        case rel => exact ⟨k + 1, by omega, by omega, by go_num, H⟩
        case measure => simp [intOf]; omega
      · have H : Hid (run L = k - 0) := rp_no s k 0 hlt hd hr.out
        have HH : Hid (pv s.data.toList = 0 ∧ pe s.data.toList = 10 ∧ pa s.data.toList = k) := by
          have := E1.out.1 (by right; rw [H.out]; omega)
          rw [H.out] at this
          refine ⟨this.1, this.2.1, ?_⟩
          rw [this.2.2]; omega
        clear E1 hr H
        by_cases h1 : (s[k].toNat : Int) < 48
        · clear hd
          go_wp2
          go_ret3
          exact ⟨tup3 HH.out.1.symm HH.out.2.1.symm HH.out.2.2.symm, rfl⟩
        · have h2 : 57 < (s[k].toNat : Int) := by omega
          have h3 : 48 ≤ (s[k].toNat : Int) := by omega
          clear hd
          go_wp2
          go_ret3
          exact ⟨tup3 HH.out.1.symm HH.out.2.1.symm HH.out.2.2.symm, rfl⟩
    · have ek : k = s.size := by omega
      have H : Hid (run L = s.size - 0) := by
        have h := hr.out
        rw [ek, List.drop_of_length_le (by simp), run_nil] at h
        exact h
      by_cases hz : s.size = 0
      · have HH : Hid (pv s.data.toList = 0 ∧ pe s.data.toList = 10 ∧ pa s.data.toList = k) := by
          have := E1.out.1 (by left; rw [H.out]; omega)
          rw [H.out] at this
          refine ⟨this.1, this.2.1, ?_⟩
          rw [this.2.2]; omega
        have kz : ((k : Int) == 0) = true := by rw [beq_iff_eq]; omega
        clear E1 hr H ek hz
        go_wp2
        go_ret3
        exact ⟨tup3 HH.out.1.symm HH.out.2.1.symm HH.out.2.2.symm, rfl⟩
      · have kz : ((k : Int) == 0) = false := by rw [beq_eq_false_iff_ne]; omega
        have HA : Hid (∀ c ∈ L, isDig c = true) := all_of_run (by rw [H.out, HN.out])
        have E2 : Hid _ := E1.out.2 (by rw [H.out]; omega)
        clear E1 hr H ek hk
        go_wp2
        clear kz hlt
        go_loop [8, 9, 10, 11] (fun n bg i _ => ∃ (j : Nat) (a : Int) (b : Bool), 0 ≤ j ∧ j ≤ s.size ∧ i = .int .i64 j ∧ n = .int .u64 a ∧ bg = .bool b ∧ 0 ≤ a ∧ a ≤ 18446744073709551615 ∧ Hid (Digs L (j - 0) a b)) (fun _ _ i _ => s.size - (intOf i).toNat)
        case atStart => exact ⟨0, 0, false, Nat.le_refl _, by omega, rfl, rfl, rfl, by omega, by omega, by unfold Hid; exact digs_start L 0⟩
        case round =>
          obtain ⟨j, a, b, hj0, hj, rfl, rfl, rfl, ha0, ha1, hr⟩ := hrel
          by_cases hlt : j < s.size
          · have hdg : isDig s[j] = true := HA.out _ (by rw [HL.out]; exact mem_drop s j 0 hlt hj0)
            have hc1 : 48 ≤ (s[j].toNat : Int) := by simp [isDig] at hdg; omega
            have hc2 : (s[j].toNat : Int) ≤ 57 := by simp [isDig] at hdg; omega
            have HS : Hid (L.take (j + 1 - 0) = L.take (j - 0) ++ [s[j]]) := by rw [HL.out]; exact take_drop_snoc s j 0 hlt hj0
            clear hdg
            cases b
            · have hb := hr.out.1 rfl
              have ha2 : a ≤ 9223372036854775808 := hb.1
              by_cases hov : (9223372036854775808 - ((s[j].toNat : Int) - 48)) / 10 < a
              · have H : Hid _ := digs_over HS.out hc1 hb.2 hov
                clear hr hb
                go_wp2
                go_round
                case rel => exact ⟨j + 1, _, true, by omega, by omega, by go_num, rfl, rfl, u64_lo _, u64_hi _, H.out _⟩
                case measure => simp [intOf]; omega
              · have H : Hid _ := digs_on HS.out hc1 hb.2 (by omega)
                have hov1 : a ≤ (9223372036854775808 - ((s[j].toNat : Int) - 48)) / 10 := by omega
                clear hr hb hov
                go_wp2
                go_round
                case rel => exact ⟨j + 1, _, false, by omega, by omega, by go_num, rfl, congrArg Value.bool (decide_eq_false (by omega)), by omega, by omega, H⟩
                case measure => simp [intOf]; omega
            · have H : Hid _ := digs_big (hr.out.2 rfl) HS.out
              clear hr
              go_wp2
              go_round
              case rel => exact ⟨j + 1, _, true, by omega, by omega, by go_num, rfl, rfl, u64_lo _, u64_hi _, H.out _⟩
              case measure => simp [intOf]; omega
          · have ej : j = s.size := by omega
            have H : Hid (Digs L L.length a b) := by
              have h := hr.out
              rw [ej, ← HN.out] at h
              exact h
            clear hr ej
            cases b
            · obtain ⟨hb1, hb2⟩ := H.out.1 rfl
              rw [List.take_length] at hb2
              clear H
              by_cases hm : a = 9223372036854775808
              · have m1 : (a == 9223372036854775808) = true := by rw [beq_iff_eq]; exact hm
                have HH : Hid (pv s.data.toList = 0 ∧ pe s.data.toList = 11 ∧ pa s.data.toList = 0) := ⟨(E2.out.2.1 (by simp [most]; omega)).1, (E2.out.2.1 (by simp [most]; omega)).2, E2.out.1⟩
                clear E2 hb2 hm
                go_wp2
                go_ret3
                exact ⟨tup3 HH.out.1.symm HH.out.2.1.symm HH.out.2.2.symm, rfl⟩
              · have m1 : (a == 9223372036854775808) = false := by rw [beq_eq_false_iff_ne]; exact hm
                have HH : Hid (pv s.data.toList = num false (val L) ∧ pe s.data.toList = 0 ∧ pa s.data.toList = 0) := ⟨(E2.out.2.2 (by simp [most]; omega)).1, (E2.out.2.2 (by simp [most]; omega)).2, E2.out.1⟩
                have HV : Hid (a = num false (val L)) := by rw [hb2]; exact rfl
                have m2 : a ≤ 9223372036854775807 := by omega
                clear E2 hb2 hm
                go_wp2
                go_ret3
                exact ⟨tup3 (HV.out.trans HH.out.1.symm) HH.out.2.1.symm HH.out.2.2.symm, rfl⟩
            · have hb := H.out.2 rfl
              rw [List.take_length] at hb
              have HH : Hid (pv s.data.toList = 0 ∧ pe s.data.toList = 11 ∧ pa s.data.toList = 0) := ⟨(E2.out.2.1 (by simp [most]; omega)).1, (E2.out.2.1 (by simp [most]; omega)).2, E2.out.1⟩
              clear H hb E2
              go_wp2
              go_ret3
              exact ⟨tup3 HH.out.1.symm HH.out.2.1.symm HH.out.2.2.symm, rfl⟩
set_option maxRecDepth 100000 in
set_option maxHeartbeats 400000 in
theorem rparse_empty (s : ByteArray) (h : s.size = 0) (w : World) :
    Calls Tryd.prog 20 #[.string s] w fun e w' => e = .returned (.tuple #[.int .i64 (pv s.data.toList), .int .i64 (pe s.data.toList), .int .i64 (pa s.data.toList)]) ∧ w' = w := by
  have hl : s.data.toList.length = s.size := by rw [Array.length_toList]; rfl
  have hn : s.data.toList = [] := List.length_eq_zero_iff.1 (by omega)
  have HH : Hid (pv s.data.toList = 0 ∧ pe s.data.toList = 10 ∧ pa s.data.toList = 0) := by rw [hn]; exact ⟨rfl, rfl, rfl⟩
  have g0 : (s.size : Int) ≤ 0 := by omega
  have g1 : ¬ (0 : Int) < (s.size : Int) := by omega
  have g2 : decide (0 < s.size) = false := by rw [decide_eq_false_iff_not]; omega
  clear h hl hn
  go_enter Tryd.func20, Tryd.ntmps20
  go_wp2
  go_loop [5] (fun i => i = .int .i64 0) (fun _ => 0)
  case atStart => rfl
  case round =>
    obtain rfl := hrel
    go_wp2
    go_ret3
    exact ⟨tup3 HH.out.1.symm HH.out.2.1.symm HH.out.2.2.symm, rfl⟩
theorem rparse_any (s : ByteArray) (hs : s.size ≤ maxLen) (w : World) :
    Calls Tryd.prog 20 #[.string s] w fun e w' => e = .returned (.tuple #[.int .i64 (pv s.data.toList), .int .i64 (pe s.data.toList), .int .i64 (pa s.data.toList)]) ∧ w' = w := by
  by_cases h : 0 < s.size
  · cases hc : ((s[0].toNat : Int) == 45)
    · exact rparse_pos s hs h hc w
    · exact rparse_neg s hs h hc w
  · exact rparse_empty s (by omega) w
end Go.Proofs.YtgedhcgaokakpaaDoor
