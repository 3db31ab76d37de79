import Derived.Test.YtgedhcgaokakpaaDoorRParse
import Derived.Test.YtgedhcgaokakpaaDoorRPrint
/- WordTexts. -/
namespace Go.Proofs.YtgedhcgaokakpaaDoor
open Go.RowKit
theorem dgt_dig (n : Nat) : isDig (dgt n) = true := by
  have := dig_nat n
  simp [isDig]
  omega
theorem dec_step (n : Nat) : Lib.decDigits n = (if n / 10 = 0 then [] else Lib.decDigits (n / 10)) ++ [dgt n] := by
  by_cases hn : n < 10
  · rw [Lib.decDigits_one hn, if_pos (by omega)]; unfold dgt; rw [Nat.mod_eq_of_lt hn]; rfl
  · rw [if_neg (by omega)]
    conv => lhs; rw [Lib.decDigits, dif_neg hn]
    rfl
theorem dec_facts (b : Nat) : ∀ n, n ≤ b → (∀ c ∈ Lib.decDigits n, isDig c = true) ∧ val (Lib.decDigits n) = n ∧ Lib.decDigits n ≠ [] := by
  induction b with
  | zero =>
    intro n hn
    have : n = 0 := by omega
    subst this
    rw [dec_step]
    refine ⟨?_, ?_, by simp⟩
    · intro c hc
      simp at hc
      rw [hc]; exact dgt_dig 0
    · rfl
  | succ b ih =>
    intro n hn
    rw [dec_step]
    have hd := dig_nat n
    by_cases h : n / 10 = 0
    · rw [if_pos h]
      refine ⟨?_, ?_, by simp⟩
      · intro c hc
        simp at hc
        rw [hc]; exact dgt_dig n
      · rw [val_snoc, val_nil]; omega
    · rw [if_neg h]
      obtain ⟨i1, i2, _⟩ := ih (n / 10) (by omega)
      refine ⟨?_, ?_, by simp⟩
      · intro c hc
        rcases List.mem_append.1 hc with hc | hc
        · exact i1 c hc
        · simp at hc
          rw [hc]; exact dgt_dig n
      · rw [val_snoc, i2]; omega
/-- Parse of Print. -/
theorem back_again {v : Int} (hv : In64 v) : pv (Lib.itoa v) = v ∧ pe (Lib.itoa v) = 0 ∧ pa (Lib.itoa v) = 0 := by
  obtain ⟨d1, d2, d3⟩ := dec_facts v.natAbs v.natAbs (Nat.le_refl _)
  have hr := run_of_all d1
  have hl : 0 < (Lib.decDigits v.natAbs).length := List.length_pos_iff.2 d3
  unfold In64 at hv
  have hn : neg? (Lib.itoa v) = decide (v < 0) ∧ body (Lib.itoa v) = Lib.decDigits v.natAbs := by
    unfold Lib.itoa
    by_cases h : v < 0
    · rw [if_pos h]
      have : neg? (45 :: Lib.decDigits v.natAbs) = true := rfl
      refine ⟨by rw [this]; simp [h], ?_⟩
      unfold body
      rw [this]; rfl
    · rw [if_neg h, show v.toNat = v.natAbs by omega]
      have hng : neg? (Lib.decDigits v.natAbs) = false := by
        cases hd : Lib.decDigits v.natAbs with
        | nil => exact absurd hd d3
        | cons c r =>
          have hc := d1 c (by rw [hd]; simp)
          unfold neg?
          rw [List.head?_cons]
          simp [isDig] at hc
          rw [beq_eq_false_iff_ne]
          intro e
          rw [Option.some.injEq] at e
          rw [e] at hc
          exact absurd hc.1 (by decide)
      refine ⟨by rw [hng]; simp [h], ?_⟩
      unfold body
      rw [hng]; rfl
  obtain ⟨_, hc⟩ := parse_cases (Lib.itoa v)
  rw [hn.1, hn.2] at hc
  obtain ⟨c1, _, c2⟩ := hc (by omega)
  rw [d2] at c2
  have hm : v.natAbs ≤ most (decide (v < 0)) := by
    unfold most
    by_cases h : v < 0
    · simp [h]; omega
    · simp [h]; omega
  obtain ⟨c3, c4⟩ := c2 hm
  refine ⟨?_, c4, c1⟩
  rw [c3]
  unfold num
  by_cases h : v < 0
  · simp [h]; omega
  · simp [h]; omega
theorem itoa_size {v : Int} (hv : In64 v) : (⟨(Lib.itoa v).toArray⟩ : ByteArray).size ≤ maxLen := by
  have h := Lib.itoa_length_le v hv.1 hv.2
  have e : (⟨(Lib.itoa v).toArray⟩ : ByteArray).size = (Lib.itoa v).length := by simp [ByteArray.size]
  rw [e]
  unfold maxLen
  omega
theorem parse_back {v : Int} (hv : In64 v) (w0 w : World) (hok : Ok w0 w) :
    Calls Tryd.prog 19 #[.string ⟨(Lib.itoa v).toArray⟩] w fun e w' => e = .returned (.tuple #[.int .i64 v, .int .i64 0, .int .i64 0]) ∧ Ok w0 w' := by
  obtain ⟨b1, b2, b3⟩ := back_again hv
  refine (parse_any ⟨(Lib.itoa v).toArray⟩ (itoa_size hv) w0 w hok).mono fun e w' ⟨he, hk⟩ => ⟨he.trans (tup3 ?_ ?_ ?_), hk⟩
  · simpa using b1
  · simpa using b2
  · simpa using b3
set_option maxRecDepth 100000 in
set_option maxHeartbeats 400000 in
theorem texts_walk (s : ByteArray) (v : Int) (hs : s.size ≤ maxLen) (hv : In64 v) (w0 : World) (hT : Lib.TabIs Tryd.prog w0 "internal/strconv.uint64pow10" .u64 Lib.pow10Tab) :
    Calls Tryd.prog 5 #[.string s, .int .i64 v] w0 fun e w' => e = .returned (.bool true) ∧ Ok w0 w' := by
  have HT : Hid _ := hT
  have HS : Hid _ := hs
  clear hT hs
  go_enter Tryd.func5, Tryd.ntmps5
  go_wp2_with fail
  refine (parse_any s HS.out w0 _ (Ok.refl _)).mono ?_
  rintro e w ⟨rfl, h⟩
  go_wp2_with fail
  refine (rparse_any s HS.out _).mono ?_
  rintro e w' ⟨rfl, rfl⟩
  generalize pv s.data.toList = x1
  generalize pe s.data.toList = x2
  generalize pa s.data.toList = x3
  go_wp2_with fail
  refine (print_any v hv w0 _ HT.out h).mono ?_
  clear h; rintro e w ⟨rfl, h⟩
  go_wp2_with fail
  refine (rprint_any v hv w0 _ h).mono ?_
  clear h; rintro e w ⟨rfl, h⟩
  go_wp2_with fail
  refine (print_any v hv w0 _ HT.out h).mono ?_
  clear h; rintro e w ⟨rfl, h⟩
  go_wp2_with fail
  refine (parse_back hv w0 _ h).mono ?_
  clear h; rintro e w ⟨rfl, h⟩
  go_wp2_with fail
  refine (taken_any w0 _ HT.out h).mono ?_
  clear h; rintro e w ⟨rfl, h⟩
  go_wp2_with fail
  go_ret
  exact ⟨rfl, h⟩
end Go.Proofs.YtgedhcgaokakpaaDoor
