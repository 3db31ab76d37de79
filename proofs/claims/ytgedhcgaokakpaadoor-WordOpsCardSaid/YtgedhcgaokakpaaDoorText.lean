import Derived.Test.YtgedhcgaokakpaaDoorWord
import Derived.Test.YtgedhcgaokakpaaDoorDec
namespace Go.Proofs.YtgedhcgaokakpaaDoor
open Go.RowKit
set_option maxHeartbeats 400000 in
theorem digitRun_any (s : ByteArray) (hs : s.size ≤ maxLen) (w : World) :
    Calls Tryd.prog 40 #[.string s] w fun e w' => e = .returned (.int .i64 (run s.data.toList)) ∧ w' = w := by
  unfold maxLen at hs
  go_enter Tryd.func40, Tryd.ntmps40
  go_wp2
  go_loop [3] (fun i => ∃ k : Nat, k ≤ s.size ∧ i = .int .i64 k ∧ Hid (run s.data.toList = k + run (s.data.toList.drop k))) (fun i => s.size - (intOf i).toNat)
  case atStart => exact ⟨0, Nat.zero_le _, rfl, by unfold Hid; simp⟩
  case round =>
    obtain ⟨k, hk, rfl, hr⟩ := hrel
    by_cases hlt : k < s.size
    · by_cases hd : 48 ≤ (s[k].toNat : Int) ∧ (s[k].toNat : Int) ≤ 57
      · have H : Hid _ := run_step_yes s k hlt hd.1 hd.2 hr.out
        obtain ⟨hd1, hd2⟩ := hd
        go_wp2
        go_round
        case rel => exact ⟨k + 1, by omega, by go_num, H⟩
        case measure => simp [intOf]; omega
      · have H : Hid _ := run_step_no s k hlt hd hr.out
        by_cases h1 : (s[k].toNat : Int) < 48
        · clear hd
          go_wp2
          go_ret
          exact ⟨ret1 (by rw [H.out]), rfl⟩
        · have h2 : 57 < (s[k].toNat : Int) := by omega
          clear hd
          go_wp2
          go_ret
          exact ⟨ret1 (by rw [H.out]), rfl⟩
    · have H : Hid (run s.data.toList = s.size) := by
        have e : k = s.size := by omega
        have h := hr.out
        rw [e, List.drop_of_length_le (by simp), run_nil] at h
        exact h
      go_wp2
      go_ret
      exact ⟨ret1 (by rw [H.out]), rfl⟩
theorem mag_step (s : ByteArray) (k : Nat) (a : Int) (h : k < s.size) (h1 : 48 ≤ (s[k].toNat : Int)) (hr : a = (val (s.data.toList.take k) : Int)) : a * 10 + ((s[k].toNat : Int) - 48) = (val (s.data.toList.take (k + 1)) : Int) := by
  rw [take_snoc s k h, val_snoc]
  omega
theorem mag_over (s : ByteArray) (k : Nat) (a m : Int) (h : k < s.size) (h1 : 48 ≤ (s[k].toNat : Int)) (hr : a = (val (s.data.toList.take k) : Int)) (hm : (m - ((s[k].toNat : Int) - 48)) / 10 < a) : m < (val s.data.toList : Int) := by
  have e := mag_step s k a h h1 hr
  have := val_take_le s.data.toList (k + 1)
  omega
set_option maxHeartbeats 400000 in
theorem magnitude_any (s : ByteArray) (hs : s.size ≤ maxLen) (m : Int) (h9 : 9 ≤ m) (hm : m ≤ 9223372036854775808) (hd : ∀ c ∈ s.data.toList, isDig c = true) (w : World) :
    Calls Tryd.prog 41 #[.string s, .int .u64 m] w fun e w' => (((val s.data.toList : Int) ≤ m ∧ e = .returned (.tuple #[.int .u64 (val s.data.toList), .bool true])) ∨ (m < (val s.data.toList : Int) ∧ e = .returned (.tuple #[.int .u64 0, .bool false]))) ∧ w' = w := by
  unfold maxLen at hs
  have HD : Hid (∀ c ∈ s.data.toList, isDig c = true) := hd
  clear hd
  go_enter Tryd.func41, Tryd.ntmps41
  go_wp2
  go_loop [6, 7, 8] (fun sz i _ => ∃ (k : Nat) (a : Int), k ≤ s.size ∧ i = .int .i64 k ∧ sz = .int .u64 a ∧ 0 ≤ a ∧ a ≤ m ∧ Hid (a = (val (s.data.toList.take k) : Int))) (fun _ i _ => s.size - (intOf i).toNat)
  case atStart => exact ⟨0, 0, Nat.zero_le _, rfl, rfl, by omega, by omega, by unfold Hid; simp [val]⟩
  case round =>
    obtain ⟨k, a, hk, rfl, rfl, ha0, ha1, hr⟩ := hrel
    by_cases hlt : k < s.size
    · have hc : isDig s[k] = true := HD.out _ (by rw [show s[k] = s.data.toList[k]'(by simpa using hlt) from rfl]; exact List.getElem_mem _)
      have hc1 : 48 ≤ (s[k].toNat : Int) := by simp [isDig] at hc; omega
      have hc2 : (s[k].toNat : Int) ≤ 57 := by simp [isDig] at hc; omega
      clear hc
      by_cases ho : (m - ((s[k].toNat : Int) - 48)) / 10 < a
      · have H : Hid _ := mag_over s k a m hlt hc1 hr.out ho
        go_wp2
        go_ret2
        exact ⟨.inr ⟨H.out, rfl⟩, rfl⟩
      · have H : Hid _ := mag_step s k a hlt hc1 hr.out
        have ho1 : a ≤ (m - ((s[k].toNat : Int) - 48)) / 10 := by omega
        clear ho
        go_wp2
        go_round
        case rel => exact ⟨k + 1, _, by omega, by go_num, rfl, by omega, by omega, H⟩
        case measure => simp [intOf]; omega
    · have H : Hid (a = (val s.data.toList : Int)) := by
        have h := hr.out
        rw [List.take_of_length_le (by simp; omega)] at h
        exact h
      go_wp2
      go_ret2
      exact ⟨.inl ⟨by rw [← H.out]; exact ha1, ret2b H.out⟩, rfl⟩
set_option maxHeartbeats 400000 in
theorem farthest_any (b : Bool) (w : World) :
    Calls Tryd.prog 42 #[.bool b] w fun e w' => e = .returned (.int .u64 (most b)) ∧ w' = w := by
  cases b <;> go_enter Tryd.func42, Tryd.ntmps42 <;> go_wp2 <;> go_ret <;> exact ⟨rfl, rfl⟩
end Go.Proofs.YtgedhcgaokakpaaDoor
