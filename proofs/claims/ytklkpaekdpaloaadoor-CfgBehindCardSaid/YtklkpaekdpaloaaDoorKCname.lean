import Derived.WalkKit
import Derived.WalkSpells
import Derived.WalkSmall
import Derived.Deep.QuietTactic
import Derived.BigQuiet
import Derived.Test.YtklkpaekdpaloaaDoorKLk
namespace Go.Proofs.YtklkpaekdpaloaaDoor
set_option linter.unusedVariables false
set_option linter.unusedSimpArgs false
open Go.RowKit
def kwL (l : List UInt8) : Bool := l == [118, 97, 114] || l == [97, 114, 114, 97, 121] || l == [105, 110, 112, 117, 116] || l == [97, 115, 115, 101, 114, 116] || l == [115, 107, 105, 112] || l == [105, 102] || l == [101, 108, 115, 101] || l == [119, 104, 105, 108, 101] || l == [116, 114, 117, 101] || l == [102, 97, 108, 115, 101]
set_option maxHeartbeats 400000 in
theorem reserved_any (s : ByteArray) (w : World) :
  Calls Tryd.prog 91 #[.string s] w fun e w' => e = .returned (.bool (kwL s.toList)) ∧ w' = w := by
 go_enter Tryd.func91, Tryd.ntmps91
 go_wp2
 all_goals first | (simp_all; done) | (go_ret; exact ⟨by simp only [kwL, *]; rfl, rfl⟩)
theorem u8_95 (c : UInt8) : (c == 95) = decide (c.toNat = 95) := by
 rw [Bool.eq_iff_iff]
 simp only [beq_iff_eq, decide_eq_true_eq]
 constructor
 ·intro h; rw [h]; rfl
 ·intro h; apply UInt8.toNat_inj.1; exact h
set_option maxHeartbeats 400000 in
theorem digit_any (c : UInt8) (w : World) :
  Calls Tryd.prog 70 #[.int .u8 c.toNat] w fun e w' => e = .returned (.bool (isDig c)) ∧ w' = w := by
 go_enter Tryd.func70, Tryd.ntmps70
 go_wp2
 all_goals (go_ret; refine ⟨ret_bool ?_, rfl⟩; rw [Bool.eq_iff_iff, isDig_iff]; simp; omega)
set_option maxHeartbeats 400000 in
theorem letter_any (c : UInt8) (w : World) :
  Calls Tryd.prog 69 #[.int .u8 c.toNat] w fun e w' => e = .returned (.bool (isLet c)) ∧ w' = w := by
 go_enter Tryd.func69, Tryd.ntmps69
 go_wp2
 all_goals (go_ret; refine ⟨ret_bool ?_, rfl⟩; rw [Bool.eq_iff_iff, isLet_iff]; simp; omega)
def nameB (l : List UInt8) : Bool := !l.isEmpty && decide (l.length ≤ 16) && !kwL l && !(isDig (l.headD 0)) && l.all okc
theorem drop_cons (s : ByteArray) (k : Nat) (h : k < s.size) : s.toList.drop k = s[k] :: s.toList.drop (k + 1) := by
 rw [ByteArray.toList_eq, List.drop_eq_getElem_cons (by simpa using h)]; rfl
theorem head_at (s : ByteArray) (h : 0 < s.size) : s.toList.headD 0 = s[0] := by
 have e := drop_cons s 0 h
 rw [List.drop_zero] at e
 rw [e]; rfl
theorem okc_iff (c : UInt8) : okc c = true ↔ ((97 ≤ c.toNat ∧ c.toNat ≤ 122) ∨ (65 ≤ c.toNat ∧ c.toNat ≤ 90) ∨ c.toNat = 95) ∨ (48 ≤ c.toNat ∧ c.toNat ≤ 57) := by
 unfold okc
 rw [Bool.or_eq_true, isLet_iff, isDig_iff]
theorem byte_cls (c : UInt8) :
  (okc c = true ∧ 97 ≤ (c.toNat : Int) ∧ ((c.toNat : Int) ≤ 122 ∧ decide ((c.toNat : Int) ≤ 122) = true)) ∨
  (okc c = true ∧ (c.toNat : Int) < 97 ∧ 65 ≤ (c.toNat : Int) ∧ ((c.toNat : Int) ≤ 90 ∧ decide ((c.toNat : Int) ≤ 90) = true)) ∨
  (okc c = true ∧ (c.toNat : Int) < 97 ∧ 65 ≤ (c.toNat : Int) ∧ (90 < (c.toNat : Int) ∧ decide ((c.toNat : Int) ≤ 90) = false) ∧ 48 ≤ (c.toNat : Int) ∧ (57 < (c.toNat : Int) ∧ decide ((c.toNat : Int) ≤ 57) = false) ∧ ((c.toNat : Int) == 95) = true) ∨
  (okc c = true ∧ (c.toNat : Int) < 97 ∧ (c.toNat : Int) < 65 ∧ 48 ≤ (c.toNat : Int) ∧ ((c.toNat : Int) ≤ 57 ∧ decide ((c.toNat : Int) ≤ 57) = true)) ∨
  (okc c = false ∧ 97 ≤ (c.toNat : Int) ∧ (122 < (c.toNat : Int) ∧ decide ((c.toNat : Int) ≤ 122) = false) ∧ 65 ≤ (c.toNat : Int) ∧ (90 < (c.toNat : Int) ∧ decide ((c.toNat : Int) ≤ 90) = false) ∧ 48 ≤ (c.toNat : Int) ∧ (57 < (c.toNat : Int) ∧ decide ((c.toNat : Int) ≤ 57) = false) ∧ ((c.toNat : Int) == 95) = false) ∨
  (okc c = false ∧ (c.toNat : Int) < 97 ∧ 65 ≤ (c.toNat : Int) ∧ (90 < (c.toNat : Int) ∧ decide ((c.toNat : Int) ≤ 90) = false) ∧ 48 ≤ (c.toNat : Int) ∧ (57 < (c.toNat : Int) ∧ decide ((c.toNat : Int) ≤ 57) = false) ∧ ((c.toNat : Int) == 95) = false) ∨
  (okc c = false ∧ (c.toNat : Int) < 97 ∧ (c.toNat : Int) < 65 ∧ 48 ≤ (c.toNat : Int) ∧ (57 < (c.toNat : Int) ∧ decide ((c.toNat : Int) ≤ 57) = false) ∧ ((c.toNat : Int) == 95) = false) ∨
  (okc c = false ∧ (c.toNat : Int) < 97 ∧ (c.toNat : Int) < 65 ∧ (c.toNat : Int) < 48 ∧ ((c.toNat : Int) == 95) = false) := by
 by_cases a : 97 ≤ c.toNat
 ·by_cases b : c.toNat ≤ 122
  ·exact Or.inl (⟨(okc_iff c).2 (by omega), by omega, ⟨by omega, decide_eq_true (by omega)⟩⟩)
  ·exact Or.inr (Or.inr (Or.inr (Or.inr (Or.inl (⟨Bool.eq_false_iff.2 (by rw [Ne, okc_iff]; omega), by omega, ⟨by omega, decide_eq_false (by omega)⟩, by omega, ⟨by omega, decide_eq_false (by omega)⟩, by omega, ⟨by omega, decide_eq_false (by omega)⟩, beq_eq_false_iff_ne.2 (by omega)⟩)))))
 by_cases b : 65 ≤ c.toNat
 ·by_cases d : c.toNat ≤ 90
  ·exact Or.inr (Or.inl (⟨(okc_iff c).2 (by omega), by omega, by omega, ⟨by omega, decide_eq_true (by omega)⟩⟩))
  by_cases e : c.toNat = 95
  ·exact Or.inr (Or.inr (Or.inl (⟨(okc_iff c).2 (by omega), by omega, by omega, ⟨by omega, decide_eq_false (by omega)⟩, by omega, ⟨by omega, decide_eq_false (by omega)⟩, beq_iff_eq.2 (by omega)⟩)))
  ·exact Or.inr (Or.inr (Or.inr (Or.inr (Or.inr (Or.inl (⟨Bool.eq_false_iff.2 (by rw [Ne, okc_iff]; omega), by omega, by omega, ⟨by omega, decide_eq_false (by omega)⟩, by omega, ⟨by omega, decide_eq_false (by omega)⟩, beq_eq_false_iff_ne.2 (by omega)⟩))))))
 by_cases d : 48 ≤ c.toNat
 ·by_cases e : c.toNat ≤ 57
  ·exact Or.inr (Or.inr (Or.inr (Or.inl (⟨(okc_iff c).2 (by omega), by omega, by omega, by omega, ⟨by omega, decide_eq_true (by omega)⟩⟩))))
  ·exact Or.inr (Or.inr (Or.inr (Or.inr (Or.inr (Or.inr (Or.inl (⟨Bool.eq_false_iff.2 (by rw [Ne, okc_iff]; omega), by omega, by omega, by omega, ⟨by omega, decide_eq_false (by omega)⟩, beq_eq_false_iff_ne.2 (by omega)⟩)))))))
 ·exact Or.inr (Or.inr (Or.inr (Or.inr (Or.inr (Or.inr (Or.inr (⟨Bool.eq_false_iff.2 (by rw [Ne, okc_iff]; omega), by omega, by omega, by omega, beq_eq_false_iff_ne.2 (by omega)⟩)))))))
set_option maxHeartbeats 2000000 in
theorem isName_any (s : ByteArray) (w : World) (hs : s.size ≤ maxLen) :
  Calls Tryd.prog 81 #[.string s] w fun e w' => e = .returned (.bool (nameB s.toList)) ∧ w' = w := by
 unfold maxLen at hs
 have hl := toList_len s
 by_cases he : s.size = 0
 ·have h0 : s.toList = [] := List.length_eq_zero_iff.1 (by omega)
  have HF : Hid (nameB s.toList = false) := by unfold Hid; rw [h0]; rfl
  clear hl
  go_enter Tryd.func81, Tryd.ntmps81
  go_wp2
  go_ret
  exact ⟨ret_bool HF.out.symm, rfl⟩
 have hne : ¬ s.toList = [] := by intro h; rw [h] at hl; simp at hl; omega
 have hne2 : s.toList.isEmpty = false := by simpa using hne
 by_cases h16 : 16 < (s.size : Int)
 ·have HF : Hid (nameB s.toList = false) := by
   have h : decide (s.toList.length ≤ 16) = false := by simp [hl]; omega
   unfold Hid nameB; rw [h]; simp
  clear hl
  go_enter Tryd.func81, Tryd.ntmps81
  go_wp2
  go_ret
  exact ⟨ret_bool HF.out.symm, rfl⟩
 have h16' : (s.size : Int) ≤ 16 := by omega
 clear h16
 cases hk : kwL s.toList
 case true =>
  have HF : Hid (nameB s.toList = false) := by unfold Hid nameB; rw [hk]; simp
  clear hl
  go_enter Tryd.func81, Tryd.ntmps81
  go_wp2_with (go_at_call 91; refine (reserved_any _ _).mono ?_; rintro e w' ⟨rfl, rfl⟩)
  go_ret
  exact ⟨ret_bool HF.out.symm, rfl⟩
 have h0 : 0 < s.size := by omega
 cases hd : isDig s[0]
 case true =>
  have HF : Hid (nameB s.toList = false) := by unfold Hid nameB; rw [head_at s h0, hd]; simp
  have hd' := (isDig_iff _).1 hd
  have hd1 : 48 ≤ (s[0].toNat : Int) := by omega
  have hd2 : (s[0].toNat : Int) ≤ 57 := by omega
  clear hl hd hd'
  go_enter Tryd.func81, Tryd.ntmps81
  go_wp2_with (go_at_call 91; refine (reserved_any _ _).mono ?_; rintro e w' ⟨rfl, rfl⟩)
  go_ret
  exact ⟨ret_bool HF.out.symm, rfl⟩
 have HN : Hid (nameB s.toList = s.toList.all okc) := by
  have h : decide (s.toList.length ≤ 16) = true := by simp [hl]; omega
  unfold Hid nameB; rw [head_at s h0, hd, hk, hne2, h]; simp
 have hd' : ¬ (48 ≤ (s[0].toNat : Int) ∧ (s[0].toNat : Int) ≤ 57) := by
  intro h
  have := (isDig_iff s[0]).2 (by omega)
  rw [hd] at this; cases this
 clear hd
 have HL : Hid _ := hl
 clear hl
 have hd1 : ((48 ≤ (s[0].toNat : Int)) ∧ 57 < (s[0].toNat : Int)) ∨ (s[0].toNat : Int) < 48 := by omega
 clear hd'
 go_enter Tryd.func81, Tryd.ntmps81
 rcases hd1 with ⟨hd1, hd2⟩ | hd1
 all_goals
  go_wp2_with (go_at_call 91; refine (reserved_any _ _).mono ?_; rintro e w' ⟨rfl, rfl⟩)
  clear hk hne hne2
  go_loop [28] (fun i => ∃ k : Nat, k ≤ s.size ∧ i = .int .i64 k ∧ Hid (s.toList.all okc = (s.toList.drop k).all okc)) (fun i => s.size - (intOf i).toNat)
  case atStart => exact ⟨0, Nat.zero_le _, rfl, by unfold Hid; rw [List.drop_zero]⟩
  case round =>
   obtain ⟨k, hk, rfl, hr⟩ := hrel
   by_cases hlt : k < s.size
   ·rcases byte_cls s[k] with ⟨ho, b1, ⟨b2, d2⟩⟩ | ⟨ho, b1, b2, ⟨b3, d3⟩⟩ | ⟨ho, b1, b2, ⟨b3, d3⟩, b4, ⟨b5, d5⟩, b6⟩ | ⟨ho, b1, b2, b3, ⟨b4, d4⟩⟩ | ⟨ho, b1, ⟨b2, d2⟩, b3, ⟨b4, d4⟩, b5, ⟨b6, d6⟩, b7⟩ | ⟨ho, b1, b2, ⟨b3, d3⟩, b4, ⟨b5, d5⟩, b6⟩ | ⟨ho, b1, b2, b3, ⟨b4, d4⟩, b5⟩ | ⟨ho, b1, b2, b3, b4⟩
    iterate 4
     ·have H : Hid (s.toList.all okc = (s.toList.drop (k + 1)).all okc) := by
       unfold Hid; rw [hr.out, drop_cons s k hlt, List.all_cons, ho, Bool.true_and]
      clear ho hr
      go_wp2
      go_round
      case rel => exact ⟨k + 1, by omega, by go_num, H⟩
      case measure => simp [intOf]; omega
    all_goals
     have H : Hid (nameB s.toList = false) := by
      unfold Hid; rw [HN.out, hr.out, drop_cons s k hlt, List.all_cons, ho]; rfl
     clear ho hr
     go_wp2
     go_ret
     exact ⟨ret_bool H.out.symm, rfl⟩
   ·have H : Hid (nameB s.toList = true) := by
     unfold Hid; rw [HN.out, hr.out, List.drop_of_length_le (by rw [HL.out]; omega)]; rfl
    clear hr
    go_wp2
    go_ret
    exact ⟨ret_bool H.out.symm, rfl⟩
end Go.Proofs.YtklkpaekdpaloaaDoor
