import Derived.Test.YtckkfmgbpembjaaClw
import Derived.Test.YtckkfmgbpembjaaCdvm
set_option linter.unusedVariables false
set_option linter.unusedSimpArgs false
set_option linter.unnecessarySimpa false
/- winnowlaw12.wraps: contract. -/
namespace Go.Proofs.Ytckkfmgbpembjaa
open Go.RowKit
/-- An answer that tells whether z wraps. -/
def Wr (z : Int) (e : Ending) : Prop := ∃ b : Bool, e = .returned (.bool b) ∧ (b = false ↔ In64 z)
theorem wr_back {Q y z : Int} (h : decide (¬ Q = y) = decide (¬ In64 z)) : ((Q != y) = false ↔ In64 z) := by
  by_cases a : Q = y
  · by_cases b : In64 z
    · exact ⟨fun _ => b, fun _ => by simp [a]⟩
    · rw [decide_eq_false (fun n => n a), decide_eq_true b] at h; cases h
  · by_cases b : In64 z
    · rw [decide_eq_true a, decide_eq_false (fun n => n b)] at h; cases h
    · exact ⟨fun e => absurd (by simpa using e) a, fun e => absurd e b⟩
set_option maxRecDepth 100000 in
set_option maxHeartbeats 2000000 in
theorem lwr0_any (x y : Int) (hx : In64 x) (hy : In64 y) (w : World) :
    Calls Try.prog 19 #[.int .i64 0, .int .i64 x, .int .i64 y] w fun e w' => Wr (x + y) e ∧ w' = w := by
  have HX : Hid _ := And.intro hx hy
  have hx' := hx
  have hy' := hy
  unfold In64 at hx' hy'
  by_cases p : 0 < y
  · have k : wrap64 (9223372036854775807 - y) = 9223372036854775807 - y := by unfold wrap64; omega
    by_cases q : 9223372036854775807 - y < x
    · skip
      clear hx hy hx' hy'
      go_enter Try.func19, Try.ntmps19
      go_wp2_with fail
      go_ret
      refine ⟨⟨_, rfl, ?_⟩, rfl⟩
      have := HX.out; unfold In64 at this ⊢; simp; omega
    · skip
      have p2 : ¬ (y < 0) := by omega
      clear hx hy hx' hy'
      go_enter Try.func19, Try.ntmps19
      go_wp2_with fail
      go_ret
      refine ⟨⟨_, rfl, ?_⟩, rfl⟩
      have := HX.out; unfold In64 at this ⊢; simp; omega
  · by_cases p2 : y < 0
    · have k : wrap64 (-9223372036854775808 - y) = -9223372036854775808 - y := by unfold wrap64; omega
      by_cases q : x < -9223372036854775808 - y
      · skip
        clear hx hy hx' hy'
        go_enter Try.func19, Try.ntmps19
        go_wp2_with fail
        go_ret
        refine ⟨⟨_, rfl, ?_⟩, rfl⟩
        have := HX.out; unfold In64 at this ⊢; simp; omega
      · skip
        clear hx hy hx' hy'
        go_enter Try.func19, Try.ntmps19
        go_wp2_with fail
        go_ret
        refine ⟨⟨_, rfl, ?_⟩, rfl⟩
        have := HX.out; unfold In64 at this ⊢; simp; omega
    · skip
      clear hx hy hx' hy'
      go_enter Try.func19, Try.ntmps19
      go_wp2_with fail
      go_ret
      refine ⟨⟨_, rfl, ?_⟩, rfl⟩
      have := HX.out; unfold In64 at this ⊢; simp; omega
set_option maxRecDepth 100000 in
set_option maxHeartbeats 2000000 in
theorem lwr1_any (x y : Int) (hx : In64 x) (hy : In64 y) (w : World) :
    Calls Try.prog 19 #[.int .i64 1, .int .i64 x, .int .i64 y] w fun e w' => Wr (x - y) e ∧ w' = w := by
  have HX : Hid _ := And.intro hx hy
  have hx' := hx
  have hy' := hy
  unfold In64 at hx' hy'
  by_cases p : y < 0
  · have k : wrap64 (9223372036854775807 + y) = 9223372036854775807 + y := by unfold wrap64; omega
    by_cases q : 9223372036854775807 + y < x
    · skip
      clear hx hy hx' hy'
      go_enter Try.func19, Try.ntmps19
      go_wp2_with fail
      go_ret
      refine ⟨⟨_, rfl, ?_⟩, rfl⟩
      have := HX.out; unfold In64 at this ⊢; simp; omega
    · skip
      have p2 : ¬ (0 < y) := by omega
      clear hx hy hx' hy'
      go_enter Try.func19, Try.ntmps19
      go_wp2_with fail
      go_ret
      refine ⟨⟨_, rfl, ?_⟩, rfl⟩
      have := HX.out; unfold In64 at this ⊢; simp; omega
  · by_cases p2 : 0 < y
    · have k : wrap64 (-9223372036854775808 + y) = -9223372036854775808 + y := by unfold wrap64; omega
      by_cases q : x < -9223372036854775808 + y
      · skip
        clear hx hy hx' hy'
        go_enter Try.func19, Try.ntmps19
        go_wp2_with fail
        go_ret
        refine ⟨⟨_, rfl, ?_⟩, rfl⟩
        have := HX.out; unfold In64 at this ⊢; simp; omega
      · skip
        clear hx hy hx' hy'
        go_enter Try.func19, Try.ntmps19
        go_wp2_with fail
        go_ret
        refine ⟨⟨_, rfl, ?_⟩, rfl⟩
        have := HX.out; unfold In64 at this ⊢; simp; omega
    · skip
      clear hx hy hx' hy'
      go_enter Try.func19, Try.ntmps19
      go_wp2_with fail
      go_ret
      refine ⟨⟨_, rfl, ?_⟩, rfl⟩
      have := HX.out; unfold In64 at this ⊢; simp; omega
set_option maxRecDepth 100000 in
set_option maxHeartbeats 2000000 in
theorem lwr2_any (x y : Int) (hx : In64 x) (hy : In64 y) (w : World) :
    Calls Try.prog 19 #[.int .i64 2, .int .i64 x, .int .i64 y] w fun e w' => Wr (x * y) e ∧ w' = w := by
  have HX : Hid _ := And.intro hx hy
  have hx' := hx
  have hy' := hy
  unfold In64 at hx' hy'
  obtain ⟨P, hP⟩ : ∃ P, P = wrap64 (x * y) := ⟨_, rfl⟩
  obtain ⟨Q, hQ⟩ : ∃ Q, Q = P.tdiv x := ⟨_, rfl⟩
  by_cases a : x = -1
  · subst a
    by_cases c : y = -9223372036854775808
    · skip
      have c1 : (y == -9223372036854775808) = true := by simp [c]
      have HC : Hid _ := c
      clear c
      clear hx hy hx' hy' hP hQ
      go_enter Try.func19, Try.ntmps19
      go_wp2_with fail
      go_ret
      refine ⟨⟨_, rfl, ?_⟩, rfl⟩
      have := HC.out; unfold In64; simp; omega
    · by_cases d : y = -1
      · subst d
        clear hx hy hx' hy' hP hQ c
        go_enter Try.func19, Try.ntmps19
        go_wp2_with fail
        go_ret
        refine ⟨⟨_, rfl, ?_⟩, rfl⟩
        unfold In64; simp
      · skip
        have c1 : (y == -9223372036854775808) = false := by simp [c]
        have d1 : (y == -1) = false := by simp [d]
        have HC : Hid _ := c
        clear c d
        clear hx hy hx' hy' hP hQ
        go_enter Try.func19, Try.ntmps19
        go_wp2_with fail
        go_ret
        refine ⟨⟨_, rfl, ?_⟩, rfl⟩
        have h1 : ¬ y = -9223372036854775808 := HC.out; have h2 := HX.out; unfold In64 at h2 ⊢
        exact ⟨fun _ => by omega, fun _ => rfl⟩
  · have a1 : (x == -1) = false := by simp [a]
    have a2 : (x != -1) = true := by simp [a]
    by_cases d : y = -1
    · have d1 : (y == -1) = true := by simp [d]
      by_cases c : x = -9223372036854775808
      · skip
        have c1 : (x == -9223372036854775808) = true := by simp [c]
        have HC : Hid _ := And.intro c d
        clear c d a
        clear hx hy hx' hy' hP hQ
        go_enter Try.func19, Try.ntmps19
        go_wp2_with fail
        go_ret
        refine ⟨⟨_, rfl, ?_⟩, rfl⟩
        rw [HC.out.1, HC.out.2]; unfold In64; simp
      · have c1 : (x == -9223372036854775808) = false := by simp [c]
        by_cases z : x = 0
        · subst z
          have HD : Hid _ := d
          clear d a c
          clear hx hy hx' hy' hP hQ
          go_enter Try.func19, Try.ntmps19
          go_wp2_with fail
          go_ret
          refine ⟨⟨_, rfl, ?_⟩, rfl⟩
          unfold In64; simp
        · skip
          clear c
          have HD : Hid _ := d
          clear d
          have hq : wrap64 Q = Q := by rw [hQ]; exact wrap64_id (by rw [hP]; exact tdiv_in64 (wrap64_in _) a)
          have hm := mul_back hx hy z a
          rw [← hP, ← hQ] at hm
          have HM : Hid _ := hm
          have z1 : (x != 0) = true := by simp [z]
          have z2 : (x == 0) = false := by simp [z]
          have z3 : ¬ x = 0 := z
          have eP : wrap64 (x * y) = P := hP.symm
          have eQ : P.tdiv x = Q := hQ.symm
          clear hx hy hx' hy' hP hQ hm z a
          go_enter Try.func19, Try.ntmps19
          go_wp2_with fail
          go_ret
          refine ⟨⟨_, rfl, ?_⟩, rfl⟩
          exact wr_back HM.out
    · have d1 : (y == -1) = false := by simp [d]
      by_cases z : x = 0
      · subst z
        clear d a
        clear hx hy hx' hy' hP hQ
        go_enter Try.func19, Try.ntmps19
        go_wp2_with fail
        go_ret
        refine ⟨⟨_, rfl, ?_⟩, rfl⟩
        unfold In64; simp
      · skip
        clear d
        have hq : wrap64 Q = Q := by rw [hQ]; exact wrap64_id (by rw [hP]; exact tdiv_in64 (wrap64_in _) a)
        have hm := mul_back hx hy z a
        rw [← hP, ← hQ] at hm
        have HM : Hid _ := hm
        have z1 : (x != 0) = true := by simp [z]
        have z2 : (x == 0) = false := by simp [z]
        have z3 : ¬ x = 0 := z
        have eP : wrap64 (x * y) = P := hP.symm
        have eQ : P.tdiv x = Q := hQ.symm
        clear hx hy hx' hy' hP hQ hm z a
        go_enter Try.func19, Try.ntmps19
        go_wp2_with fail
        go_ret
        refine ⟨⟨_, rfl, ?_⟩, rfl⟩
        exact wr_back HM.out
end Go.Proofs.Ytckkfmgbpembjaa
