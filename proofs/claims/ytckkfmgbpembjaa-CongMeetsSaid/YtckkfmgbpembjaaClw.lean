import Derived.Test.YtckkfmgbpembjaaCint
import Derived.Test.YtckkfmgbpembjaaClm
set_option linter.unusedVariables false
set_option linter.unusedSimpArgs false
set_option linter.unnecessarySimpa false
/- What the laws of classes reckon themselves (winnowlaw12): rest, inside, some: contracts. -/
namespace Go.Proofs.Ytckkfmgbpembjaa
open Go.RowKit
def lrestN (v : Int) (m : Nat) : Nat := (v % (m : Int)).toNat
theorem lrest_val {v : Int} {m : Nat} (hm : 0 < m) : (lrestN v m : Int) = v % (m : Int) := by
  unfold lrestN
  have := Int.emod_nonneg v (show (m : Int) ≠ 0 by omega)
  omega
theorem lrest_lt {v : Int} {m : Nat} (hm : 0 < m) : lrestN v m < m := by
  have := lrest_val (v := v) hm
  have := Int.emod_lt_of_pos v (show (0 : Int) < m by omega)
  omega
set_option maxHeartbeats 400000 in
theorem lrest_any (v : Int) (m : Nat) (hv : In64 v) (hm : U64 m) (hm0 : 0 < m) (w : World) :
    Calls Try.prog 49 #[.int .i64 v, .int .u64 (m : Int)] w fun e w' => e = .returned (.int .u64 (lrestN v m : Int)) ∧ w' = w := by
  have HV : Hid _ := And.intro hv (And.intro hm hm0)
  have g1 : ((m : Int) == 0) = false := by simp; omega
  have g2 : ¬ (m : Int) = 0 := by omega
  have g3 : (m == 0) = false := by simp; omega
  have g4 : ¬ m = 0 := by omega
  by_cases h : 0 ≤ v
  · clear hv hm hm0
    go_enter Try.func49, Try.ntmps49
    go_wp2
    go_ret
    refine ⟨retu ?_, rfl⟩
    have := HV.out; unfold In64 at this; rw [lrest_val this.2.2]; simp only [u64w]
    first | (rw [Int.emod_eq_of_lt (a := v) (by omega) (by omega)]; done) | (rw [Int.tmod_eq_emod_of_nonneg (by omega), Int.emod_eq_of_lt (a := v) (by omega) (by omega)]; done) | omega
  · clear hv hm hm0
    go_enter Try.func49, Try.ntmps49
    go_wp2
    go_ret
    refine ⟨retu ?_, rfl⟩
    have := HV.out
    rw [lrest_val this.2.2, ← rest_below (show (0 : Int) < (m : Int) by omega)]
    unfold In64 U64 at this
    have e1 : wrap64 (v + 1) = v + 1 := by unfold wrap64; omega
    have e2 : wrap64 (-(v + 1)) = -(v + 1) := by unfold wrap64; omega
    rw [e1, e2]
    have e3 : IntKind.u64.wrap (-(v + 1)) = -(v + 1) := by rw [u64w]; omega
    have e4 : IntKind.u64.wrap ((m : Int) - 1) = (m : Int) - 1 := by rw [u64w]; omega
    rw [e3, e4, Int.tmod_eq_emod_of_nonneg (by omega), u64w]
    have a := Int.emod_nonneg (-(v + 1)) (show (m : Int) ≠ 0 by omega)
    have b := Int.emod_lt_of_pos (-(v + 1)) (show (0 : Int) < (m : Int) by omega)
    generalize -(v + 1) % (m : Int) = z at *
    omega
set_option maxRecDepth 100000 in
set_option maxHeartbeats 2000000 in
theorem linside_any (M R : Nat) (v : Int) (h1 : U64 M) (h2 : U64 R) (hv : In64 v) (w0 w : World) (hok : Ok w0 w) :
    Calls Try.prog 11 #[cv M R, .int .i64 v] w fun e w' => (∃ b : Bool, e = .returned (.bool b) ∧ (b = true ↔ MemC M R v)) ∧ Ok w0 w' := by
  have hle := hok.le
  have HU : Hid _ := And.intro h1 (And.intro h2 hv)
  clear h1 h2 hv
  unfold cv
  by_cases z : M = 0
  · subst z
    go_enter Try.func11, Try.ntmps11
    go_wp2_with fail
    go_ret
    refine ⟨⟨_, rfl, ?_⟩, (by repeat (first | exact hok | refine Ok.alloc ?_ _ | refine Ok.draws ?_ _ | fail))⟩
    have := HU.out
    unfold U64 In64 at this
    rw [memC_zero]
    simp only [u64w, beq_iff_eq]
    unfold wrap64
    omega
  · have g1 : ((M : Int) == 0) = false := by simp; omega
    have g2 : ¬ (M : Int) = 0 := by omega
    have g3 : (M == 0) = false := by simp; omega
    have HM : Hid (0 < M) := by unfold Hid; omega
    obtain ⟨T, hT⟩ : ∃ T, T = lrestN v M := ⟨_, rfl⟩
    have HT : Hid _ := hT
    clear hT
    go_enter Try.func11, Try.ntmps11
    go_wp2_with fail
    obtain ⟨W, hW⟩ : ∃ W, W = w.alloc (.cells #[.int .u64 (M : Int), .int .u64 (R : Int)] 24) := ⟨_, rfl⟩
    have ra : W.heap[w.heap.size]? = some (.cells #[.int .u64 (M : Int), .int .u64 (R : Int)] 24) := by rw [hW]; exact (by repeat (first | (refine heap_at _ _ _ ?hx; case hx => (first | (simp; done) | (simp; omega))) | (refine heap_past _ _ _ ?hy ?_; case hy => (first | (simp; done) | (simp; omega))) | fail))
    have HW : Hid (Ok w0 W) := by rw [hW]; exact (by repeat (first | exact hok | refine Ok.alloc ?_ _ | refine Ok.draws ?_ _ | fail))
    rw [← hW]
    clear hW hok
    obtain ⟨f0, f1, _, _⟩ := row_facts ra
    clear ra
    go_region_held3 (fun w' => w'.cell? ⟨w.heap.size, 0, none⟩ = some (.int .u64 (M : Int)) ∧ w'.cell? ⟨w.heap.size, 1, none⟩ = some (.int .u64 (R : Int))) (go_keep)
      (first
      | (go_at_call 49; refine (lrest_any v M HU.out.2.2 HU.out.1 HM.out _).mono ?_; rintro e w' ⟨rfl, rfl⟩; rw [← HT.out])
      | fail)
    go_wp2_with fail
    go_ret
    refine ⟨⟨_, rfl, ?_⟩, by repeat (first | exact HW.out | refine Below.drew ?_)⟩
    rw [memC_pos HM.out, ← lrest_val HM.out, ← HT.out, beq_iff_eq, Int.tmod_eq_emod_of_nonneg (by omega), Int.natCast_emod]
set_option maxRecDepth 100000 in
set_option maxHeartbeats 2000000 in
/-- some: where it answers one, it is one of the class. -/
theorem lsome_any (M R : Nat) (v : Int) (h1 : U64 M) (h2 : U64 R) (hv : In64 v) (w0 w : World) (hok : Ok w0 w) :
    Calls Try.prog 17 #[cv M R, .int .i64 v] w fun e w' => (∃ (x : Int) (b : Bool), e = .returned (.tuple #[.int .i64 x, .bool b]) ∧ In64 x ∧ (b = true → MemC M R x)) ∧ Ok w0 w' := by
  have hle := hok.le
  have HU : Hid _ := And.intro h1 (And.intro h2 hv)
  unfold cv
  by_cases z : M = 0
  · clear h1 h2 hv
    subst z
    go_enter Try.func17, Try.ntmps17
    go_wp2_with fail
    refine bodyPost_ret (results_tmp2 rfl _ _ _) rfl ?_
    refine ⟨⟨_, _, rfl, wrap64_in _, fun _ => memC_zero.2 rfl⟩, (by repeat (first | exact hok | refine Ok.alloc ?_ _ | refine Ok.draws ?_ _ | fail))⟩
  · have HM : Hid (0 < M) := by unfold Hid; omega
    obtain ⟨T, hT⟩ : ∃ T, T = lrestN v M := ⟨_, rfl⟩
    obtain ⟨B, hB⟩ : ∃ B, B = R % M := ⟨_, rfl⟩
    obtain ⟨A, hA⟩ : ∃ A : Nat, A = (v % 18446744073709551616).toNat := ⟨_, rfl⟩
    obtain ⟨U, hU⟩ : ∃ U : Nat, U = (9223372036854775807 - v).toNat := ⟨_, rfl⟩
    obtain ⟨L, hL⟩ : ∃ L : Nat, L = (v + 9223372036854775808).toNat := ⟨_, rfl⟩
    have hTl : T < M := by rw [hT]; exact lrest_lt HM.out
    have hBl : B < M := by rw [hB]; exact Nat.mod_lt _ HM.out
    unfold U64 at h1 h2; unfold In64 at hv
    have kA : IntKind.u64.wrap v = (A : Int) := by rw [u64w]; omega
    have kU : IntKind.u64.wrap (9223372036854775807 - (A : Int)) = (U : Int) := by rw [u64w]; omega
    have kL : IntKind.u64.wrap ((A : Int) - 9223372036854775808) = (L : Int) := by rw [u64w]; omega
    have kB : (R : Int).tmod (M : Int) = (B : Int) := by rw [hB, Int.tmod_eq_emod_of_nonneg (by omega), Int.natCast_emod]
    have kB' : (R : Int) % (M : Int) = (B : Int) := by rw [hB, Int.natCast_emod]
    have HT : Hid _ := hT
    have HTV : Hid ((T : Int) = v % (M : Int)) := by unfold Hid; rw [hT]; exact lrest_val HM.out
    have HF : Hid (B = R % M ∧ (A : Int) = v % 18446744073709551616 ∧ (U : Int) = 9223372036854775807 - v ∧ (L : Int) = v + 9223372036854775808 ∧ T < M ∧ B < M ∧ M < 18446744073709551616) := by unfold Hid; omega
    have g1 : ((M : Int) == 0) = false := by simp; omega
    have g2 : ¬ (M : Int) = 0 := by omega
    have g3 : (M == 0) = false := by simp; omega
    by_cases ht : B ≤ T
    · obtain ⟨D, hD⟩ : ∃ D, D = T - B := ⟨_, rfl⟩
      have kD : IntKind.u64.wrap ((T : Int) - (B : Int)) = (D : Int) := by rw [u64w]; omega
      have ht2 : (B : Int) ≤ (T : Int) := by omega
      have HD : Hid (D = T - B ∧ B ≤ T) := by unfold Hid; omega
      by_cases hd : D ≤ L
      · have hd2 : (D : Int) ≤ (L : Int) := by omega
        clear h1 h2 hv hT hB hA hU hL hTl hBl hD z
        go_enter Try.func17, Try.ntmps17
        go_wp2_with fail
        refine (lrest_any v M HU.out.2.2 HU.out.1 HM.out _).mono ?_
        rintro e w' ⟨rfl, rfl⟩
        rw [← HT.out]
        go_wp2_with fail
        refine bodyPost_ret (results_tmp2 rfl _ _ _) rfl ?_
        refine ⟨⟨_, _, rfl, wrap64_in _, fun hb => ?_⟩, (by repeat (first | exact hok | refine Ok.alloc ?_ _ | refine Ok.draws ?_ _ | fail))⟩
        have hf := HF.out
        have ht3 := HTV.out
        have hd3 := HD.out
        rw [show wrap64 (IntKind.u64.wrap ((A : Int) - (D : Int))) = v + (-(D : Int)) by rw [u64w]; unfold wrap64; have := HU.out.2.2; unfold In64 at this; omega]
        exact near_mem HM.out (0) (by rw [← hf.1]; omega)
      · have hd2 : ¬ (D : Int) ≤ (L : Int) := by omega
        obtain ⟨N, hN⟩ : ∃ N, N = M - D := ⟨_, rfl⟩
        have kN : IntKind.u64.wrap ((M : Int) - (D : Int)) = (N : Int) := by rw [u64w]; omega
        have HN : Hid (N = M - D) := hN
        clear h1 h2 hv hT hB hA hU hL hTl hBl hD z hN
        go_enter Try.func17, Try.ntmps17
        go_wp2_with fail
        refine (lrest_any v M HU.out.2.2 HU.out.1 HM.out _).mono ?_
        rintro e w' ⟨rfl, rfl⟩
        rw [← HT.out]
        go_wp2_with fail
        refine bodyPost_ret (results_tmp2 rfl _ _ _) rfl ?_
        refine ⟨⟨_, _, rfl, wrap64_in _, fun hb => ?_⟩, (by repeat (first | exact hok | refine Ok.alloc ?_ _ | refine Ok.draws ?_ _ | fail))⟩
        have hf := HF.out
        have ht3 := HTV.out
        have hd3 := HD.out
        have hn3 := HN.out
        have hb2 : (N : Int) ≤ (U : Int) := by simpa using hb
        rw [show wrap64 (IntKind.u64.wrap ((A : Int) + (N : Int))) = v + ((N : Int)) by rw [u64w]; unfold wrap64; have := HU.out.2.2; unfold In64 at this; omega]
        exact near_mem HM.out (1) (by rw [← hf.1]; omega)
    · obtain ⟨D, hD⟩ : ∃ D, D = B - T := ⟨_, rfl⟩
      have kD : IntKind.u64.wrap ((B : Int) - (T : Int)) = (D : Int) := by rw [u64w]; omega
      have ht2 : ¬ (B : Int) ≤ (T : Int) := by omega
      have HD : Hid (D = B - T ∧ T < B) := by unfold Hid; omega
      by_cases hd : D ≤ U
      · have hd2 : (D : Int) ≤ (U : Int) := by omega
        clear h1 h2 hv hT hB hA hU hL hTl hBl hD z
        go_enter Try.func17, Try.ntmps17
        go_wp2_with fail
        refine (lrest_any v M HU.out.2.2 HU.out.1 HM.out _).mono ?_
        rintro e w' ⟨rfl, rfl⟩
        rw [← HT.out]
        go_wp2_with fail
        refine bodyPost_ret (results_tmp2 rfl _ _ _) rfl ?_
        refine ⟨⟨_, _, rfl, wrap64_in _, fun hb => ?_⟩, (by repeat (first | exact hok | refine Ok.alloc ?_ _ | refine Ok.draws ?_ _ | fail))⟩
        have hf := HF.out
        have ht3 := HTV.out
        have hd3 := HD.out
        rw [show wrap64 (IntKind.u64.wrap ((A : Int) + (D : Int))) = v + ((D : Int)) by rw [u64w]; unfold wrap64; have := HU.out.2.2; unfold In64 at this; omega]
        exact near_mem HM.out (0) (by rw [← hf.1]; omega)
      · have hd2 : ¬ (D : Int) ≤ (U : Int) := by omega
        obtain ⟨N, hN⟩ : ∃ N, N = M - D := ⟨_, rfl⟩
        have kN : IntKind.u64.wrap ((M : Int) - (D : Int)) = (N : Int) := by rw [u64w]; omega
        have HN : Hid (N = M - D) := hN
        clear h1 h2 hv hT hB hA hU hL hTl hBl hD z hN
        go_enter Try.func17, Try.ntmps17
        go_wp2_with fail
        refine (lrest_any v M HU.out.2.2 HU.out.1 HM.out _).mono ?_
        rintro e w' ⟨rfl, rfl⟩
        rw [← HT.out]
        go_wp2_with fail
        refine bodyPost_ret (results_tmp2 rfl _ _ _) rfl ?_
        refine ⟨⟨_, _, rfl, wrap64_in _, fun hb => ?_⟩, (by repeat (first | exact hok | refine Ok.alloc ?_ _ | refine Ok.draws ?_ _ | fail))⟩
        have hf := HF.out
        have ht3 := HTV.out
        have hd3 := HD.out
        have hn3 := HN.out
        have hb2 : (N : Int) ≤ (L : Int) := by simpa using hb
        rw [show wrap64 (IntKind.u64.wrap ((A : Int) - (N : Int))) = v + (-(N : Int)) by rw [u64w]; unfold wrap64; have := HU.out.2.2; unfold In64 at this; omega]
        exact near_mem HM.out (-1) (by rw [← hf.1]; omega)
end Go.Proofs.Ytckkfmgbpembjaa
