import Derived.Test.YtbkblijoimmdeaaKIwid
import Derived.Test.YtbkblijoimmdeaaKJa
set_option linter.unusedVariables false
set_option linter.unusedSimpArgs false
set_option linter.unnecessarySimpa false
/- Jb -/
namespace Go.Proofs.Ytbkblijoimmdeaa
open Go.RowKit
set_option maxHeartbeats 1000000 in
theorem pbelow_ne (v : Int) (tb o cap : Nat) (ts : List Int) (w : World) (hT : IntsAt w tb o ts) :
    Calls Try.prog 72 #[.int .i64 v, .slice (some ⟨tb, o, none⟩) ts.length cap] w fun e w' => e = .returned (.int .i64 (wLo v ts)) ∧ w' = w := by
  have htl : (ts.length : Int) ≤ 4611686018427387904 := by have := hT.2.2; omega
  have HT : Hid _ := hT
  clear hT
  go_enter Try.func72, Try.ntmps72
  go_wp2_with fail
  go_loop [5, 10] (fun b i => ∃ (k : Nat) (m : Int), k ≤ ts.length ∧ i = .int .i64 k ∧ b = .int .i64 m ∧ Hid (m = (ts.take k).foldl (stLo v) (-9223372036854775808))) (fun _ i => (ts.length - intOf i).toNat)
  case atStart => exact ⟨0, _, by omega, rfl, rfl, rfl⟩
  case round =>
    obtain ⟨k, m, hk, rfl, rfl, hval⟩ := hrel
    by_cases hk1 : k < ts.length
    · have hk2 : (k : Int) < ts.length := by omega
      have ct := HT.out.1 k hk1
      have hst : Hid ((ts.take (k + 1)).foldl (stLo v) (-9223372036854775808) = stLo v m ts[k]) := by unfold Hid; rw [fold_take hk1, hval.out]
      generalize ts[k] = t at *
      by_cases c1 : t ≤ v
      · by_cases c2 : m < t
        · have hv : Hid (stLo v m t = t) := by unfold Hid stLo; rw [if_pos ⟨c1, c2⟩]
          go_wp2_with fail
          refine ⟨⟨k + 1, t, by omega, rfl, rfl, ?_⟩, by simp only [intOf]; omega⟩
          unfold Hid; rw [hst.out, hv.out]
        · replace c2 : t ≤ m := by omega
          have hv : Hid (stLo v m t = m) := by unfold Hid stLo; rw [if_neg (by omega)]
          go_wp2_with fail
          refine ⟨⟨k + 1, m, by omega, rfl, rfl, ?_⟩, by simp only [intOf]; omega⟩
          unfold Hid; rw [hst.out, hv.out]
      · replace c1 : v < t := by omega
        have hv : Hid (stLo v m t = m) := by unfold Hid stLo; rw [if_neg (by omega)]
        go_wp2_with fail
        refine ⟨⟨k + 1, m, by omega, rfl, rfl, ?_⟩, by simp only [intOf]; omega⟩
        unfold Hid; rw [hst.out, hv.out]
    · have hke : k = ts.length := by omega
      have HV : Hid (m = wLo v ts) := by unfold Hid wLo; rw [hval.out, hke, List.take_length]
      subst hke
      clear hval
      go_wp2_with fail
      go_ret
      exact ⟨by rw [HV.out]; rfl, rfl⟩
set_option maxHeartbeats 1000000 in
theorem pbelow_e (v : Int) (ao : Option Addr) (cap : Nat) (w : World) :
    Calls Try.prog 72 #[.int .i64 v, .slice ao 0 cap] w fun e w' => e = .returned (.int .i64 (wLo v [])) ∧ w' = w := by
  go_enter Try.func72, Try.ntmps72
  go_wp2_with fail
  go_loop [5, 10] (fun b i => b = .int .i64 (-9223372036854775808) ∧ i = .int .i64 0) (fun _ _ => 0)
  case atStart => exact ⟨rfl, rfl⟩
  case round =>
    obtain ⟨rfl, rfl⟩ := hrel
    go_wp2_with fail
    go_ret
    exact ⟨rfl, rfl⟩
theorem pbelow_any (v : Int) (s : Value) (ts : List Int) (w : World) (hT : SInts w s ts) :
    Calls Try.prog 72 #[.int .i64 v, s] w fun e w' => e = .returned (.int .i64 (wLo v ts)) ∧ w' = w := by
  rcases hT with ⟨tb, o, cap, rfl, hT⟩ | ⟨ao, cap, rfl, rfl⟩
  · exact pbelow_ne v tb o cap ts w hT
  · exact pbelow_e v ao cap w
set_option maxHeartbeats 1000000 in
theorem pabove_ne (v : Int) (tb o cap : Nat) (ts : List Int) (w : World) (hT : IntsAt w tb o ts) :
    Calls Try.prog 73 #[.int .i64 v, .slice (some ⟨tb, o, none⟩) ts.length cap] w fun e w' => e = .returned (.int .i64 (wHi v ts)) ∧ w' = w := by
  have htl : (ts.length : Int) ≤ 4611686018427387904 := by have := hT.2.2; omega
  have HT : Hid _ := hT
  clear hT
  go_enter Try.func73, Try.ntmps73
  go_wp2_with fail
  go_loop [5, 10] (fun b i => ∃ (k : Nat) (m : Int), k ≤ ts.length ∧ i = .int .i64 k ∧ b = .int .i64 m ∧ Hid (m = (ts.take k).foldl (stHi v) 9223372036854775807)) (fun _ i => (ts.length - intOf i).toNat)
  case atStart => exact ⟨0, _, by omega, rfl, rfl, rfl⟩
  case round =>
    obtain ⟨k, m, hk, rfl, rfl, hval⟩ := hrel
    by_cases hk1 : k < ts.length
    · have hk2 : (k : Int) < ts.length := by omega
      have ct := HT.out.1 k hk1
      have hst : Hid ((ts.take (k + 1)).foldl (stHi v) 9223372036854775807 = stHi v m ts[k]) := by unfold Hid; rw [fold_take hk1, hval.out]
      generalize ts[k] = t at *
      by_cases c1 : v ≤ t
      · by_cases c2 : t < m
        · have hv : Hid (stHi v m t = t) := by unfold Hid stHi; rw [if_pos ⟨c1, c2⟩]
          go_wp2_with fail
          refine ⟨⟨k + 1, t, by omega, rfl, rfl, ?_⟩, by simp only [intOf]; omega⟩
          unfold Hid; rw [hst.out, hv.out]
        · replace c2 : m ≤ t := by omega
          have hv : Hid (stHi v m t = m) := by unfold Hid stHi; rw [if_neg (by omega)]
          go_wp2_with fail
          refine ⟨⟨k + 1, m, by omega, rfl, rfl, ?_⟩, by simp only [intOf]; omega⟩
          unfold Hid; rw [hst.out, hv.out]
      · replace c1 : t < v := by omega
        have hv : Hid (stHi v m t = m) := by unfold Hid stHi; rw [if_neg (by omega)]
        go_wp2_with fail
        refine ⟨⟨k + 1, m, by omega, rfl, rfl, ?_⟩, by simp only [intOf]; omega⟩
        unfold Hid; rw [hst.out, hv.out]
    · have hke : k = ts.length := by omega
      have HV : Hid (m = wHi v ts) := by unfold Hid wHi; rw [hval.out, hke, List.take_length]
      subst hke
      clear hval
      go_wp2_with fail
      go_ret
      exact ⟨by rw [HV.out]; rfl, rfl⟩
set_option maxHeartbeats 1000000 in
theorem pabove_e (v : Int) (ao : Option Addr) (cap : Nat) (w : World) :
    Calls Try.prog 73 #[.int .i64 v, .slice ao 0 cap] w fun e w' => e = .returned (.int .i64 (wHi v [])) ∧ w' = w := by
  go_enter Try.func73, Try.ntmps73
  go_wp2_with fail
  go_loop [5, 10] (fun b i => b = .int .i64 9223372036854775807 ∧ i = .int .i64 0) (fun _ _ => 0)
  case atStart => exact ⟨rfl, rfl⟩
  case round =>
    obtain ⟨rfl, rfl⟩ := hrel
    go_wp2_with fail
    go_ret
    exact ⟨rfl, rfl⟩
theorem pabove_any (v : Int) (s : Value) (ts : List Int) (w : World) (hT : SInts w s ts) :
    Calls Try.prog 73 #[.int .i64 v, s] w fun e w' => e = .returned (.int .i64 (wHi v ts)) ∧ w' = w := by
  rcases hT with ⟨tb, o, cap, rfl, hT⟩ | ⟨ao, cap, rfl, rfl⟩
  · exact pabove_ne v tb o cap ts w hT
  · exact pabove_e v ao cap w
theorem SInts.ok {w w1 : World} {v : Value} {ts : List Int} (h : SInts w v ts) (hb : Ok w w1) : SInts w1 v ts := by
  rcases h with ⟨tb, o, cap, e, hT⟩ | ⟨ao, cap, e, et⟩
  · exact Or.inl ⟨tb, o, cap, e, hT.ok hb⟩
  · exact Or.inr ⟨ao, cap, e, et⟩
set_option maxHeartbeats 2000000 in
theorem pwiden_any (al ah bl bh : Int) (v : Value) (ts : List Int) (w0 w : World) (hok : Ok w0 w) (hT : SInts w v ts) :
    Calls Try.prog 55 #[.agg #[.int .i64 al, .int .i64 ah], .agg #[.int .i64 bl, .int .i64 bh], v] w fun e w' => e = .returned (.agg #[.int .i64 (widenI al ah bl bh ts).1, .int .i64 (widenI al ah bl bh ts).2]) ∧ Ok w0 w' := by
  have HT : Hid (SInts w v ts) := hT
  clear hT
  by_cases ha : ah < al
  · have E : Hid (widenI al ah bl bh ts = ((normI bl bh).1, (normI bl bh).2)) := by unfold Hid widenI; rw [if_pos ha]
    have d : decide (ah < al) = true := decide_eq_true ha
    by_cases hb : bh < bl
    · go_enter Try.func55, Try.ntmps55
      go_wp2_with (first | (go_at_call 61; refine (pisnone_ex _ _ _).mono ?_; rintro e w' ⟨rfl, rfl⟩) | (go_at_call 67; refine (ptidy_yes _ _ _ hb).mono ?_; rintro e w' ⟨rfl, rfl⟩) | fail)
      (try simp only [Exit.inBlock, Exit.then]); refine bodyPost_ret (results_cell_row rfl _ _ (w.heap.size + 2) 41 #[_, _] (0, 0) _ rfl (by repeat (first | (refine heap_at _ _ _ ?hx; case hx => (first | (simp; done) | (simp; omega))) | (refine heap_past _ _ _ ?hy ?_; case hy => (first | (simp; done) | (simp; omega))) | fail)) Try.underlying41 rfl infoI) rfl ?_
      exact ⟨reti E.out, (by repeat (first | exact hok | refine Ok.alloc ?_ _ | refine Ok.draws ?_ _ | fail))⟩
    · replace hb : bl ≤ bh := by omega
      go_enter Try.func55, Try.ntmps55
      go_wp2_with (first | (go_at_call 61; refine (pisnone_ex _ _ _).mono ?_; rintro e w' ⟨rfl, rfl⟩) | (go_at_call 67; refine (ptidy_no _ _ _ hb).mono ?_; rintro e w' ⟨rfl, rfl⟩) | fail)
      (try simp only [Exit.inBlock, Exit.then]); refine bodyPost_ret (results_cell_row rfl _ _ (w.heap.size + 2) 41 #[_, _] (0, 0) _ rfl (by repeat (first | (refine heap_at _ _ _ ?hx; case hx => (first | (simp; done) | (simp; omega))) | (refine heap_past _ _ _ ?hy ?_; case hy => (first | (simp; done) | (simp; omega))) | fail)) Try.underlying41 rfl infoI) rfl ?_
      exact ⟨reti E.out, (by repeat (first | exact hok | refine Ok.alloc ?_ _ | refine Ok.draws ?_ _ | fail))⟩
  · have d : decide (ah < al) = false := decide_eq_false ha
    replace ha : al ≤ ah := by omega
    by_cases hb : bh < bl
    · have E : Hid (widenI al ah bl bh ts = (al, ah)) := by unfold Hid widenI; rw [if_neg (by omega), if_pos hb]
      have d2 : decide (bh < bl) = true := decide_eq_true hb
      go_enter Try.func55, Try.ntmps55
      go_wp2_with (first | (go_at_call 61; refine (pisnone_ex _ _ _).mono ?_; rintro e w' ⟨rfl, rfl⟩) | fail)
      (try simp only [Exit.inBlock, Exit.then]); refine bodyPost_ret (results_cell_row rfl _ _ (w.heap.size + 2) 41 #[_, _] (0, 0) _ rfl (by repeat (first | (refine heap_at _ _ _ ?hx; case hx => (first | (simp; done) | (simp; omega))) | (refine heap_past _ _ _ ?hy ?_; case hy => (first | (simp; done) | (simp; omega))) | fail)) Try.underlying41 rfl infoI) rfl ?_
      exact ⟨reti E.out, (by repeat (first | exact hok | refine Ok.alloc ?_ _ | refine Ok.draws ?_ _ | fail))⟩
    · have d2 : decide (bh < bl) = false := decide_eq_false hb
      replace hb : bl ≤ bh := by omega
      have E0 : widenI al ah bl bh ts = (if bl < al then wLo bl ts else al, if ah < bh then wHi bh ts else ah) := by unfold widenI; rw [if_neg (by omega), if_neg (by omega)]
      by_cases h1 : bl < al
      · by_cases h2 : ah < bh
        · skip
          have E : Hid (widenI al ah bl bh ts = (wLo bl ts, wHi bh ts)) := by unfold Hid; rw [E0, if_pos h1, if_pos h2]
          clear E0
          go_enter Try.func55, Try.ntmps55
          go_wp2_with (first | (go_at_call 61; refine (pisnone_ex _ _ _).mono ?_; rintro e w' ⟨rfl, rfl⟩) | (go_at_call 72; refine (pbelow_any _ _ ts _ (HT.out.ok (by repeat (first | exact Ok.refl _ | refine Ok.alloc ?_ _)))).mono ?_; rintro e w' ⟨rfl, rfl⟩) | (go_at_call 73; refine (pabove_any _ _ ts _ (HT.out.ok (by repeat (first | exact Ok.refl _ | refine Ok.alloc ?_ _)))).mono ?_; rintro e w' ⟨rfl, rfl⟩) | fail)
          (try simp only [Exit.inBlock, Exit.then]); refine bodyPost_ret (results_cell_row rfl _ _ (w.heap.size + 2) 41 #[_, _] (0, 0) _ rfl (by repeat (first | (refine heap_at _ _ _ ?hx; case hx => (first | (simp; done) | (simp; omega))) | (refine heap_past _ _ _ ?hy ?_; case hy => (first | (simp; done) | (simp; omega))) | fail)) Try.underlying41 rfl infoI) rfl ?_
          exact ⟨reti E.out, (by repeat (first | exact hok | refine Ok.alloc ?_ _ | refine Ok.draws ?_ _ | fail))⟩
        · replace h2 : bh ≤ ah := by omega
          have E : Hid (widenI al ah bl bh ts = (wLo bl ts, ah)) := by unfold Hid; rw [E0, if_pos h1, if_neg (by omega)]
          clear E0
          go_enter Try.func55, Try.ntmps55
          go_wp2_with (first | (go_at_call 61; refine (pisnone_ex _ _ _).mono ?_; rintro e w' ⟨rfl, rfl⟩) | (go_at_call 72; refine (pbelow_any _ _ ts _ (HT.out.ok (by repeat (first | exact Ok.refl _ | refine Ok.alloc ?_ _)))).mono ?_; rintro e w' ⟨rfl, rfl⟩) | (go_at_call 73; refine (pabove_any _ _ ts _ (HT.out.ok (by repeat (first | exact Ok.refl _ | refine Ok.alloc ?_ _)))).mono ?_; rintro e w' ⟨rfl, rfl⟩) | fail)
          (try simp only [Exit.inBlock, Exit.then]); refine bodyPost_ret (results_cell_row rfl _ _ (w.heap.size + 2) 41 #[_, _] (0, 0) _ rfl (by repeat (first | (refine heap_at _ _ _ ?hx; case hx => (first | (simp; done) | (simp; omega))) | (refine heap_past _ _ _ ?hy ?_; case hy => (first | (simp; done) | (simp; omega))) | fail)) Try.underlying41 rfl infoI) rfl ?_
          exact ⟨reti E.out, (by repeat (first | exact hok | refine Ok.alloc ?_ _ | refine Ok.draws ?_ _ | fail))⟩
      · replace h1 : al ≤ bl := by omega
        by_cases h2 : ah < bh
        · skip
          have E : Hid (widenI al ah bl bh ts = (al, wHi bh ts)) := by unfold Hid; rw [E0, if_neg (by omega), if_pos h2]
          clear E0
          go_enter Try.func55, Try.ntmps55
          go_wp2_with (first | (go_at_call 61; refine (pisnone_ex _ _ _).mono ?_; rintro e w' ⟨rfl, rfl⟩) | (go_at_call 72; refine (pbelow_any _ _ ts _ (HT.out.ok (by repeat (first | exact Ok.refl _ | refine Ok.alloc ?_ _)))).mono ?_; rintro e w' ⟨rfl, rfl⟩) | (go_at_call 73; refine (pabove_any _ _ ts _ (HT.out.ok (by repeat (first | exact Ok.refl _ | refine Ok.alloc ?_ _)))).mono ?_; rintro e w' ⟨rfl, rfl⟩) | fail)
          (try simp only [Exit.inBlock, Exit.then]); refine bodyPost_ret (results_cell_row rfl _ _ (w.heap.size + 2) 41 #[_, _] (0, 0) _ rfl (by repeat (first | (refine heap_at _ _ _ ?hx; case hx => (first | (simp; done) | (simp; omega))) | (refine heap_past _ _ _ ?hy ?_; case hy => (first | (simp; done) | (simp; omega))) | fail)) Try.underlying41 rfl infoI) rfl ?_
          exact ⟨reti E.out, (by repeat (first | exact hok | refine Ok.alloc ?_ _ | refine Ok.draws ?_ _ | fail))⟩
        · replace h2 : bh ≤ ah := by omega
          have E : Hid (widenI al ah bl bh ts = (al, ah)) := by unfold Hid; rw [E0, if_neg (by omega), if_neg (by omega)]
          clear E0
          go_enter Try.func55, Try.ntmps55
          go_wp2_with (first | (go_at_call 61; refine (pisnone_ex _ _ _).mono ?_; rintro e w' ⟨rfl, rfl⟩) | (go_at_call 72; refine (pbelow_any _ _ ts _ (HT.out.ok (by repeat (first | exact Ok.refl _ | refine Ok.alloc ?_ _)))).mono ?_; rintro e w' ⟨rfl, rfl⟩) | (go_at_call 73; refine (pabove_any _ _ ts _ (HT.out.ok (by repeat (first | exact Ok.refl _ | refine Ok.alloc ?_ _)))).mono ?_; rintro e w' ⟨rfl, rfl⟩) | fail)
          (try simp only [Exit.inBlock, Exit.then]); refine bodyPost_ret (results_cell_row rfl _ _ (w.heap.size + 2) 41 #[_, _] (0, 0) _ rfl (by repeat (first | (refine heap_at _ _ _ ?hx; case hx => (first | (simp; done) | (simp; omega))) | (refine heap_past _ _ _ ?hy ?_; case hy => (first | (simp; done) | (simp; omega))) | fail)) Try.underlying41 rfl infoI) rfl ?_
          exact ⟨reti E.out, (by repeat (first | exact hok | refine Ok.alloc ?_ _ | refine Ok.draws ?_ _ | fail))⟩
end Go.Proofs.Ytbkblijoimmdeaa
