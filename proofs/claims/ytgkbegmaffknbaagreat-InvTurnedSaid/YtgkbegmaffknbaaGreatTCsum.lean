import Derived.Test.YtgkbegmaffknbaaGreatTCint
import Derived.Test.YtgkbegmaffknbaaGreatTCjn
set_option linter.unusedVariables false
set_option linter.unusedSimpArgs false
set_option linter.unnecessarySimpa false
/- Cset Csum -/
namespace Go.Proofs.YtgkbegmaffknbaaGreat
section
open Go.RowKit
set_option maxHeartbeats 400000 in
theorem cconst_any (v : Int) (w0 w : World) (hok : Ok w0 w) :
    Calls Tryz.prog 67 #[.int .i64 v] w fun e w' => e = .returned (cv 0 (bitsN v)) ∧ Ok w0 w' := by
  have E : Hid ((bitsN v : Int) = IntKind.u64.wrap v) := by unfold Hid bitsN; rw [u64w]; omega
  unfold cv
  go_enter Tryz.func67, Tryz.ntmps67
  go_wp2
  (try simp only [Exit.inBlock, Exit.then]); refine bodyPost_ret (results_cell_row rfl _ _ (w.heap.size) 26 #[_, _] (0, 0) _ rfl (by repeat (first | (refine heap_at _ _ _ ?hx; case hx => (first | (simp; done) | (simp; omega))) | (refine heap_past _ _ _ ?hy ?_; case hy => (first | (simp; done) | (simp; omega))) | fail)) Tryz.underlying26 rfl infoCg) rfl ?_
  rw [E.out]
  exact ⟨rfl, (by repeat (first | exact hok | refine Ok.alloc ?_ _ | refine Ok.draws ?_ _ | fail))⟩
set_option maxHeartbeats 400000 in
theorem cnorm_any (M R : Nat) (w0 w : World) (hok : Ok w0 w) :
    Calls Tryz.prog 66 #[cv M R] w fun e w' => e = .returned (cv (normC M R).1 (normC M R).2) ∧ Ok w0 w' := by
  unfold cv
  by_cases h : 0 < M
  · have E : Hid (normC M R = (M, R % M)) := by unfold Hid normC; rw [if_pos h]
    have h1 : (0 : Int) < (M : Int) := by omega
    have h2 : ¬ (M : Int) = 0 := by omega
    have h3 : ((M : Int) == 0) = false := by simp; omega
    clear h
    go_enter Tryz.func66, Tryz.ntmps66
    go_wp2
    (try simp only [Exit.inBlock, Exit.then]); refine bodyPost_ret (results_cell_row rfl _ _ (w.heap.size + 1) 26 #[_, _] (0, 0) _ rfl (by repeat (first | (refine heap_at _ _ _ ?hx; case hx => (first | (simp; done) | (simp; omega))) | (refine heap_past _ _ _ ?hy ?_; case hy => (first | (simp; done) | (simp; omega))) | fail)) Tryz.underlying26 rfl infoCg) rfl ?_
    rw [E.out, Int.natCast_emod]
    exact ⟨rfl, (by repeat (first | exact hok | refine Ok.alloc ?_ _ | refine Ok.draws ?_ _ | fail))⟩
  · have E : Hid (normC M R = (M, R)) := by unfold Hid normC; rw [if_neg h]
    have h1 : ¬ (0 : Int) < (M : Int) := by omega
    clear h
    go_enter Tryz.func66, Tryz.ntmps66
    go_wp2
    (try simp only [Exit.inBlock, Exit.then]); refine bodyPost_ret (results_cell_row rfl _ _ (w.heap.size + 1) 26 #[_, _] (0, 0) _ rfl (by repeat (first | (refine heap_at _ _ _ ?hx; case hx => (first | (simp; done) | (simp; omega))) | (refine heap_past _ _ _ ?hy ?_; case hy => (first | (simp; done) | (simp; omega))) | fail)) Tryz.underlying26 rfl infoCg) rfl ?_
    rw [E.out]
    exact ⟨rfl, (by repeat (first | exact hok | refine Ok.alloc ?_ _ | refine Ok.draws ?_ _ | fail))⟩
end
section
open Go.RowKit
def sumF (f1 : Nat) (s1 : Bool) (f2 : Nat) (s2 : Bool) : Nat := if s1 = s2 then f1 + f2 else if f1 < f2 then f2 - f1 else f1 - f2
def sumS (f1 : Nat) (s1 : Bool) (f2 : Nat) (s2 : Bool) : Bool := if s1 = s2 then s1 else if f1 < f2 then !s1 else s1
theorem sum_val (f1 : Nat) (s1 : Bool) (f2 : Nat) (s2 : Bool) : sval (sumF f1 s1 f2 s2) (sumS f1 s1 f2 s2) = sval f1 s1 + sval f2 s2 := by
  unfold sumF sumS sval
  by_cases h : f1 < f2
  · cases s1 <;> cases s2 <;> simp [h] <;> omega
  · cases s1 <;> cases s2 <;> simp [h] <;> omega
end
end Go.Proofs.YtgkbegmaffknbaaGreat
