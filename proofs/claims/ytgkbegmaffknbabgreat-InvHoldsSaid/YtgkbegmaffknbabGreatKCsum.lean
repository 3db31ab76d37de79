import Derived.Test.YtgkbegmaffknbabGreatKCset
set_option linter.unusedVariables false
set_option linter.unusedSimpArgs false
set_option linter.unnecessarySimpa false
/- Cjo Csum -/
namespace Go.Proofs.YtgkbegmaffknbabGreat
section
open Go.RowKit
set_option maxRecDepth 100000 in
set_option maxHeartbeats 2000000 in
theorem chas_any (M R : Nat) (v : Int) (h1 : U64 M) (h2 : U64 R) (w0 w : World) (hok : Ok w0 w) :
    Calls Tryz.prog 27 #[cv M R, .int .i64 v] w fun e w' => e = .returned (.bool (hasC M R v)) ∧ Ok w0 w' := by
  have hle := hok.le
  have HU : Hid _ := And.intro h1 h2
  clear h1 h2
  unfold cv
  go_enter Tryz.func27, Tryz.ntmps27
  go_wp2_with fail
  obtain ⟨W, hW⟩ : ∃ W, W = w.alloc (.cells #[.int .u64 (M : Int), .int .u64 (R : Int)] 27) := ⟨_, rfl⟩
  have ra : W.heap[w.heap.size]? = some (.cells #[.int .u64 (M : Int), .int .u64 (R : Int)] 27) := by rw [hW]; exact (by repeat (first | (refine heap_at _ _ _ ?hx; case hx => (first | (simp; done) | (simp; omega))) | (refine heap_past _ _ _ ?hy ?_; case hy => (first | (simp; done) | (simp; omega))) | fail))
  have HW : Hid (Ok w0 W) := by rw [hW]; exact (by repeat (first | exact hok | refine Ok.alloc ?_ _ | refine Ok.draws ?_ _ | fail))
  rw [← hW]
  clear hW hok
  obtain ⟨g0, g1, _, _⟩ := row_facts ra
  have z0 := lt_row ra
  clear ra
  have bz : Ok W W := Ok.refl _
  go_region_held3 (fun w' => w'.cell? ⟨w.heap.size, 0, none⟩ = some (.int .u64 (M : Int)) ∧ w'.cell? ⟨w.heap.size, 1, none⟩ = some (.int .u64 (R : Int))) (go_keep)
    (first
    | (go_at_call 64; refine (cconst_any v W _ (by repeat (first | assumption | refine Ok.alloc ?_ _ | refine Below.drew ?_))).mono ?_; rintro e w' ⟨rfl, hb⟩; have q0 := Ok.cell hb z0 g0; have q1 := Ok.cell hb z0 g1)
    | (go_at_call 25; refine (cleq_any 0 (bitsN v) M R (by unfold U64; omega) (bitsN_u64 v) HU.out.1 HU.out.2 W _ (by repeat (first | assumption | refine Ok.alloc ?_ _ | refine Below.drew ?_))).mono ?_; rintro e w' ⟨rfl, hb⟩; have q0 := Ok.cell hb z0 g0; have q1 := Ok.cell hb z0 g1)
    | fail)
  go_wp2_with fail
  go_ret
  exact ⟨rfl, by repeat (first | exact HW.out.step hb | refine Ok.draws ?_ _)⟩
end
section
open Go.RowKit
def sumF (f1 : Nat) (s1 : Bool) (f2 : Nat) (s2 : Bool) : Nat := if s1 = s2 then f1 + f2 else if f1 < f2 then f2 - f1 else f1 - f2
def sumS (f1 : Nat) (s1 : Bool) (f2 : Nat) (s2 : Bool) : Bool := if s1 = s2 then s1 else if f1 < f2 then !s1 else s1
theorem sum_val (f1 : Nat) (s1 : Bool) (f2 : Nat) (s2 : Bool) : sval (sumF f1 s1 f2 s2) (sumS f1 s1 f2 s2) = sval f1 s1 + sval f2 s2 := by
  unfold sumF sumS sval
  by_cases h : f1 < f2
  · cases s1 <;> cases s2 <;> simp [h] <;> omega
  · cases s1 <;> cases s2 <;> simp [h] <;> omega
end
end Go.Proofs.YtgkbegmaffknbabGreat
