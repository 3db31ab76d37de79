import Derived.Test.YtbclkkpddomoiaaGreatCby
set_option linter.unusedVariables false
set_option linter.unusedSimpArgs false
set_option linter.unnecessarySimpa false
/- Classes (winnowref12): Neg: contract. -/
namespace Go.Proofs.YtbclkkpddomoiaaGreat
open Go.RowKit
def negC (M R : Nat) (e : Bool) : Nat × Nat :=
  if M = 0 then (0, bitsN (wrap64 (-(wrap64 (R : Int))))) else (byG M e, restN (rF M R) true (byG M e))
set_option maxRecDepth 100000 in
set_option maxHeartbeats 4000000 in
theorem cneg_any (M R : Nat) (ex : Bool) (h1 : U64 M) (h2 : U64 R) (w0 w : World) (hok : Ok w0 w) :
    Calls Tryz.prog 74 #[cv M R, .bool ex] w fun e w' => e = .returned (cv (negC M R ex).1 (negC M R ex).2) ∧ Ok w0 w' := by
  have hle := hok.le
  have HU : Hid _ := And.intro h1 h2
  clear h1 h2
  by_cases hz : M = 0
  · have E : Hid (negC M R ex = (0, bitsN (wrap64 (-(wrap64 (R : Int)))))) := by unfold Hid negC; rw [if_pos hz]
    subst hz
    obtain ⟨V1, hV1⟩ : ∃ V, V = wrap64 (R : Int) := ⟨_, rfl⟩
    rw [← hV1] at E
    have HV : Hid _ := hV1
    clear hV1
    unfold cv
    go_enter Tryz.func74, Tryz.ntmps74
    go_wp2_with fail
    have rr : ((w.alloc (.cells #[.int .u64 0, .int .u64 (R : Int)] 26)).alloc (.cells #[.int .u64 0, .int .u64 0] 26)).heap[w.heap.size + 1]? = some (.cells #[.int .u64 0, .int .u64 0] 26) := (by repeat (first | (refine heap_at _ _ _ ?hx; case hx => (first | (simp; done) | (simp; omega))) | (refine heap_past _ _ _ ?hy ?_; case hy => (first | (simp; done) | (simp; omega))) | fail))
    refine (cnumber_any 0 R HU.out.2 _ _ (Ok.refl _)).mono ?_
    rintro e w1 ⟨rfl, hb1⟩
    rw [← HV.out]
    have HR1 : Hid _ := Ok.row' hb1 rr
    have HB1 : Hid (Ok w0 w1) := Ok.step (by repeat (first | exact hok | refine Ok.alloc ?_ _ | refine Ok.draws ?_ _ | fail)) hb1
    clear rr hb1 hok
    go_wp2_with fail
    refine (cconst_any _ w1 w1 (Ok.refl _)).mono ?_
    rintro e w2 ⟨rfl, hb2⟩
    have HR2 : Hid _ := Ok.row' hb2 HR1.out
    have HB2 : Hid (Ok w0 w2) := Ok.step HB1.out hb2
    obtain ⟨c0, c1, c2, c3⟩ := row_facts HR2.out
    unfold cv
    go_wp2_with fail
    (try simp only [Exit.inBlock, Exit.then])
    refine bodyPost_ret (results_cell_row rfl _ _ (w.heap.size + 1) 26 #[_, _] (0, 0) _ rfl (row_set2 HR2.out _ _) Tryz.underlying26 rfl infoCg) rfl ?_
    rw [E.out]
    refine ⟨?_, (HB2.out.set (show w0.heap.size ≤ w.heap.size + 1 by omega) _).set (show w0.heap.size ≤ w.heap.size + 1 by omega) _⟩
    first | rfl | (rw [show IntKind.i64.wrap (-V1) = wrap64 (-V1) by rw [IntKind.wrap_i64]; unfold wrap64; omega]; rfl)
  · have E : Hid (negC M R ex = (byG M ex, restN (rF M R) true (byG M ex))) := by unfold Hid negC; rw [if_neg hz]
    have hz1 : ((M : Int) == 0) = false := by simp; omega
    have HM : Hid (0 < M ∧ Big M ∧ Big (rF M R)) := by
      have a := HU.out.1
      have b := rF_rng HU.out.1 HU.out.2
      unfold U64 at a; unfold Hid Big; omega
    obtain ⟨f1, hf1⟩ : ∃ f, f = rF M R := ⟨_, rfl⟩
    obtain ⟨s1, hs1⟩ : ∃ s, s = rS M R := ⟨_, rfl⟩
    rw [← hf1] at E HM
    have HF : Hid _ := And.intro hf1 hs1
    clear hf1 hs1 hz
    unfold cv
    go_enter Tryz.func74, Tryz.ntmps74
    go_wp2_with fail
    obtain ⟨W, hW⟩ : ∃ W, W = (w.alloc (.cells #[.int .u64 (M : Int), .int .u64 (R : Int)] 26)).alloc (.cells #[.int .u64 0, .int .u64 0] 26) := ⟨_, rfl⟩
    have ra : W.heap[w.heap.size]? = some (.cells #[.int .u64 (M : Int), .int .u64 (R : Int)] 26) := by rw [hW]; exact (by repeat (first | (refine heap_at _ _ _ ?hx; case hx => (first | (simp; done) | (simp; omega))) | (refine heap_past _ _ _ ?hy ?_; case hy => (first | (simp; done) | (simp; omega))) | fail))
    have rr : W.heap[w.heap.size + 1]? = some (.cells #[.int .u64 0, .int .u64 0] 26) := by rw [hW]; exact (by repeat (first | (refine heap_at _ _ _ ?hx; case hx => (first | (simp; done) | (simp; omega))) | (refine heap_past _ _ _ ?hy ?_; case hy => (first | (simp; done) | (simp; omega))) | fail))
    have HW : Hid (Ok w0 W) := by rw [hW]; exact (by repeat (first | exact hok | refine Ok.alloc ?_ _ | refine Ok.draws ?_ _ | fail))
    rw [← hW]
    clear hW hok
    obtain ⟨a0, a1, _, _⟩ := row_facts ra
    have z0 := lt_row ra
    have HR : Hid _ := rr
    clear ra rr
    refine (cr_any M R HU.out.1 HU.out.2 W W (Ok.refl _)).mono ?_
    rintro e w1 ⟨rfl, hb1⟩
    rw [← HF.out.1, ← HF.out.2]
    have a0' := Ok.cell hb1 z0 a0; have a1' := Ok.cell hb1 z0 a1
    have lz := hb1.le
    have y0 : w.heap.size < w1.heap.size := by omega
    have y2 : ¬ w.heap.size = w1.heap.size := by omega
    unfold iv
    go_wp2_with fail
    obtain ⟨Z, hZ⟩ : ∃ Z, Z = w1.alloc (.cells #[.int .u64 (hiB f1), .int .u64 (loB f1), .bool true] 104) := ⟨_, rfl⟩
    obtain ⟨gy, hgy⟩ : ∃ gy, gy = w1.heap.size := ⟨_, rfl⟩
    have ry : Z.heap[gy]? = some (.cells #[.int .u64 (hiB f1), .int .u64 (loB f1), .bool true] 104) := by rw [hZ]; exact heap_at _ _ _ hgy
    have okZ : Ok W Z := by rw [hZ]; exact hb1.alloc _
    rw [← hZ, ← hgy]
    have n1 : ¬ w.heap.size + 1 = gy := by have := lt_row (Ok.row' hb1 HR.out); omega
    have n2 : ¬ w.heap.size + 1 = w.heap.size := by omega
    clear hZ hgy y0 y2 lz a0' a1'
    have HRZ : Hid _ := Ok.row' okZ HR.out
    have HWZ : Hid (Ok w0 Z) := HW.out.step okZ
    have p0 := Ok.cell okZ z0 a0
    have l0 : w.heap.size < Z.heap.size := Nat.lt_of_lt_of_le z0 okZ.le
    obtain ⟨p3, p4, p5, _⟩ := row3_facts ry
    have l2 := lt_row ry
    clear ry okZ a0 a1 z0
    have bz : Ok Z Z := Ok.refl _
    go_region_held3 (fun w' => w'.cell? ⟨w.heap.size, 0, none⟩ = some (.int .u64 (M : Int)) ∧ w'.cell? ⟨gy, 0, none⟩ = some (.int .u64 (hiB f1)) ∧ w'.cell? ⟨gy, 1, none⟩ = some (.int .u64 (loB f1)) ∧ w'.cell? ⟨gy, 2, none⟩ = some (.bool true)) (go_keep)
      (first
      | (go_at_call 119; refine (bof_any M HU.out.1 Z _ (by repeat (first | assumption | refine Ok.alloc ?_ _ | refine Below.drew ?_))).mono ?_; rintro e w' ⟨rfl, hb⟩; have q0 := Ok.cell hb l0 p0; have q3 := Ok.cell hb l2 p3; have q4 := Ok.cell hb l2 p4; have q5 := Ok.cell hb l2 p5; obtain ⟨c0, c1, c2, c3⟩ := row_facts (Ok.row' hb HRZ.out))
      | (go_at_call 134; refine (cby_any f1 true M ex HM.out.2.2 HM.out.2.1 HM.out.1 Z _ (by repeat (first | assumption | refine Ok.alloc ?_ _ | refine Below.drew ?_))).mono ?_; rintro e w' ⟨rfl, hb⟩; unfold cv; have q0 := Ok.cell hb l0 p0; have q3 := Ok.cell hb l2 p3; have q4 := Ok.cell hb l2 p4; have q5 := Ok.cell hb l2 p5; obtain ⟨c0, c1, c2, c3⟩ := row_facts (Ok.row' hb HRZ.out))
      | fail)
    have HR2 : Hid _ := Ok.row' hb HRZ.out
    have HB2 : Hid (Ok w0 w') := HWZ.out.step hb
    go_wp2_with fail
    (try simp only [Exit.inBlock, Exit.then])
    refine bodyPost_ret (results_cell_row rfl _ _ (w.heap.size + 1) 26 #[_, _] (0, 0) _ rfl (row_set2 HR2.out _ _) Tryz.underlying26 rfl infoCg) rfl ?_
    rw [E.out]
    exact ⟨rfl, (HB2.out.set (show w0.heap.size ≤ w.heap.size + 1 by omega) _).set (show w0.heap.size ≤ w.heap.size + 1 by omega) _⟩
end Go.Proofs.YtbclkkpddomoiaaGreat
