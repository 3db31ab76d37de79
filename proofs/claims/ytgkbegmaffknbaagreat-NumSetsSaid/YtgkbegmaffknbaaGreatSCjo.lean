import Derived.Test.YtgkbegmaffknbaaGreatSCset
set_option linter.unusedVariables false
set_option linter.unusedSimpArgs false
set_option linter.unnecessarySimpa false
/- Cjo -/
namespace Go.Proofs.YtgkbegmaffknbaaGreat
open Go.RowKit
set_option maxRecDepth 100000 in
set_option maxHeartbeats 2000000 in
theorem chas_any (M R : Nat) (v : Int) (h1 : U64 M) (h2 : U64 R) (w0 w : World) (hok : Ok w0 w) :
    Calls Tryz.prog 70 #[cv M R, .int .i64 v] w fun e w' => e = .returned (.bool (hasC M R v)) ∧ Ok w0 w' := by
  have hle := hok.le
  have HU : Hid _ := And.intro h1 h2
  clear h1 h2
  unfold cv
  go_enter Tryz.func70, Tryz.ntmps70
  go_wp2_with fail
  obtain ⟨W, hW⟩ : ∃ W, W = w.alloc (.cells #[.int .u64 (M : Int), .int .u64 (R : Int)] 26) := ⟨_, rfl⟩
  have ra : W.heap[w.heap.size]? = some (.cells #[.int .u64 (M : Int), .int .u64 (R : Int)] 26) := by rw [hW]; exact (by repeat (first | (refine heap_at _ _ _ ?hx; case hx => (first | (simp; done) | (simp; omega))) | (refine heap_past _ _ _ ?hy ?_; case hy => (first | (simp; done) | (simp; omega))) | fail))
  have HW : Hid (Ok w0 W) := by rw [hW]; exact (by repeat (first | exact hok | refine Ok.alloc ?_ _ | refine Ok.draws ?_ _ | fail))
  rw [← hW]
  clear hW hok
  obtain ⟨g0, g1, _, _⟩ := row_facts ra
  have z0 := lt_row ra
  clear ra
  have bz : Ok W W := Ok.refl _
  go_region_held3 (fun w' => w'.cell? ⟨w.heap.size, 0, none⟩ = some (.int .u64 (M : Int)) ∧ w'.cell? ⟨w.heap.size, 1, none⟩ = some (.int .u64 (R : Int))) (go_keep)
    (first
    | (go_at_call 67; refine (cconst_any v W _ (by repeat (first | assumption | refine Ok.alloc ?_ _ | refine Below.drew ?_))).mono ?_; rintro e w' ⟨rfl, hb⟩; have q0 := Ok.cell hb z0 g0; have q1 := Ok.cell hb z0 g1)
    | (go_at_call 72; refine (cleq_any 0 (bitsN v) M R (by unfold U64; omega) (bitsN_u64 v) HU.out.1 HU.out.2 W _ (by repeat (first | assumption | refine Ok.alloc ?_ _ | refine Below.drew ?_))).mono ?_; rintro e w' ⟨rfl, hb⟩; have q0 := Ok.cell hb z0 g0; have q1 := Ok.cell hb z0 g1)
    | fail)
  go_wp2_with fail
  go_ret
  exact ⟨rfl, by repeat (first | exact HW.out.step hb | refine Ok.draws ?_ _)⟩
def mHi (x y z t : Int) : Int := if y < t then IntKind.u64.wrap (IntKind.u64.wrap (x - z) - 1) else IntKind.u64.wrap (x - z)
def mLo (y t : Int) : Int := IntKind.u64.wrap (y - t)
theorem mHi_val {a b : Nat} (ha : Big a) (hb : Big b) : mHi (hiB a) (loB a) (hiB b) (loB b) = hiB (subB a b) := by
  unfold mHi
  by_cases h : loB a < loB b
  · rw [if_pos h, wrap2, (sub_c ha hb h).1]
  · rw [if_neg h, u64w, (sub_n ha hb h).1]
theorem mLo_val {a b : Nat} (ha : Big a) (hb : Big b) : mLo (loB a) (loB b) = loB (subB a b) := by
  unfold mLo
  by_cases h : loB a < loB b
  · rw [u64w, (sub_c ha hb h).2]
  · rw [u64w, (sub_n ha hb h).2]
set_option maxHeartbeats 400000 in
theorem bminus_raw (x y z t : Int) (w0 w : World) (hok : Ok w0 w) :
    Calls Tryz.prog 137 #[.agg #[.int .u64 x, .int .u64 y], .agg #[.int .u64 z, .int .u64 t]] w fun e w' => e = .returned (.agg #[.int .u64 (mHi x y z t), .int .u64 (mLo y t)]) ∧ Ok w0 w' := by
  by_cases h : y < t
  · have E : Hid (mHi x y z t = IntKind.u64.wrap (IntKind.u64.wrap (x - z) - 1)) := by unfold Hid mHi; rw [if_pos h]
    go_enter Tryz.func137, Tryz.ntmps137
    go_wp2
    (try simp only [Exit.inBlock, Exit.then]); refine bodyPost_ret (results_cell_row rfl _ _ (w.heap.size + 2) 115 #[_, _] (0, 0) _ rfl (by repeat (first | (refine heap_at _ _ _ ?hx; case hx => (first | (simp; done) | (simp; omega))) | (refine heap_past _ _ _ ?hy ?_; case hy => (first | (simp; done) | (simp; omega))) | fail)) Tryz.underlying115 rfl infoBg) rfl ?_
    rw [E.out]
    exact ⟨rfl, (by repeat (first | exact hok | refine Ok.alloc ?_ _ | refine Ok.draws ?_ _ | fail))⟩
  · have E : Hid (mHi x y z t = IntKind.u64.wrap (x - z)) := by unfold Hid mHi; rw [if_neg h]
    go_enter Tryz.func137, Tryz.ntmps137
    go_wp2
    (try simp only [Exit.inBlock, Exit.then]); refine bodyPost_ret (results_cell_row rfl _ _ (w.heap.size + 2) 115 #[_, _] (0, 0) _ rfl (by repeat (first | (refine heap_at _ _ _ ?hx; case hx => (first | (simp; done) | (simp; omega))) | (refine heap_past _ _ _ ?hy ?_; case hy => (first | (simp; done) | (simp; omega))) | fail)) Tryz.underlying115 rfl infoBg) rfl ?_
    rw [E.out]
    exact ⟨rfl, (by repeat (first | exact hok | refine Ok.alloc ?_ _ | refine Ok.draws ?_ _ | fail))⟩
/-- How far two whole numbers are from one another. -/
def apartN (f1 : Nat) (s1 : Bool) (f2 : Nat) (s2 : Bool) : Nat := if s1 = s2 then (if f1 < f2 then f2 - f1 else f1 - f2) else f1 + f2
theorem apart_val (f1 : Nat) (s1 : Bool) (f2 : Nat) (s2 : Bool) : apartN f1 s1 f2 s2 = (sval f1 s1 - sval f2 s2).natAbs := by
  unfold apartN sval
  cases s1 <;> cases s2 <;> simp <;> first | omega | (split <;> omega)
set_option maxRecDepth 100000 in
set_option maxHeartbeats 2000000 in
theorem capart_any (f1 : Nat) (s1 : Bool) (f2 : Nat) (s2 : Bool) (h1 : U64 f1) (h2 : U64 f2) (w0 w : World) (hok : Ok w0 w) :
    Calls Tryz.prog 131 #[iv f1 s1, iv f2 s2] w fun e w' => e = .returned (bv (apartN f1 s1 f2 s2)) ∧ Ok w0 w' := by
  have hle := hok.le
  have HB : Hid (Big f1 ∧ Big f2) := by unfold U64 at *; unfold Hid Big; omega
  have HU : Hid _ := And.intro h1 h2
  clear h1 h2
  unfold iv bv
  by_cases hs : s1 = s2
  · have hs1 : (s1 == s2) = true := by simp [hs]
    by_cases hl : f1 < f2
    · have E : Hid (apartN f1 s1 f2 s2 = subB f2 f1) := by unfold Hid apartN; rw [if_pos hs, if_pos hl, subB_le HB.out.2 (by omega)]
      have dl : decide (f1 < f2) = true := decide_eq_true hl
      subst hs
      clear hl hs1
      go_enter Tryz.func131, Tryz.ntmps131
      go_wp2_with fail
      obtain ⟨W, hW⟩ : ∃ W, W = ((w.alloc (.cells #[.int .u64 (hiB f1), .int .u64 (loB f1), .bool s1] 118)).alloc (.cells #[.int .u64 (hiB f2), .int .u64 (loB f2), .bool s1] 118)).alloc (.cells #[.int .u64 0, .int .u64 0] 115) := ⟨_, rfl⟩
      have ra : W.heap[w.heap.size]? = some (.cells #[.int .u64 (hiB f1), .int .u64 (loB f1), .bool s1] 118) := by rw [hW]; exact (by repeat (first | (refine heap_at _ _ _ ?hx; case hx => (first | (simp; done) | (simp; omega))) | (refine heap_past _ _ _ ?hy ?_; case hy => (first | (simp; done) | (simp; omega))) | fail))
      have rb : W.heap[w.heap.size + 1]? = some (.cells #[.int .u64 (hiB f2), .int .u64 (loB f2), .bool s1] 118) := by rw [hW]; exact (by repeat (first | (refine heap_at _ _ _ ?hx; case hx => (first | (simp; done) | (simp; omega))) | (refine heap_past _ _ _ ?hy ?_; case hy => (first | (simp; done) | (simp; omega))) | fail))
      have rr : W.heap[w.heap.size + 2]? = some (cB 0) := by rw [hW, cB_zero]; exact (by repeat (first | (refine heap_at _ _ _ ?hx; case hx => (first | (simp; done) | (simp; omega))) | (refine heap_past _ _ _ ?hy ?_; case hy => (first | (simp; done) | (simp; omega))) | fail))
      have HW : Hid (Ok w0 W) := by rw [hW]; exact (by repeat (first | exact hok | refine Ok.alloc ?_ _ | refine Ok.draws ?_ _ | fail))
      rw [← hW]
      clear hW hok
      have HR : Hid _ := And.intro ra (And.intro rb rr)
      clear ra rb rr
      refine (bless_any f1 f2 W W (Ok.refl _)).mono ?_
      rintro e w1 ⟨rfl, hb1⟩
      rw [dl]
      obtain ⟨a0, a1, a2, _⟩ := row3_facts (Ok.row' hb1 HR.out.1)
      obtain ⟨b0, b1, b2, _⟩ := row3_facts (Ok.row' hb1 HR.out.2.1)
      clear dl
      go_wp2_with fail
      refine (bminus_any f2 f1 HB.out.2 HB.out.1 w1 w1 (Ok.refl _)).mono ?_
      rintro e w2 ⟨rfl, hb2⟩
      have HR2 : Hid _ := Ok.row' hb2 (Ok.row' hb1 HR.out.2.2)
      have HB2 : Hid (Ok w0 w2) := Ok.step (HW.out.step hb1) hb2
      obtain ⟨c0, c1, c2, c3⟩ := cB_facts HR2.out
      unfold bv
      go_wp2_with fail
      (try simp only [Exit.inBlock, Exit.then])
      refine bodyPost_ret (results_cell_row rfl _ _ (w.heap.size + 2) 115 #[_, _] (0, 0) _ rfl (row_set2 HR2.out _ _) Tryz.underlying115 rfl infoBg) rfl ?_
      rw [E.out]
      exact ⟨rfl, (HB2.out.set (show w0.heap.size ≤ w.heap.size + 2 by omega) _).set (show w0.heap.size ≤ w.heap.size + 2 by omega) _⟩
    · have E : Hid (apartN f1 s1 f2 s2 = subB f1 f2) := by unfold Hid apartN; rw [if_pos hs, if_neg hl, subB_le HB.out.1 (by omega)]
      have dl : decide (f1 < f2) = false := decide_eq_false hl
      subst hs
      clear hl hs1
      go_enter Tryz.func131, Tryz.ntmps131
      go_wp2_with fail
      obtain ⟨W, hW⟩ : ∃ W, W = ((w.alloc (.cells #[.int .u64 (hiB f1), .int .u64 (loB f1), .bool s1] 118)).alloc (.cells #[.int .u64 (hiB f2), .int .u64 (loB f2), .bool s1] 118)).alloc (.cells #[.int .u64 0, .int .u64 0] 115) := ⟨_, rfl⟩
      have ra : W.heap[w.heap.size]? = some (.cells #[.int .u64 (hiB f1), .int .u64 (loB f1), .bool s1] 118) := by rw [hW]; exact (by repeat (first | (refine heap_at _ _ _ ?hx; case hx => (first | (simp; done) | (simp; omega))) | (refine heap_past _ _ _ ?hy ?_; case hy => (first | (simp; done) | (simp; omega))) | fail))
      have rb : W.heap[w.heap.size + 1]? = some (.cells #[.int .u64 (hiB f2), .int .u64 (loB f2), .bool s1] 118) := by rw [hW]; exact (by repeat (first | (refine heap_at _ _ _ ?hx; case hx => (first | (simp; done) | (simp; omega))) | (refine heap_past _ _ _ ?hy ?_; case hy => (first | (simp; done) | (simp; omega))) | fail))
      have rr : W.heap[w.heap.size + 2]? = some (cB 0) := by rw [hW, cB_zero]; exact (by repeat (first | (refine heap_at _ _ _ ?hx; case hx => (first | (simp; done) | (simp; omega))) | (refine heap_past _ _ _ ?hy ?_; case hy => (first | (simp; done) | (simp; omega))) | fail))
      have HW : Hid (Ok w0 W) := by rw [hW]; exact (by repeat (first | exact hok | refine Ok.alloc ?_ _ | refine Ok.draws ?_ _ | fail))
      rw [← hW]
      clear hW hok
      have HR : Hid _ := And.intro ra (And.intro rb rr)
      clear ra rb rr
      refine (bless_any f1 f2 W W (Ok.refl _)).mono ?_
      rintro e w1 ⟨rfl, hb1⟩
      rw [dl]
      obtain ⟨a0, a1, a2, _⟩ := row3_facts (Ok.row' hb1 HR.out.1)
      obtain ⟨b0, b1, b2, _⟩ := row3_facts (Ok.row' hb1 HR.out.2.1)
      clear dl
      go_wp2_with fail
      refine (bminus_any f1 f2 HB.out.1 HB.out.2 w1 w1 (Ok.refl _)).mono ?_
      rintro e w2 ⟨rfl, hb2⟩
      have HR2 : Hid _ := Ok.row' hb2 (Ok.row' hb1 HR.out.2.2)
      have HB2 : Hid (Ok w0 w2) := Ok.step (HW.out.step hb1) hb2
      obtain ⟨c0, c1, c2, c3⟩ := cB_facts HR2.out
      unfold bv
      go_wp2_with fail
      (try simp only [Exit.inBlock, Exit.then])
      refine bodyPost_ret (results_cell_row rfl _ _ (w.heap.size + 2) 115 #[_, _] (0, 0) _ rfl (row_set2 HR2.out _ _) Tryz.underlying115 rfl infoBg) rfl ?_
      rw [E.out]
      exact ⟨rfl, (HB2.out.set (show w0.heap.size ≤ w.heap.size + 2 by omega) _).set (show w0.heap.size ≤ w.heap.size + 2 by omega) _⟩
  · have hs1 : (s1 == s2) = false := by simp [hs]
    have E : Hid (apartN f1 s1 f2 s2 = subB f1 (subB 0 f2)) := by
      have := HU.out; unfold U64 at this
      unfold Hid apartN subB; rw [if_neg hs]; omega
    go_enter Tryz.func131, Tryz.ntmps131
    go_wp2_with fail
    obtain ⟨W, hW⟩ : ∃ W, W = ((w.alloc (.cells #[.int .u64 (hiB f1), .int .u64 (loB f1), .bool s1] 118)).alloc (.cells #[.int .u64 (hiB f2), .int .u64 (loB f2), .bool s2] 118)).alloc (.cells #[.int .u64 0, .int .u64 0] 115) := ⟨_, rfl⟩
    have ra : W.heap[w.heap.size]? = some (.cells #[.int .u64 (hiB f1), .int .u64 (loB f1), .bool s1] 118) := by rw [hW]; exact (by repeat (first | (refine heap_at _ _ _ ?hx; case hx => (first | (simp; done) | (simp; omega))) | (refine heap_past _ _ _ ?hy ?_; case hy => (first | (simp; done) | (simp; omega))) | fail))
    have rb : W.heap[w.heap.size + 1]? = some (.cells #[.int .u64 (hiB f2), .int .u64 (loB f2), .bool s2] 118) := by rw [hW]; exact (by repeat (first | (refine heap_at _ _ _ ?hx; case hx => (first | (simp; done) | (simp; omega))) | (refine heap_past _ _ _ ?hy ?_; case hy => (first | (simp; done) | (simp; omega))) | fail))
    have rr : W.heap[w.heap.size + 2]? = some (cB 0) := by rw [hW, cB_zero]; exact (by repeat (first | (refine heap_at _ _ _ ?hx; case hx => (first | (simp; done) | (simp; omega))) | (refine heap_past _ _ _ ?hy ?_; case hy => (first | (simp; done) | (simp; omega))) | fail))
    have HW : Hid (Ok w0 W) := by rw [hW]; exact (by repeat (first | exact hok | refine Ok.alloc ?_ _ | refine Ok.draws ?_ _ | fail))
    rw [← hW]
    clear hW hok
    have HR : Hid _ := And.intro ra (And.intro rb rr)
    obtain ⟨a0, a1, a2, _⟩ := row3_facts ra
    obtain ⟨b0, b1, b2, _⟩ := row3_facts rb
    have z0 := lt_row ra
    have z1 := lt_row rb
    clear ra rb rr
    have bz : Ok W W := Ok.refl _
    have n1 : ¬ w.heap.size + 2 = w.heap.size := by omega
    have n2 : ¬ w.heap.size + 2 = w.heap.size + 1 := by omega
    have n3 : ¬ w.heap.size + 1 + 1 = w.heap.size := by omega
    have n4 : ¬ w.heap.size + 1 + 1 = w.heap.size + 1 := by omega
    have HX : Hid (mHi (hiB f1) (loB f1) (mHi 0 0 (hiB f2) (loB f2)) (mLo 0 (loB f2)) = hiB (subB f1 (subB 0 f2)) ∧ mLo (loB f1) (mLo 0 (loB f2)) = loB (subB f1 (subB 0 f2))) := by
      have z : Big 0 := by unfold Big; omega
      have e1 := mHi_val z HB.out.2
      have e2 := mLo_val z HB.out.2
      rw [show hiB 0 = 0 from rfl, show loB 0 = 0 from rfl] at e1
      rw [show loB 0 = 0 from rfl] at e2
      unfold Hid
      rw [e1, e2]
      exact ⟨mHi_val HB.out.1 (subB_big _ _), mLo_val HB.out.1 (subB_big _ _)⟩
    go_region_held3 (fun w' => w'.cell? ⟨w.heap.size, 0, none⟩ = some (.int .u64 (hiB f1)) ∧ w'.cell? ⟨w.heap.size, 1, none⟩ = some (.int .u64 (loB f1)) ∧ w'.cell? ⟨w.heap.size + 1, 0, none⟩ = some (.int .u64 (hiB f2)) ∧ w'.cell? ⟨w.heap.size + 1, 1, none⟩ = some (.int .u64 (loB f2))) (go_keep)
      (first
      | (go_at_call 137; refine (bminus_raw _ _ _ _ W _ (by repeat (first | assumption | refine Ok.alloc ?_ _ | refine Below.drew ?_))).mono ?_; rintro e w' ⟨rfl, hb⟩; have q0 := Ok.cell hb z0 a0; have q1 := Ok.cell hb z0 a1; have q2 := Ok.cell hb z1 b0; have q3 := Ok.cell hb z1 b1; obtain ⟨c0, c1, c2, c3⟩ := cB_facts (Ok.row' hb HR.out.2.2))
      | fail)
    have HR2 : Hid _ := Ok.row' hb HR.out.2.2
    have HB2 : Hid (Ok w0 w') := HW.out.step hb
    go_wp2_with fail
    (try simp only [Exit.inBlock, Exit.then])
    refine bodyPost_ret (results_cell_row rfl _ _ (w.heap.size + 2) 115 #[_, _] (0, 0) _ rfl (row_set2 HR2.out _ _) Tryz.underlying115 rfl infoBg) rfl ?_
    rw [E.out, ← HX.out.1, ← HX.out.2]
    exact ⟨rfl, (HB2.out.set (show w0.heap.size ≤ w.heap.size + 2 by omega) _).set (show w0.heap.size ≤ w.heap.size + 2 by omega) _⟩
end Go.Proofs.YtgkbegmaffknbaaGreat
