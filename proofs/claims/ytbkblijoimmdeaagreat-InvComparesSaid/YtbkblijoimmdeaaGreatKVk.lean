import Derived.Deep.Cut
import Derived.Deep.CutRange
import Derived.Test.YtbkblijoimmdeaaGreatKRn
import Derived.Test.YtbkblijoimmdeaaGreatKVh
import Derived.Test.YtbkblijoimmdeaaGreatKVj
set_option linter.unusedVariables false
set_option linter.unusedSimpArgs false
set_option linter.unnecessarySimpa false
/- Vk -/
namespace Go.Proofs.YtbkblijoimmdeaaGreat
open Go.RowKit Go.Shelf
theorem opc_lt : OpC 8 := Or.inl rfl
theorem tk_solve : ansN (meetN (makeN 0 10 1 0) (subA (constN 5) (makeN 1 2 1 0))) (meetN (makeN 1 2 1 0) (subA (constN 5) (makeN 0 10 1 0))) = (makeN 3 4 1 0, makeN 1 2 1 0) := by kernel_rfl
theorem tk_comp : cmpA 8 (normN (makeN 0 9 1 0)) (normN (makeN 0 5 1 0)) = (makeN 0 4 1 0, makeN 1 5 1 0) := by kernel_rfl
theorem tk_n1 : normN (makeN 0 10 1 0) = makeN 0 10 1 0 := by kernel_rfl
theorem tk_n2 : normN (makeN 1 2 1 0) = makeN 1 2 1 0 := by kernel_rfl
theorem tk_n3 : normN (constN 5) = constN 5 := by kernel_rfl
theorem in_small {v : Int} (h : 0 ≤ v ∧ v ≤ 10) : In64 v := by unfold In64; omega

set_option maxRecDepth 100000 in
set_option maxHeartbeats 8000000 in
theorem taken14 (w0 w : World) (hok : Ok w0 w) :
    Calls Tryz.prog 8 #[] w fun e w' => e = .returned (.bool true) ∧ Ok w0 w' := by
  have hle := hok.le
  obtain ⟨a1, ha1⟩ : ∃ t, t = makeN 0 10 1 0 := ⟨_, rfl⟩
  obtain ⟨a2, ha2⟩ : ∃ t, t = makeN 1 2 1 0 := ⟨_, rfl⟩
  obtain ⟨a3, ha3⟩ : ∃ t, t = constN 5 := ⟨_, rfl⟩
  obtain ⟨p, hp⟩ : ∃ t, t = makeN 3 4 1 0 := ⟨_, rfl⟩
  obtain ⟨c1, hc1⟩ : ∃ t, t = makeN 0 9 1 0 := ⟨_, rfl⟩
  obtain ⟨c2, hc2⟩ : ∃ t, t = makeN 0 5 1 0 := ⟨_, rfl⟩
  obtain ⟨s, hs⟩ : ∃ t, t = makeN 0 4 1 0 := ⟨_, rfl⟩
  obtain ⟨t, ht⟩ : ∃ t, t = makeN 1 5 1 0 := ⟨_, rfl⟩
  have RA : Hid (RawN a1 ∧ RawN a2 ∧ RawN a3 ∧ RawN c1 ∧ RawN c2) := by rw [ha1, ha2, ha3, hc1, hc2]; exact ⟨make_raw (in_small (by omega)) (in_small (by omega)) u_one u_zero, make_raw (in_small (by omega)) (in_small (by omega)) u_one u_zero, const_raw (in_small (by omega)), make_raw (in_small (by omega)) (in_small (by omega)) u_one u_zero, make_raw (in_small (by omega)) (in_small (by omega)) u_one u_zero⟩
  have NA : Hid (normN a1 = a1 ∧ normN a2 = a2 ∧ normN a3 = a3) := by rw [ha1, ha2, ha3]; exact ⟨tk_n1, tk_n2, tk_n3⟩
  have BA : Hid (a1.2.2.2.2 = false ∧ a2.2.2.2.2 = false ∧ a3.2.2.2.2 = false) := by rw [ha1, ha2, ha3]; exact ⟨by kernel_rfl, by kernel_rfl, by kernel_rfl⟩
  have ES : Hid (ansN (meetN a1 (subA a3 a2)) (meetN a2 (subA a3 a1)) = (p, a2)) := by rw [ha1, ha2, ha3, hp]; exact tk_solve
  have EC : Hid (cmpA 8 (normN c1) (normN c2) = (s, t)) := by rw [hc1, hc2, hs, ht]; exact tk_comp
  have HA1 : Hid _ := ha1
  have HA2 : Hid _ := ha2
  have HA3 : Hid _ := ha3
  have HP : Hid _ := hp
  have HC1 : Hid _ := hc1
  have HC2 : Hid _ := hc2
  have HS : Hid _ := hs
  have HT : Hid _ := ht
  clear ha1 ha2 ha3 hp hc1 hc2 hs ht
  go_enter Tryz.func8, Tryz.ntmps8
  go_wp2_with fail
  refine (rrange_any 0 10 (in_small (by omega)) (in_small (by omega)) w _ (Ok.refl _)).mono ?_
  rintro e w1 ⟨rfl, hb⟩
  rw [← HA1.out]
  unfold nv
  have Hw1 : Hid (Ok w0 w1) := hok.step hb
  clear hb
  go_wp2_with fail
  refine (rrange_any 1 2 (in_small (by omega)) (in_small (by omega)) w1 _ (Ok.refl _)).mono ?_
  rintro e w2 ⟨rfl, hb⟩
  rw [← HA2.out]
  unfold nv
  have Hw2 : Hid (Ok w0 w2) := Hw1.out.step hb
  clear hb Hw1
  go_wp2_with fail
  refine (rconst_any 5 w2 _ (Ok.refl _)).mono ?_
  rintro e w3 ⟨rfl, hb⟩
  rw [← HA3.out]
  unfold nv
  have Hw3 : Hid (Ok w0 w3) := Hw2.out.step hb
  clear hb Hw2
  go_wp2_with fail
  refine (vSolve_add a1 a2 a3 RA.out.1 RA.out.2.1 RA.out.2.2.1 NA.out.1 NA.out.2.1 NA.out.2.2 BA.out.1 BA.out.2.1 BA.out.2.2 w3 _ (Ok.refl _)).mono ?_
  rintro e w4 ⟨rfl, hb⟩
  rw [ES.out]
  unfold nv
  have Hw4 : Hid (Ok w0 w4) := Hw3.out.step hb
  clear hb Hw3
  go_upto_region 2 with (fail)
  obtain ⟨x1, hx1⟩ : ∃ W, W = (w4.alloc (.cells #[.bool p.2.2.2.2, .int .i64 p.1, .int .i64 p.2.1, .int .u64 (p.2.2.1 : Int), .int .u64 (p.2.2.2.1 : Int)] 29)).alloc (.cells #[.bool a2.2.2.2.2, .int .i64 a2.1, .int .i64 a2.2.1, .int .u64 (a2.2.2.1 : Int), .int .u64 (a2.2.2.2.1 : Int)] 29) := ⟨_, rfl⟩
  have rg1 : Hid (x1.heap[w4.heap.size]? = some (.cells #[.bool p.2.2.2.2, .int .i64 p.1, .int .i64 p.2.1, .int .u64 (p.2.2.1 : Int), .int .u64 (p.2.2.2.1 : Int)] 29)) := by unfold Hid; rw [hx1]; exact (by repeat (first | (refine heap_at _ _ _ ?hx; case hx => (first | (simp; done) | (simp; omega))) | (refine heap_past _ _ _ ?hy ?_; case hy => (first | (simp; done) | (simp; omega))) | fail))
  have rg2 : Hid (x1.heap[w4.heap.size + 1]? = some (.cells #[.bool a2.2.2.2.2, .int .i64 a2.1, .int .i64 a2.2.1, .int .u64 (a2.2.2.1 : Int), .int .u64 (a2.2.2.2.1 : Int)] 29)) := by unfold Hid; rw [hx1]; exact (by repeat (first | (refine heap_at _ _ _ ?hx; case hx => (first | (simp; done) | (simp; omega))) | (refine heap_past _ _ _ ?hy ?_; case hy => (first | (simp; done) | (simp; omega))) | fail))
  have hO : Ok w4 x1 := by rw [hx1]; exact ((Ok.refl _).alloc _).alloc _
  rw [← hx1]
  obtain ⟨g2, eg2⟩ : ∃ g, g = w4.heap.size + 1 := ⟨_, rfl⟩
  rw [← eg2] at rg2 ⊢
  obtain ⟨g1, eg1⟩ : ∃ g, g = w4.heap.size := ⟨_, rfl⟩
  rw [← eg1] at rg1 ⊢
  clear hx1 eg1 eg2
  have Hx1 : Hid (Ok w0 x1) := Hw4.out.step hO
  clear hO Hw4
  go_wp2_with fail
  refine (rrange_any 0 9 (in_small (by omega)) (in_small (by omega)) x1 _ (Ok.refl _)).mono ?_
  rintro e w5 ⟨rfl, hb⟩
  rw [← HC1.out]
  unfold nv
  replace rg1 : Hid _ := Ok.row' hb rg1.out
  replace rg2 : Hid _ := Ok.row' hb rg2.out
  have Hw5 : Hid (Ok w0 w5) := Hx1.out.step hb
  clear hb Hx1
  go_wp2_with fail
  refine (rrange_any 0 5 (in_small (by omega)) (in_small (by omega)) w5 _ (Ok.refl _)).mono ?_
  rintro e w6 ⟨rfl, hb⟩
  rw [← HC2.out]
  unfold nv
  replace rg1 : Hid _ := Ok.row' hb rg1.out
  replace rg2 : Hid _ := Ok.row' hb rg2.out
  have Hw6 : Hid (Ok w0 w6) := Hw5.out.step hb
  clear hb Hw5
  go_wp2_with fail
  refine (vCompare_any 8 opc_lt c1 c2 RA.out.2.2.2.1 RA.out.2.2.2.2 w6 _ (Ok.refl _)).mono ?_
  rintro e w7 ⟨rfl, hb⟩
  rw [EC.out]
  unfold nv
  replace rg1 : Hid _ := Ok.row' hb rg1.out
  replace rg2 : Hid _ := Ok.row' hb rg2.out
  have Hw7 : Hid (Ok w0 w7) := Hw6.out.step hb
  clear hb Hw6
  go_upto_region 3 with (fail)
  obtain ⟨x2, hx2⟩ : ∃ W, W = (w7.alloc (.cells #[.bool s.2.2.2.2, .int .i64 s.1, .int .i64 s.2.1, .int .u64 (s.2.2.1 : Int), .int .u64 (s.2.2.2.1 : Int)] 29)).alloc (.cells #[.bool t.2.2.2.2, .int .i64 t.1, .int .i64 t.2.1, .int .u64 (t.2.2.1 : Int), .int .u64 (t.2.2.2.1 : Int)] 29) := ⟨_, rfl⟩
  have rg4 : Hid (x2.heap[w7.heap.size]? = some (.cells #[.bool s.2.2.2.2, .int .i64 s.1, .int .i64 s.2.1, .int .u64 (s.2.2.1 : Int), .int .u64 (s.2.2.2.1 : Int)] 29)) := by unfold Hid; rw [hx2]; exact (by repeat (first | (refine heap_at _ _ _ ?hx; case hx => (first | (simp; done) | (simp; omega))) | (refine heap_past _ _ _ ?hy ?_; case hy => (first | (simp; done) | (simp; omega))) | fail))
  have rg5 : Hid (x2.heap[w7.heap.size + 1]? = some (.cells #[.bool t.2.2.2.2, .int .i64 t.1, .int .i64 t.2.1, .int .u64 (t.2.2.1 : Int), .int .u64 (t.2.2.2.1 : Int)] 29)) := by unfold Hid; rw [hx2]; exact (by repeat (first | (refine heap_at _ _ _ ?hx; case hx => (first | (simp; done) | (simp; omega))) | (refine heap_past _ _ _ ?hy ?_; case hy => (first | (simp; done) | (simp; omega))) | fail))
  have hO : Ok w7 x2 := by rw [hx2]; exact ((Ok.refl _).alloc _).alloc _
  rw [← hx2]
  obtain ⟨g5, eg5⟩ : ∃ g, g = w7.heap.size + 1 := ⟨_, rfl⟩
  rw [← eg5] at rg5 ⊢
  obtain ⟨g4, eg4⟩ : ∃ g, g = w7.heap.size := ⟨_, rfl⟩
  rw [← eg4] at rg4 ⊢
  clear hx2 eg4 eg5
  replace rg1 : Hid _ := Ok.row' hO rg1.out
  replace rg2 : Hid _ := Ok.row' hO rg2.out
  have Hx2 : Hid (Ok w0 x2) := Hw7.out.step hO
  clear hO Hw7
  go_wp2_with fail
  refine (vNegate_lt x2 _ (Ok.refl _)).mono ?_
  rintro e w8 ⟨rfl, hb⟩
  replace rg1 : Hid _ := Ok.row' hb rg1.out
  replace rg2 : Hid _ := Ok.row' hb rg2.out
  replace rg4 : Hid _ := Ok.row' hb rg4.out
  replace rg5 : Hid _ := Ok.row' hb rg5.out
  have Hw8 : Hid (Ok w0 w8) := Hx2.out.step hb
  clear hb Hx2
  go_wp2_with fail
  obtain ⟨fa0, fa1, fa2, fa3, fa4, fa5, fa6, fa7, fa8, fa9⟩ := row5_facts rg1.out
  have zfa := lt_row rg1.out
  obtain ⟨fb0, fb1, fb2, fb3, fb4, fb5, fb6, fb7, fb8, fb9⟩ := row5_facts rg2.out
  have zfb := lt_row rg2.out
  obtain ⟨fc0, fc1, fc2, fc3, fc4, fc5, fc6, fc7, fc8, fc9⟩ := row5_facts rg4.out
  have zfc := lt_row rg4.out
  obtain ⟨fd0, fd1, fd2, fd3, fd4, fd5, fd6, fd7, fd8, fd9⟩ := row5_facts rg5.out
  have zfd := lt_row rg5.out
  have bz : Ok w8 w8 := Ok.refl _
  go_region_held3 (fun w' => w'.cell? ⟨g1, 0, none⟩ = some (.bool p.2.2.2.2) ∧ w'.cell? ⟨g1, 1, none⟩ = some (.int .i64 p.1) ∧ w'.cell? ⟨g1, 2, none⟩ = some (.int .i64 p.2.1) ∧ w'.cell? ⟨g1, 3, none⟩ = some (.int .u64 (p.2.2.1 : Int)) ∧ w'.cell? ⟨g1, 4, none⟩ = some (.int .u64 (p.2.2.2.1 : Int)) ∧ w'.cell? ⟨g2, 0, none⟩ = some (.bool a2.2.2.2.2) ∧ w'.cell? ⟨g2, 1, none⟩ = some (.int .i64 a2.1) ∧ w'.cell? ⟨g2, 2, none⟩ = some (.int .i64 a2.2.1) ∧ w'.cell? ⟨g2, 3, none⟩ = some (.int .u64 (a2.2.2.1 : Int)) ∧ w'.cell? ⟨g2, 4, none⟩ = some (.int .u64 (a2.2.2.2.1 : Int)) ∧ w'.cell? ⟨g4, 0, none⟩ = some (.bool s.2.2.2.2) ∧ w'.cell? ⟨g4, 1, none⟩ = some (.int .i64 s.1) ∧ w'.cell? ⟨g4, 2, none⟩ = some (.int .i64 s.2.1) ∧ w'.cell? ⟨g4, 3, none⟩ = some (.int .u64 (s.2.2.1 : Int)) ∧ w'.cell? ⟨g4, 4, none⟩ = some (.int .u64 (s.2.2.2.1 : Int)) ∧ w'.cell? ⟨g5, 0, none⟩ = some (.bool t.2.2.2.2) ∧ w'.cell? ⟨g5, 1, none⟩ = some (.int .i64 t.1) ∧ w'.cell? ⟨g5, 2, none⟩ = some (.int .i64 t.2.1) ∧ w'.cell? ⟨g5, 3, none⟩ = some (.int .u64 (t.2.2.1 : Int)) ∧ w'.cell? ⟨g5, 4, none⟩ = some (.int .u64 (t.2.2.2.1 : Int))) (go_keep)
    (first
    | (go_at_call 22; refine (rrange_any _ _ (in_small (by omega)) (in_small (by omega)) w8 _ (by repeat (first | assumption | refine Ok.alloc ?_ _ | refine Below.drew ?_))).mono ?_; rintro e w' ⟨rfl, hb⟩; (first | rw [← HP.out] | rw [← HA2.out] | rw [← HS.out] | rw [← HT.out]); unfold nv; have q0 := Ok.cell hb zfa fa0; have q1 := Ok.cell hb zfa fa1; have q2 := Ok.cell hb zfa fa2; have q3 := Ok.cell hb zfa fa3; have q4 := Ok.cell hb zfa fa4; have q5 := Ok.cell hb zfb fb0; have q6 := Ok.cell hb zfb fb1; have q7 := Ok.cell hb zfb fb2; have q8 := Ok.cell hb zfb fb3; have q9 := Ok.cell hb zfb fb4; have q10 := Ok.cell hb zfc fc0; have q11 := Ok.cell hb zfc fc1; have q12 := Ok.cell hb zfc fc2; have q13 := Ok.cell hb zfc fc3; have q14 := Ok.cell hb zfc fc4; have q15 := Ok.cell hb zfd fd0; have q16 := Ok.cell hb zfd fd1; have q17 := Ok.cell hb zfd fd2; have q18 := Ok.cell hb zfd fd3; have q19 := Ok.cell hb zfd fd4)
    | fail)
  go_wp2_with fail
  go_ret
  exact ⟨rfl, Hw8.out.step hb⟩
end Go.Proofs.YtbkblijoimmdeaaGreat
