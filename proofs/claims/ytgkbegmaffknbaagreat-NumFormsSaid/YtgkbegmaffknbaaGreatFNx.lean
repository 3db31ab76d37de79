import Derived.Test.YtgkbegmaffknbaaGreatFNp
import Derived.Test.YtgkbegmaffknbaaGreatFNr
set_option linter.unusedVariables false
set_option linter.unusedSimpArgs false
set_option linter.unnecessarySimpa false
/- Nx -/
namespace Go.Proofs.YtgkbegmaffknbaaGreat
open Go.RowKit
theorem nfld (w : World) : (Instr.field 28 (.agg #[.bool true, .int .i64 0, .int .i64 0, .int .u64 0, .int .u64 0]) 0).run Tryz.prog w = .ok (.bool true) w := by kernel_rfl
attribute [local go_sem] nfld
theorem k13_make : makeN 1 10 4 3 = (3, 7, 4, 3, false) := by kernel_rfl
theorem k13_add : ap2 addN (normN (3, 7, 4, 3, false)) (normN (constN 1)) = (4, 8, 4, 0, false) := by kernel_rfl
theorem k13_has : insN (3, 7, 4, 3, false) 7 = true := by kernel_rfl
theorem k13_leq : lqN (constN 3) (3, 7, 4, 3, false) = true := by kernel_rfl
theorem k13_join : joinN (constN 3) (constN 7) = (3, 7, 4, 3, false) := by kernel_rfl
theorem k13_meet : meetN (3, 7, 4, 3, false) botN = botN := by kernel_rfl
theorem k13_nz : nonZeroN (constN 0) = botN := by kernel_rfl
theorem k13_raw : RawN (3, 7, 4, 3, false) := by unfold RawN In64 U64; decide
theorem k13_in0 : In64 0 := by decide
theorem k13_in1 : In64 1 := by decide
theorem k13_in3 : In64 3 := by decide
theorem k13_in7 : In64 7 := by decide
set_option maxRecDepth 100000 in
set_option maxHeartbeats 2000000 in
theorem works13 (w0 w : World) (hok : Ok w0 w) :
    Calls Tryz.prog 9 #[] w fun e w' => e = .returned (.bool true) ∧ Ok w0 w' := by
  have hle := hok.le
  have HK : Hid (Ok w0 w) := hok
  clear hok
  go_enter Tryz.func9, Tryz.ntmps9
  go_wp2_with fail
  refine (nmake_any 1 10 4 3 (by decide) (by decide) (by unfold U64; decide) (by unfold U64; decide) w _ (Ok.refl _)).mono ?_
  rintro e w1 ⟨rfl, hb⟩
  rw [k13_make]
  unfold nv
  have Hw1 : Hid (Ok w0 w1) := HK.out.step hb
  clear hb
  go_wp2_with fail
  obtain ⟨W, hW⟩ : ∃ W, W = w1.alloc (.cells #[.bool false, .int .i64 3, .int .i64 7, .int .u64 4, .int .u64 3] 28) := ⟨_, rfl⟩
  have ra : Hid (W.heap[w1.heap.size]? = some (.cells #[.bool false, .int .i64 3, .int .i64 7, .int .u64 4, .int .u64 3] 28)) := by unfold Hid; rw [hW]; exact heap_new0 _ _
  have HW : Hid (Ok w0 W) := by unfold Hid; rw [hW]; exact Hw1.out.alloc _
  rw [← hW]
  obtain ⟨ga, ega⟩ : ∃ g, g = w1.heap.size := ⟨_, rfl⟩
  have lga : w0.heap.size ≤ ga := by rw [ega]; exact Hw1.out.le
  rw [← ega] at ra ⊢
  clear hW ega Hw1
  refine wp_region_inv (by kernel_rfl) (by kernel_rfl) (fun F l a w => ∃ (b0 b1 b2 b3 b4 b5 b6 b7 b8 : Bool) (s8 s9 s10 s7 s11 s12 s2 s3 : Value) (g6 : Nat), l = #[b0, b1, b2, b3, b4, b5, b6, b7, b8] ∧ a = ((((((((F.put (some 8) s8).put (some 9) s9).put (some 10) s10).put (some 7) s7).put (some 11) s11).put (some 12) s12).put (some 2) s2).put (some 3) s3) ∧ Ok W w ∧ (b0 = true → s8 = nv (3, 7, 4, 3, false)) ∧ (b1 = true → s9 = nv (constN 1)) ∧ (b2 = true → s10 = .tuple #[nv (4, 8, 4, 0, false), .int .i64 0]) ∧ (b3 = true → s7 = .tuple #[nv (4, 8, 4, 0, false), .int .i64 0]) ∧ (b4 = true → s11 = nv (4, 8, 4, 0, false)) ∧ (b5 = true → s12 = .int .i64 0) ∧ (b8 = true → s3 = .int .i64 0) ∧ (b6 = true → s2 = .pointer (some ⟨g6, 0, none⟩)) ∧ (b6 = true → W.heap.size ≤ g6) ∧ (b6 = true → b7 = false → w.heap[g6]? = some (.cells #[.bool false, .int .i64 0, .int .i64 0, .int .u64 0, .int .u64 0] 28 (0, 0))) ∧ (b7 = true → w.heap[g6]? = some (.cells #[.bool false, .int .i64 4, .int .i64 8, .int .u64 4, .int .u64 0] 28 (0, 0))) ∧ (b7 = true → b6 = true)) ?start ?step ?fin
  case start => exact ⟨false, false, false, false, false, false, false, false, false, undef, undef, undef, undef, undef, undef, undef, undef, 0, rfl, (by (try simp only [Act.put, List.setIfInBounds_toArray, List.set_cons_zero, List.set_cons_succ]); try rfl), Ok.draws (Ok.refl _) 1, (fun h => by cases h), (fun h => by cases h), (fun h => by cases h), (fun h => by cases h), (fun h => by cases h), (fun h => by cases h), (fun h => by cases h), (fun h => by cases h), (fun h => by cases h), (fun h => by cases h), (fun h => by cases h), (fun h => by cases h)⟩
  case step =>
    intro l a w i o hI hi0 ho hd K hK
    obtain ⟨b0, b1, b2, b3, b4, b5, b6, b7, b8, s8, s9, s10, s7, s11, s12, s2, s3, g6, rfl, rfl, hO, q0, q1, q2, q3, q4, q5, q8, p6, l6, q6, q7, m7⟩ := hI
    have hlt : i < 9 := (Array.getElem?_eq_some_iff.1 ho).1
    rcases (show i = 0 ∨ i = 1 ∨ i = 2 ∨ i = 3 ∨ i = 4 ∨ i = 5 ∨ i = 6 ∨ i = 7 ∨ i = 8 by omega) with rfl | rfl | rfl | rfl | rfl | rfl | rfl | rfl | rfl
    · have ho2 := Option.some.inj ho
      subst ho2
      have f0 : b0 = false := hi0
      clear ho hlt hd hi0
      have zz := row5_facts (Ok.row' hO ra.out)
      have a0 := zz.1
      have a1 := zz.2.1
      have a2 := zz.2.2.1
      have a3 := zz.2.2.2.1
      have a4 := zz.2.2.2.2.1
      have a5 := zz.2.2.2.2.2.1
      have a6 := zz.2.2.2.2.2.2.1
      have a7 := zz.2.2.2.2.2.2.2.1
      have a8 := zz.2.2.2.2.2.2.2.2.1
      have a9 := zz.2.2.2.2.2.2.2.2.2
      clear zz
      (try simp only [Act.put, List.getElem_toArray, List.getElem_cons_succ, List.getElem_cons_zero, List.setIfInBounds_toArray, List.set_cons_zero, List.set_cons_succ])
      go_simp
      refine hK.out _ _ ?_
      exact ⟨true, b1, b2, b3, b4, b5, b6, b7, b8, nv (3, 7, 4, 3, false), s9, s10, s7, s11, s12, s2, s3, g6, rfl, (by (try simp only [Act.put, List.setIfInBounds_toArray, List.set_cons_zero, List.set_cons_succ]); try rfl), hO, (fun _ => rfl), q1, q2, q3, q4, q5, q8, p6, l6, q6, q7, m7⟩
    · have ho2 := Option.some.inj ho
      subst ho2
      have f1 : b1 = false := hi0
      clear ho hlt hd hi0
      (try simp only [Act.put, List.getElem_toArray, List.getElem_cons_succ, List.getElem_cons_zero, List.setIfInBounds_toArray, List.set_cons_zero, List.set_cons_succ])
      go_simp
      refine (nconst_any 1 w _ (Ok.refl _)).mono ?_
      rintro e w' ⟨rfl, hb⟩
      dsimp only
      refine hK.out _ _ ?_
      exact ⟨b0, true, b2, b3, b4, b5, b6, b7, b8, s8, nv (constN 1), s10, s7, s11, s12, s2, s3, g6, rfl, (by (try simp only [Act.put, List.setIfInBounds_toArray, List.set_cons_zero, List.set_cons_succ]); try rfl), hO.step hb, q0, (fun _ => rfl), q2, q3, q4, q5, q8, p6, l6, (fun h1 h2 => Ok.row' hb (q6 h1 h2)), (fun h1 => Ok.row' hb (q7 h1)), m7⟩
    · have ho2 := Option.some.inj ho
      subst ho2
      have f2 : b2 = false := hi0
      have t0 : b0 = true := hd ⟨0, .data⟩ (by simp) rfl
      have t1 : b1 = true := hd ⟨1, .data⟩ (by simp) rfl
      clear ho hlt hd hi0
      have e0 := q0 t0
      subst e0
      have e1 := q1 t1
      subst e1
      (try simp only [Act.put, List.getElem_toArray, List.getElem_cons_succ, List.getElem_cons_zero, List.setIfInBounds_toArray, List.set_cons_zero, List.set_cons_succ])
      go_simp
      refine (napply_add (3, 7, 4, 3, false) (constN 1) k13_raw (const_raw k13_in1) w _ (Ok.refl _)).mono ?_
      rintro e w' ⟨rfl, hb⟩
      rw [k13_add]
      dsimp only
      refine hK.out _ _ ?_
      exact ⟨b0, b1, true, b3, b4, b5, b6, b7, b8, nv (3, 7, 4, 3, false), nv (constN 1), .tuple #[nv (4, 8, 4, 0, false), .int .i64 0], s7, s11, s12, s2, s3, g6, rfl, (by (try simp only [Act.put, List.setIfInBounds_toArray, List.set_cons_zero, List.set_cons_succ]); try rfl), hO.step hb, q0, q1, (fun _ => rfl), q3, q4, q5, q8, p6, l6, (fun h1 h2 => Ok.row' hb (q6 h1 h2)), (fun h1 => Ok.row' hb (q7 h1)), m7⟩
    · have ho2 := Option.some.inj ho
      subst ho2
      have f3 : b3 = false := hi0
      have t2 : b2 = true := hd ⟨2, .data⟩ (by simp) rfl
      clear ho hlt hd hi0
      have e2 := q2 t2
      subst e2
      (try simp only [Act.put, List.getElem_toArray, List.getElem_cons_succ, List.getElem_cons_zero, List.setIfInBounds_toArray, List.set_cons_zero, List.set_cons_succ])
      go_simp
      refine hK.out _ _ ?_
      exact ⟨b0, b1, b2, true, b4, b5, b6, b7, b8, s8, s9, .tuple #[nv (4, 8, 4, 0, false), .int .i64 0], .tuple #[nv (4, 8, 4, 0, false), .int .i64 0], s11, s12, s2, s3, g6, rfl, (by (try simp only [Act.put, List.setIfInBounds_toArray, List.set_cons_zero, List.set_cons_succ]); try rfl), hO, q0, q1, q2, (fun _ => rfl), q4, q5, q8, p6, l6, q6, q7, m7⟩
    · have ho2 := Option.some.inj ho
      subst ho2
      have f4 : b4 = false := hi0
      have t3 : b3 = true := hd ⟨3, .data⟩ (by simp) rfl
      clear ho hlt hd hi0
      have e3 := q3 t3
      subst e3
      (try simp only [Act.put, List.getElem_toArray, List.getElem_cons_succ, List.getElem_cons_zero, List.setIfInBounds_toArray, List.set_cons_zero, List.set_cons_succ])
      go_simp
      refine hK.out _ _ ?_
      exact ⟨b0, b1, b2, b3, true, b5, b6, b7, b8, s8, s9, s10, .tuple #[nv (4, 8, 4, 0, false), .int .i64 0], nv (4, 8, 4, 0, false), s12, s2, s3, g6, rfl, (by (try simp only [Act.put, List.setIfInBounds_toArray, List.set_cons_zero, List.set_cons_succ]); try rfl), hO, q0, q1, q2, q3, (fun _ => rfl), q5, q8, p6, l6, q6, q7, m7⟩
    · have ho2 := Option.some.inj ho
      subst ho2
      have f5 : b5 = false := hi0
      have t3 : b3 = true := hd ⟨3, .data⟩ (by simp) rfl
      clear ho hlt hd hi0
      have e3 := q3 t3
      subst e3
      (try simp only [Act.put, List.getElem_toArray, List.getElem_cons_succ, List.getElem_cons_zero, List.setIfInBounds_toArray, List.set_cons_zero, List.set_cons_succ])
      go_simp
      refine hK.out _ _ ?_
      exact ⟨b0, b1, b2, b3, b4, true, b6, b7, b8, s8, s9, s10, .tuple #[nv (4, 8, 4, 0, false), .int .i64 0], s11, .int .i64 0, s2, s3, g6, rfl, (by (try simp only [Act.put, List.setIfInBounds_toArray, List.set_cons_zero, List.set_cons_succ]); try rfl), hO, q0, q1, q2, q3, q4, (fun _ => rfl), q8, p6, l6, q6, q7, m7⟩
    · have ho2 := Option.some.inj ho
      subst ho2
      have f6 : b6 = false := hi0
      clear ho hlt hd hi0
      (try simp only [Act.put, List.getElem_toArray, List.getElem_cons_succ, List.getElem_cons_zero, List.setIfInBounds_toArray, List.set_cons_zero, List.set_cons_succ])
      go_simp
      refine hK.out _ _ ?_
      exact ⟨b0, b1, b2, b3, b4, b5, true, b7, b8, s8, s9, s10, s7, s11, s12, .pointer (some ⟨w.heap.size, 0, none⟩), s3, w.heap.size, rfl, (by (try simp only [Act.put, List.setIfInBounds_toArray, List.set_cons_zero, List.set_cons_succ]); try rfl), hO.alloc _, q0, q1, q2, q3, q4, q5, q8, (fun _ => rfl), (fun _ => hO.le), (fun _ _ => heap_new0 _ _), (fun h => by rw [m7 h] at f6; cases f6), (fun _ => rfl)⟩
    · have ho2 := Option.some.inj ho
      subst ho2
      have f7 : b7 = false := hi0
      have t4 : b4 = true := hd ⟨4, .data⟩ (by simp) rfl
      have t6 : b6 = true := hd ⟨6, .data⟩ (by simp) rfl
      clear ho hlt hd hi0
      have e4 := q4 t4
      subst e4
      have e6 := p6 t6
      subst e6
      have rg := q6 t6 f7
      (try unfold nv)
      have zz := row5_facts (rg)
      have y0 := zz.1
      have y1 := zz.2.1
      have y2 := zz.2.2.1
      have y3 := zz.2.2.2.1
      have y4 := zz.2.2.2.2.1
      have y5 := zz.2.2.2.2.2.1
      have y6 := zz.2.2.2.2.2.2.1
      have y7 := zz.2.2.2.2.2.2.2.1
      have y8 := zz.2.2.2.2.2.2.2.2.1
      have y9 := zz.2.2.2.2.2.2.2.2.2
      clear zz
      (try simp only [Act.put, List.getElem_toArray, List.getElem_cons_succ, List.getElem_cons_zero, List.setIfInBounds_toArray, List.set_cons_zero, List.set_cons_succ])
      go_simp
      have hrp := rows_put1 (Z := (((((w.setCell ⟨g6, 0, none⟩ (.bool false)).setCell ⟨g6, 1, none⟩ (.int .i64 4)).setCell ⟨g6, 2, none⟩ (.int .i64 8)).setCell ⟨g6, 3, none⟩ (.int .u64 4)).setCell ⟨g6, 4, none⟩ (.int .u64 0))) rg hO (l6 t6) _ _ _ _ _ rfl
      refine hK.out _ _ ?_
      exact ⟨b0, b1, b2, b3, b4, b5, b6, true, b8, s8, s9, s10, s7, nv (4, 8, 4, 0, false), s12, .pointer (some ⟨g6, 0, none⟩), s3, g6, rfl, (by (try simp only [Act.put, List.setIfInBounds_toArray, List.set_cons_zero, List.set_cons_succ]); try rfl), hrp.out.1, q0, q1, q2, q3, q4, q5, q8, (fun _ => rfl), l6, (fun _ h => by cases h), (fun _ => hrp.out.2.1), (fun _ => t6)⟩
    · have ho2 := Option.some.inj ho
      subst ho2
      have f8 : b8 = false := hi0
      have t5 : b5 = true := hd ⟨5, .data⟩ (by simp) rfl
      clear ho hlt hd hi0
      have e5 := q5 t5
      subst e5
      (try simp only [Act.put, List.getElem_toArray, List.getElem_cons_succ, List.getElem_cons_zero, List.setIfInBounds_toArray, List.set_cons_zero, List.set_cons_succ])
      go_simp
      refine hK.out _ _ ?_
      exact ⟨b0, b1, b2, b3, b4, b5, b6, b7, true, s8, s9, s10, s7, s11, .int .i64 0, s2, .int .i64 0, g6, rfl, (by (try simp only [Act.put, List.setIfInBounds_toArray, List.set_cons_zero, List.set_cons_succ]); try rfl), hO, q0, q1, q2, q3, q4, q5, (fun _ => rfl), p6, l6, q6, q7, m7⟩
  case fin =>
    intro l a V hI hr
    obtain ⟨b0, b1, b2, b3, b4, b5, b6, b7, b8, s8, s9, s10, s7, s11, s12, s2, s3, g6, rfl, rfl, hO, q0, q1, q2, q3, q4, q5, q8, p6, l6, q6, q7, m7⟩ := hI
    have hall := all_listed (by kernel_rfl) rfl hr
    clear hr
    have t0 : b0 = true := hall 0 (by decide)
    have t1 : b1 = true := hall 1 (by decide)
    have t2 : b2 = true := hall 2 (by decide)
    have t3 : b3 = true := hall 3 (by decide)
    have t4 : b4 = true := hall 4 (by decide)
    have t5 : b5 = true := hall 5 (by decide)
    have t6 : b6 = true := hall 6 (by decide)
    have t7 : b7 = true := hall 7 (by decide)
    have t8 : b8 = true := hall 8 (by decide)
    have e0 := q0 t0
    subst e0
    have e1 := q1 t1
    subst e1
    have e2 := q2 t2
    subst e2
    have e3 := q3 t3
    subst e3
    have e4 := q4 t4
    subst e4
    have e5 := q5 t5
    subst e5
    have e8 := q8 t8
    subst e8
    have e6 := p6 t6
    subst e6
    have r6 := q7 t7
    replace l6 := l6 t6
    clear hall t0 t1 t2 t3 t4 t5 t6 t7 t8 q0 q1 q2 q3 q4 q5 q8 p6 q6 q7 m7
    (try simp only [Act.put, List.getElem_toArray, List.getElem_cons_succ, List.getElem_cons_zero, List.setIfInBounds_toArray, List.set_cons_zero, List.set_cons_succ])
    have ra2 : Hid _ := Ok.row' hO ra.out
    have rs : Hid _ := r6
    have HV : Hid (Ok w0 V) := HW.out.step hO
    have ng : ¬ g6 = ga := by have := lt_row ra.out; omega
    have ng2 : ¬ ga = g6 := by have := lt_row ra.out; omega
    clear hO r6 l6 ra HW
    go_wp2_with fail
    obtain ⟨a0, a1, a2, a3, a4, a5, a6, a7, a8, a9⟩ := row5_facts ra2.out
    obtain ⟨s0, s1, s2, s3, s4, s5, s6, s7, s8, s9⟩ := row5_facts rs.out
    have za := lt_row ra2.out
    have zs := lt_row rs.out
    have bz : Ok V V := Ok.refl _
    go_region_held3 (fun w' => w'.cell? ⟨ga, 0, none⟩ = some (.bool false) ∧ w'.cell? ⟨ga, 1, none⟩ = some (.int .i64 3) ∧ w'.cell? ⟨ga, 2, none⟩ = some (.int .i64 7) ∧ w'.cell? ⟨ga, 3, none⟩ = some (.int .u64 4) ∧ w'.cell? ⟨ga, 4, none⟩ = some (.int .u64 3) ∧ w'.cell? ⟨g6, 0, none⟩ = some (.bool false) ∧ w'.cell? ⟨g6, 1, none⟩ = some (.int .i64 4) ∧ w'.cell? ⟨g6, 2, none⟩ = some (.int .i64 8) ∧ w'.cell? ⟨g6, 3, none⟩ = some (.int .u64 4) ∧ w'.cell? ⟨g6, 4, none⟩ = some (.int .u64 0)) (go_keep)
      (first
      | (go_at_call 15; refine (nhas_any (3, 7, 4, 3, false) 7 k13_raw V _ (by repeat (first | assumption | refine Ok.alloc ?_ _ | refine Below.drew ?_))).mono ?_; rintro e w' ⟨rfl, hb⟩; rw [k13_has]; have q0 := Ok.cell hb za a0; have q1 := Ok.cell hb za a1; have q2 := Ok.cell hb za a2; have q3 := Ok.cell hb za a3; have q4 := Ok.cell hb za a4; have q5 := Ok.cell hb zs s0; have q6 := Ok.cell hb zs s1; have q7 := Ok.cell hb zs s2; have q8 := Ok.cell hb zs s3; have q9 := Ok.cell hb zs s4)
      | (go_at_call 22; refine (nconst_any _ V _ (by repeat (first | assumption | refine Ok.alloc ?_ _ | refine Below.drew ?_))).mono ?_; rintro e w' ⟨rfl, hb⟩; have q0 := Ok.cell hb za a0; have q1 := Ok.cell hb za a1; have q2 := Ok.cell hb za a2; have q3 := Ok.cell hb za a3; have q4 := Ok.cell hb za a4; have q5 := Ok.cell hb zs s0; have q6 := Ok.cell hb zs s1; have q7 := Ok.cell hb zs s2; have q8 := Ok.cell hb zs s3; have q9 := Ok.cell hb zs s4)
      | (go_at_call 19; refine (nleq_any (constN 3) (3, 7, 4, 3, false) (const_raw k13_in3) k13_raw V _ (by repeat (first | assumption | refine Ok.alloc ?_ _ | refine Below.drew ?_))).mono ?_; rintro e w' ⟨rfl, hb⟩; rw [k13_leq]; have q0 := Ok.cell hb za a0; have q1 := Ok.cell hb za a1; have q2 := Ok.cell hb za a2; have q3 := Ok.cell hb za a3; have q4 := Ok.cell hb za a4; have q5 := Ok.cell hb zs s0; have q6 := Ok.cell hb zs s1; have q7 := Ok.cell hb zs s2; have q8 := Ok.cell hb zs s3; have q9 := Ok.cell hb zs s4)
      | (go_at_call 11; refine (njoin_any (constN 3) (constN 7) (const_raw k13_in3) (const_raw k13_in7) V _ (by repeat (first | assumption | refine Ok.alloc ?_ _ | refine Below.drew ?_))).mono ?_; rintro e w' ⟨rfl, hb⟩; rw [k13_join]; unfold nv; have q0 := Ok.cell hb za a0; have q1 := Ok.cell hb za a1; have q2 := Ok.cell hb za a2; have q3 := Ok.cell hb za a3; have q4 := Ok.cell hb za a4; have q5 := Ok.cell hb zs s0; have q6 := Ok.cell hb zs s1; have q7 := Ok.cell hb zs s2; have q8 := Ok.cell hb zs s3; have q9 := Ok.cell hb zs s4)
      | (go_at_call 25; refine (nbot_any V _ (by repeat (first | assumption | refine Ok.alloc ?_ _ | refine Below.drew ?_))).mono ?_; rintro e w' ⟨rfl, hb⟩; have q0 := Ok.cell hb za a0; have q1 := Ok.cell hb za a1; have q2 := Ok.cell hb za a2; have q3 := Ok.cell hb za a3; have q4 := Ok.cell hb za a4; have q5 := Ok.cell hb zs s0; have q6 := Ok.cell hb zs s1; have q7 := Ok.cell hb zs s2; have q8 := Ok.cell hb zs s3; have q9 := Ok.cell hb zs s4)
      | (go_at_call 12; refine (nmeet_any (3, 7, 4, 3, false) botN k13_raw bot_raw V _ (by repeat (first | assumption | refine Ok.alloc ?_ _ | refine Below.drew ?_))).mono ?_; rintro e w' ⟨rfl, hb⟩; rw [k13_meet]; unfold nv botN; have q0 := Ok.cell hb za a0; have q1 := Ok.cell hb za a1; have q2 := Ok.cell hb za a2; have q3 := Ok.cell hb za a3; have q4 := Ok.cell hb za a4; have q5 := Ok.cell hb zs s0; have q6 := Ok.cell hb zs s1; have q7 := Ok.cell hb zs s2; have q8 := Ok.cell hb zs s3; have q9 := Ok.cell hb zs s4)
      | (go_at_call 13; refine (nnz_any (constN 0) (const_raw k13_in0) V _ (by repeat (first | assumption | refine Ok.alloc ?_ _ | refine Below.drew ?_))).mono ?_; rintro e w' ⟨rfl, hb⟩; rw [k13_nz]; unfold nv botN; have q0 := Ok.cell hb za a0; have q1 := Ok.cell hb za a1; have q2 := Ok.cell hb za a2; have q3 := Ok.cell hb za a3; have q4 := Ok.cell hb za a4; have q5 := Ok.cell hb zs s0; have q6 := Ok.cell hb zs s1; have q7 := Ok.cell hb zs s2; have q8 := Ok.cell hb zs s3; have q9 := Ok.cell hb zs s4)
      | fail)
    go_wp2_with fail
    go_ret
    exact ⟨rfl, HV.out.step hb⟩
end Go.Proofs.YtgkbegmaffknbaaGreat
