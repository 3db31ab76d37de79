import Derived.Deep.Cut
import Derived.Deep.CutRange
import Derived.Test.YtgkbegmaffknbaaGreatHNd
import Derived.Test.YtgkbegmaffknbaaGreatHNw
import Derived.Test.YtgkbegmaffknbaaGreatHNx
set_option linter.unusedVariables false
set_option linter.unusedSimpArgs false
set_option linter.unnecessarySimpa false
/- Nhd -/
namespace Go.Proofs.YtgkbegmaffknbaaGreat
open Go.RowKit
theorem row12_facts {w : World} {g : Nat} {c0 c1 c2 c3 c4 c5 c6 c7 c8 c9 c10 c11 : Value} {t : TypeId} (h : w.heap[g]? = some (.cells #[c0, c1, c2, c3, c4, c5, c6, c7, c8, c9, c10, c11] t (0, 0))) :
    w.cell? ⟨g, 0, none⟩ = some c0 ∧ w.cell? ⟨g, 1, none⟩ = some c1 ∧ w.cell? ⟨g, 2, none⟩ = some c2 ∧ w.cell? ⟨g, 3, none⟩ = some c3 ∧ w.cell? ⟨g, 4, none⟩ = some c4 ∧ w.cell? ⟨g, 5, none⟩ = some c5 ∧ w.cell? ⟨g, 6, none⟩ = some c6 ∧ w.cell? ⟨g, 7, none⟩ = some c7 ∧ w.cell? ⟨g, 8, none⟩ = some c8 ∧ w.cell? ⟨g, 9, none⟩ = some c9 ∧ w.cell? ⟨g, 10, none⟩ = some c10 ∧ w.cell? ⟨g, 11, none⟩ = some c11 := by
  refine ⟨?_, ?_, ?_, ?_, ?_, ?_, ?_, ?_, ?_, ?_, ?_, ?_⟩
  · exact (cell_of_row _ _ 0 _ _ _ h).trans (by simp)
  · exact (cell_of_row _ _ 1 _ _ _ h).trans (by simp)
  · exact (cell_of_row _ _ 2 _ _ _ h).trans (by simp)
  · exact (cell_of_row _ _ 3 _ _ _ h).trans (by simp)
  · exact (cell_of_row _ _ 4 _ _ _ h).trans (by simp)
  · exact (cell_of_row _ _ 5 _ _ _ h).trans (by simp)
  · exact (cell_of_row _ _ 6 _ _ _ h).trans (by simp)
  · exact (cell_of_row _ _ 7 _ _ _ h).trans (by simp)
  · exact (cell_of_row _ _ 8 _ _ _ h).trans (by simp)
  · exact (cell_of_row _ _ 9 _ _ _ h).trans (by simp)
  · exact (cell_of_row _ _ 10 _ _ _ h).trans (by simp)
  · exact (cell_of_row _ _ 11 _ _ _ h).trans (by simp)
theorem ops_cell {w : World} {g : Nat} {t : TypeId} (h : w.heap[g]? = some (.cells #[.int .i64 1, .int .i64 3, .int .i64 4, .int .i64 5, .int .i64 6, .int .i64 7] t (0, 0))) {k : Nat} (hk : k < 6) : ∃ op, Op6 op ∧ w.cell? ⟨g, k, none⟩ = some (.int .i64 op) := by
  match k, hk with
  | 0, _ => exact ⟨1, Or.inl rfl, (cell_of_row _ _ 0 _ _ _ h).trans (by simp)⟩
  | 1, _ => exact ⟨3, Or.inr (Or.inl rfl), (cell_of_row _ _ 1 _ _ _ h).trans (by simp)⟩
  | 2, _ => exact ⟨4, Or.inr (Or.inr (Or.inl rfl)), (cell_of_row _ _ 2 _ _ _ h).trans (by simp)⟩
  | 3, _ => exact ⟨5, Or.inr (Or.inr (Or.inr (Or.inl rfl))), (cell_of_row _ _ 3 _ _ _ h).trans (by simp)⟩
  | 4, _ => exact ⟨6, Or.inr (Or.inr (Or.inr (Or.inr (Or.inl rfl)))), (cell_of_row _ _ 4 _ _ _ h).trans (by simp)⟩
  | 5, _ => exact ⟨7, Or.inr (Or.inr (Or.inr (Or.inr (Or.inr rfl)))), (cell_of_row _ _ 5 _ _ _ h).trans (by simp)⟩
set_option maxRecDepth 100000 in
set_option maxHeartbeats 40000000 in
theorem nholds_any (a b : Int × Int × Nat × Nat × Bool) (kx ky : Int) (ha : RawN a) (hb : RawN b) (hx : In64 kx) (hy : In64 ky) (w0 w : World) (hok : Ok w0 w) :
    Calls Tryz.prog 4 #[.agg #[.bool a.2.2.2.2, .int .i64 a.1, .int .i64 a.2.1, .int .u64 (a.2.2.1 : Int), .int .u64 (a.2.2.2.1 : Int), .bool b.2.2.2.2, .int .i64 b.1, .int .i64 b.2.1, .int .u64 (b.2.2.1 : Int), .int .u64 (b.2.2.2.1 : Int), .int .i64 kx, .int .i64 ky]] w fun e w' => e = .returned (.bool true) ∧ Ok w0 w' := by
  have hle := hok.le
  have HU : Hid (RawN a ∧ RawN b ∧ In64 kx ∧ In64 ky) := ⟨ha, hb, hx, hy⟩
  clear ha hb hx hy
  obtain ⟨x, hx⟩ : ∃ t, t = normN a := ⟨_, rfl⟩
  have HX : Hid _ := hx
  obtain ⟨y, hy⟩ : ∃ t, t = normN b := ⟨_, rfl⟩
  have HY : Hid _ := hy
  have RX : Hid (RawN x ∧ NormN x) := by rw [hx]; exact ⟨normN_raw HU.out.1, normN_norm HU.out.1⟩
  have RY : Hid (RawN y ∧ NormN y) := by rw [hy]; exact ⟨normN_raw HU.out.2.1, normN_norm HU.out.2.1⟩
  clear hx hy
  go_enter Tryz.func4, Tryz.ntmps4
  go_wp2_with fail
  obtain ⟨W0, hW0⟩ : ∃ W, W = (w).alloc (.cells #[.bool a.2.2.2.2, .int .i64 a.1, .int .i64 a.2.1, .int .u64 (a.2.2.1 : Int), .int .u64 (a.2.2.2.1 : Int), .bool b.2.2.2.2, .int .i64 b.1, .int .i64 b.2.1, .int .u64 (b.2.2.1 : Int), .int .u64 (b.2.2.2.1 : Int), .int .i64 kx, .int .i64 ky] 40) := ⟨_, rfl⟩
  have rk : Hid (W0.heap[w.heap.size]? = some (.cells #[.bool a.2.2.2.2, .int .i64 a.1, .int .i64 a.2.1, .int .u64 (a.2.2.1 : Int), .int .u64 (a.2.2.2.1 : Int), .bool b.2.2.2.2, .int .i64 b.1, .int .i64 b.2.1, .int .u64 (b.2.2.1 : Int), .int .u64 (b.2.2.2.1 : Int), .int .i64 kx, .int .i64 ky] 40)) := by unfold Hid; rw [hW0]; exact (by repeat (first | (refine heap_at _ _ _ ?hx; case hx => (first | (simp; done) | (simp; omega))) | (refine heap_past _ _ _ ?hy ?_; case hy => (first | (simp; done) | (simp; omega))) | fail))
  have HW0 : Hid (Ok w0 W0) := by unfold Hid; rw [hW0]; exact (by repeat (first | exact hok | refine Ok.alloc ?_ _ | refine Ok.draws ?_ _ | fail))
  rw [← hW0]
  clear hW0
  obtain ⟨gk, egk⟩ : ∃ g, g = w.heap.size := ⟨_, rfl⟩
  rw [← egk] at rk ⊢
  have lgk : w0.heap.size ≤ gk := by omega
  clear egk
  refine (works13 W0 _ (Ok.refl _)).mono ?_
  rintro e W1 ⟨rfl, hb⟩
  replace rk : Hid _ := Ok.row' hb rk.out
  have HW1 : Hid (Ok w0 W1) := HW0.out.step hb
  clear hb HW0
  go_wp2_with fail
  go_cut [3, 4] from 17 to 22 (fun s3 s4 u => Hid (∃ gx gy : Nat, s3 = .pointer (some ⟨gx, 0, none⟩) ∧ s4 = .pointer (some ⟨gy, 0, none⟩) ∧ u.heap[gx]? = some (.cells #[.bool x.2.2.2.2, .int .i64 x.1, .int .i64 x.2.1, .int .u64 (x.2.2.1 : Int), .int .u64 (x.2.2.2.1 : Int)] 28) ∧ u.heap[gy]? = some (.cells #[.bool y.2.2.2.2, .int .i64 y.1, .int .i64 y.2.1, .int .u64 (y.2.2.1 : Int), .int .u64 (y.2.2.2.1 : Int)] 28) ∧ Ok W1 u))
  case first =>
    as_aux_lemma =>
      refine wp_region_inv (by kernel_rfl) (by kernel_rfl) (fun F l fr u => ∃ (b0 b1 b2 b3 b4 b5 b6 b7 b8 b9 : Bool) (s17 s18 s19 s20 s21 s22 s3 s4 : Value) (g6 g7 : Nat), l = #[b0, b1, b2, b3, b4, b5, b6, b7, b8, b9] ∧ fr = ((((((((F.put (some 17) s17).put (some 18) s18).put (some 19) s19).put (some 20) s20).put (some 21) s21).put (some 22) s22).put (some 3) s3).put (some 4) s4) ∧ Ok W1 u ∧ (b0 = true → s17 = .pointer (some ⟨gk, 0, none⟩)) ∧ (b1 = true → s18 = nv a) ∧ (b2 = true → s19 = nv x) ∧ (b3 = true → s20 = .pointer (some ⟨gk, 5, none⟩)) ∧ (b4 = true → s21 = nv b) ∧ (b5 = true → s22 = nv y) ∧ (b6 = true → s3 = .pointer (some ⟨g6, 0, none⟩)) ∧ (b6 = true → W1.heap.size ≤ g6) ∧ (b6 = true → b8 = false → u.heap[g6]? = some (.cells #[.bool false, .int .i64 0, .int .i64 0, .int .u64 0, .int .u64 0] 28 (0, 0))) ∧ (b8 = true → u.heap[g6]? = some (.cells #[.bool x.2.2.2.2, .int .i64 x.1, .int .i64 x.2.1, .int .u64 (x.2.2.1 : Int), .int .u64 (x.2.2.2.1 : Int)] 28 (0, 0))) ∧ (b8 = true → b6 = true) ∧ (b7 = true → s4 = .pointer (some ⟨g7, 0, none⟩)) ∧ (b7 = true → W1.heap.size ≤ g7) ∧ (b7 = true → b9 = false → u.heap[g7]? = some (.cells #[.bool false, .int .i64 0, .int .i64 0, .int .u64 0, .int .u64 0] 28 (0, 0))) ∧ (b9 = true → u.heap[g7]? = some (.cells #[.bool y.2.2.2.2, .int .i64 y.1, .int .i64 y.2.1, .int .u64 (y.2.2.1 : Int), .int .u64 (y.2.2.2.1 : Int)] 28 (0, 0))) ∧ (b9 = true → b7 = true) ∧ (b6 = true → b7 = true → g6 ≠ g7)) ?start ?step ?fin
      case start => exact ⟨false, false, false, false, false, false, false, false, false, false, undef, undef, undef, undef, undef, undef, undef, undef, 0, 0, rfl, (by (try simp only [Act.put, List.setIfInBounds_toArray, List.set_cons_zero, List.set_cons_succ]); try rfl), Ok.draws (Ok.refl _) 1, (fun h => by cases h), (fun h => by cases h), (fun h => by cases h), (fun h => by cases h), (fun h => by cases h), (fun h => by cases h), (fun h => by cases h), (fun h => by cases h), (fun h => by cases h), (fun h => by cases h), (fun h => by cases h), (fun h => by cases h), (fun h => by cases h), (fun h => by cases h), (fun h => by cases h), (fun h => by cases h), (fun h => by cases h)⟩
      case step =>
        intro l fr u i o hI hi0 ho hd K hK
        obtain ⟨b0, b1, b2, b3, b4, b5, b6, b7, b8, b9, s17, s18, s19, s20, s21, s22, s3, s4, g6, g7, rfl, rfl, hO, q0, q1, q2, q3, q4, q5, p6, l6, q6, q8, m8, p7, l7, q7, q9, m9, d6_7⟩ := hI
        have hlt : i < 10 := (Array.getElem?_eq_some_iff.1 ho).1
        rcases (show i = 0 ∨ i = 1 ∨ i = 2 ∨ i = 3 ∨ i = 4 ∨ i = 5 ∨ i = 6 ∨ i = 7 ∨ i = 8 ∨ i = 9 by omega) with rfl | rfl | rfl | rfl | rfl | rfl | rfl | rfl | rfl | rfl
        · have ho2 := Option.some.inj ho
          subst ho2
          have f0 : b0 = false := hi0
          clear ho hlt hd hi0
          (try simp only [Act.put, List.getElem_toArray, List.getElem_cons_succ, List.getElem_cons_zero, List.setIfInBounds_toArray, List.set_cons_zero, List.set_cons_succ])
          go_simp
          refine hK.out _ _ ?_
          exact ⟨true, b1, b2, b3, b4, b5, b6, b7, b8, b9, .pointer (some ⟨gk, 0, none⟩), s18, s19, s20, s21, s22, s3, s4, g6, g7, rfl, (by (try simp only [Act.put, List.setIfInBounds_toArray, List.set_cons_zero, List.set_cons_succ]); try rfl), hO, (fun _ => rfl), q1, q2, q3, q4, q5, p6, l6, q6, q8, m8, p7, l7, q7, q9, m9, d6_7⟩
        · have ho2 := Option.some.inj ho
          subst ho2
          have f1 : b1 = false := hi0
          have t0 : b0 = true := hd ⟨0, .data⟩ (by simp) rfl
          clear ho hlt hd hi0
          have e0 := q0 t0
          subst e0
          have zz := row12_facts (Ok.row' hO rk.out)
          have kk0 := zz.1
          have kk1 := zz.2.1
          have kk2 := zz.2.2.1
          have kk3 := zz.2.2.2.1
          have kk4 := zz.2.2.2.2.1
          have kk5 := zz.2.2.2.2.2.1
          have kk6 := zz.2.2.2.2.2.2.1
          have kk7 := zz.2.2.2.2.2.2.2.1
          have kk8 := zz.2.2.2.2.2.2.2.2.1
          have kk9 := zz.2.2.2.2.2.2.2.2.2.1
          have kk10 := zz.2.2.2.2.2.2.2.2.2.2.1
          have kk11 := zz.2.2.2.2.2.2.2.2.2.2.2
          clear zz
          (try simp only [Act.put, List.getElem_toArray, List.getElem_cons_succ, List.getElem_cons_zero, List.setIfInBounds_toArray, List.set_cons_zero, List.set_cons_succ])
          go_simp
          refine hK.out _ _ ?_
          exact ⟨b0, true, b2, b3, b4, b5, b6, b7, b8, b9, .pointer (some ⟨gk, 0, none⟩), nv a, s19, s20, s21, s22, s3, s4, g6, g7, rfl, (by (try simp only [Act.put, List.setIfInBounds_toArray, List.set_cons_zero, List.set_cons_succ]); try rfl), hO, q0, (fun _ => rfl), q2, q3, q4, q5, p6, l6, q6, q8, m8, p7, l7, q7, q9, m9, d6_7⟩
        · have ho2 := Option.some.inj ho
          subst ho2
          have f2 : b2 = false := hi0
          have t1 : b1 = true := hd ⟨1, .data⟩ (by simp) rfl
          clear ho hlt hd hi0
          have e1 := q1 t1
          subst e1
          (try simp only [Act.put, List.getElem_toArray, List.getElem_cons_succ, List.getElem_cons_zero, List.setIfInBounds_toArray, List.set_cons_zero, List.set_cons_succ])
          go_simp
          refine (nnorm_any a HU.out.1 u _ (Ok.refl _)).mono ?_
          rintro e u' ⟨rfl, hb⟩
          rw [← HX.out]
          dsimp only
          refine hK.out _ _ ?_
          exact ⟨b0, b1, true, b3, b4, b5, b6, b7, b8, b9, s17, nv a, nv x, s20, s21, s22, s3, s4, g6, g7, rfl, (by (try simp only [Act.put, List.setIfInBounds_toArray, List.set_cons_zero, List.set_cons_succ]); try rfl), hO.step hb, q0, q1, (fun _ => rfl), q3, q4, q5, p6, l6, (fun h1 h2 => Ok.row' hb (q6 h1 h2)), (fun h1 => Ok.row' hb (q8 h1)), m8, p7, l7, (fun h1 h2 => Ok.row' hb (q7 h1 h2)), (fun h1 => Ok.row' hb (q9 h1)), m9, d6_7⟩
        · have ho2 := Option.some.inj ho
          subst ho2
          have f3 : b3 = false := hi0
          clear ho hlt hd hi0
          (try simp only [Act.put, List.getElem_toArray, List.getElem_cons_succ, List.getElem_cons_zero, List.setIfInBounds_toArray, List.set_cons_zero, List.set_cons_succ])
          go_simp
          refine hK.out _ _ ?_
          exact ⟨b0, b1, b2, true, b4, b5, b6, b7, b8, b9, s17, s18, s19, .pointer (some ⟨gk, 5, none⟩), s21, s22, s3, s4, g6, g7, rfl, (by (try simp only [Act.put, List.setIfInBounds_toArray, List.set_cons_zero, List.set_cons_succ]); try rfl), hO, q0, q1, q2, (fun _ => rfl), q4, q5, p6, l6, q6, q8, m8, p7, l7, q7, q9, m9, d6_7⟩
        · have ho2 := Option.some.inj ho
          subst ho2
          have f4 : b4 = false := hi0
          have t3 : b3 = true := hd ⟨3, .data⟩ (by simp) rfl
          clear ho hlt hd hi0
          have e3 := q3 t3
          subst e3
          have zz := row12_facts (Ok.row' hO rk.out)
          have kk0 := zz.1
          have kk1 := zz.2.1
          have kk2 := zz.2.2.1
          have kk3 := zz.2.2.2.1
          have kk4 := zz.2.2.2.2.1
          have kk5 := zz.2.2.2.2.2.1
          have kk6 := zz.2.2.2.2.2.2.1
          have kk7 := zz.2.2.2.2.2.2.2.1
          have kk8 := zz.2.2.2.2.2.2.2.2.1
          have kk9 := zz.2.2.2.2.2.2.2.2.2.1
          have kk10 := zz.2.2.2.2.2.2.2.2.2.2.1
          have kk11 := zz.2.2.2.2.2.2.2.2.2.2.2
          clear zz
          (try simp only [Act.put, List.getElem_toArray, List.getElem_cons_succ, List.getElem_cons_zero, List.setIfInBounds_toArray, List.set_cons_zero, List.set_cons_succ])
          go_simp
          refine hK.out _ _ ?_
          exact ⟨b0, b1, b2, b3, true, b5, b6, b7, b8, b9, s17, s18, s19, .pointer (some ⟨gk, 5, none⟩), nv b, s22, s3, s4, g6, g7, rfl, (by (try simp only [Act.put, List.setIfInBounds_toArray, List.set_cons_zero, List.set_cons_succ]); try rfl), hO, q0, q1, q2, q3, (fun _ => rfl), q5, p6, l6, q6, q8, m8, p7, l7, q7, q9, m9, d6_7⟩
        · have ho2 := Option.some.inj ho
          subst ho2
          have f5 : b5 = false := hi0
          have t4 : b4 = true := hd ⟨4, .data⟩ (by simp) rfl
          clear ho hlt hd hi0
          have e4 := q4 t4
          subst e4
          (try simp only [Act.put, List.getElem_toArray, List.getElem_cons_succ, List.getElem_cons_zero, List.setIfInBounds_toArray, List.set_cons_zero, List.set_cons_succ])
          go_simp
          refine (nnorm_any b HU.out.2.1 u _ (Ok.refl _)).mono ?_
          rintro e u' ⟨rfl, hb⟩
          rw [← HY.out]
          dsimp only
          refine hK.out _ _ ?_
          exact ⟨b0, b1, b2, b3, b4, true, b6, b7, b8, b9, s17, s18, s19, s20, nv b, nv y, s3, s4, g6, g7, rfl, (by (try simp only [Act.put, List.setIfInBounds_toArray, List.set_cons_zero, List.set_cons_succ]); try rfl), hO.step hb, q0, q1, q2, q3, q4, (fun _ => rfl), p6, l6, (fun h1 h2 => Ok.row' hb (q6 h1 h2)), (fun h1 => Ok.row' hb (q8 h1)), m8, p7, l7, (fun h1 h2 => Ok.row' hb (q7 h1 h2)), (fun h1 => Ok.row' hb (q9 h1)), m9, d6_7⟩
        · have ho2 := Option.some.inj ho
          subst ho2
          have f6 : b6 = false := hi0
          clear ho hlt hd hi0
          (try simp only [Act.put, List.getElem_toArray, List.getElem_cons_succ, List.getElem_cons_zero, List.setIfInBounds_toArray, List.set_cons_zero, List.set_cons_succ])
          go_simp
          refine hK.out _ _ ?_
          exact ⟨b0, b1, b2, b3, b4, b5, true, b7, b8, b9, s17, s18, s19, s20, s21, s22, .pointer (some ⟨u.heap.size, 0, none⟩), s4, u.heap.size, g7, rfl, (by (try simp only [Act.put, List.setIfInBounds_toArray, List.set_cons_zero, List.set_cons_succ]); try rfl), hO.alloc _, q0, q1, q2, q3, q4, q5, (fun _ => rfl), (fun _ => hO.le), (fun _ _ => heap_new0 _ _), (fun h => by rw [m8 h] at f6; cases f6), (fun _ => rfl), p7, l7, (fun h1 h2 => Ok.row' ((Ok.refl u).alloc _) (q7 h1 h2)), (fun h1 => Ok.row' ((Ok.refl u).alloc _) (q9 h1)), m9, (fun _ h => Ne.symm (by cases c : b9; exact Nat.ne_of_lt (lt_row (q7 h c)); exact Nat.ne_of_lt (lt_row (q9 c))))⟩
        · have ho2 := Option.some.inj ho
          subst ho2
          have f7 : b7 = false := hi0
          clear ho hlt hd hi0
          (try simp only [Act.put, List.getElem_toArray, List.getElem_cons_succ, List.getElem_cons_zero, List.setIfInBounds_toArray, List.set_cons_zero, List.set_cons_succ])
          go_simp
          refine hK.out _ _ ?_
          exact ⟨b0, b1, b2, b3, b4, b5, b6, true, b8, b9, s17, s18, s19, s20, s21, s22, s3, .pointer (some ⟨u.heap.size, 0, none⟩), g6, u.heap.size, rfl, (by (try simp only [Act.put, List.setIfInBounds_toArray, List.set_cons_zero, List.set_cons_succ]); try rfl), hO.alloc _, q0, q1, q2, q3, q4, q5, p6, l6, (fun h1 h2 => Ok.row' ((Ok.refl u).alloc _) (q6 h1 h2)), (fun h1 => Ok.row' ((Ok.refl u).alloc _) (q8 h1)), m8, (fun _ => rfl), (fun _ => hO.le), (fun _ _ => heap_new0 _ _), (fun h => by rw [m9 h] at f7; cases f7), (fun _ => rfl), (fun h _ => (by cases c : b8; exact Nat.ne_of_lt (lt_row (q6 h c)); exact Nat.ne_of_lt (lt_row (q8 c))))⟩
        · have ho2 := Option.some.inj ho
          subst ho2
          have f8 : b8 = false := hi0
          have t2 : b2 = true := hd ⟨2, .data⟩ (by simp) rfl
          have t6 : b6 = true := hd ⟨6, .data⟩ (by simp) rfl
          have t7 : b7 = true := hd ⟨7, .phase⟩ (by simp) rfl
          clear ho hlt hd hi0
          have e2 := q2 t2
          subst e2
          have e6 := p6 t6
          subst e6
          have e7 := p7 t7
          subst e7
          have rg := q6 t6 f8
          (try unfold nv)
          have zz := row5_facts (rg)
          have y0 := zz.1
          have y1 := zz.2.1
          have y2 := zz.2.2.1
          have y3 := zz.2.2.2.1
          have y4 := zz.2.2.2.2.1
          have y5 := zz.2.2.2.2.2.1
          have y6 := zz.2.2.2.2.2.2.1
          have y7 := zz.2.2.2.2.2.2.2.1
          have y8 := zz.2.2.2.2.2.2.2.2.1
          have y9 := zz.2.2.2.2.2.2.2.2.2
          clear zz
          (try simp only [Act.put, List.getElem_toArray, List.getElem_cons_succ, List.getElem_cons_zero, List.setIfInBounds_toArray, List.set_cons_zero, List.set_cons_succ])
          go_simp
          have hrp := rows_put1 (Z := (((((u.setCell ⟨g6, 0, none⟩ (.bool x.2.2.2.2)).setCell ⟨g6, 1, none⟩ (.int .i64 x.1)).setCell ⟨g6, 2, none⟩ (.int .i64 x.2.1)).setCell ⟨g6, 3, none⟩ (.int .u64 (x.2.2.1 : Int))).setCell ⟨g6, 4, none⟩ (.int .u64 (x.2.2.2.1 : Int)))) rg hO (l6 t6) _ _ _ _ _ rfl
          refine hK.out _ _ ?_
          exact ⟨b0, b1, b2, b3, b4, b5, b6, b7, true, b9, s17, s18, nv x, s20, s21, s22, .pointer (some ⟨g6, 0, none⟩), .pointer (some ⟨g7, 0, none⟩), g6, g7, rfl, (by (try simp only [Act.put, List.setIfInBounds_toArray, List.set_cons_zero, List.set_cons_succ]); try rfl), hrp.out.1, q0, q1, q2, q3, q4, q5, (fun _ => rfl), l6, (fun _ h => by cases h), (fun _ => hrp.out.2.1), (fun _ => t6), (fun _ => rfl), l7, (fun h1 h2 => hrp.out.2.2 _ _ (d6_7 t6 t7).symm (q7 h1 h2)), (fun h1 => hrp.out.2.2 _ _ (d6_7 t6 t7).symm (q9 h1)), m9, d6_7⟩
        · have ho2 := Option.some.inj ho
          subst ho2
          have f9 : b9 = false := hi0
          have t5 : b5 = true := hd ⟨5, .data⟩ (by simp) rfl
          have t6 : b6 = true := hd ⟨6, .phase⟩ (by simp) rfl
          have t7 : b7 = true := hd ⟨7, .data⟩ (by simp) rfl
          clear ho hlt hd hi0
          have e5 := q5 t5
          subst e5
          have e6 := p6 t6
          subst e6
          have e7 := p7 t7
          subst e7
          have rg := q7 t7 f9
          (try unfold nv)
          have zz := row5_facts (rg)
          have y0 := zz.1
          have y1 := zz.2.1
          have y2 := zz.2.2.1
          have y3 := zz.2.2.2.1
          have y4 := zz.2.2.2.2.1
          have y5 := zz.2.2.2.2.2.1
          have y6 := zz.2.2.2.2.2.2.1
          have y7 := zz.2.2.2.2.2.2.2.1
          have y8 := zz.2.2.2.2.2.2.2.2.1
          have y9 := zz.2.2.2.2.2.2.2.2.2
          clear zz
          (try simp only [Act.put, List.getElem_toArray, List.getElem_cons_succ, List.getElem_cons_zero, List.setIfInBounds_toArray, List.set_cons_zero, List.set_cons_succ])
          go_simp
          have hrp := rows_put1 (Z := (((((u.setCell ⟨g7, 0, none⟩ (.bool y.2.2.2.2)).setCell ⟨g7, 1, none⟩ (.int .i64 y.1)).setCell ⟨g7, 2, none⟩ (.int .i64 y.2.1)).setCell ⟨g7, 3, none⟩ (.int .u64 (y.2.2.1 : Int))).setCell ⟨g7, 4, none⟩ (.int .u64 (y.2.2.2.1 : Int)))) rg hO (l7 t7) _ _ _ _ _ rfl
          refine hK.out _ _ ?_
          exact ⟨b0, b1, b2, b3, b4, b5, b6, b7, b8, true, s17, s18, s19, s20, s21, nv y, .pointer (some ⟨g6, 0, none⟩), .pointer (some ⟨g7, 0, none⟩), g6, g7, rfl, (by (try simp only [Act.put, List.setIfInBounds_toArray, List.set_cons_zero, List.set_cons_succ]); try rfl), hrp.out.1, q0, q1, q2, q3, q4, q5, (fun _ => rfl), l6, (fun h1 h2 => hrp.out.2.2 _ _ (d6_7 t6 t7) (q6 h1 h2)), (fun h1 => hrp.out.2.2 _ _ (d6_7 t6 t7) (q8 h1)), m8, (fun _ => rfl), l7, (fun _ h => by cases h), (fun _ => hrp.out.2.1), (fun _ => t7), d6_7⟩
      case fin =>
        intro l fr V1 hI hr
        obtain ⟨b0, b1, b2, b3, b4, b5, b6, b7, b8, b9, s17, s18, s19, s20, s21, s22, s3, s4, g6, g7, rfl, rfl, hO, q0, q1, q2, q3, q4, q5, p6, l6, q6, q8, m8, p7, l7, q7, q9, m9, d6_7⟩ := hI
        have hall := all_listed (by kernel_rfl) rfl hr
        clear hr
        have t0 : b0 = true := hall 0 (by decide)
        have t1 : b1 = true := hall 1 (by decide)
        have t2 : b2 = true := hall 2 (by decide)
        have t3 : b3 = true := hall 3 (by decide)
        have t4 : b4 = true := hall 4 (by decide)
        have t5 : b5 = true := hall 5 (by decide)
        have t6 : b6 = true := hall 6 (by decide)
        have t7 : b7 = true := hall 7 (by decide)
        have t8 : b8 = true := hall 8 (by decide)
        have t9 : b9 = true := hall 9 (by decide)
        have e0 := q0 t0
        subst e0
        have e1 := q1 t1
        subst e1
        have e2 := q2 t2
        subst e2
        have e3 := q3 t3
        subst e3
        have e4 := q4 t4
        subst e4
        have e5 := q5 t5
        subst e5
        have e6 := p6 t6
        subst e6
        have r6 := q8 t8
        replace l6 := l6 t6
        have e7 := p7 t7
        subst e7
        have r7 := q9 t9
        replace l7 := l7 t7
        replace d6_7 := d6_7 t6 t7
        clear hall t0 t1 t2 t3 t4 t5 t6 t7 t8 t9 q0 q1 q2 q3 q4 q5 p6 q6 q8 m8 p7 q7 q9 m9
        (try simp only [Act.put, List.getElem_toArray, List.getElem_cons_succ, List.getElem_cons_zero, List.setIfInBounds_toArray, List.set_cons_zero, List.set_cons_succ])
        go_wp2_with fail
        go_meet
        case rel => exact ⟨g6, g7, rfl, rfl, r6, r7, hO⟩
  case rest =>
    obtain ⟨gx, gy, h3, h4, rx0, ry0, hO⟩ := hcut.out
    subst h3
    subst h4
    obtain ⟨W2, ew⟩ : ∃ t, t = wc := ⟨_, rfl⟩
    rw [← ew] at rx0 ry0 hO ⊢
    clear hcut ew
    have rx : Hid _ := rx0
    have ry : Hid _ := ry0
    clear rx0 ry0
    replace rk : Hid _ := Ok.row' hO rk.out
    have HW2 : Hid (Ok w0 W2) := HW1.out.step hO
    clear hO HW1
    have zz := row5_facts (rx.out)
    have xx0 := zz.1
    have xx1 := zz.2.1
    have xx2 := zz.2.2.1
    have xx3 := zz.2.2.2.1
    have xx4 := zz.2.2.2.2.1
    have xx5 := zz.2.2.2.2.2.1
    have xx6 := zz.2.2.2.2.2.2.1
    have xx7 := zz.2.2.2.2.2.2.2.1
    have xx8 := zz.2.2.2.2.2.2.2.2.1
    have xx9 := zz.2.2.2.2.2.2.2.2.2
    clear zz
    go_wp2_with fail
    clear xx0 xx1 xx2 xx3 xx4 xx5 xx6 xx7 xx8 xx9
    refine (wnormal_any x RX.out.1 RX.out.2 W2 _ (Ok.refl _)).mono ?_
    rintro e W3 ⟨rfl, hb⟩
    replace rk : Hid _ := Ok.row' hb rk.out
    replace rx : Hid _ := Ok.row' hb rx.out
    replace ry : Hid _ := Ok.row' hb ry.out
    have HW3 : Hid (Ok w0 W3) := HW2.out.step hb
    clear hb HW2
    have zz := row5_facts (ry.out)
    have yy0 := zz.1
    have yy1 := zz.2.1
    have yy2 := zz.2.2.1
    have yy3 := zz.2.2.2.1
    have yy4 := zz.2.2.2.2.1
    have yy5 := zz.2.2.2.2.2.1
    have yy6 := zz.2.2.2.2.2.2.1
    have yy7 := zz.2.2.2.2.2.2.2.1
    have yy8 := zz.2.2.2.2.2.2.2.2.1
    have yy9 := zz.2.2.2.2.2.2.2.2.2
    clear zz
    go_wp2_with fail
    clear yy0 yy1 yy2 yy3 yy4 yy5 yy6 yy7 yy8 yy9
    refine (wnormal_any y RY.out.1 RY.out.2 W3 _ (Ok.refl _)).mono ?_
    rintro e W4 ⟨rfl, hb⟩
    replace rk : Hid _ := Ok.row' hb rk.out
    replace rx : Hid _ := Ok.row' hb rx.out
    replace ry : Hid _ := Ok.row' hb ry.out
    have HW4 : Hid (Ok w0 W4) := HW3.out.step hb
    clear hb HW3
    go_wp2_with fail
    obtain ⟨W5, hW5⟩ : ∃ W, W = W4.alloc (.cells #[.int .i64 1, .int .i64 3, .int .i64 4, .int .i64 5, .int .i64 6, .int .i64 7] 41) := ⟨_, rfl⟩
    have rl : Hid (W5.heap[W4.heap.size]? = some (.cells #[.int .i64 1, .int .i64 3, .int .i64 4, .int .i64 5, .int .i64 6, .int .i64 7] 41)) := by unfold Hid; rw [hW5]; exact heap_new0 _ _
    have hO : Ok W4 W5 := by rw [hW5]; exact (Ok.refl _).alloc _
    rw [← hW5]
    obtain ⟨gl, egl⟩ : ∃ g, g = W4.heap.size := ⟨_, rfl⟩
    rw [← egl] at rl ⊢
    clear hW5 egl
    replace rk : Hid _ := Ok.row' hO rk.out
    replace rx : Hid _ := Ok.row' hO rx.out
    replace ry : Hid _ := Ok.row' hO ry.out
    have HW5 : Hid (Ok w0 W5) := HW4.out.step hO
    clear hO HW4
    go_loopw [33] (fun s wr => ∃ k : Nat, k ≤ 6 ∧ s = .int .i64 (k : Int) ∧ Hid (Ok W5 wr)) (fun s _ => (6 - intOf s).toNat)
    case atStart => exact ⟨0, by omega, rfl, Ok.refl _⟩
    case round =>
      obtain ⟨k, hk, rfl, HK⟩ := hrel
      replace rk : Hid _ := Ok.row' HK.out rk.out
      replace rx : Hid _ := Ok.row' HK.out rx.out
      replace ry : Hid _ := Ok.row' HK.out ry.out
      replace rl : Hid _ := Ok.row' HK.out rl.out
      by_cases k6 : k < 6
      · have k6i : (k : Int) < 6 := by omega
        have k0i : (0 : Int) ≤ (k : Int) := by omega
        obtain ⟨op, hop, ce⟩ := ops_cell rl.out k6
        have HOP : Hid _ := hop
        obtain ⟨g, hg⟩ : ∃ t, t = apN op a b := ⟨_, rfl⟩
        have HG : Hid _ := hg
        have RG : Hid (RawN g ∧ NormN g) := by rw [hg]; exact ⟨apN_raw hop HU.out.1 HU.out.2.1, apN_norm hop HU.out.1 HU.out.2.1⟩
        clear hop hg
        have Hwr : Hid (Ok W5 wr) := HK.out
        have zz := row12_facts (rk.out)
        have kk0 := zz.1
        have kk1 := zz.2.1
        have kk2 := zz.2.2.1
        have kk3 := zz.2.2.2.1
        have kk4 := zz.2.2.2.2.1
        have kk5 := zz.2.2.2.2.2.1
        have kk6 := zz.2.2.2.2.2.2.1
        have kk7 := zz.2.2.2.2.2.2.2.1
        have kk8 := zz.2.2.2.2.2.2.2.2.1
        have kk9 := zz.2.2.2.2.2.2.2.2.2.1
        have kk10 := zz.2.2.2.2.2.2.2.2.2.2.1
        have kk11 := zz.2.2.2.2.2.2.2.2.2.2.2
        clear zz
        go_wp2_with fail
        clear ce kk0 kk1 kk2 kk3 kk4 kk5 kk6 kk7 kk8 kk9 kk10 kk11
        refine (napply_op op HOP.out a b HU.out.1 HU.out.2.1 wr _ (Ok.refl _)).mono ?_
        rintro e v1 ⟨rfl, hb⟩
        rw [← HG.out]
        unfold nv
        replace rk : Hid _ := Ok.row' hb rk.out
        replace rx : Hid _ := Ok.row' hb rx.out
        replace ry : Hid _ := Ok.row' hb ry.out
        replace rl : Hid _ := Ok.row' hb rl.out
        have Hv1 : Hid (Ok W5 v1) := Hwr.out.step hb
        clear hb Hwr
        go_upto_region 10 with (fail)
        obtain ⟨v2, hv2⟩ : ∃ W, W = v1.alloc (.cells #[.bool g.2.2.2.2, .int .i64 g.1, .int .i64 g.2.1, .int .u64 (g.2.2.1 : Int), .int .u64 (g.2.2.2.1 : Int)] 28) := ⟨_, rfl⟩
        have rg : Hid (v2.heap[v1.heap.size]? = some (.cells #[.bool g.2.2.2.2, .int .i64 g.1, .int .i64 g.2.1, .int .u64 (g.2.2.1 : Int), .int .u64 (g.2.2.2.1 : Int)] 28)) := by unfold Hid; rw [hv2]; exact heap_new0 _ _
        have hO : Ok v1 v2 := by rw [hv2]; exact (Ok.refl _).alloc _
        rw [← hv2]
        obtain ⟨gg, egg⟩ : ∃ g, g = v1.heap.size := ⟨_, rfl⟩
        rw [← egg] at rg ⊢
        clear hv2 egg
        replace rk : Hid _ := Ok.row' hO rk.out
        replace rx : Hid _ := Ok.row' hO rx.out
        replace ry : Hid _ := Ok.row' hO ry.out
        replace rl : Hid _ := Ok.row' hO rl.out
        have Hv2 : Hid (Ok W5 v2) := Hv1.out.step hO
        clear hO Hv1
        have zz := row5_facts (rg.out)
        have gg0 := zz.1
        have gg1 := zz.2.1
        have gg2 := zz.2.2.1
        have gg3 := zz.2.2.2.1
        have gg4 := zz.2.2.2.2.1
        have gg5 := zz.2.2.2.2.2.1
        have gg6 := zz.2.2.2.2.2.2.1
        have gg7 := zz.2.2.2.2.2.2.2.1
        have gg8 := zz.2.2.2.2.2.2.2.2.1
        have gg9 := zz.2.2.2.2.2.2.2.2.2
        clear zz
        go_wp2_with fail
        clear gg0 gg1 gg2 gg3 gg4 gg5 gg6 gg7 gg8 gg9
        refine (wnormal_any g RG.out.1 RG.out.2 v2 _ (Ok.refl _)).mono ?_
        rintro e v3 ⟨rfl, hb⟩
        replace rk : Hid _ := Ok.row' hb rk.out
        replace rx : Hid _ := Ok.row' hb rx.out
        replace ry : Hid _ := Ok.row' hb ry.out
        replace rl : Hid _ := Ok.row' hb rl.out
        replace rg : Hid _ := Ok.row' hb rg.out
        have Hv3 : Hid (Ok W5 v3) := Hv2.out.step hb
        clear hb Hv2
        rcases Bool.eq_false_or_eq_true x.2.2.2.2 with hxb | hxb
        rotate_left
        · rcases Bool.eq_false_or_eq_true y.2.2.2.2 with hyb | hyb
          rotate_left
          · have HXB : Hid _ := hxb
            have HYB : Hid _ := hyb
            have zz := row5_facts (rx.out)
            have xx0 := zz.1
            have xx1 := zz.2.1
            have xx2 := zz.2.2.1
            have xx3 := zz.2.2.2.1
            have xx4 := zz.2.2.2.2.1
            have xx5 := zz.2.2.2.2.2.1
            have xx6 := zz.2.2.2.2.2.2.1
            have xx7 := zz.2.2.2.2.2.2.2.1
            have xx8 := zz.2.2.2.2.2.2.2.2.1
            have xx9 := zz.2.2.2.2.2.2.2.2.2
            clear zz
            have zz := row5_facts (ry.out)
            have yy0 := zz.1
            have yy1 := zz.2.1
            have yy2 := zz.2.2.1
            have yy3 := zz.2.2.2.1
            have yy4 := zz.2.2.2.2.1
            have yy5 := zz.2.2.2.2.2.1
            have yy6 := zz.2.2.2.2.2.2.1
            have yy7 := zz.2.2.2.2.2.2.2.1
            have yy8 := zz.2.2.2.2.2.2.2.2.1
            have yy9 := zz.2.2.2.2.2.2.2.2.2
            clear zz
            have zz := row5_facts (rg.out)
            have gg0 := zz.1
            have gg1 := zz.2.1
            have gg2 := zz.2.2.1
            have gg3 := zz.2.2.2.1
            have gg4 := zz.2.2.2.2.1
            have gg5 := zz.2.2.2.2.2.1
            have gg6 := zz.2.2.2.2.2.2.1
            have gg7 := zz.2.2.2.2.2.2.2.1
            have gg8 := zz.2.2.2.2.2.2.2.2.1
            have gg9 := zz.2.2.2.2.2.2.2.2.2
            clear zz
            rw [hxb] at xx0
            rw [hyb] at yy0
            clear hxb hyb
            go_upto_region 13 with (fail)
            clear xx0 xx1 xx2 xx3 xx4 xx5 xx6 xx7 xx8 xx9 yy0 yy1 yy2 yy3 yy4 yy5 yy6 yy7 yy8 yy9 gg0 gg1 gg2 gg3 gg4 gg5 gg6 gg7 gg8 gg9
            obtain ⟨sx, hsx⟩ : ∃ t, t = someN x kx := ⟨_, rfl⟩
            obtain ⟨sy, hsy⟩ : ∃ t, t = someN y ky := ⟨_, rfl⟩
            have HSX : Hid _ := hsx
            have HSY : Hid _ := hsy
            have SM : Hid (MemN x sx ∧ MemN y sy ∧ In64 sx ∧ In64 sy) := by rw [hsx, hsy]; exact ⟨someN_mem RX.out.2 HXB.out HU.out.2.2.1, someN_mem RY.out.2 HYB.out HU.out.2.2.2, someN_in RX.out.1 RX.out.2 HU.out.2.2.1, someN_in RY.out.1 RY.out.2 HU.out.2.2.2⟩
            clear hsx hsy
            go_cut [9, 10] from 76 to 83 (fun s9 s10 u => Hid (s9 = .int .i64 sx ∧ s10 = .int .i64 sy ∧ Ok v3 u))
            case first =>
              as_aux_lemma =>
                have zz := row12_facts (rk.out)
                have kk0 := zz.1
                have kk1 := zz.2.1
                have kk2 := zz.2.2.1
                have kk3 := zz.2.2.2.1
                have kk4 := zz.2.2.2.2.1
                have kk5 := zz.2.2.2.2.2.1
                have kk6 := zz.2.2.2.2.2.2.1
                have kk7 := zz.2.2.2.2.2.2.2.1
                have kk8 := zz.2.2.2.2.2.2.2.2.1
                have kk9 := zz.2.2.2.2.2.2.2.2.2.1
                have kk10 := zz.2.2.2.2.2.2.2.2.2.2.1
                have kk11 := zz.2.2.2.2.2.2.2.2.2.2.2
                clear zz
                have zz := row5_facts (rx.out)
                have xx0 := zz.1
                have xx1 := zz.2.1
                have xx2 := zz.2.2.1
                have xx3 := zz.2.2.2.1
                have xx4 := zz.2.2.2.2.1
                have xx5 := zz.2.2.2.2.2.1
                have xx6 := zz.2.2.2.2.2.2.1
                have xx7 := zz.2.2.2.2.2.2.2.1
                have xx8 := zz.2.2.2.2.2.2.2.2.1
                have xx9 := zz.2.2.2.2.2.2.2.2.2
                clear zz
                have zz := row5_facts (ry.out)
                have yy0 := zz.1
                have yy1 := zz.2.1
                have yy2 := zz.2.2.1
                have yy3 := zz.2.2.2.1
                have yy4 := zz.2.2.2.2.1
                have yy5 := zz.2.2.2.2.2.1
                have yy6 := zz.2.2.2.2.2.2.1
                have yy7 := zz.2.2.2.2.2.2.2.1
                have yy8 := zz.2.2.2.2.2.2.2.2.1
                have yy9 := zz.2.2.2.2.2.2.2.2.2
                clear zz
                have zx := lt_row rx.out
                have zy := lt_row ry.out
                have zk := lt_row rk.out
                have bz : Ok v3 v3 := Ok.refl _
                go_region_held3 (fun w' => w'.cell? ⟨gx, 0, none⟩ = some (.bool x.2.2.2.2) ∧ w'.cell? ⟨gx, 1, none⟩ = some (.int .i64 x.1) ∧ w'.cell? ⟨gx, 2, none⟩ = some (.int .i64 x.2.1) ∧ w'.cell? ⟨gx, 3, none⟩ = some (.int .u64 (x.2.2.1 : Int)) ∧ w'.cell? ⟨gx, 4, none⟩ = some (.int .u64 (x.2.2.2.1 : Int)) ∧ w'.cell? ⟨gy, 0, none⟩ = some (.bool y.2.2.2.2) ∧ w'.cell? ⟨gy, 1, none⟩ = some (.int .i64 y.1) ∧ w'.cell? ⟨gy, 2, none⟩ = some (.int .i64 y.2.1) ∧ w'.cell? ⟨gy, 3, none⟩ = some (.int .u64 (y.2.2.1 : Int)) ∧ w'.cell? ⟨gy, 4, none⟩ = some (.int .u64 (y.2.2.2.1 : Int)) ∧ w'.cell? ⟨gk, 10, none⟩ = some (.int .i64 kx) ∧ w'.cell? ⟨gk, 11, none⟩ = some (.int .i64 ky)) (go_keep)
                  (first
                  | (go_at_call 18; refine (wsome_any _ _ (by first | exact RX.out.1 | exact RY.out.1) (by first | exact RX.out.2 | exact RY.out.2) (by first | exact HU.out.2.2.1 | exact HU.out.2.2.2) v3 _ (by repeat (first | assumption | refine Ok.alloc ?_ _ | refine Below.drew ?_))).mono ?_; rintro e w' ⟨rfl, hb⟩; (first | rw [← HSX.out] | rw [← HSY.out]); have q0 := Ok.cell hb zx xx0; have q1 := Ok.cell hb zx xx1; have q2 := Ok.cell hb zx xx2; have q3 := Ok.cell hb zx xx3; have q4 := Ok.cell hb zx xx4; have q5 := Ok.cell hb zy yy0; have q6 := Ok.cell hb zy yy1; have q7 := Ok.cell hb zy yy2; have q8 := Ok.cell hb zy yy3; have q9 := Ok.cell hb zy yy4; have q10 := Ok.cell hb zk kk10; have q11 := Ok.cell hb zk kk11)
                  | fail)
                go_wp2_with fail
                go_meet
                case rel => exact ⟨rfl, rfl, hb⟩
            case rest =>
              obtain ⟨h9, h10, hO⟩ := hcut.out
              subst h9
              subst h10
              obtain ⟨v4, ew⟩ : ∃ t, t = wc := ⟨_, rfl⟩
              rw [← ew] at hO ⊢
              clear hcut ew
              replace rk : Hid _ := Ok.row' hO rk.out
              replace rx : Hid _ := Ok.row' hO rx.out
              replace ry : Hid _ := Ok.row' hO ry.out
              replace rl : Hid _ := Ok.row' hO rl.out
              replace rg : Hid _ := Ok.row' hO rg.out
              have Hv4 : Hid (Ok W5 v4) := Hv3.out.step hO
              clear hO Hv3
              go_wp2_with fail
              obtain ⟨dv, hdv⟩ : ∃ t, t = doneV op sx sy := ⟨_, rfl⟩
              obtain ⟨db, hdb⟩ : ∃ t, t = doneB op sy := ⟨_, rfl⟩
              have HDV : Hid _ := hdv
              have HDB : Hid _ := hdb
              have IDV : Hid (In64 dv) := by rw [hdv]; exact doneV_in HOP.out SM.out.2.2.1
              clear hdv hdb
              refine (wdone_any op sx sy HOP.out SM.out.2.2.1 v4 _ (Ok.refl _)).mono ?_
              rintro e v5 ⟨rfl, hb⟩
              rw [← HDV.out, ← HDB.out]
              replace rk : Hid _ := Ok.row' hb rk.out
              replace rx : Hid _ := Ok.row' hb rx.out
              replace ry : Hid _ := Ok.row' hb ry.out
              replace rl : Hid _ := Ok.row' hb rl.out
              replace rg : Hid _ := Ok.row' hb rg.out
              have Hv5 : Hid (Ok W5 v5) := Hv4.out.step hb
              clear hb Hv4
              have IX : Hid (insN x sx = true) := (insN_iff RX.out.1 SM.out.2.2.1).2 SM.out.1
              have IY : Hid (insN y sy = true) := (insN_iff RY.out.1 SM.out.2.2.2).2 SM.out.2.1
              have IG : Hid (db = true → insN g dv = true) := fun h => (insN_iff RG.out.1 IDV.out).2 (by rw [HG.out, HDV.out]; exact apN_mem HOP.out HU.out.1 HU.out.2.1 (by rw [← HX.out]; exact SM.out.1) (by rw [← HY.out]; exact SM.out.2.1) (by rw [← HDB.out]; exact h))
              have EO : Hid (db = true → apN op (constN sx) (constN sy) = constN dv) := fun h => by rw [HDV.out]; exact apN_one HOP.out SM.out.2.2.1 SM.out.2.2.2 (by rw [← HDB.out]; exact h)
              have EN : Hid (db = false → (apN op (constN sx) (constN sy)).2.2.2.2 = true) := fun h => apN_none HOP.out (by rw [← HDB.out]; exact h)
              obtain ⟨cx, hcx⟩ : ∃ t, t = constN sx := ⟨_, rfl⟩
              have HCX : Hid _ := hcx
              obtain ⟨cy, hcy⟩ : ∃ t, t = constN sy := ⟨_, rfl⟩
              have HCY : Hid _ := hcy
              have RC : Hid (RawN cx ∧ RawN cy) := by rw [hcx, hcy]; exact ⟨const_raw SM.out.2.2.1, const_raw SM.out.2.2.2⟩
              rw [← hcx, ← hcy] at EO EN
              clear hcx hcy
              obtain ⟨o1, ho1⟩ : ∃ t, t = apN op cx cy := ⟨_, rfl⟩
              rw [← ho1] at EO EN
              have HO1 : Hid _ := ho1
              clear ho1
              have zz := row5_facts (rx.out)
              have xx0 := zz.1
              have xx1 := zz.2.1
              have xx2 := zz.2.2.1
              have xx3 := zz.2.2.2.1
              have xx4 := zz.2.2.2.2.1
              have xx5 := zz.2.2.2.2.2.1
              have xx6 := zz.2.2.2.2.2.2.1
              have xx7 := zz.2.2.2.2.2.2.2.1
              have xx8 := zz.2.2.2.2.2.2.2.2.1
              have xx9 := zz.2.2.2.2.2.2.2.2.2
              clear zz
              go_wp2_with fail
              clear xx0 xx1 xx2 xx3 xx4 xx5 xx6 xx7 xx8 xx9
              refine (win_any x sx RX.out.1 SM.out.2.2.1 v5 _ (Ok.refl _)).mono ?_
              rintro e v6 ⟨rfl, hb⟩
              rw [IX.out]
              replace rk : Hid _ := Ok.row' hb rk.out
              replace rx : Hid _ := Ok.row' hb rx.out
              replace ry : Hid _ := Ok.row' hb ry.out
              replace rl : Hid _ := Ok.row' hb rl.out
              replace rg : Hid _ := Ok.row' hb rg.out
              have Hv6 : Hid (Ok W5 v6) := Hv5.out.step hb
              clear hb Hv5
              have zz := row5_facts (ry.out)
              have yy0 := zz.1
              have yy1 := zz.2.1
              have yy2 := zz.2.2.1
              have yy3 := zz.2.2.2.1
              have yy4 := zz.2.2.2.2.1
              have yy5 := zz.2.2.2.2.2.1
              have yy6 := zz.2.2.2.2.2.2.1
              have yy7 := zz.2.2.2.2.2.2.2.1
              have yy8 := zz.2.2.2.2.2.2.2.2.1
              have yy9 := zz.2.2.2.2.2.2.2.2.2
              clear zz
              go_wp2_with fail
              clear yy0 yy1 yy2 yy3 yy4 yy5 yy6 yy7 yy8 yy9
              refine (win_any y sy RY.out.1 SM.out.2.2.2 v6 _ (Ok.refl _)).mono ?_
              rintro e v7 ⟨rfl, hb⟩
              rw [IY.out]
              replace rk : Hid _ := Ok.row' hb rk.out
              replace rx : Hid _ := Ok.row' hb rx.out
              replace ry : Hid _ := Ok.row' hb ry.out
              replace rl : Hid _ := Ok.row' hb rl.out
              replace rg : Hid _ := Ok.row' hb rg.out
              have Hv7 : Hid (Ok W5 v7) := Hv6.out.step hb
              clear hb Hv6
              cases db
              · skip
                have HOB : Hid _ := EN.out rfl
                clear EO EN IG
                go_wp2_with fail
                refine (nconst_any sx v7 _ (Ok.refl _)).mono ?_
                rintro e u1 ⟨rfl, hb⟩
                rw [← HCX.out]
                unfold nv
                replace rk : Hid _ := Ok.row' hb rk.out
                replace rx : Hid _ := Ok.row' hb rx.out
                replace ry : Hid _ := Ok.row' hb ry.out
                replace rl : Hid _ := Ok.row' hb rl.out
                replace rg : Hid _ := Ok.row' hb rg.out
                have Hu1 : Hid (Ok W5 u1) := Hv7.out.step hb
                clear hb Hv7
                go_wp2_with fail
                refine (nconst_any sy u1 _ (Ok.refl _)).mono ?_
                rintro e u2 ⟨rfl, hb⟩
                rw [← HCY.out]
                unfold nv
                replace rk : Hid _ := Ok.row' hb rk.out
                replace rx : Hid _ := Ok.row' hb rx.out
                replace ry : Hid _ := Ok.row' hb ry.out
                replace rl : Hid _ := Ok.row' hb rl.out
                replace rg : Hid _ := Ok.row' hb rg.out
                have Hu2 : Hid (Ok W5 u2) := Hu1.out.step hb
                clear hb Hu1
                go_wp2_with fail
                refine (napply_op op HOP.out cx cy RC.out.1 RC.out.2 u2 _ (Ok.refl _)).mono ?_
                rintro e u3 ⟨rfl, hb⟩
                rw [← HO1.out]
                unfold nv
                replace rk : Hid _ := Ok.row' hb rk.out
                replace rx : Hid _ := Ok.row' hb rx.out
                replace ry : Hid _ := Ok.row' hb ry.out
                replace rl : Hid _ := Ok.row' hb rl.out
                replace rg : Hid _ := Ok.row' hb rg.out
                have Hu3 : Hid (Ok W5 u3) := Hu2.out.step hb
                clear hb Hu2
                go_upto_region 18 with (fail)
                obtain ⟨u4, hu4⟩ : ∃ W, W = u3.alloc (.cells #[.bool o1.2.2.2.2, .int .i64 o1.1, .int .i64 o1.2.1, .int .u64 (o1.2.2.1 : Int), .int .u64 (o1.2.2.2.1 : Int)] 28) := ⟨_, rfl⟩
                have ro : Hid (u4.heap[u3.heap.size]? = some (.cells #[.bool o1.2.2.2.2, .int .i64 o1.1, .int .i64 o1.2.1, .int .u64 (o1.2.2.1 : Int), .int .u64 (o1.2.2.2.1 : Int)] 28)) := by unfold Hid; rw [hu4]; exact heap_new0 _ _
                have hO : Ok u3 u4 := by rw [hu4]; exact (Ok.refl _).alloc _
                rw [← hu4]
                obtain ⟨go, ego⟩ : ∃ g, g = u3.heap.size := ⟨_, rfl⟩
                rw [← ego] at ro ⊢
                clear hu4 ego
                replace rk : Hid _ := Ok.row' hO rk.out
                replace rx : Hid _ := Ok.row' hO rx.out
                replace ry : Hid _ := Ok.row' hO ry.out
                replace rl : Hid _ := Ok.row' hO rl.out
                replace rg : Hid _ := Ok.row' hO rg.out
                have Hu4 : Hid (Ok W5 u4) := Hu3.out.step hO
                clear hO Hu3
                go_cut [138] from 119 to 138 (fun s138 u => Hid (s138 = .bool false ∧ Ok u4 u))
                case first =>
                  as_aux_lemma =>
                    refine wp_region_held_drew (S := fun w' => Ok u4 w') (by kernel_rfl) (Below.drew (Ok.refl _)) (fun hHeld => ?_)
                    refine wpAnyH_take (i := 0) (v := ?_) rfl (by kernel_rfl) (by kernel_rfl) (by kernel_rfl) (fun _ _ _ h => h) (Or.inl ⟨by rfl, ?_⟩) hHeld ?_
                    rotate_left
                    · intro w hSw; (try dsimp only at hSw); (go_simp; try with_reducible rfl)
                    (try simp only [Act.put, List.getElem_toArray, List.getElem_cons_succ, List.getElem_cons_zero, List.setIfInBounds_toArray, List.set_cons_zero, List.set_cons_succ])
                    refine wpAnyH_take (i := 1) (v := ?_) rfl (by kernel_rfl) (by kernel_rfl) (by kernel_rfl) (fun _ _ _ h => h) (Or.inl ⟨by rfl, ?_⟩) hHeld ?_
                    rotate_left
                    · intro w hSw; (try dsimp only at hSw); (go_simp; try with_reducible rfl)
                    (try simp only [Act.put, List.getElem_toArray, List.getElem_cons_succ, List.getElem_cons_zero, List.setIfInBounds_toArray, List.set_cons_zero, List.set_cons_succ])
                    refine wpAnyH_take (i := 2) (v := ?_) rfl (by kernel_rfl) (by kernel_rfl) (by kernel_rfl) (fun _ _ _ h => h) (Or.inl ⟨by rfl, ?_⟩) hHeld ?_
                    rotate_left
                    · intro w hSw; (try dsimp only at hSw); (go_simp; try with_reducible rfl)
                    (try simp only [Act.put, List.getElem_toArray, List.getElem_cons_succ, List.getElem_cons_zero, List.setIfInBounds_toArray, List.set_cons_zero, List.set_cons_succ])
                    refine wpAnyH_take (i := 3) (v := ?_) rfl (by kernel_rfl) (by kernel_rfl) (by kernel_rfl) (fun _ _ _ h => h) (Or.inl ⟨by rfl, ?_⟩) hHeld ?_
                    rotate_left
                    · intro w hSw; (try dsimp only at hSw); (go_simp; try with_reducible rfl)
                    (try simp only [Act.put, List.getElem_toArray, List.getElem_cons_succ, List.getElem_cons_zero, List.setIfInBounds_toArray, List.set_cons_zero, List.set_cons_succ])
                    refine wpAnyH_take (i := 4) (v := ?_) rfl (by kernel_rfl) (by kernel_rfl) (by kernel_rfl) (fun _ _ _ h => h) (Or.inl ⟨by rfl, ?_⟩) hHeld ?_
                    rotate_left
                    · intro w hSw; (try dsimp only at hSw); (go_simp; try with_reducible rfl)
                    (try simp only [Act.put, List.getElem_toArray, List.getElem_cons_succ, List.getElem_cons_zero, List.setIfInBounds_toArray, List.set_cons_zero, List.set_cons_succ])
                    refine wpAnyH_take (i := 5) (v := undef) rfl (by kernel_rfl) (by kernel_rfl) (by kernel_rfl) (fun _ _ _ h => h) (Or.inr ⟨by rfl, rfl⟩) hHeld ?_
                    (try simp only [Act.put, List.getElem_toArray, List.getElem_cons_succ, List.getElem_cons_zero, List.setIfInBounds_toArray, List.set_cons_zero, List.set_cons_succ])
                    refine wpAnyH_take (i := 6) (v := undef) rfl (by kernel_rfl) (by kernel_rfl) (by kernel_rfl) (fun _ _ _ h => h) (Or.inr ⟨by rfl, rfl⟩) hHeld ?_
                    (try simp only [Act.put, List.getElem_toArray, List.getElem_cons_succ, List.getElem_cons_zero, List.setIfInBounds_toArray, List.set_cons_zero, List.set_cons_succ])
                    refine wpAnyH_take (i := 7) (v := undef) rfl (by kernel_rfl) (by kernel_rfl) (by kernel_rfl) (fun _ _ _ h => h) (Or.inr ⟨by rfl, rfl⟩) hHeld ?_
                    (try simp only [Act.put, List.getElem_toArray, List.getElem_cons_succ, List.getElem_cons_zero, List.setIfInBounds_toArray, List.set_cons_zero, List.set_cons_succ])
                    refine wpAnyH_take (i := 8) (v := undef) rfl (by kernel_rfl) (by kernel_rfl) (by kernel_rfl) (fun _ _ _ h => h) (Or.inr ⟨by rfl, rfl⟩) hHeld ?_
                    (try simp only [Act.put, List.getElem_toArray, List.getElem_cons_succ, List.getElem_cons_zero, List.setIfInBounds_toArray, List.set_cons_zero, List.set_cons_succ])
                    refine wpAnyH_take (i := 9) (v := ?_) rfl (by kernel_rfl) (by kernel_rfl) (by kernel_rfl) (fun _ _ _ h => h) (Or.inl ⟨by rfl, ?_⟩) hHeld ?_
                    rotate_left
                    · intro w hSw; (try dsimp only at hSw); (go_simp; try with_reducible rfl)
                    (try simp only [Act.put, List.getElem_toArray, List.getElem_cons_succ, List.getElem_cons_zero, List.setIfInBounds_toArray, List.set_cons_zero, List.set_cons_succ])
                    refine wpAnyH_take (i := 10) (v := ?_) rfl (by kernel_rfl) (by kernel_rfl) (by kernel_rfl) (fun _ _ _ h => h) (Or.inl ⟨by rfl, ?_⟩) hHeld ?_
                    rotate_left
                    · intro w hSw; (try dsimp only at hSw); (go_simp; try with_reducible rfl)
                    (try simp only [Act.put, List.getElem_toArray, List.getElem_cons_succ, List.getElem_cons_zero, List.setIfInBounds_toArray, List.set_cons_zero, List.set_cons_succ])
                    refine wpAnyH_take (i := 11) (v := ?_) rfl (by kernel_rfl) (by kernel_rfl) (by kernel_rfl) (fun _ _ _ h => h) (Or.inl ⟨by rfl, ?_⟩) hHeld ?_
                    rotate_left
                    · intro w hSw; (try dsimp only at hSw); (go_simp; try with_reducible rfl)
                    (try simp only [Act.put, List.getElem_toArray, List.getElem_cons_succ, List.getElem_cons_zero, List.setIfInBounds_toArray, List.set_cons_zero, List.set_cons_succ])
                    refine wpAnyH_take (i := 12) (v := ?_) rfl (by kernel_rfl) (by kernel_rfl) (by kernel_rfl) (fun _ _ _ h => h) (Or.inl ⟨by rfl, ?_⟩) hHeld ?_
                    rotate_left
                    · intro w hSw; (try dsimp only at hSw); (go_simp; try with_reducible rfl)
                    (try simp only [Act.put, List.getElem_toArray, List.getElem_cons_succ, List.getElem_cons_zero, List.setIfInBounds_toArray, List.set_cons_zero, List.set_cons_succ])
                    refine wpAnyH_take (i := 13) (v := ?_) rfl (by kernel_rfl) (by kernel_rfl) (by kernel_rfl) (fun _ _ _ h => h) (Or.inl ⟨by rfl, ?_⟩) hHeld ?_
                    rotate_left
                    · intro w hSw; (try dsimp only at hSw); (go_simp; try with_reducible rfl)
                    (try simp only [Act.put, List.getElem_toArray, List.getElem_cons_succ, List.getElem_cons_zero, List.setIfInBounds_toArray, List.set_cons_zero, List.set_cons_succ])
                    refine wpAnyH_take (i := 14) (v := ?_) rfl (by kernel_rfl) (by kernel_rfl) (by kernel_rfl) (fun _ _ _ h => h) (Or.inl ⟨by rfl, ?_⟩) hHeld ?_
                    rotate_left
                    · intro w hSw; (try dsimp only at hSw); (go_simp; try with_reducible rfl)
                    (try simp only [Act.put, List.getElem_toArray, List.getElem_cons_succ, List.getElem_cons_zero, List.setIfInBounds_toArray, List.set_cons_zero, List.set_cons_succ])
                    refine wpAnyH_take (i := 15) (v := ?_) rfl (by kernel_rfl) (by kernel_rfl) (by kernel_rfl) (fun _ _ _ h => h) (Or.inl ⟨by rfl, ?_⟩) hHeld ?_
                    rotate_left
                    · intro w hSw; (try dsimp only at hSw); (go_simp; try with_reducible rfl)
                    (try simp only [Act.put, List.getElem_toArray, List.getElem_cons_succ, List.getElem_cons_zero, List.setIfInBounds_toArray, List.set_cons_zero, List.set_cons_succ])
                    refine wpAnyH_take (i := 16) (v := .bool true) rfl (by kernel_rfl) (by kernel_rfl) (by kernel_rfl) (fun _ _ _ h => h) (Or.inl ⟨by rfl, ?_⟩) hHeld ?_
                    · intro w hSw; (try dsimp only at hSw); obtain ⟨c0, c1, c2, c3, c4, -⟩ := row5_facts (Ok.row' hSw ro.out); rw [HOB.out] at c0; (go_simp; try with_reducible rfl)
                    (try simp only [Act.put, List.getElem_toArray, List.getElem_cons_succ, List.getElem_cons_zero, List.setIfInBounds_toArray, List.set_cons_zero, List.set_cons_succ])
                    refine wpAnyH_take (i := 17) (v := ?_) rfl (by kernel_rfl) (by kernel_rfl) (by kernel_rfl) (fun _ _ _ h => h) (Or.inl ⟨by rfl, ?_⟩) hHeld ?_
                    rotate_left
                    · intro w hSw; (try dsimp only at hSw); (go_simp; try with_reducible rfl)
                    (try simp only [Act.put, List.getElem_toArray, List.getElem_cons_succ, List.getElem_cons_zero, List.setIfInBounds_toArray, List.set_cons_zero, List.set_cons_succ])
                    refine wpAnyH_take (i := 18) (v := ?_) rfl (by kernel_rfl) (by kernel_rfl) (by kernel_rfl) (fun _ _ _ h => h) (Or.inl ⟨by rfl, ?_⟩) hHeld ?_
                    rotate_left
                    · intro w hSw; (try dsimp only at hSw); (go_simp; try with_reducible rfl)
                    (try simp only [Act.put, List.getElem_toArray, List.getElem_cons_succ, List.getElem_cons_zero, List.setIfInBounds_toArray, List.set_cons_zero, List.set_cons_succ])
                    refine wpAnyH_take (i := 19) (v := ?_) rfl (by kernel_rfl) (by kernel_rfl) (by kernel_rfl) (fun _ _ _ h => h) (Or.inl ⟨by rfl, ?_⟩) hHeld ?_
                    rotate_left
                    · intro w hSw; (try dsimp only at hSw); (go_simp; try with_reducible rfl)
                    (try simp only [Act.put, List.getElem_toArray, List.getElem_cons_succ, List.getElem_cons_zero, List.setIfInBounds_toArray, List.set_cons_zero, List.set_cons_succ])
                    refine wpAnyH_done (by kernel_rfl) ?_ _
                    go_wp2_with fail
                    go_meet
                    case rel => exact ⟨rfl, hHeld⟩
                case rest =>
                  obtain ⟨h138, hO⟩ := hcut.out
                  subst h138
                  obtain ⟨u5, ew⟩ : ∃ t, t = wc := ⟨_, rfl⟩
                  rw [← ew] at hO ⊢
                  clear hcut ew
                  replace rk : Hid _ := Ok.row' hO rk.out
                  replace rx : Hid _ := Ok.row' hO rx.out
                  replace ry : Hid _ := Ok.row' hO ry.out
                  replace rl : Hid _ := Ok.row' hO rl.out
                  replace rg : Hid _ := Ok.row' hO rg.out
                  replace ro : Hid _ := Ok.row' hO ro.out
                  have Hu5 : Hid (Ok W5 u5) := Hu4.out.step hO
                  clear hO Hu4
                  go_wp2_with fail
                  go_roundw
                  case rel => exact ⟨k + 1, by omega, by simp, Hu5.out⟩
                  case measure => simp [intOf]; omega
              · skip
                have HOV : Hid _ := EO.out rfl
                have IG1 : Hid _ := IG.out rfl
                clear EO EN IG
                have zz := row5_facts (rg.out)
                have gg0 := zz.1
                have gg1 := zz.2.1
                have gg2 := zz.2.2.1
                have gg3 := zz.2.2.2.1
                have gg4 := zz.2.2.2.2.1
                have gg5 := zz.2.2.2.2.2.1
                have gg6 := zz.2.2.2.2.2.2.1
                have gg7 := zz.2.2.2.2.2.2.2.1
                have gg8 := zz.2.2.2.2.2.2.2.2.1
                have gg9 := zz.2.2.2.2.2.2.2.2.2
                clear zz
                go_wp2_with fail
                clear gg0 gg1 gg2 gg3 gg4 gg5 gg6 gg7 gg8 gg9
                refine (win_any g dv RG.out.1 IDV.out v7 _ (Ok.refl _)).mono ?_
                rintro e v8 ⟨rfl, hb⟩
                rw [IG1.out]
                replace rk : Hid _ := Ok.row' hb rk.out
                replace rx : Hid _ := Ok.row' hb rx.out
                replace ry : Hid _ := Ok.row' hb ry.out
                replace rl : Hid _ := Ok.row' hb rl.out
                replace rg : Hid _ := Ok.row' hb rg.out
                have Hv8 : Hid (Ok W5 v8) := Hv7.out.step hb
                clear hb Hv7
                go_wp2_with fail
                refine (nconst_any sx v8 _ (Ok.refl _)).mono ?_
                rintro e u1 ⟨rfl, hb⟩
                rw [← HCX.out]
                unfold nv
                replace rk : Hid _ := Ok.row' hb rk.out
                replace rx : Hid _ := Ok.row' hb rx.out
                replace ry : Hid _ := Ok.row' hb ry.out
                replace rl : Hid _ := Ok.row' hb rl.out
                replace rg : Hid _ := Ok.row' hb rg.out
                have Hu1 : Hid (Ok W5 u1) := Hv8.out.step hb
                clear hb Hv8
                go_wp2_with fail
                refine (nconst_any sy u1 _ (Ok.refl _)).mono ?_
                rintro e u2 ⟨rfl, hb⟩
                rw [← HCY.out]
                unfold nv
                replace rk : Hid _ := Ok.row' hb rk.out
                replace rx : Hid _ := Ok.row' hb rx.out
                replace ry : Hid _ := Ok.row' hb ry.out
                replace rl : Hid _ := Ok.row' hb rl.out
                replace rg : Hid _ := Ok.row' hb rg.out
                have Hu2 : Hid (Ok W5 u2) := Hu1.out.step hb
                clear hb Hu1
                go_wp2_with fail
                refine (napply_op op HOP.out cx cy RC.out.1 RC.out.2 u2 _ (Ok.refl _)).mono ?_
                rintro e u3 ⟨rfl, hb⟩
                rw [← HO1.out]
                unfold nv
                replace rk : Hid _ := Ok.row' hb rk.out
                replace rx : Hid _ := Ok.row' hb rx.out
                replace ry : Hid _ := Ok.row' hb ry.out
                replace rl : Hid _ := Ok.row' hb rl.out
                replace rg : Hid _ := Ok.row' hb rg.out
                have Hu3 : Hid (Ok W5 u3) := Hu2.out.step hb
                clear hb Hu2
                go_upto_region 18 with (fail)
                obtain ⟨u4, hu4⟩ : ∃ W, W = u3.alloc (.cells #[.bool o1.2.2.2.2, .int .i64 o1.1, .int .i64 o1.2.1, .int .u64 (o1.2.2.1 : Int), .int .u64 (o1.2.2.2.1 : Int)] 28) := ⟨_, rfl⟩
                have ro : Hid (u4.heap[u3.heap.size]? = some (.cells #[.bool o1.2.2.2.2, .int .i64 o1.1, .int .i64 o1.2.1, .int .u64 (o1.2.2.1 : Int), .int .u64 (o1.2.2.2.1 : Int)] 28)) := by unfold Hid; rw [hu4]; exact heap_new0 _ _
                have hO : Ok u3 u4 := by rw [hu4]; exact (Ok.refl _).alloc _
                rw [← hu4]
                obtain ⟨go, ego⟩ : ∃ g, g = u3.heap.size := ⟨_, rfl⟩
                rw [← ego] at ro ⊢
                clear hu4 ego
                replace rk : Hid _ := Ok.row' hO rk.out
                replace rx : Hid _ := Ok.row' hO rx.out
                replace ry : Hid _ := Ok.row' hO ry.out
                replace rl : Hid _ := Ok.row' hO rl.out
                replace rg : Hid _ := Ok.row' hO rg.out
                have Hu4 : Hid (Ok W5 u4) := Hu3.out.step hO
                clear hO Hu3
                go_cut [138] from 119 to 138 (fun s138 u => Hid (s138 = .bool false ∧ Ok u4 u))
                case first =>
                  as_aux_lemma =>
                    refine wp_region_held_drew (S := fun w' => Ok u4 w') (by kernel_rfl) (Below.drew (Ok.refl _)) (fun hHeld => ?_)
                    refine wpAnyH_take (i := 0) (v := ?_) rfl (by kernel_rfl) (by kernel_rfl) (by kernel_rfl) (fun _ _ _ h => h) (Or.inl ⟨by rfl, ?_⟩) hHeld ?_
                    rotate_left
                    · intro w hSw; (try dsimp only at hSw); (go_simp; try with_reducible rfl)
                    (try simp only [Act.put, List.getElem_toArray, List.getElem_cons_succ, List.getElem_cons_zero, List.setIfInBounds_toArray, List.set_cons_zero, List.set_cons_succ])
                    refine wpAnyH_take (i := 1) (v := ?_) rfl (by kernel_rfl) (by kernel_rfl) (by kernel_rfl) (fun _ _ _ h => h) (Or.inl ⟨by rfl, ?_⟩) hHeld ?_
                    rotate_left
                    · intro w hSw; (try dsimp only at hSw); (go_simp; try with_reducible rfl)
                    (try simp only [Act.put, List.getElem_toArray, List.getElem_cons_succ, List.getElem_cons_zero, List.setIfInBounds_toArray, List.set_cons_zero, List.set_cons_succ])
                    refine wpAnyH_take (i := 2) (v := ?_) rfl (by kernel_rfl) (by kernel_rfl) (by kernel_rfl) (fun _ _ _ h => h) (Or.inl ⟨by rfl, ?_⟩) hHeld ?_
                    rotate_left
                    · intro w hSw; (try dsimp only at hSw); (go_simp; try with_reducible rfl)
                    (try simp only [Act.put, List.getElem_toArray, List.getElem_cons_succ, List.getElem_cons_zero, List.setIfInBounds_toArray, List.set_cons_zero, List.set_cons_succ])
                    refine wpAnyH_take (i := 3) (v := ?_) rfl (by kernel_rfl) (by kernel_rfl) (by kernel_rfl) (fun _ _ _ h => h) (Or.inl ⟨by rfl, ?_⟩) hHeld ?_
                    rotate_left
                    · intro w hSw; (try dsimp only at hSw); (go_simp; try with_reducible rfl)
                    (try simp only [Act.put, List.getElem_toArray, List.getElem_cons_succ, List.getElem_cons_zero, List.setIfInBounds_toArray, List.set_cons_zero, List.set_cons_succ])
                    refine wpAnyH_take (i := 4) (v := ?_) rfl (by kernel_rfl) (by kernel_rfl) (by kernel_rfl) (fun _ _ _ h => h) (Or.inl ⟨by rfl, ?_⟩) hHeld ?_
                    rotate_left
                    · intro w hSw; (try dsimp only at hSw); (go_simp; try with_reducible rfl)
                    (try simp only [Act.put, List.getElem_toArray, List.getElem_cons_succ, List.getElem_cons_zero, List.setIfInBounds_toArray, List.set_cons_zero, List.set_cons_succ])
                    refine wpAnyH_take (i := 5) (v := .agg #[.bool o1.2.2.2.2, .int .i64 o1.1, .int .i64 o1.2.1, .int .u64 (o1.2.2.1 : Int), .int .u64 (o1.2.2.2.1 : Int)]) rfl (by kernel_rfl) (by kernel_rfl) (by kernel_rfl) (fun _ _ _ h => h) (Or.inl ⟨by rfl, ?_⟩) hHeld ?_
                    · intro w hSw; (try dsimp only at hSw); obtain ⟨c0, c1, c2, c3, c4, -⟩ := row5_facts (Ok.row' hSw ro.out); (go_simp; try with_reducible rfl)
                    (try simp only [Act.put, List.getElem_toArray, List.getElem_cons_succ, List.getElem_cons_zero, List.setIfInBounds_toArray, List.set_cons_zero, List.set_cons_succ])
                    refine wpAnyH_take (i := 6) (v := ?_) rfl (by kernel_rfl) (by kernel_rfl) (by kernel_rfl) (fun _ _ _ h => h) (Or.inl ⟨by rfl, ?_⟩) hHeld ?_
                    rotate_left
                    · intro w hSw; (try dsimp only at hSw); (go_simp; try with_reducible rfl)
                    (try simp only [Act.put, List.getElem_toArray, List.getElem_cons_succ, List.getElem_cons_zero, List.setIfInBounds_toArray, List.set_cons_zero, List.set_cons_succ])
                    refine wpAnyH_ready (rs := [7]) (by kernel_rfl) (by simp) ?_
                    refine AllReadyH.cons rfl (fun K hK => ?_) AllReadyH.nil
                    go_simp
                    refine (nconst_any dv u4 _ hHeld).mono ?_
                    rintro e1 w' ⟨rfl, hb⟩
                    rw [← HOV.out]
                    unfold nv
                    dsimp only
                    refine hK.out _ _ hb (fun hHeld => ?_)
                    clear hK K hb
                    (try simp only [Act.put, List.getElem_toArray, List.getElem_cons_succ, List.getElem_cons_zero, List.setIfInBounds_toArray, List.set_cons_zero, List.set_cons_succ])
                    refine wpAnyH_take (i := 8) (v := .bool false) rfl (by kernel_rfl) (by kernel_rfl) (by kernel_rfl) (fun _ _ _ h => h) (Or.inl ⟨by rfl, ?_⟩) hHeld ?_
                    · intro w hSw; (try dsimp only at hSw); (go_simp; try with_reducible rfl)
                    (try simp only [Act.put, List.getElem_toArray, List.getElem_cons_succ, List.getElem_cons_zero, List.setIfInBounds_toArray, List.set_cons_zero, List.set_cons_succ])
                    refine wpAnyH_take (i := 9) (v := ?_) rfl (by kernel_rfl) (by kernel_rfl) (by kernel_rfl) (fun _ _ _ h => h) (Or.inl ⟨by rfl, ?_⟩) hHeld ?_
                    rotate_left
                    · intro w hSw; (try dsimp only at hSw); (go_simp; try with_reducible rfl)
                    (try simp only [Act.put, List.getElem_toArray, List.getElem_cons_succ, List.getElem_cons_zero, List.setIfInBounds_toArray, List.set_cons_zero, List.set_cons_succ])
                    refine wpAnyH_take (i := 10) (v := ?_) rfl (by kernel_rfl) (by kernel_rfl) (by kernel_rfl) (fun _ _ _ h => h) (Or.inl ⟨by rfl, ?_⟩) hHeld ?_
                    rotate_left
                    · intro w hSw; (try dsimp only at hSw); (go_simp; try with_reducible rfl)
                    (try simp only [Act.put, List.getElem_toArray, List.getElem_cons_succ, List.getElem_cons_zero, List.setIfInBounds_toArray, List.set_cons_zero, List.set_cons_succ])
                    refine wpAnyH_take (i := 11) (v := ?_) rfl (by kernel_rfl) (by kernel_rfl) (by kernel_rfl) (fun _ _ _ h => h) (Or.inl ⟨by rfl, ?_⟩) hHeld ?_
                    rotate_left
                    · intro w hSw; (try dsimp only at hSw); (go_simp; try with_reducible rfl)
                    (try simp only [Act.put, List.getElem_toArray, List.getElem_cons_succ, List.getElem_cons_zero, List.setIfInBounds_toArray, List.set_cons_zero, List.set_cons_succ])
                    refine wpAnyH_take (i := 12) (v := ?_) rfl (by kernel_rfl) (by kernel_rfl) (by kernel_rfl) (fun _ _ _ h => h) (Or.inl ⟨by rfl, ?_⟩) hHeld ?_
                    rotate_left
                    · intro w hSw; (try dsimp only at hSw); (go_simp; try with_reducible rfl)
                    (try simp only [Act.put, List.getElem_toArray, List.getElem_cons_succ, List.getElem_cons_zero, List.setIfInBounds_toArray, List.set_cons_zero, List.set_cons_succ])
                    refine wpAnyH_take (i := 13) (v := ?_) rfl (by kernel_rfl) (by kernel_rfl) (by kernel_rfl) (fun _ _ _ h => h) (Or.inl ⟨by rfl, ?_⟩) hHeld ?_
                    rotate_left
                    · intro w hSw; (try dsimp only at hSw); (go_simp; try with_reducible rfl)
                    (try simp only [Act.put, List.getElem_toArray, List.getElem_cons_succ, List.getElem_cons_zero, List.setIfInBounds_toArray, List.set_cons_zero, List.set_cons_succ])
                    refine wpAnyH_take (i := 14) (v := ?_) rfl (by kernel_rfl) (by kernel_rfl) (by kernel_rfl) (fun _ _ _ h => h) (Or.inl ⟨by rfl, ?_⟩) hHeld ?_
                    rotate_left
                    · intro w hSw; (try dsimp only at hSw); (go_simp; try with_reducible rfl)
                    (try simp only [Act.put, List.getElem_toArray, List.getElem_cons_succ, List.getElem_cons_zero, List.setIfInBounds_toArray, List.set_cons_zero, List.set_cons_succ])
                    refine wpAnyH_take (i := 15) (v := undef) rfl (by kernel_rfl) (by kernel_rfl) (by kernel_rfl) (fun _ _ _ h => h) (Or.inr ⟨by rfl, rfl⟩) hHeld ?_
                    (try simp only [Act.put, List.getElem_toArray, List.getElem_cons_succ, List.getElem_cons_zero, List.setIfInBounds_toArray, List.set_cons_zero, List.set_cons_succ])
                    refine wpAnyH_take (i := 16) (v := undef) rfl (by kernel_rfl) (by kernel_rfl) (by kernel_rfl) (fun _ _ _ h => h) (Or.inr ⟨by rfl, rfl⟩) hHeld ?_
                    (try simp only [Act.put, List.getElem_toArray, List.getElem_cons_succ, List.getElem_cons_zero, List.setIfInBounds_toArray, List.set_cons_zero, List.set_cons_succ])
                    refine wpAnyH_take (i := 17) (v := undef) rfl (by kernel_rfl) (by kernel_rfl) (by kernel_rfl) (fun _ _ _ h => h) (Or.inr ⟨by rfl, rfl⟩) hHeld ?_
                    (try simp only [Act.put, List.getElem_toArray, List.getElem_cons_succ, List.getElem_cons_zero, List.setIfInBounds_toArray, List.set_cons_zero, List.set_cons_succ])
                    refine wpAnyH_take (i := 18) (v := ?_) rfl (by kernel_rfl) (by kernel_rfl) (by kernel_rfl) (fun _ _ _ h => h) (Or.inl ⟨by rfl, ?_⟩) hHeld ?_
                    rotate_left
                    · intro w hSw; (try dsimp only at hSw); (go_simp; try with_reducible rfl)
                    (try simp only [Act.put, List.getElem_toArray, List.getElem_cons_succ, List.getElem_cons_zero, List.setIfInBounds_toArray, List.set_cons_zero, List.set_cons_succ])
                    refine wpAnyH_take (i := 19) (v := ?_) rfl (by kernel_rfl) (by kernel_rfl) (by kernel_rfl) (fun _ _ _ h => h) (Or.inl ⟨by rfl, ?_⟩) hHeld ?_
                    rotate_left
                    · intro w hSw; (try dsimp only at hSw); (go_simp; try with_reducible rfl)
                    (try simp only [Act.put, List.getElem_toArray, List.getElem_cons_succ, List.getElem_cons_zero, List.setIfInBounds_toArray, List.set_cons_zero, List.set_cons_succ])
                    refine wpAnyH_done (by kernel_rfl) ?_ _
                    go_wp2_with fail
                    go_meet
                    case rel => exact ⟨rfl, hHeld⟩
                case rest =>
                  obtain ⟨h138, hO⟩ := hcut.out
                  subst h138
                  obtain ⟨u5, ew⟩ : ∃ t, t = wc := ⟨_, rfl⟩
                  rw [← ew] at hO ⊢
                  clear hcut ew
                  replace rk : Hid _ := Ok.row' hO rk.out
                  replace rx : Hid _ := Ok.row' hO rx.out
                  replace ry : Hid _ := Ok.row' hO ry.out
                  replace rl : Hid _ := Ok.row' hO rl.out
                  replace rg : Hid _ := Ok.row' hO rg.out
                  replace ro : Hid _ := Ok.row' hO ro.out
                  have Hu5 : Hid (Ok W5 u5) := Hu4.out.step hO
                  clear hO Hu4
                  go_wp2_with fail
                  go_roundw
                  case rel => exact ⟨k + 1, by omega, by simp, Hu5.out⟩
                  case measure => simp [intOf]; omega
          · have NB : Hid (op ≠ 1 → g.2.2.2.2 = true) := fun h => by rw [HG.out]; exact apN_bot HOP.out HU.out.2.1 (Or.inr ⟨by rw [← HY.out]; exact hyb, h⟩)
            have zz := row5_facts (rx.out)
            have xx0 := zz.1
            have xx1 := zz.2.1
            have xx2 := zz.2.2.1
            have xx3 := zz.2.2.2.1
            have xx4 := zz.2.2.2.2.1
            have xx5 := zz.2.2.2.2.2.1
            have xx6 := zz.2.2.2.2.2.2.1
            have xx7 := zz.2.2.2.2.2.2.2.1
            have xx8 := zz.2.2.2.2.2.2.2.2.1
            have xx9 := zz.2.2.2.2.2.2.2.2.2
            clear zz
            have zz := row5_facts (ry.out)
            have yy0 := zz.1
            have yy1 := zz.2.1
            have yy2 := zz.2.2.1
            have yy3 := zz.2.2.2.1
            have yy4 := zz.2.2.2.2.1
            have yy5 := zz.2.2.2.2.2.1
            have yy6 := zz.2.2.2.2.2.2.1
            have yy7 := zz.2.2.2.2.2.2.2.1
            have yy8 := zz.2.2.2.2.2.2.2.2.1
            have yy9 := zz.2.2.2.2.2.2.2.2.2
            clear zz
            have zz := row5_facts (rg.out)
            have gg0 := zz.1
            have gg1 := zz.2.1
            have gg2 := zz.2.2.1
            have gg3 := zz.2.2.2.1
            have gg4 := zz.2.2.2.2.1
            have gg5 := zz.2.2.2.2.2.1
            have gg6 := zz.2.2.2.2.2.2.1
            have gg7 := zz.2.2.2.2.2.2.2.1
            have gg8 := zz.2.2.2.2.2.2.2.2.1
            have gg9 := zz.2.2.2.2.2.2.2.2.2
            clear zz
            rw [hxb] at xx0
            rw [hyb] at yy0
            clear hxb hyb
            by_cases o1 : op = 1
            · have k1 : (op == 1) = true := by simpa using o1
              have k2 : (op != 1) = false := by rw [o1]; rfl
              clear o1
              go_wp2_with fail
              go_roundw
              case rel => exact ⟨k + 1, by omega, by simp, Hv3.out⟩
              case measure => simp [intOf]; omega
            · have hgb := NB.out o1
              rw [hgb] at gg0
              have k1 : (op == 1) = false := by simpa using o1
              have k2 : (op != 1) = true := by simpa using o1
              clear o1 hgb
              go_wp2_with fail
              go_roundw
              case rel => exact ⟨k + 1, by omega, by simp, Hv3.out⟩
              case measure => simp [intOf]; omega
        · have hgb : g.2.2.2.2 = true := by rw [HG.out]; exact apN_bot HOP.out HU.out.2.1 (Or.inl (by rw [← HX.out]; exact hxb))
          have zz := row5_facts (rx.out)
          have xx0 := zz.1
          have xx1 := zz.2.1
          have xx2 := zz.2.2.1
          have xx3 := zz.2.2.2.1
          have xx4 := zz.2.2.2.2.1
          have xx5 := zz.2.2.2.2.2.1
          have xx6 := zz.2.2.2.2.2.2.1
          have xx7 := zz.2.2.2.2.2.2.2.1
          have xx8 := zz.2.2.2.2.2.2.2.2.1
          have xx9 := zz.2.2.2.2.2.2.2.2.2
          clear zz
          have zz := row5_facts (ry.out)
          have yy0 := zz.1
          have yy1 := zz.2.1
          have yy2 := zz.2.2.1
          have yy3 := zz.2.2.2.1
          have yy4 := zz.2.2.2.2.1
          have yy5 := zz.2.2.2.2.2.1
          have yy6 := zz.2.2.2.2.2.2.1
          have yy7 := zz.2.2.2.2.2.2.2.1
          have yy8 := zz.2.2.2.2.2.2.2.2.1
          have yy9 := zz.2.2.2.2.2.2.2.2.2
          clear zz
          have zz := row5_facts (rg.out)
          have gg0 := zz.1
          have gg1 := zz.2.1
          have gg2 := zz.2.2.1
          have gg3 := zz.2.2.2.1
          have gg4 := zz.2.2.2.2.1
          have gg5 := zz.2.2.2.2.2.1
          have gg6 := zz.2.2.2.2.2.2.1
          have gg7 := zz.2.2.2.2.2.2.2.1
          have gg8 := zz.2.2.2.2.2.2.2.2.1
          have gg9 := zz.2.2.2.2.2.2.2.2.2
          clear zz
          rw [hxb] at xx0
          rw [hgb] at gg0
          clear hxb hgb
          go_wp2_with fail
          go_roundw
          case rel => exact ⟨k + 1, by omega, by simp, Hv3.out⟩
          case measure => simp [intOf]; omega
      · obtain rfl : k = 6 := by omega
        go_wp2_with fail
        go_ret
        exact ⟨rfl, HW5.out.step HK.out⟩
end Go.Proofs.YtgkbegmaffknbaaGreat
