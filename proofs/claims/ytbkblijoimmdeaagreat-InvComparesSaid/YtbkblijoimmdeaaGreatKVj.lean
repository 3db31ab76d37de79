import Derived.Test.YtbkblijoimmdeaaGreatKNr
import Derived.Test.YtbkblijoimmdeaaGreatKVi
set_option linter.unusedVariables false
set_option linter.unusedSimpArgs false
set_option linter.unnecessarySimpa false
/- Vj -/
namespace Go.Proofs.YtbkblijoimmdeaaGreat
open Go.RowKit Go.Shelf
set_option maxRecDepth 100000 in
set_option maxHeartbeats 8000000 in
theorem vSolve_add5 (xl xh : Int) (xM xR : Nat) (yl yh : Int) (yM yR : Nat) (zl zh : Int) (zM zR : Nat) (hx : RawN (xl, xh, xM, xR, false)) (hy : RawN (yl, yh, yM, yR, false)) (hz : RawN (zl, zh, zM, zR, false)) (nx : normN (xl, xh, xM, xR, false) = (xl, xh, xM, xR, false)) (ny : normN (yl, yh, yM, yR, false) = (yl, yh, yM, yR, false)) (nz : normN (zl, zh, zM, zR, false) = (zl, zh, zM, zR, false)) (w0 w : World) (hok : Ok w0 w) :
    Calls Tryz.prog 21 #[.int .i64 3, nv (xl, xh, xM, xR, false), nv (yl, yh, yM, yR, false), nv (zl, zh, zM, zR, false)] w fun e w' => e = .returned (.tuple #[nv (ansN (meetN (xl, xh, xM, xR, false) (subA (zl, zh, zM, zR, false) (yl, yh, yM, yR, false))) (meetN (yl, yh, yM, yR, false) (subA (zl, zh, zM, zR, false) (xl, xh, xM, xR, false)))).1, nv (ansN (meetN (xl, xh, xM, xR, false) (subA (zl, zh, zM, zR, false) (yl, yh, yM, yR, false))) (meetN (yl, yh, yM, yR, false) (subA (zl, zh, zM, zR, false) (xl, xh, xM, xR, false)))).2, .int .i64 0]) ∧ Ok w0 w' := by
  have hle := hok.le
  have HU : Hid (RawN (xl, xh, xM, xR, false) ∧ RawN (yl, yh, yM, yR, false) ∧ RawN (zl, zh, zM, zR, false)) := ⟨hx, hy, hz⟩
  have NN : Hid (normN (xl, xh, xM, xR, false) = (xl, xh, xM, xR, false) ∧ normN (yl, yh, yM, yR, false) = (yl, yh, yM, yR, false) ∧ normN (zl, zh, zM, zR, false) = (zl, zh, zM, zR, false)) := ⟨nx, ny, nz⟩
  clear hx hy hz nx ny nz
  obtain ⟨l, hl⟩ : ∃ t, t = (ansN (meetN (xl, xh, xM, xR, false) (subA (zl, zh, zM, zR, false) (yl, yh, yM, yR, false))) (meetN (yl, yh, yM, yR, false) (subA (zl, zh, zM, zR, false) (xl, xh, xM, xR, false)))).1 := ⟨_, rfl⟩
  obtain ⟨r, hr0⟩ : ∃ t, t = (ansN (meetN (xl, xh, xM, xR, false) (subA (zl, zh, zM, zR, false) (yl, yh, yM, yR, false))) (meetN (yl, yh, yM, yR, false) (subA (zl, zh, zM, zR, false) (xl, xh, xM, xR, false)))).2 := ⟨_, rfl⟩
  rw [← hl, ← hr0]
  have HL : Hid _ := hl
  have HR : Hid _ := hr0
  clear hl hr0
  unfold nv
  simp only
  go_enter Tryz.func21, Tryz.ntmps21
  go_wp2_with fail
  obtain ⟨W, hW⟩ : ∃ W, W = (((((w).alloc (.cells #[.bool false, .int .i64 xl, .int .i64 xh, .int .u64 (xM : Int), .int .u64 (xR : Int)] 29)).alloc (.cells #[.bool false, .int .i64 yl, .int .i64 yh, .int .u64 (yM : Int), .int .u64 (yR : Int)] 29)).alloc (.cells #[.bool false, .int .i64 zl, .int .i64 zh, .int .u64 (zM : Int), .int .u64 (zR : Int)] 29)).alloc (.cells #[.bool false, .int .i64 0, .int .i64 0, .int .u64 0, .int .u64 0] 29)).alloc (.cells #[.bool false, .int .i64 0, .int .i64 0, .int .u64 0, .int .u64 0] 29) := ⟨_, rfl⟩
  have ra : Hid (W.heap[w.heap.size]? = some (.cells #[.bool false, .int .i64 xl, .int .i64 xh, .int .u64 (xM : Int), .int .u64 (xR : Int)] 29)) := by unfold Hid; rw [hW]; exact (by repeat (first | (refine heap_at _ _ _ ?hx; case hx => (first | (simp; done) | (simp; omega))) | (refine heap_past _ _ _ ?hy ?_; case hy => (first | (simp; done) | (simp; omega))) | fail))
  have rb : Hid (W.heap[w.heap.size + 1]? = some (.cells #[.bool false, .int .i64 yl, .int .i64 yh, .int .u64 (yM : Int), .int .u64 (yR : Int)] 29)) := by unfold Hid; rw [hW]; exact (by repeat (first | (refine heap_at _ _ _ ?hx; case hx => (first | (simp; done) | (simp; omega))) | (refine heap_past _ _ _ ?hy ?_; case hy => (first | (simp; done) | (simp; omega))) | fail))
  have rc : Hid (W.heap[w.heap.size + 1 + 1]? = some (.cells #[.bool false, .int .i64 zl, .int .i64 zh, .int .u64 (zM : Int), .int .u64 (zR : Int)] 29)) := by unfold Hid; rw [hW]; exact (by repeat (first | (refine heap_at _ _ _ ?hx; case hx => (first | (simp; done) | (simp; omega))) | (refine heap_past _ _ _ ?hy ?_; case hy => (first | (simp; done) | (simp; omega))) | fail))
  have rp : Hid (W.heap[w.heap.size + 1 + 1 + 1]? = some (.cells #[.bool false, .int .i64 0, .int .i64 0, .int .u64 0, .int .u64 0] 29)) := by unfold Hid; rw [hW]; exact (by repeat (first | (refine heap_at _ _ _ ?hx; case hx => (first | (simp; done) | (simp; omega))) | (refine heap_past _ _ _ ?hy ?_; case hy => (first | (simp; done) | (simp; omega))) | fail))
  have rq : Hid (W.heap[w.heap.size + 1 + 1 + 1 + 1]? = some (.cells #[.bool false, .int .i64 0, .int .i64 0, .int .u64 0, .int .u64 0] 29)) := by unfold Hid; rw [hW]; exact (by repeat (first | (refine heap_at _ _ _ ?hx; case hx => (first | (simp; done) | (simp; omega))) | (refine heap_past _ _ _ ?hy ?_; case hy => (first | (simp; done) | (simp; omega))) | fail))
  have HW : Hid (Ok w0 W) := by unfold Hid; rw [hW]; exact (by repeat (first | exact hok | refine Ok.alloc ?_ _ | refine Ok.draws ?_ _ | fail))
  rw [← hW]
  clear hW
  obtain ⟨gq, egq⟩ : ∃ g, g = w.heap.size + 1 + 1 + 1 + 1 := ⟨_, rfl⟩
  rw [← egq] at rq ⊢
  obtain ⟨gp, egp⟩ : ∃ g, g = w.heap.size + 1 + 1 + 1 := ⟨_, rfl⟩
  rw [← egp] at rp ⊢
  obtain ⟨gc, egc⟩ : ∃ g, g = w.heap.size + 1 + 1 := ⟨_, rfl⟩
  rw [← egc] at rc ⊢
  obtain ⟨gb, egb⟩ : ∃ g, g = w.heap.size + 1 := ⟨_, rfl⟩
  rw [← egb] at rb ⊢
  obtain ⟨ga, ega⟩ : ∃ g, g = w.heap.size := ⟨_, rfl⟩
  rw [← ega] at ra ⊢
  have lga : w0.heap.size ≤ ga := by omega
  have ngagb : ¬ ga = gb := by omega
  have ngagc : ¬ ga = gc := by omega
  have ngagp : ¬ ga = gp := by omega
  have ngagq : ¬ ga = gq := by omega
  have lgb : w0.heap.size ≤ gb := by omega
  have ngbga : ¬ gb = ga := by omega
  have ngbgc : ¬ gb = gc := by omega
  have ngbgp : ¬ gb = gp := by omega
  have ngbgq : ¬ gb = gq := by omega
  have lgc : w0.heap.size ≤ gc := by omega
  have ngcga : ¬ gc = ga := by omega
  have ngcgb : ¬ gc = gb := by omega
  have ngcgp : ¬ gc = gp := by omega
  have ngcgq : ¬ gc = gq := by omega
  have lgp : w0.heap.size ≤ gp := by omega
  have ngpga : ¬ gp = ga := by omega
  have ngpgb : ¬ gp = gb := by omega
  have ngpgc : ¬ gp = gc := by omega
  have ngpgq : ¬ gp = gq := by omega
  have lgq : w0.heap.size ≤ gq := by omega
  have ngqga : ¬ gq = ga := by omega
  have ngqgb : ¬ gq = gb := by omega
  have ngqgc : ¬ gq = gc := by omega
  have ngqgp : ¬ gq = gp := by omega
  clear ega egb egc egp egq
  refine wp_region_inv (by kernel_rfl) (by kernel_rfl) (fun F l fr u => ∃ (b0 b1 b2 b3 b4 b5 b6 b7 b8 : Bool) (s12 s13 s14 s15 s16 s17 : Value), l = #[b0, b1, b2, b3, b4, b5, b6, b7, b8] ∧ fr = ((((((F.put (some 12) s12).put (some 13) s13).put (some 14) s14).put (some 15) s15).put (some 16) s16).put (some 17) s17) ∧ Ok w0 u ∧ (u.heap[ga]? = some (.cells #[.bool false, .int .i64 xl, .int .i64 xh, .int .u64 (xM : Int), .int .u64 (xR : Int)] 29 (0, 0)) ∧ u.heap[gb]? = some (.cells #[.bool false, .int .i64 yl, .int .i64 yh, .int .u64 (yM : Int), .int .u64 (yR : Int)] 29 (0, 0)) ∧ u.heap[gc]? = some (.cells #[.bool false, .int .i64 zl, .int .i64 zh, .int .u64 (zM : Int), .int .u64 (zR : Int)] 29 (0, 0)) ∧ u.heap[gp]? = some (.cells #[.bool false, .int .i64 0, .int .i64 0, .int .u64 0, .int .u64 0] 29 (0, 0)) ∧ u.heap[gq]? = some (.cells #[.bool false, .int .i64 0, .int .i64 0, .int .u64 0, .int .u64 0] 29 (0, 0))) ∧ (b0 = true → s12 = .agg #[.bool false, .int .i64 xl, .int .i64 xh, .int .u64 (xM : Int), .int .u64 (xR : Int)]) ∧ (b1 = true → s13 = .agg #[.bool false, .int .i64 xl, .int .i64 xh, .int .u64 (xM : Int), .int .u64 (xR : Int)]) ∧ (b2 = true → s14 = .agg #[.bool false, .int .i64 yl, .int .i64 yh, .int .u64 (yM : Int), .int .u64 (yR : Int)]) ∧ (b3 = true → s15 = .agg #[.bool false, .int .i64 yl, .int .i64 yh, .int .u64 (yM : Int), .int .u64 (yR : Int)]) ∧ (b4 = true → s16 = .agg #[.bool false, .int .i64 zl, .int .i64 zh, .int .u64 (zM : Int), .int .u64 (zR : Int)]) ∧ (b5 = true → s17 = .agg #[.bool false, .int .i64 zl, .int .i64 zh, .int .u64 (zM : Int), .int .u64 (zR : Int)])) ?start ?step ?fin
  case start => exact ⟨false, false, false, false, false, false, false, false, false, undef, undef, undef, undef, undef, undef, rfl, (by (try simp only [Act.put, List.setIfInBounds_toArray, List.set_cons_zero, List.set_cons_succ]); try rfl), Ok.draws HW.out 1, ⟨Ok.row' (Ok.draws (Ok.refl _) 1) ra.out, Ok.row' (Ok.draws (Ok.refl _) 1) rb.out, Ok.row' (Ok.draws (Ok.refl _) 1) rc.out, Ok.row' (Ok.draws (Ok.refl _) 1) rp.out, Ok.row' (Ok.draws (Ok.refl _) 1) rq.out⟩, (fun h => by cases h), (fun h => by cases h), (fun h => by cases h), (fun h => by cases h), (fun h => by cases h), (fun h => by cases h)⟩
  case step =>
    clear ra rb rc rp rq
    intro l fr u i o hI hi0 ho hd K hK
    obtain ⟨b0, b1, b2, b3, b4, b5, b6, b7, b8, s12, s13, s14, s15, s16, s17, rfl, rfl, hO, ⟨ra, rb, rc, rp, rq⟩, q0, q1, q2, q3, q4, q5⟩ := hI
    have hlt : i < 9 := (Array.getElem?_eq_some_iff.1 ho).1
    rcases (show i = 0 ∨ i = 1 ∨ i = 2 ∨ i = 3 ∨ i = 4 ∨ i = 5 ∨ i = 6 ∨ i = 7 ∨ i = 8 by omega) with rfl | rfl | rfl | rfl | rfl | rfl | rfl | rfl | rfl
    · have ho2 := Option.some.inj ho
      subst ho2
      have f0 : b0 = false := hi0
      clear ho hlt hd hi0
      have zz := row5_facts (ra)
      have y0 := zz.1
      have y1 := zz.2.1
      have y2 := zz.2.2.1
      have y3 := zz.2.2.2.1
      have y4 := zz.2.2.2.2.1
      have y5 := zz.2.2.2.2.2.1
      have y6 := zz.2.2.2.2.2.2.1
      have y7 := zz.2.2.2.2.2.2.2.1
      have y8 := zz.2.2.2.2.2.2.2.2.1
      have y9 := zz.2.2.2.2.2.2.2.2.2
      clear zz
      (try simp only [Act.put, List.getElem_toArray, List.getElem_cons_succ, List.getElem_cons_zero, List.setIfInBounds_toArray, List.set_cons_zero, List.set_cons_succ])
      go_simp
      refine hK.out _ _ ?_
      exact ⟨true, b1, b2, b3, b4, b5, b6, b7, b8, .agg #[.bool false, .int .i64 xl, .int .i64 xh, .int .u64 (xM : Int), .int .u64 (xR : Int)], s13, s14, s15, s16, s17, rfl, (by (try simp only [Act.put, List.setIfInBounds_toArray, List.set_cons_zero, List.set_cons_succ]); try rfl), hO, ⟨ra, rb, rc, rp, rq⟩, (fun _ => rfl), q1, q2, q3, q4, q5⟩
    · have ho2 := Option.some.inj ho
      subst ho2
      have f1 : b1 = false := hi0
      have t0 : b0 = true := hd ⟨0, .data⟩ (by simp) rfl
      clear ho hlt hd hi0
      have e0 := q0 t0
      subst e0
      (try simp only [Act.put, List.getElem_toArray, List.getElem_cons_succ, List.getElem_cons_zero, List.setIfInBounds_toArray, List.set_cons_zero, List.set_cons_succ])
      go_simp
      refine (nnorm_any (xl, xh, xM, xR, false) HU.out.1 u _ (Ok.refl _)).mono ?_
      rintro e u' ⟨rfl, hb⟩
      rw [NN.out.1]
      unfold nv
      dsimp only
      refine hK.out _ _ ?_
      exact ⟨b0, true, b2, b3, b4, b5, b6, b7, b8, .agg #[.bool false, .int .i64 xl, .int .i64 xh, .int .u64 (xM : Int), .int .u64 (xR : Int)], .agg #[.bool false, .int .i64 xl, .int .i64 xh, .int .u64 (xM : Int), .int .u64 (xR : Int)], s14, s15, s16, s17, rfl, (by (try simp only [Act.put, List.setIfInBounds_toArray, List.set_cons_zero, List.set_cons_succ]); try rfl), hO.step hb, ⟨Ok.row' hb ra, Ok.row' hb rb, Ok.row' hb rc, Ok.row' hb rp, Ok.row' hb rq⟩, (fun _ => rfl), (fun _ => rfl), q2, q3, q4, q5⟩
    · have ho2 := Option.some.inj ho
      subst ho2
      have f2 : b2 = false := hi0
      clear ho hlt hd hi0
      have zz := row5_facts (rb)
      have y0 := zz.1
      have y1 := zz.2.1
      have y2 := zz.2.2.1
      have y3 := zz.2.2.2.1
      have y4 := zz.2.2.2.2.1
      have y5 := zz.2.2.2.2.2.1
      have y6 := zz.2.2.2.2.2.2.1
      have y7 := zz.2.2.2.2.2.2.2.1
      have y8 := zz.2.2.2.2.2.2.2.2.1
      have y9 := zz.2.2.2.2.2.2.2.2.2
      clear zz
      (try simp only [Act.put, List.getElem_toArray, List.getElem_cons_succ, List.getElem_cons_zero, List.setIfInBounds_toArray, List.set_cons_zero, List.set_cons_succ])
      go_simp
      refine hK.out _ _ ?_
      exact ⟨b0, b1, true, b3, b4, b5, b6, b7, b8, s12, s13, .agg #[.bool false, .int .i64 yl, .int .i64 yh, .int .u64 (yM : Int), .int .u64 (yR : Int)], s15, s16, s17, rfl, (by (try simp only [Act.put, List.setIfInBounds_toArray, List.set_cons_zero, List.set_cons_succ]); try rfl), hO, ⟨ra, rb, rc, rp, rq⟩, q0, q1, (fun _ => rfl), q3, q4, q5⟩
    · have ho2 := Option.some.inj ho
      subst ho2
      have f3 : b3 = false := hi0
      have t2 : b2 = true := hd ⟨2, .data⟩ (by simp) rfl
      clear ho hlt hd hi0
      have e2 := q2 t2
      subst e2
      (try simp only [Act.put, List.getElem_toArray, List.getElem_cons_succ, List.getElem_cons_zero, List.setIfInBounds_toArray, List.set_cons_zero, List.set_cons_succ])
      go_simp
      refine (nnorm_any (yl, yh, yM, yR, false) HU.out.2.1 u _ (Ok.refl _)).mono ?_
      rintro e u' ⟨rfl, hb⟩
      rw [NN.out.2.1]
      unfold nv
      dsimp only
      refine hK.out _ _ ?_
      exact ⟨b0, b1, b2, true, b4, b5, b6, b7, b8, s12, s13, .agg #[.bool false, .int .i64 yl, .int .i64 yh, .int .u64 (yM : Int), .int .u64 (yR : Int)], .agg #[.bool false, .int .i64 yl, .int .i64 yh, .int .u64 (yM : Int), .int .u64 (yR : Int)], s16, s17, rfl, (by (try simp only [Act.put, List.setIfInBounds_toArray, List.set_cons_zero, List.set_cons_succ]); try rfl), hO.step hb, ⟨Ok.row' hb ra, Ok.row' hb rb, Ok.row' hb rc, Ok.row' hb rp, Ok.row' hb rq⟩, q0, q1, (fun _ => rfl), (fun _ => rfl), q4, q5⟩
    · have ho2 := Option.some.inj ho
      subst ho2
      have f4 : b4 = false := hi0
      clear ho hlt hd hi0
      have zz := row5_facts (rc)
      have y0 := zz.1
      have y1 := zz.2.1
      have y2 := zz.2.2.1
      have y3 := zz.2.2.2.1
      have y4 := zz.2.2.2.2.1
      have y5 := zz.2.2.2.2.2.1
      have y6 := zz.2.2.2.2.2.2.1
      have y7 := zz.2.2.2.2.2.2.2.1
      have y8 := zz.2.2.2.2.2.2.2.2.1
      have y9 := zz.2.2.2.2.2.2.2.2.2
      clear zz
      (try simp only [Act.put, List.getElem_toArray, List.getElem_cons_succ, List.getElem_cons_zero, List.setIfInBounds_toArray, List.set_cons_zero, List.set_cons_succ])
      go_simp
      refine hK.out _ _ ?_
      exact ⟨b0, b1, b2, b3, true, b5, b6, b7, b8, s12, s13, s14, s15, .agg #[.bool false, .int .i64 zl, .int .i64 zh, .int .u64 (zM : Int), .int .u64 (zR : Int)], s17, rfl, (by (try simp only [Act.put, List.setIfInBounds_toArray, List.set_cons_zero, List.set_cons_succ]); try rfl), hO, ⟨ra, rb, rc, rp, rq⟩, q0, q1, q2, q3, (fun _ => rfl), q5⟩
    · have ho2 := Option.some.inj ho
      subst ho2
      have f5 : b5 = false := hi0
      have t4 : b4 = true := hd ⟨4, .data⟩ (by simp) rfl
      clear ho hlt hd hi0
      have e4 := q4 t4
      subst e4
      (try simp only [Act.put, List.getElem_toArray, List.getElem_cons_succ, List.getElem_cons_zero, List.setIfInBounds_toArray, List.set_cons_zero, List.set_cons_succ])
      go_simp
      refine (nnorm_any (zl, zh, zM, zR, false) HU.out.2.2 u _ (Ok.refl _)).mono ?_
      rintro e u' ⟨rfl, hb⟩
      rw [NN.out.2.2]
      unfold nv
      dsimp only
      refine hK.out _ _ ?_
      exact ⟨b0, b1, b2, b3, b4, true, b6, b7, b8, s12, s13, s14, s15, .agg #[.bool false, .int .i64 zl, .int .i64 zh, .int .u64 (zM : Int), .int .u64 (zR : Int)], .agg #[.bool false, .int .i64 zl, .int .i64 zh, .int .u64 (zM : Int), .int .u64 (zR : Int)], rfl, (by (try simp only [Act.put, List.setIfInBounds_toArray, List.set_cons_zero, List.set_cons_succ]); try rfl), hO.step hb, ⟨Ok.row' hb ra, Ok.row' hb rb, Ok.row' hb rc, Ok.row' hb rp, Ok.row' hb rq⟩, q0, q1, q2, q3, (fun _ => rfl), (fun _ => rfl)⟩
    · have ho2 := Option.some.inj ho
      subst ho2
      have f6 : b6 = false := hi0
      have t1 : b1 = true := hd ⟨1, .data⟩ (by simp) rfl
      clear ho hlt hd hi0
      have e1 := q1 t1
      subst e1
      have zz := row5_facts (ra)
      have y0 := zz.1
      have y1 := zz.2.1
      have y2 := zz.2.2.1
      have y3 := zz.2.2.2.1
      have y4 := zz.2.2.2.2.1
      have y5 := zz.2.2.2.2.2.1
      have y6 := zz.2.2.2.2.2.2.1
      have y7 := zz.2.2.2.2.2.2.2.1
      have y8 := zz.2.2.2.2.2.2.2.2.1
      have y9 := zz.2.2.2.2.2.2.2.2.2
      clear zz
      (try simp only [Act.put, List.getElem_toArray, List.getElem_cons_succ, List.getElem_cons_zero, List.setIfInBounds_toArray, List.set_cons_zero, List.set_cons_succ])
      go_simp
      have hrp := (rows_put1 (Z := (((((u.setCell ⟨ga, 0, none⟩ (.bool false)).setCell ⟨ga, 1, none⟩ (.int .i64 xl)).setCell ⟨ga, 2, none⟩ (.int .i64 xh)).setCell ⟨ga, 3, none⟩ (.int .u64 (xM : Int))).setCell ⟨ga, 4, none⟩ (.int .u64 (xR : Int)))) ra hO lga _ _ _ _ _ rfl).out
      refine hK.out _ _ ?_
      exact ⟨b0, b1, b2, b3, b4, b5, true, b7, b8, s12, .agg #[.bool false, .int .i64 xl, .int .i64 xh, .int .u64 (xM : Int), .int .u64 (xR : Int)], s14, s15, s16, s17, rfl, (by (try simp only [Act.put, List.setIfInBounds_toArray, List.set_cons_zero, List.set_cons_succ]); try rfl), hrp.1, ⟨hrp.2.1, hrp.2.2 _ _ ngbga rb, hrp.2.2 _ _ ngcga rc, hrp.2.2 _ _ ngpga rp, hrp.2.2 _ _ ngqga rq⟩, q0, (fun _ => rfl), q2, q3, q4, q5⟩
    · have ho2 := Option.some.inj ho
      subst ho2
      have f7 : b7 = false := hi0
      have t3 : b3 = true := hd ⟨3, .data⟩ (by simp) rfl
      clear ho hlt hd hi0
      have e3 := q3 t3
      subst e3
      have zz := row5_facts (rb)
      have y0 := zz.1
      have y1 := zz.2.1
      have y2 := zz.2.2.1
      have y3 := zz.2.2.2.1
      have y4 := zz.2.2.2.2.1
      have y5 := zz.2.2.2.2.2.1
      have y6 := zz.2.2.2.2.2.2.1
      have y7 := zz.2.2.2.2.2.2.2.1
      have y8 := zz.2.2.2.2.2.2.2.2.1
      have y9 := zz.2.2.2.2.2.2.2.2.2
      clear zz
      (try simp only [Act.put, List.getElem_toArray, List.getElem_cons_succ, List.getElem_cons_zero, List.setIfInBounds_toArray, List.set_cons_zero, List.set_cons_succ])
      go_simp
      have hrp := (rows_put1 (Z := (((((u.setCell ⟨gb, 0, none⟩ (.bool false)).setCell ⟨gb, 1, none⟩ (.int .i64 yl)).setCell ⟨gb, 2, none⟩ (.int .i64 yh)).setCell ⟨gb, 3, none⟩ (.int .u64 (yM : Int))).setCell ⟨gb, 4, none⟩ (.int .u64 (yR : Int)))) rb hO lgb _ _ _ _ _ rfl).out
      refine hK.out _ _ ?_
      exact ⟨b0, b1, b2, b3, b4, b5, b6, true, b8, s12, s13, s14, .agg #[.bool false, .int .i64 yl, .int .i64 yh, .int .u64 (yM : Int), .int .u64 (yR : Int)], s16, s17, rfl, (by (try simp only [Act.put, List.setIfInBounds_toArray, List.set_cons_zero, List.set_cons_succ]); try rfl), hrp.1, ⟨hrp.2.2 _ _ ngagb ra, hrp.2.1, hrp.2.2 _ _ ngcgb rc, hrp.2.2 _ _ ngpgb rp, hrp.2.2 _ _ ngqgb rq⟩, q0, q1, q2, (fun _ => rfl), q4, q5⟩
    · have ho2 := Option.some.inj ho
      subst ho2
      have f8 : b8 = false := hi0
      have t5 : b5 = true := hd ⟨5, .data⟩ (by simp) rfl
      clear ho hlt hd hi0
      have e5 := q5 t5
      subst e5
      have zz := row5_facts (rc)
      have y0 := zz.1
      have y1 := zz.2.1
      have y2 := zz.2.2.1
      have y3 := zz.2.2.2.1
      have y4 := zz.2.2.2.2.1
      have y5 := zz.2.2.2.2.2.1
      have y6 := zz.2.2.2.2.2.2.1
      have y7 := zz.2.2.2.2.2.2.2.1
      have y8 := zz.2.2.2.2.2.2.2.2.1
      have y9 := zz.2.2.2.2.2.2.2.2.2
      clear zz
      (try simp only [Act.put, List.getElem_toArray, List.getElem_cons_succ, List.getElem_cons_zero, List.setIfInBounds_toArray, List.set_cons_zero, List.set_cons_succ])
      go_simp
      have hrp := (rows_put1 (Z := (((((u.setCell ⟨gc, 0, none⟩ (.bool false)).setCell ⟨gc, 1, none⟩ (.int .i64 zl)).setCell ⟨gc, 2, none⟩ (.int .i64 zh)).setCell ⟨gc, 3, none⟩ (.int .u64 (zM : Int))).setCell ⟨gc, 4, none⟩ (.int .u64 (zR : Int)))) rc hO lgc _ _ _ _ _ rfl).out
      refine hK.out _ _ ?_
      exact ⟨b0, b1, b2, b3, b4, b5, b6, b7, true, s12, s13, s14, s15, s16, .agg #[.bool false, .int .i64 zl, .int .i64 zh, .int .u64 (zM : Int), .int .u64 (zR : Int)], rfl, (by (try simp only [Act.put, List.setIfInBounds_toArray, List.set_cons_zero, List.set_cons_succ]); try rfl), hrp.1, ⟨hrp.2.2 _ _ ngagc ra, hrp.2.2 _ _ ngbgc rb, hrp.2.1, hrp.2.2 _ _ ngpgc rp, hrp.2.2 _ _ ngqgc rq⟩, q0, q1, q2, q3, q4, (fun _ => rfl)⟩
  case fin =>
    clear ra rb rc rp rq
    intro l fr Z hI hr
    obtain ⟨b0, b1, b2, b3, b4, b5, b6, b7, b8, s12, s13, s14, s15, s16, s17, rfl, rfl, hO, ⟨ra0, rb0, rc0, rp0, rq0⟩, q0, q1, q2, q3, q4, q5⟩ := hI
    have hall := all_listed (by kernel_rfl) rfl hr
    clear hr
    have t0 : b0 = true := hall 0 (by decide)
    have t1 : b1 = true := hall 1 (by decide)
    have t2 : b2 = true := hall 2 (by decide)
    have t3 : b3 = true := hall 3 (by decide)
    have t4 : b4 = true := hall 4 (by decide)
    have t5 : b5 = true := hall 5 (by decide)
    have t6 : b6 = true := hall 6 (by decide)
    have t7 : b7 = true := hall 7 (by decide)
    have t8 : b8 = true := hall 8 (by decide)
    have e0 := q0 t0
    subst e0
    have e1 := q1 t1
    subst e1
    have e2 := q2 t2
    subst e2
    have e3 := q3 t3
    subst e3
    have e4 := q4 t4
    subst e4
    have e5 := q5 t5
    subst e5
    have ra : Hid _ := ra0
    have rb : Hid _ := rb0
    have rc : Hid _ := rc0
    have rp : Hid _ := rp0
    have rq : Hid _ := rq0
    have HZ : Hid (Ok w0 Z) := hO
    clear hO hall ra0 rb0 rc0 rp0 rq0 t0 t1 t2 t3 t4 t5 t6 t7 t8
    (try simp only [Act.put, List.getElem_toArray, List.getElem_cons_succ, List.getElem_cons_zero, List.setIfInBounds_toArray, List.set_cons_zero, List.set_cons_succ])
    obtain ⟨a0, a1, a2, a3, a4, a5, a6, a7, a8, a9⟩ := row5_facts ra.out
    obtain ⟨b0, b1, b2, b3, b4, b5, b6, b7, b8, b9⟩ := row5_facts rb.out
    obtain ⟨c0, c1, c2, c3, c4, c5, c6, c7, c8, c9⟩ := row5_facts rc.out
    go_wp2_with fail
    clear a0 a1 a2 a3 a4 a5 a6 a7 a8 a9 b0 b1 b2 b3 b4 b5 b6 b7 b8 b9 c0 c1 c2 c3 c4 c5 c6 c7 c8 c9
    refine (vsolving_add (xl, xh, xM, xR, false) (yl, yh, yM, yR, false) (zl, zh, zM, zR, false) HU.out.1 HU.out.2.1 HU.out.2.2 Z _ (Ok.refl _)).mono ?_
    rintro e w1 ⟨f, rfl, hT, hb⟩
    obtain ⟨fid, caps, rfl, hen, hf⟩ := hT
    replace rp : Hid _ := Ok.row' hb rp.out
    replace rq : Hid _ := Ok.row' hb rq.out
    have Hw1 : Hid (Ok w0 w1) := HZ.out.step hb
    have HF : Hid _ := And.intro hen hf
    clear hb HZ hen hf
    go_wp2_with fail
    refine (vask_any fid caps _ _ HF.out.1 w1 _ (Ok.refl _) HF.out.2).mono ?_
    rintro e w2 ⟨rfl, hb⟩
    rw [← HL.out, ← HR.out]
    unfold nv
    replace rp : Hid _ := Ok.row' hb rp.out
    replace rq : Hid _ := Ok.row' hb rq.out
    have Hw2 : Hid (Ok w0 w2) := Hw1.out.step hb
    clear hb Hw1 HF
    obtain ⟨k0, k1, k2, k3, k4, k5, k6, k7, k8, k9⟩ := row5_facts rp.out
    obtain ⟨j0, j1, j2, j3, j4, j5, j6, j7, j8, j9⟩ := row5_facts rq.out
    go_wp2_with fail
    obtain ⟨Y, hY⟩ : ∃ V, V = ((((((((((w2.setCell ⟨gp, 0, none⟩ (.bool l.2.2.2.2)).setCell ⟨gp, 1, none⟩ (.int .i64 l.1)).setCell ⟨gp, 2, none⟩ (.int .i64 l.2.1)).setCell ⟨gp, 3, none⟩ (.int .u64 (l.2.2.1 : Int))).setCell ⟨gp, 4, none⟩ (.int .u64 (l.2.2.2.1 : Int))).setCell ⟨gq, 0, none⟩ (.bool r.2.2.2.2)).setCell ⟨gq, 1, none⟩ (.int .i64 r.1)).setCell ⟨gq, 2, none⟩ (.int .i64 r.2.1)).setCell ⟨gq, 3, none⟩ (.int .u64 (r.2.2.1 : Int))).setCell ⟨gq, 4, none⟩ (.int .u64 (r.2.2.2.1 : Int))) := ⟨_, rfl⟩
    have hp := rows_putr ngpgq rp.out rq.out Hw2.out (by omega) (by omega) _ _ _ _ _ _ _ _ _ _ hY
    rw [← hY]
    clear hY
    refine bodyPost_ret (results_2ct rfl _ _ gp gq 29 #[_, _, _, _, _] #[_, _, _, _, _] (0, 0) _ rfl rfl hp.2.1 hp.2.2 Tryz.underlying29 rfl infoN infoN) rfl ?_
    exact ⟨rfl, hp.1⟩
theorem vSolve_add (x y z : Int × Int × Nat × Nat × Bool) (hx : RawN x) (hy : RawN y) (hz : RawN z) (nx : normN x = x) (ny : normN y = y) (nz : normN z = z) (bx : x.2.2.2.2 = false) (by0 : y.2.2.2.2 = false) (bz : z.2.2.2.2 = false) (w0 w : World) (hok : Ok w0 w) :
    Calls Tryz.prog 21 #[.int .i64 3, nv x, nv y, nv z] w fun e w' => e = .returned (.tuple #[nv (ansN (meetN x (subA z y)) (meetN y (subA z x))).1, nv (ansN (meetN x (subA z y)) (meetN y (subA z x))).2, .int .i64 0]) ∧ Ok w0 w' := by
  obtain ⟨xl, xh, xM, xR, xB⟩ := x
  obtain ⟨yl, yh, yM, yR, yB⟩ := y
  obtain ⟨zl, zh, zM, zR, zB⟩ := z
  obtain rfl : xB = false := bx
  obtain rfl : yB = false := by0
  obtain rfl : zB = false := bz
  exact vSolve_add5 xl xh xM xR yl yh yM yR zl zh zM zR hx hy hz nx ny nz w0 w hok
end Go.Proofs.YtbkblijoimmdeaaGreat
