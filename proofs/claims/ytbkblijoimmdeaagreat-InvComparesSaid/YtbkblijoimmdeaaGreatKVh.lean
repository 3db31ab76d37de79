import Derived.Test.YtbkblijoimmdeaaGreatKVg
set_option linter.unusedVariables false
set_option linter.unusedSimpArgs false
set_option linter.unnecessarySimpa false
/- Vh -/
namespace Go.Proofs.YtbkblijoimmdeaaGreat
open Go.RowKit Go.Shelf
/-- What Compare answers of normal forms. -/
def cmpA (op : Int) (x y : Int × Int × Nat × Nat × Bool) : (Int × Int × Nat × Nat × Bool) × (Int × Int × Nat × Nat × Bool) := if x.2.2.2.2 = true ∨ y.2.2.2.2 = true then (botN, botN) else ansN (compN op x y).1 (compN op x y).2

set_option maxRecDepth 100000 in
set_option maxHeartbeats 8000000 in
theorem vCompare_any (op : Int) (ho : OpC op) (a b : Int × Int × Nat × Nat × Bool) (ha : RawN a) (hb : RawN b) (w0 w : World) (hok : Ok w0 w) :
    Calls Tryz.prog 4 #[.int .i64 op, nv a, nv b] w fun e w' => e = .returned (.tuple #[nv (cmpA op (normN a) (normN b)).1, nv (cmpA op (normN a) (normN b)).2, .int .i64 0]) ∧ Ok w0 w' := by
  have hle := hok.le
  have HU : Hid (RawN a ∧ RawN b) := ⟨ha, hb⟩
  clear ha hb
  obtain ⟨x, hx⟩ : ∃ x, x = normN a := ⟨_, rfl⟩
  obtain ⟨y, hy⟩ : ∃ x, x = normN b := ⟨_, rfl⟩
  have RX : Hid (RawN x) := by rw [hx]; exact normN_raw HU.out.1
  have RY : Hid (RawN y) := by rw [hy]; exact normN_raw HU.out.2
  rw [← hx, ← hy]
  obtain ⟨A, hA⟩ : ∃ t, t = cmpA op x y := ⟨_, rfl⟩
  rw [← hA]
  have HA : Hid _ := hA
  clear hA
  have HX : Hid _ := hx
  have HY : Hid _ := hy
  have HO : Hid _ := ho
  clear hx hy ho
  unfold nv
  go_enter Tryz.func4, Tryz.ntmps4
  go_wp2_with fail
  obtain ⟨W, hW⟩ : ∃ W, W = ((((w).alloc (.cells #[.bool a.2.2.2.2, .int .i64 a.1, .int .i64 a.2.1, .int .u64 (a.2.2.1 : Int), .int .u64 (a.2.2.2.1 : Int)] 29)).alloc (.cells #[.bool b.2.2.2.2, .int .i64 b.1, .int .i64 b.2.1, .int .u64 (b.2.2.1 : Int), .int .u64 (b.2.2.2.1 : Int)] 29)).alloc (.cells #[.bool false, .int .i64 0, .int .i64 0, .int .u64 0, .int .u64 0] 29)).alloc (.cells #[.bool false, .int .i64 0, .int .i64 0, .int .u64 0, .int .u64 0] 29) := ⟨_, rfl⟩
  have ra : Hid (W.heap[w.heap.size]? = some (.cells #[.bool a.2.2.2.2, .int .i64 a.1, .int .i64 a.2.1, .int .u64 (a.2.2.1 : Int), .int .u64 (a.2.2.2.1 : Int)] 29)) := by unfold Hid; rw [hW]; exact (by repeat (first | (refine heap_at _ _ _ ?hx; case hx => (first | (simp; done) | (simp; omega))) | (refine heap_past _ _ _ ?hy ?_; case hy => (first | (simp; done) | (simp; omega))) | fail))
  have rb : Hid (W.heap[w.heap.size + 1]? = some (.cells #[.bool b.2.2.2.2, .int .i64 b.1, .int .i64 b.2.1, .int .u64 (b.2.2.1 : Int), .int .u64 (b.2.2.2.1 : Int)] 29)) := by unfold Hid; rw [hW]; exact (by repeat (first | (refine heap_at _ _ _ ?hx; case hx => (first | (simp; done) | (simp; omega))) | (refine heap_past _ _ _ ?hy ?_; case hy => (first | (simp; done) | (simp; omega))) | fail))
  have rp : Hid (W.heap[w.heap.size + 1 + 1]? = some (.cells #[.bool false, .int .i64 0, .int .i64 0, .int .u64 0, .int .u64 0] 29)) := by unfold Hid; rw [hW]; exact (by repeat (first | (refine heap_at _ _ _ ?hx; case hx => (first | (simp; done) | (simp; omega))) | (refine heap_past _ _ _ ?hy ?_; case hy => (first | (simp; done) | (simp; omega))) | fail))
  have rq : Hid (W.heap[w.heap.size + 1 + 1 + 1]? = some (.cells #[.bool false, .int .i64 0, .int .i64 0, .int .u64 0, .int .u64 0] 29)) := by unfold Hid; rw [hW]; exact (by repeat (first | (refine heap_at _ _ _ ?hx; case hx => (first | (simp; done) | (simp; omega))) | (refine heap_past _ _ _ ?hy ?_; case hy => (first | (simp; done) | (simp; omega))) | fail))
  have HW : Hid (Ok w0 W) := by unfold Hid; rw [hW]; exact (by repeat (first | exact hok | refine Ok.alloc ?_ _ | refine Ok.draws ?_ _ | fail))
  rw [← hW]
  clear hW
  obtain ⟨gq, egq⟩ : ∃ g, g = w.heap.size + 1 + 1 + 1 := ⟨_, rfl⟩
  rw [← egq] at rq ⊢
  obtain ⟨gp, egp⟩ : ∃ g, g = w.heap.size + 1 + 1 := ⟨_, rfl⟩
  rw [← egp] at rp ⊢
  obtain ⟨gb, egb⟩ : ∃ g, g = w.heap.size + 1 := ⟨_, rfl⟩
  rw [← egb] at rb ⊢
  obtain ⟨ga, ega⟩ : ∃ g, g = w.heap.size := ⟨_, rfl⟩
  rw [← ega] at ra ⊢
  have lga : w0.heap.size ≤ ga := by omega
  have ngagb : ¬ ga = gb := by omega
  have ngagp : ¬ ga = gp := by omega
  have ngagq : ¬ ga = gq := by omega
  have lgb : w0.heap.size ≤ gb := by omega
  have ngbga : ¬ gb = ga := by omega
  have ngbgp : ¬ gb = gp := by omega
  have ngbgq : ¬ gb = gq := by omega
  have lgp : w0.heap.size ≤ gp := by omega
  have ngpga : ¬ gp = ga := by omega
  have ngpgb : ¬ gp = gb := by omega
  have ngpgq : ¬ gp = gq := by omega
  have lgq : w0.heap.size ≤ gq := by omega
  have ngqga : ¬ gq = ga := by omega
  have ngqgb : ¬ gq = gb := by omega
  have ngqgp : ¬ gq = gp := by omega
  clear ega egb egp egq
  apply wp_cutN (fun w1 => Hid (Ok w0 w1 ∧ w1.heap[ga]? = some (.cells #[.bool x.2.2.2.2, .int .i64 x.1, .int .i64 x.2.1, .int .u64 (x.2.2.1 : Int), .int .u64 (x.2.2.2.1 : Int)] 29) ∧ w1.heap[gb]? = some (.cells #[.bool y.2.2.2.2, .int .i64 y.1, .int .i64 y.2.1, .int .u64 (y.2.2.1 : Int), .int .u64 (y.2.2.2.1 : Int)] 29) ∧ (∀ (h : Nat) (o : Obj), h ≠ ga → h ≠ gb → W.heap[h]? = some o → w1.heap[h]? = some o)))
  case h1 =>
    obtain ⟨a0, a1, a2, a3, a4, a5, a6, a7, a8, a9⟩ := row5_facts ra.out
    obtain ⟨b0, b1, b2, b3, b4, b5, b6, b7, b8, b9⟩ := row5_facts rb.out
    have bz : Ok W W := Ok.refl _
    go_region_with (go_at_call 9; refine (nnorm_any _ (by first | exact HU.out.1 | exact HU.out.2) W _ (by first | assumption | exact Below.drew (by assumption))).mono ?_; rintro e w1 ⟨rfl, hb⟩; (first | rw [← HX.out] | rw [← HY.out]); unfold nv; obtain ⟨a0, a1, a2, a3, a4, a5, a6, a7, a8, a9⟩ := row5_facts (Ok.row' hb ra.out); obtain ⟨b0, b1, b2, b3, b4, b5, b6, b7, b8, b9⟩ := row5_facts (Ok.row' hb rb.out))
    all_goals exact ⟨rfl, rows_put2 (by omega) ra.out rb.out hb HW.out (by omega) (by omega) _ _ _ _ _ _ _ _ _ _⟩
  case h2 =>
    rintro Z H
    obtain ⟨HZ, raz, rbz, keep⟩ := H.out
    replace HZ : Hid (Ok w0 Z) := HZ
    replace raz : Hid _ := raz
    replace rbz : Hid _ := rbz
    replace rp : Hid _ := keep _ _ (by omega) (by omega) rp.out
    replace rq : Hid _ := keep _ _ (by omega) (by omega) rq.out
    clear H ra rb keep
    go_upto_region 2 with (fail)
    obtain ⟨xl, xh, xM, xR, xB⟩ := x
    obtain ⟨yl, yh, yM, yR, yB⟩ := y
    replace raz : Hid (Z.heap[ga]? = some (.cells #[.bool xB, .int .i64 xl, .int .i64 xh, .int .u64 (xM : Int), .int .u64 (xR : Int)] 29)) := raz
    replace rbz : Hid (Z.heap[gb]? = some (.cells #[.bool yB, .int .i64 yl, .int .i64 yh, .int .u64 (yM : Int), .int .u64 (yR : Int)] 29)) := rbz
    cases xB
    · cases yB
      · clear HX HY
        obtain ⟨L, hL⟩ : ∃ t, t = (ansN (compN op (xl, xh, xM, xR, false) (yl, yh, yM, yR, false)).1 (compN op (xl, xh, xM, xR, false) (yl, yh, yM, yR, false)).2).1 := ⟨_, rfl⟩
        obtain ⟨R, hR⟩ : ∃ t, t = (ansN (compN op (xl, xh, xM, xR, false) (yl, yh, yM, yR, false)).1 (compN op (xl, xh, xM, xR, false) (yl, yh, yM, yR, false)).2).2 := ⟨_, rfl⟩
        have EA : Hid (A = (L, R)) := by unfold Hid; rw [HA.out, hL, hR]; exact if_neg (by simp)
        have HL : Hid _ := hL
        have HR : Hid _ := hR
        clear hL hR HA
        have za := lt_row raz.out
        have zb := lt_row rbz.out
        obtain ⟨a0, a1, a2, a3, a4, a5, a6, a7, a8, a9⟩ := row5_facts raz.out
        obtain ⟨b0, b1, b2, b3, b4, b5, b6, b7, b8, b9⟩ := row5_facts rbz.out
        have bz : Ok Z Z := Ok.refl _
        refine wp_region_held_drew (S := (fun w' => w'.cell? ⟨ga, 0, none⟩ = some (.bool false) ∧ w'.cell? ⟨ga, 1, none⟩ = some (.int .i64 xl) ∧ w'.cell? ⟨ga, 2, none⟩ = some (.int .i64 xh) ∧ w'.cell? ⟨ga, 3, none⟩ = some (.int .u64 (xM : Int)) ∧ w'.cell? ⟨ga, 4, none⟩ = some (.int .u64 (xR : Int)) ∧ w'.cell? ⟨gb, 0, none⟩ = some (.bool false) ∧ w'.cell? ⟨gb, 1, none⟩ = some (.int .i64 yl) ∧ w'.cell? ⟨gb, 2, none⟩ = some (.int .i64 yh) ∧ w'.cell? ⟨gb, 3, none⟩ = some (.int .u64 (yM : Int)) ∧ w'.cell? ⟨gb, 4, none⟩ = some (.int .u64 (yR : Int)))) (by kernel_rfl) (by (try dsimp only); go_keep) (fun hHeld => ?_)
        refine wpAnyH_take (i := 0) (v := ?_) rfl (by kernel_rfl) (by kernel_rfl) (by kernel_rfl) (fun _ _ _ h => h) (Or.inl ⟨by rfl, ?_⟩) (by assumption) ?_
        rotate_left
        · intro w hSw; (try dsimp only at hSw); first | (go_simp; done) | (go_simp; with_reducible rfl)
        (try simp only [Act.put, List.getElem_toArray, List.getElem_cons_succ, List.getElem_cons_zero, List.setIfInBounds_toArray, List.set_cons_zero, List.set_cons_succ])
        refine wpAnyH_take (i := 1) (v := ?_) rfl (by kernel_rfl) (by kernel_rfl) (by kernel_rfl) (fun _ _ _ h => h) (Or.inl ⟨by rfl, ?_⟩) (by assumption) ?_
        rotate_left
        · intro w hSw; (try dsimp only at hSw); first | (go_simp; done) | (go_simp; with_reducible rfl)
        (try simp only [Act.put, List.getElem_toArray, List.getElem_cons_succ, List.getElem_cons_zero, List.setIfInBounds_toArray, List.set_cons_zero, List.set_cons_succ])
        refine wpAnyH_take (i := 2) (v := ?_) rfl (by kernel_rfl) (by kernel_rfl) (by kernel_rfl) (fun _ _ _ h => h) (Or.inl ⟨by rfl, ?_⟩) (by assumption) ?_
        rotate_left
        · intro w hSw; (try dsimp only at hSw); first | (go_simp; done) | (go_simp; with_reducible rfl)
        (try simp only [Act.put, List.getElem_toArray, List.getElem_cons_succ, List.getElem_cons_zero, List.setIfInBounds_toArray, List.set_cons_zero, List.set_cons_succ])
        refine wpAnyH_take (i := 4) (v := ?_) rfl (by kernel_rfl) (by kernel_rfl) (by kernel_rfl) (fun _ _ _ h => h) (Or.inl ⟨by rfl, ?_⟩) (by assumption) ?_
        rotate_left
        · intro w hSw; (try dsimp only at hSw); first | (go_simp; done) | (go_simp; with_reducible rfl)
        (try simp only [Act.put, List.getElem_toArray, List.getElem_cons_succ, List.getElem_cons_zero, List.setIfInBounds_toArray, List.set_cons_zero, List.set_cons_succ])
        refine wpAnyH_take (i := 5) (v := ?_) rfl (by kernel_rfl) (by kernel_rfl) (by kernel_rfl) (fun _ _ _ h => h) (Or.inl ⟨by rfl, ?_⟩) (by assumption) ?_
        rotate_left
        · intro w hSw; (try dsimp only at hSw); first | (go_simp; done) | (go_simp; with_reducible rfl)
        (try simp only [Act.put, List.getElem_toArray, List.getElem_cons_succ, List.getElem_cons_zero, List.setIfInBounds_toArray, List.set_cons_zero, List.set_cons_succ])
        refine wpAnyH_take (i := 6) (v := ?_) rfl (by kernel_rfl) (by kernel_rfl) (by kernel_rfl) (fun _ _ _ h => h) (Or.inl ⟨by rfl, ?_⟩) (by assumption) ?_
        rotate_left
        · intro w hSw; (try dsimp only at hSw); first | (go_simp; done) | (go_simp; with_reducible rfl)
        (try simp only [Act.put, List.getElem_toArray, List.getElem_cons_succ, List.getElem_cons_zero, List.setIfInBounds_toArray, List.set_cons_zero, List.set_cons_succ])
        refine wpAnyH_ready (rs := [3]) (by kernel_rfl) (by simp) ?_
        refine AllReadyH.cons rfl (fun K hK => ?_) AllReadyH.nil
        go_simp
        refine (vcomparing_any op HO.out (xl, xh, xM, xR, false) (yl, yh, yM, yR, false) RX.out RY.out Z _ (by repeat (first | assumption | refine Ok.alloc ?_ _ | refine Below.drew ?_))).mono ?_
        rintro e1 w' ⟨f, rfl, hT, hb⟩
        obtain ⟨fid, caps, rfl, hen, hf⟩ := hT
        have q0 := Ok.cell hb za a0
        have q1 := Ok.cell hb za a1
        have q2 := Ok.cell hb za a2
        have q3 := Ok.cell hb za a3
        have q4 := Ok.cell hb za a4
        have q5 := Ok.cell hb zb b0
        have q6 := Ok.cell hb zb b1
        have q7 := Ok.cell hb zb b2
        have q8 := Ok.cell hb zb b3
        have q9 := Ok.cell hb zb b4
        go_wp2_with fail
        refine hK.out _ _ (by (try dsimp only); go_keep) (fun hHeld => ?_)
        clear hK K
        (try simp only [Act.put, List.getElem_toArray, List.getElem_cons_succ, List.getElem_cons_zero, List.setIfInBounds_toArray, List.set_cons_zero, List.set_cons_succ])
        refine wpAnyH_take (i := 7) (v := ?_) rfl (by kernel_rfl) (by kernel_rfl) (by kernel_rfl) (fun _ _ _ h => h) (Or.inl ⟨by rfl, ?_⟩) (by assumption) ?_
        rotate_left
        · intro w hSw; (try dsimp only at hSw); first | (go_simp; done) | (go_simp; with_reducible rfl)
        (try simp only [Act.put, List.getElem_toArray, List.getElem_cons_succ, List.getElem_cons_zero, List.setIfInBounds_toArray, List.set_cons_zero, List.set_cons_succ])
        refine wpAnyH_take (i := 8) (v := ?_) rfl (by kernel_rfl) (by kernel_rfl) (by kernel_rfl) (fun _ _ _ h => h) (Or.inl ⟨by rfl, ?_⟩) (by assumption) ?_
        rotate_left
        · intro w hSw; (try dsimp only at hSw); first | (go_simp; done) | (go_simp; with_reducible rfl)
        (try simp only [Act.put, List.getElem_toArray, List.getElem_cons_succ, List.getElem_cons_zero, List.setIfInBounds_toArray, List.set_cons_zero, List.set_cons_succ])
        refine wpAnyH_take (i := 9) (v := ?_) rfl (by kernel_rfl) (by kernel_rfl) (by kernel_rfl) (fun _ _ _ h => h) (Or.inl ⟨by rfl, ?_⟩) (by assumption) ?_
        rotate_left
        · intro w hSw; (try dsimp only at hSw); first | (go_simp; done) | (go_simp; with_reducible rfl)
        (try simp only [Act.put, List.getElem_toArray, List.getElem_cons_succ, List.getElem_cons_zero, List.setIfInBounds_toArray, List.set_cons_zero, List.set_cons_succ])
        refine wpAnyH_take (i := 10) (v := ?_) rfl (by kernel_rfl) (by kernel_rfl) (by kernel_rfl) (fun _ _ _ h => h) (Or.inl ⟨by rfl, ?_⟩) (by assumption) ?_
        rotate_left
        · intro w hSw; (try dsimp only at hSw); first | (go_simp; done) | (go_simp; with_reducible rfl)
        (try simp only [Act.put, List.getElem_toArray, List.getElem_cons_succ, List.getElem_cons_zero, List.setIfInBounds_toArray, List.set_cons_zero, List.set_cons_succ])
        refine wpAnyH_take (i := 11) (v := ?_) rfl (by kernel_rfl) (by kernel_rfl) (by kernel_rfl) (fun _ _ _ h => h) (Or.inl ⟨by rfl, ?_⟩) (by assumption) ?_
        rotate_left
        · intro w hSw; (try dsimp only at hSw); first | (go_simp; done) | (go_simp; with_reducible rfl)
        (try simp only [Act.put, List.getElem_toArray, List.getElem_cons_succ, List.getElem_cons_zero, List.setIfInBounds_toArray, List.set_cons_zero, List.set_cons_succ])
        refine wpAnyH_ready (rs := [12]) (by kernel_rfl) (by simp) ?_
        refine AllReadyH.cons rfl (fun K hK => ?_) AllReadyH.nil
        go_simp
        refine (vask_any fid caps _ _ hen Z _ (by repeat (first | assumption | refine Ok.alloc ?_ _ | refine Below.drew ?_)) hf).mono ?_
        rintro e1 w' ⟨rfl, hb⟩
        rw [← HL.out, ← HR.out]
        unfold nv
        have q0 := Ok.cell hb za a0
        have q1 := Ok.cell hb za a1
        have q2 := Ok.cell hb za a2
        have q3 := Ok.cell hb za a3
        have q4 := Ok.cell hb za a4
        have q5 := Ok.cell hb zb b0
        have q6 := Ok.cell hb zb b1
        have q7 := Ok.cell hb zb b2
        have q8 := Ok.cell hb zb b3
        have q9 := Ok.cell hb zb b4
        have zz := row5_facts (Ok.row' hb rp.out)
        have k0 := zz.1
        have k1 := zz.2.1
        have k2 := zz.2.2.1
        have k3 := zz.2.2.2.1
        have k4 := zz.2.2.2.2.1
        have k5 := zz.2.2.2.2.2.1
        have k6 := zz.2.2.2.2.2.2.1
        have k7 := zz.2.2.2.2.2.2.2.1
        have k8 := zz.2.2.2.2.2.2.2.2.1
        have k9 := zz.2.2.2.2.2.2.2.2.2
        clear zz
        have zz := row5_facts (Ok.row' hb rq.out)
        have j0 := zz.1
        have j1 := zz.2.1
        have j2 := zz.2.2.1
        have j3 := zz.2.2.2.1
        have j4 := zz.2.2.2.2.1
        have j5 := zz.2.2.2.2.2.1
        have j6 := zz.2.2.2.2.2.2.1
        have j7 := zz.2.2.2.2.2.2.2.1
        have j8 := zz.2.2.2.2.2.2.2.2.1
        have j9 := zz.2.2.2.2.2.2.2.2.2
        clear zz
        go_wp2_with fail
        refine hK.out _ _ (by (try dsimp only); go_keep) (fun hHeld => ?_)
        clear hK K
        (try simp only [Act.put, List.getElem_toArray, List.getElem_cons_succ, List.getElem_cons_zero, List.setIfInBounds_toArray, List.set_cons_zero, List.set_cons_succ])
        refine wpAnyH_take (i := 13) (v := ?_) rfl (by kernel_rfl) (by kernel_rfl) (by kernel_rfl) (fun _ _ _ h => h) (Or.inl ⟨by rfl, ?_⟩) (by assumption) ?_
        rotate_left
        · intro w hSw; (try dsimp only at hSw); first | (go_simp; done) | (go_simp; with_reducible rfl)
        (try simp only [Act.put, List.getElem_toArray, List.getElem_cons_succ, List.getElem_cons_zero, List.setIfInBounds_toArray, List.set_cons_zero, List.set_cons_succ])
        refine wpAnyH_take (i := 14) (v := ?_) rfl (by kernel_rfl) (by kernel_rfl) (by kernel_rfl) (fun _ _ _ h => h) (Or.inl ⟨by rfl, ?_⟩) (by assumption) ?_
        rotate_left
        · intro w hSw; (try dsimp only at hSw); first | (go_simp; done) | (go_simp; with_reducible rfl)
        (try simp only [Act.put, List.getElem_toArray, List.getElem_cons_succ, List.getElem_cons_zero, List.setIfInBounds_toArray, List.set_cons_zero, List.set_cons_succ])
        refine wpAnyH_take (i := 15) (v := ?_) rfl (by kernel_rfl) (by kernel_rfl) (by kernel_rfl) (fun _ _ _ h => h) (Or.inl ⟨by rfl, ?_⟩) (by assumption) ?_
        rotate_left
        · intro w hSw; (try dsimp only at hSw); first | (go_simp; done) | (go_simp; with_reducible rfl)
        (try simp only [Act.put, List.getElem_toArray, List.getElem_cons_succ, List.getElem_cons_zero, List.setIfInBounds_toArray, List.set_cons_zero, List.set_cons_succ])
        refine wpAnyH_ready (rs := [16]) (by kernel_rfl) (by simp) ?_
        refine AllReadyH.cons rfl (fun K hK => ?_) AllReadyH.nil
        go_simp
        go_wp2_with fail
        refine hK.out _ _ (by (try dsimp only); go_keep) (fun hHeld => ?_)
        clear hK K
        (try simp only [Act.put, List.getElem_toArray, List.getElem_cons_succ, List.getElem_cons_zero, List.setIfInBounds_toArray, List.set_cons_zero, List.set_cons_succ])
        refine wpAnyH_ready (rs := [17]) (by kernel_rfl) (by simp) ?_
        refine AllReadyH.cons rfl (fun K hK => ?_) AllReadyH.nil
        go_simp
        go_wp2_with fail
        refine hK.out _ _ (by (try dsimp only); go_keep) (fun hHeld => ?_)
        clear hK K
        (try simp only [Act.put, List.getElem_toArray, List.getElem_cons_succ, List.getElem_cons_zero, List.setIfInBounds_toArray, List.set_cons_zero, List.set_cons_succ])
        refine wpAnyH_ready (rs := [18]) (by kernel_rfl) (by simp) ?_
        refine AllReadyH.cons rfl (fun K hK => ?_) AllReadyH.nil
        go_simp
        go_wp2_with fail
        refine hK.out _ _ (by (try dsimp only); go_keep) (fun hHeld => ?_)
        clear hK K
        (try simp only [Act.put, List.getElem_toArray, List.getElem_cons_succ, List.getElem_cons_zero, List.setIfInBounds_toArray, List.set_cons_zero, List.set_cons_succ])
        refine wpAnyH_done (by kernel_rfl) ?_ _
        go_wp2_with fail
        obtain ⟨Y, hY⟩ : ∃ V, V = ((((((((((w'.setCell ⟨gp, 0, none⟩ (.bool L.2.2.2.2)).setCell ⟨gp, 1, none⟩ (.int .i64 L.1)).setCell ⟨gp, 2, none⟩ (.int .i64 L.2.1)).setCell ⟨gp, 3, none⟩ (.int .u64 (L.2.2.1 : Int))).setCell ⟨gp, 4, none⟩ (.int .u64 (L.2.2.2.1 : Int))).setCell ⟨gq, 0, none⟩ (.bool R.2.2.2.2)).setCell ⟨gq, 1, none⟩ (.int .i64 R.1)).setCell ⟨gq, 2, none⟩ (.int .i64 R.2.1)).setCell ⟨gq, 3, none⟩ (.int .u64 (R.2.2.1 : Int))).setCell ⟨gq, 4, none⟩ (.int .u64 (R.2.2.2.1 : Int))) := ⟨_, rfl⟩
        have hp := rows_putr ngpgq (Ok.row' hb rp.out) (Ok.row' hb rq.out) (HZ.out.step hb) (by omega) (by omega) _ _ _ _ _ _ _ _ _ _ hY
        rw [← hY]
        clear hY
        refine bodyPost_ret (results_2ct rfl _ _ gp gq 29 #[_, _, _, _, _] #[_, _, _, _, _] (0, 0) _ rfl rfl hp.2.1 hp.2.2 Tryz.underlying29 rfl infoN infoN) rfl ?_
        exact ⟨by rw [EA.out]; rfl, hp.1⟩
      · clear HX HY
        have EA : Hid (A = (botN, botN)) := by unfold Hid; rw [HA.out]; exact if_pos (by simp)
        clear HA
        have za := lt_row raz.out
        have zb := lt_row rbz.out
        obtain ⟨a0, a1, a2, a3, a4, a5, a6, a7, a8, a9⟩ := row5_facts raz.out
        obtain ⟨b0, b1, b2, b3, b4, b5, b6, b7, b8, b9⟩ := row5_facts rbz.out
        have bz : Ok Z Z := Ok.refl _
        refine wp_region_held_drew (S := (fun w' => w'.cell? ⟨ga, 0, none⟩ = some (.bool false) ∧ w'.cell? ⟨ga, 1, none⟩ = some (.int .i64 xl) ∧ w'.cell? ⟨ga, 2, none⟩ = some (.int .i64 xh) ∧ w'.cell? ⟨ga, 3, none⟩ = some (.int .u64 (xM : Int)) ∧ w'.cell? ⟨ga, 4, none⟩ = some (.int .u64 (xR : Int)) ∧ w'.cell? ⟨gb, 0, none⟩ = some (.bool true) ∧ w'.cell? ⟨gb, 1, none⟩ = some (.int .i64 yl) ∧ w'.cell? ⟨gb, 2, none⟩ = some (.int .i64 yh) ∧ w'.cell? ⟨gb, 3, none⟩ = some (.int .u64 (yM : Int)) ∧ w'.cell? ⟨gb, 4, none⟩ = some (.int .u64 (yR : Int)))) (by kernel_rfl) (by (try dsimp only); go_keep) (fun hHeld => ?_)
        refine wpAnyH_take (i := 0) (v := ?_) rfl (by kernel_rfl) (by kernel_rfl) (by kernel_rfl) (fun _ _ _ h => h) (Or.inl ⟨by rfl, ?_⟩) (by assumption) ?_
        rotate_left
        · intro w hSw; (try dsimp only at hSw); first | (go_simp; done) | (go_simp; with_reducible rfl)
        (try simp only [Act.put, List.getElem_toArray, List.getElem_cons_succ, List.getElem_cons_zero, List.setIfInBounds_toArray, List.set_cons_zero, List.set_cons_succ])
        refine wpAnyH_take (i := 1) (v := ?_) rfl (by kernel_rfl) (by kernel_rfl) (by kernel_rfl) (fun _ _ _ h => h) (Or.inl ⟨by rfl, ?_⟩) (by assumption) ?_
        rotate_left
        · intro w hSw; (try dsimp only at hSw); first | (go_simp; done) | (go_simp; with_reducible rfl)
        (try simp only [Act.put, List.getElem_toArray, List.getElem_cons_succ, List.getElem_cons_zero, List.setIfInBounds_toArray, List.set_cons_zero, List.set_cons_succ])
        refine wpAnyH_take (i := 2) (v := ?_) rfl (by kernel_rfl) (by kernel_rfl) (by kernel_rfl) (fun _ _ _ h => h) (Or.inl ⟨by rfl, ?_⟩) (by assumption) ?_
        rotate_left
        · intro w hSw; (try dsimp only at hSw); first | (go_simp; done) | (go_simp; with_reducible rfl)
        (try simp only [Act.put, List.getElem_toArray, List.getElem_cons_succ, List.getElem_cons_zero, List.setIfInBounds_toArray, List.set_cons_zero, List.set_cons_succ])
        refine wpAnyH_take (i := 4) (v := ?_) rfl (by kernel_rfl) (by kernel_rfl) (by kernel_rfl) (fun _ _ _ h => h) (Or.inl ⟨by rfl, ?_⟩) (by assumption) ?_
        rotate_left
        · intro w hSw; (try dsimp only at hSw); first | (go_simp; done) | (go_simp; with_reducible rfl)
        (try simp only [Act.put, List.getElem_toArray, List.getElem_cons_succ, List.getElem_cons_zero, List.setIfInBounds_toArray, List.set_cons_zero, List.set_cons_succ])
        refine wpAnyH_take (i := 5) (v := ?_) rfl (by kernel_rfl) (by kernel_rfl) (by kernel_rfl) (fun _ _ _ h => h) (Or.inl ⟨by rfl, ?_⟩) (by assumption) ?_
        rotate_left
        · intro w hSw; (try dsimp only at hSw); first | (go_simp; done) | (go_simp; with_reducible rfl)
        (try simp only [Act.put, List.getElem_toArray, List.getElem_cons_succ, List.getElem_cons_zero, List.setIfInBounds_toArray, List.set_cons_zero, List.set_cons_succ])
        refine wpAnyH_take (i := 6) (v := ?_) rfl (by kernel_rfl) (by kernel_rfl) (by kernel_rfl) (fun _ _ _ h => h) (Or.inl ⟨by rfl, ?_⟩) (by assumption) ?_
        rotate_left
        · intro w hSw; (try dsimp only at hSw); first | (go_simp; done) | (go_simp; with_reducible rfl)
        (try simp only [Act.put, List.getElem_toArray, List.getElem_cons_succ, List.getElem_cons_zero, List.setIfInBounds_toArray, List.set_cons_zero, List.set_cons_succ])
        refine wpAnyH_ready (rs := [3]) (by kernel_rfl) (by simp) ?_
        refine AllReadyH.cons rfl (fun K hK => ?_) AllReadyH.nil
        go_simp
        refine (vcomparing_any op HO.out (xl, xh, xM, xR, false) (yl, yh, yM, yR, true) RX.out RY.out Z _ (by repeat (first | assumption | refine Ok.alloc ?_ _ | refine Below.drew ?_))).mono ?_
        rintro e1 w' ⟨f, rfl, hT, hb⟩
        obtain ⟨fid, caps, rfl, hen, hf⟩ := hT
        have q0 := Ok.cell hb za a0
        have q1 := Ok.cell hb za a1
        have q2 := Ok.cell hb za a2
        have q3 := Ok.cell hb za a3
        have q4 := Ok.cell hb za a4
        have q5 := Ok.cell hb zb b0
        have q6 := Ok.cell hb zb b1
        have q7 := Ok.cell hb zb b2
        have q8 := Ok.cell hb zb b3
        have q9 := Ok.cell hb zb b4
        go_wp2_with fail
        refine hK.out _ _ (by (try dsimp only); go_keep) (fun hHeld => ?_)
        clear hK K
        (try simp only [Act.put, List.getElem_toArray, List.getElem_cons_succ, List.getElem_cons_zero, List.setIfInBounds_toArray, List.set_cons_zero, List.set_cons_succ])
        refine wpAnyH_take (i := 7) (v := ?_) rfl (by kernel_rfl) (by kernel_rfl) (by kernel_rfl) (fun _ _ _ h => h) (Or.inl ⟨by rfl, ?_⟩) (by assumption) ?_
        rotate_left
        · intro w hSw; (try dsimp only at hSw); first | (go_simp; done) | (go_simp; with_reducible rfl)
        (try simp only [Act.put, List.getElem_toArray, List.getElem_cons_succ, List.getElem_cons_zero, List.setIfInBounds_toArray, List.set_cons_zero, List.set_cons_succ])
        refine wpAnyH_take (i := 8) (v := ?_) rfl (by kernel_rfl) (by kernel_rfl) (by kernel_rfl) (fun _ _ _ h => h) (Or.inl ⟨by rfl, ?_⟩) (by assumption) ?_
        rotate_left
        · intro w hSw; (try dsimp only at hSw); first | (go_simp; done) | (go_simp; with_reducible rfl)
        (try simp only [Act.put, List.getElem_toArray, List.getElem_cons_succ, List.getElem_cons_zero, List.setIfInBounds_toArray, List.set_cons_zero, List.set_cons_succ])
        refine wpAnyH_take (i := 9) (v := ?_) rfl (by kernel_rfl) (by kernel_rfl) (by kernel_rfl) (fun _ _ _ h => h) (Or.inl ⟨by rfl, ?_⟩) (by assumption) ?_
        rotate_left
        · intro w hSw; (try dsimp only at hSw); first | (go_simp; done) | (go_simp; with_reducible rfl)
        (try simp only [Act.put, List.getElem_toArray, List.getElem_cons_succ, List.getElem_cons_zero, List.setIfInBounds_toArray, List.set_cons_zero, List.set_cons_succ])
        refine wpAnyH_take (i := 10) (v := ?_) rfl (by kernel_rfl) (by kernel_rfl) (by kernel_rfl) (fun _ _ _ h => h) (Or.inl ⟨by rfl, ?_⟩) (by assumption) ?_
        rotate_left
        · intro w hSw; (try dsimp only at hSw); first | (go_simp; done) | (go_simp; with_reducible rfl)
        (try simp only [Act.put, List.getElem_toArray, List.getElem_cons_succ, List.getElem_cons_zero, List.setIfInBounds_toArray, List.set_cons_zero, List.set_cons_succ])
        refine wpAnyH_take (i := 11) (v := ?_) rfl (by kernel_rfl) (by kernel_rfl) (by kernel_rfl) (fun _ _ _ h => h) (Or.inl ⟨by rfl, ?_⟩) (by assumption) ?_
        rotate_left
        · intro w hSw; (try dsimp only at hSw); first | (go_simp; done) | (go_simp; with_reducible rfl)
        (try simp only [Act.put, List.getElem_toArray, List.getElem_cons_succ, List.getElem_cons_zero, List.setIfInBounds_toArray, List.set_cons_zero, List.set_cons_succ])
        refine wpAnyH_ready (rs := [12]) (by kernel_rfl) (by simp) ?_
        refine AllReadyH.cons rfl (fun K hK => ?_) AllReadyH.nil
        go_simp
        refine (vask_no fid caps Z _ (by repeat (first | assumption | refine Ok.alloc ?_ _ | refine Below.drew ?_))).mono ?_
        rintro e1 w' ⟨rfl, hb⟩
        unfold nv botN
        have q0 := Ok.cell hb za a0
        have q1 := Ok.cell hb za a1
        have q2 := Ok.cell hb za a2
        have q3 := Ok.cell hb za a3
        have q4 := Ok.cell hb za a4
        have q5 := Ok.cell hb zb b0
        have q6 := Ok.cell hb zb b1
        have q7 := Ok.cell hb zb b2
        have q8 := Ok.cell hb zb b3
        have q9 := Ok.cell hb zb b4
        have zz := row5_facts (Ok.row' hb rp.out)
        have k0 := zz.1
        have k1 := zz.2.1
        have k2 := zz.2.2.1
        have k3 := zz.2.2.2.1
        have k4 := zz.2.2.2.2.1
        have k5 := zz.2.2.2.2.2.1
        have k6 := zz.2.2.2.2.2.2.1
        have k7 := zz.2.2.2.2.2.2.2.1
        have k8 := zz.2.2.2.2.2.2.2.2.1
        have k9 := zz.2.2.2.2.2.2.2.2.2
        clear zz
        have zz := row5_facts (Ok.row' hb rq.out)
        have j0 := zz.1
        have j1 := zz.2.1
        have j2 := zz.2.2.1
        have j3 := zz.2.2.2.1
        have j4 := zz.2.2.2.2.1
        have j5 := zz.2.2.2.2.2.1
        have j6 := zz.2.2.2.2.2.2.1
        have j7 := zz.2.2.2.2.2.2.2.1
        have j8 := zz.2.2.2.2.2.2.2.2.1
        have j9 := zz.2.2.2.2.2.2.2.2.2
        clear zz
        go_wp2_with fail
        refine hK.out _ _ (by (try dsimp only); go_keep) (fun hHeld => ?_)
        clear hK K
        (try simp only [Act.put, List.getElem_toArray, List.getElem_cons_succ, List.getElem_cons_zero, List.setIfInBounds_toArray, List.set_cons_zero, List.set_cons_succ])
        refine wpAnyH_take (i := 13) (v := ?_) rfl (by kernel_rfl) (by kernel_rfl) (by kernel_rfl) (fun _ _ _ h => h) (Or.inl ⟨by rfl, ?_⟩) (by assumption) ?_
        rotate_left
        · intro w hSw; (try dsimp only at hSw); first | (go_simp; done) | (go_simp; with_reducible rfl)
        (try simp only [Act.put, List.getElem_toArray, List.getElem_cons_succ, List.getElem_cons_zero, List.setIfInBounds_toArray, List.set_cons_zero, List.set_cons_succ])
        refine wpAnyH_take (i := 14) (v := ?_) rfl (by kernel_rfl) (by kernel_rfl) (by kernel_rfl) (fun _ _ _ h => h) (Or.inl ⟨by rfl, ?_⟩) (by assumption) ?_
        rotate_left
        · intro w hSw; (try dsimp only at hSw); first | (go_simp; done) | (go_simp; with_reducible rfl)
        (try simp only [Act.put, List.getElem_toArray, List.getElem_cons_succ, List.getElem_cons_zero, List.setIfInBounds_toArray, List.set_cons_zero, List.set_cons_succ])
        refine wpAnyH_take (i := 15) (v := ?_) rfl (by kernel_rfl) (by kernel_rfl) (by kernel_rfl) (fun _ _ _ h => h) (Or.inl ⟨by rfl, ?_⟩) (by assumption) ?_
        rotate_left
        · intro w hSw; (try dsimp only at hSw); first | (go_simp; done) | (go_simp; with_reducible rfl)
        (try simp only [Act.put, List.getElem_toArray, List.getElem_cons_succ, List.getElem_cons_zero, List.setIfInBounds_toArray, List.set_cons_zero, List.set_cons_succ])
        refine wpAnyH_ready (rs := [16]) (by kernel_rfl) (by simp) ?_
        refine AllReadyH.cons rfl (fun K hK => ?_) AllReadyH.nil
        go_simp
        go_wp2_with fail
        refine hK.out _ _ (by (try dsimp only); go_keep) (fun hHeld => ?_)
        clear hK K
        (try simp only [Act.put, List.getElem_toArray, List.getElem_cons_succ, List.getElem_cons_zero, List.setIfInBounds_toArray, List.set_cons_zero, List.set_cons_succ])
        refine wpAnyH_ready (rs := [17]) (by kernel_rfl) (by simp) ?_
        refine AllReadyH.cons rfl (fun K hK => ?_) AllReadyH.nil
        go_simp
        go_wp2_with fail
        refine hK.out _ _ (by (try dsimp only); go_keep) (fun hHeld => ?_)
        clear hK K
        (try simp only [Act.put, List.getElem_toArray, List.getElem_cons_succ, List.getElem_cons_zero, List.setIfInBounds_toArray, List.set_cons_zero, List.set_cons_succ])
        refine wpAnyH_ready (rs := [18]) (by kernel_rfl) (by simp) ?_
        refine AllReadyH.cons rfl (fun K hK => ?_) AllReadyH.nil
        go_simp
        go_wp2_with fail
        refine hK.out _ _ (by (try dsimp only); go_keep) (fun hHeld => ?_)
        clear hK K
        (try simp only [Act.put, List.getElem_toArray, List.getElem_cons_succ, List.getElem_cons_zero, List.setIfInBounds_toArray, List.set_cons_zero, List.set_cons_succ])
        refine wpAnyH_done (by kernel_rfl) ?_ _
        go_wp2_with fail
        obtain ⟨Y, hY⟩ : ∃ V, V = ((((((((((w'.setCell ⟨gp, 0, none⟩ (.bool true)).setCell ⟨gp, 1, none⟩ (.int .i64 0)).setCell ⟨gp, 2, none⟩ (.int .i64 0)).setCell ⟨gp, 3, none⟩ (.int .u64 0)).setCell ⟨gp, 4, none⟩ (.int .u64 0)).setCell ⟨gq, 0, none⟩ (.bool true)).setCell ⟨gq, 1, none⟩ (.int .i64 0)).setCell ⟨gq, 2, none⟩ (.int .i64 0)).setCell ⟨gq, 3, none⟩ (.int .u64 0)).setCell ⟨gq, 4, none⟩ (.int .u64 0)) := ⟨_, rfl⟩
        have hp := rows_putr ngpgq (Ok.row' hb rp.out) (Ok.row' hb rq.out) (HZ.out.step hb) (by omega) (by omega) _ _ _ _ _ _ _ _ _ _ hY
        rw [← hY]
        clear hY
        refine bodyPost_ret (results_2ct rfl _ _ gp gq 29 #[_, _, _, _, _] #[_, _, _, _, _] (0, 0) _ rfl rfl hp.2.1 hp.2.2 Tryz.underlying29 rfl infoN infoN) rfl ?_
        exact ⟨by rw [EA.out]; rfl, hp.1⟩
    · cases yB
      · clear HX HY
        have EA : Hid (A = (botN, botN)) := by unfold Hid; rw [HA.out]; exact if_pos (by simp)
        clear HA
        have za := lt_row raz.out
        have zb := lt_row rbz.out
        obtain ⟨a0, a1, a2, a3, a4, a5, a6, a7, a8, a9⟩ := row5_facts raz.out
        obtain ⟨b0, b1, b2, b3, b4, b5, b6, b7, b8, b9⟩ := row5_facts rbz.out
        have bz : Ok Z Z := Ok.refl _
        refine wp_region_held_drew (S := (fun w' => w'.cell? ⟨ga, 0, none⟩ = some (.bool true) ∧ w'.cell? ⟨ga, 1, none⟩ = some (.int .i64 xl) ∧ w'.cell? ⟨ga, 2, none⟩ = some (.int .i64 xh) ∧ w'.cell? ⟨ga, 3, none⟩ = some (.int .u64 (xM : Int)) ∧ w'.cell? ⟨ga, 4, none⟩ = some (.int .u64 (xR : Int)) ∧ w'.cell? ⟨gb, 0, none⟩ = some (.bool false) ∧ w'.cell? ⟨gb, 1, none⟩ = some (.int .i64 yl) ∧ w'.cell? ⟨gb, 2, none⟩ = some (.int .i64 yh) ∧ w'.cell? ⟨gb, 3, none⟩ = some (.int .u64 (yM : Int)) ∧ w'.cell? ⟨gb, 4, none⟩ = some (.int .u64 (yR : Int)))) (by kernel_rfl) (by (try dsimp only); go_keep) (fun hHeld => ?_)
        refine wpAnyH_take (i := 0) (v := ?_) rfl (by kernel_rfl) (by kernel_rfl) (by kernel_rfl) (fun _ _ _ h => h) (Or.inl ⟨by rfl, ?_⟩) (by assumption) ?_
        rotate_left
        · intro w hSw; (try dsimp only at hSw); first | (go_simp; done) | (go_simp; with_reducible rfl)
        (try simp only [Act.put, List.getElem_toArray, List.getElem_cons_succ, List.getElem_cons_zero, List.setIfInBounds_toArray, List.set_cons_zero, List.set_cons_succ])
        refine wpAnyH_take (i := 1) (v := ?_) rfl (by kernel_rfl) (by kernel_rfl) (by kernel_rfl) (fun _ _ _ h => h) (Or.inl ⟨by rfl, ?_⟩) (by assumption) ?_
        rotate_left
        · intro w hSw; (try dsimp only at hSw); first | (go_simp; done) | (go_simp; with_reducible rfl)
        (try simp only [Act.put, List.getElem_toArray, List.getElem_cons_succ, List.getElem_cons_zero, List.setIfInBounds_toArray, List.set_cons_zero, List.set_cons_succ])
        refine wpAnyH_take (i := 2) (v := ?_) rfl (by kernel_rfl) (by kernel_rfl) (by kernel_rfl) (fun _ _ _ h => h) (Or.inl ⟨by rfl, ?_⟩) (by assumption) ?_
        rotate_left
        · intro w hSw; (try dsimp only at hSw); first | (go_simp; done) | (go_simp; with_reducible rfl)
        (try simp only [Act.put, List.getElem_toArray, List.getElem_cons_succ, List.getElem_cons_zero, List.setIfInBounds_toArray, List.set_cons_zero, List.set_cons_succ])
        refine wpAnyH_take (i := 4) (v := ?_) rfl (by kernel_rfl) (by kernel_rfl) (by kernel_rfl) (fun _ _ _ h => h) (Or.inl ⟨by rfl, ?_⟩) (by assumption) ?_
        rotate_left
        · intro w hSw; (try dsimp only at hSw); first | (go_simp; done) | (go_simp; with_reducible rfl)
        (try simp only [Act.put, List.getElem_toArray, List.getElem_cons_succ, List.getElem_cons_zero, List.setIfInBounds_toArray, List.set_cons_zero, List.set_cons_succ])
        refine wpAnyH_take (i := 5) (v := ?_) rfl (by kernel_rfl) (by kernel_rfl) (by kernel_rfl) (fun _ _ _ h => h) (Or.inl ⟨by rfl, ?_⟩) (by assumption) ?_
        rotate_left
        · intro w hSw; (try dsimp only at hSw); first | (go_simp; done) | (go_simp; with_reducible rfl)
        (try simp only [Act.put, List.getElem_toArray, List.getElem_cons_succ, List.getElem_cons_zero, List.setIfInBounds_toArray, List.set_cons_zero, List.set_cons_succ])
        refine wpAnyH_take (i := 6) (v := ?_) rfl (by kernel_rfl) (by kernel_rfl) (by kernel_rfl) (fun _ _ _ h => h) (Or.inl ⟨by rfl, ?_⟩) (by assumption) ?_
        rotate_left
        · intro w hSw; (try dsimp only at hSw); first | (go_simp; done) | (go_simp; with_reducible rfl)
        (try simp only [Act.put, List.getElem_toArray, List.getElem_cons_succ, List.getElem_cons_zero, List.setIfInBounds_toArray, List.set_cons_zero, List.set_cons_succ])
        refine wpAnyH_ready (rs := [3]) (by kernel_rfl) (by simp) ?_
        refine AllReadyH.cons rfl (fun K hK => ?_) AllReadyH.nil
        go_simp
        refine (vcomparing_any op HO.out (xl, xh, xM, xR, true) (yl, yh, yM, yR, false) RX.out RY.out Z _ (by repeat (first | assumption | refine Ok.alloc ?_ _ | refine Below.drew ?_))).mono ?_
        rintro e1 w' ⟨f, rfl, hT, hb⟩
        obtain ⟨fid, caps, rfl, hen, hf⟩ := hT
        have q0 := Ok.cell hb za a0
        have q1 := Ok.cell hb za a1
        have q2 := Ok.cell hb za a2
        have q3 := Ok.cell hb za a3
        have q4 := Ok.cell hb za a4
        have q5 := Ok.cell hb zb b0
        have q6 := Ok.cell hb zb b1
        have q7 := Ok.cell hb zb b2
        have q8 := Ok.cell hb zb b3
        have q9 := Ok.cell hb zb b4
        go_wp2_with fail
        refine hK.out _ _ (by (try dsimp only); go_keep) (fun hHeld => ?_)
        clear hK K
        (try simp only [Act.put, List.getElem_toArray, List.getElem_cons_succ, List.getElem_cons_zero, List.setIfInBounds_toArray, List.set_cons_zero, List.set_cons_succ])
        refine wpAnyH_take (i := 7) (v := ?_) rfl (by kernel_rfl) (by kernel_rfl) (by kernel_rfl) (fun _ _ _ h => h) (Or.inl ⟨by rfl, ?_⟩) (by assumption) ?_
        rotate_left
        · intro w hSw; (try dsimp only at hSw); first | (go_simp; done) | (go_simp; with_reducible rfl)
        (try simp only [Act.put, List.getElem_toArray, List.getElem_cons_succ, List.getElem_cons_zero, List.setIfInBounds_toArray, List.set_cons_zero, List.set_cons_succ])
        refine wpAnyH_take (i := 8) (v := undef) rfl (by kernel_rfl) (by kernel_rfl) (by kernel_rfl) (fun _ _ _ h => h) (Or.inr ⟨by rfl, rfl⟩) (by assumption) ?_
        (try simp only [Act.put, List.getElem_toArray, List.getElem_cons_succ, List.getElem_cons_zero, List.setIfInBounds_toArray, List.set_cons_zero, List.set_cons_succ])
        refine wpAnyH_take (i := 9) (v := undef) rfl (by kernel_rfl) (by kernel_rfl) (by kernel_rfl) (fun _ _ _ h => h) (Or.inr ⟨by rfl, rfl⟩) (by assumption) ?_
        (try simp only [Act.put, List.getElem_toArray, List.getElem_cons_succ, List.getElem_cons_zero, List.setIfInBounds_toArray, List.set_cons_zero, List.set_cons_succ])
        refine wpAnyH_take (i := 10) (v := undef) rfl (by kernel_rfl) (by kernel_rfl) (by kernel_rfl) (fun _ _ _ h => h) (Or.inr ⟨by rfl, rfl⟩) (by assumption) ?_
        (try simp only [Act.put, List.getElem_toArray, List.getElem_cons_succ, List.getElem_cons_zero, List.setIfInBounds_toArray, List.set_cons_zero, List.set_cons_succ])
        refine wpAnyH_take (i := 11) (v := ?_) rfl (by kernel_rfl) (by kernel_rfl) (by kernel_rfl) (fun _ _ _ h => h) (Or.inl ⟨by rfl, ?_⟩) (by assumption) ?_
        rotate_left
        · intro w hSw; (try dsimp only at hSw); first | (go_simp; done) | (go_simp; with_reducible rfl)
        (try simp only [Act.put, List.getElem_toArray, List.getElem_cons_succ, List.getElem_cons_zero, List.setIfInBounds_toArray, List.set_cons_zero, List.set_cons_succ])
        refine wpAnyH_ready (rs := [12]) (by kernel_rfl) (by simp) ?_
        refine AllReadyH.cons rfl (fun K hK => ?_) AllReadyH.nil
        go_simp
        refine (vask_no fid caps Z _ (by repeat (first | assumption | refine Ok.alloc ?_ _ | refine Below.drew ?_))).mono ?_
        rintro e1 w' ⟨rfl, hb⟩
        unfold nv botN
        have q0 := Ok.cell hb za a0
        have q1 := Ok.cell hb za a1
        have q2 := Ok.cell hb za a2
        have q3 := Ok.cell hb za a3
        have q4 := Ok.cell hb za a4
        have q5 := Ok.cell hb zb b0
        have q6 := Ok.cell hb zb b1
        have q7 := Ok.cell hb zb b2
        have q8 := Ok.cell hb zb b3
        have q9 := Ok.cell hb zb b4
        have zz := row5_facts (Ok.row' hb rp.out)
        have k0 := zz.1
        have k1 := zz.2.1
        have k2 := zz.2.2.1
        have k3 := zz.2.2.2.1
        have k4 := zz.2.2.2.2.1
        have k5 := zz.2.2.2.2.2.1
        have k6 := zz.2.2.2.2.2.2.1
        have k7 := zz.2.2.2.2.2.2.2.1
        have k8 := zz.2.2.2.2.2.2.2.2.1
        have k9 := zz.2.2.2.2.2.2.2.2.2
        clear zz
        have zz := row5_facts (Ok.row' hb rq.out)
        have j0 := zz.1
        have j1 := zz.2.1
        have j2 := zz.2.2.1
        have j3 := zz.2.2.2.1
        have j4 := zz.2.2.2.2.1
        have j5 := zz.2.2.2.2.2.1
        have j6 := zz.2.2.2.2.2.2.1
        have j7 := zz.2.2.2.2.2.2.2.1
        have j8 := zz.2.2.2.2.2.2.2.2.1
        have j9 := zz.2.2.2.2.2.2.2.2.2
        clear zz
        go_wp2_with fail
        refine hK.out _ _ (by (try dsimp only); go_keep) (fun hHeld => ?_)
        clear hK K
        (try simp only [Act.put, List.getElem_toArray, List.getElem_cons_succ, List.getElem_cons_zero, List.setIfInBounds_toArray, List.set_cons_zero, List.set_cons_succ])
        refine wpAnyH_take (i := 13) (v := ?_) rfl (by kernel_rfl) (by kernel_rfl) (by kernel_rfl) (fun _ _ _ h => h) (Or.inl ⟨by rfl, ?_⟩) (by assumption) ?_
        rotate_left
        · intro w hSw; (try dsimp only at hSw); first | (go_simp; done) | (go_simp; with_reducible rfl)
        (try simp only [Act.put, List.getElem_toArray, List.getElem_cons_succ, List.getElem_cons_zero, List.setIfInBounds_toArray, List.set_cons_zero, List.set_cons_succ])
        refine wpAnyH_take (i := 14) (v := ?_) rfl (by kernel_rfl) (by kernel_rfl) (by kernel_rfl) (fun _ _ _ h => h) (Or.inl ⟨by rfl, ?_⟩) (by assumption) ?_
        rotate_left
        · intro w hSw; (try dsimp only at hSw); first | (go_simp; done) | (go_simp; with_reducible rfl)
        (try simp only [Act.put, List.getElem_toArray, List.getElem_cons_succ, List.getElem_cons_zero, List.setIfInBounds_toArray, List.set_cons_zero, List.set_cons_succ])
        refine wpAnyH_take (i := 15) (v := ?_) rfl (by kernel_rfl) (by kernel_rfl) (by kernel_rfl) (fun _ _ _ h => h) (Or.inl ⟨by rfl, ?_⟩) (by assumption) ?_
        rotate_left
        · intro w hSw; (try dsimp only at hSw); first | (go_simp; done) | (go_simp; with_reducible rfl)
        (try simp only [Act.put, List.getElem_toArray, List.getElem_cons_succ, List.getElem_cons_zero, List.setIfInBounds_toArray, List.set_cons_zero, List.set_cons_succ])
        refine wpAnyH_ready (rs := [16]) (by kernel_rfl) (by simp) ?_
        refine AllReadyH.cons rfl (fun K hK => ?_) AllReadyH.nil
        go_simp
        go_wp2_with fail
        refine hK.out _ _ (by (try dsimp only); go_keep) (fun hHeld => ?_)
        clear hK K
        (try simp only [Act.put, List.getElem_toArray, List.getElem_cons_succ, List.getElem_cons_zero, List.setIfInBounds_toArray, List.set_cons_zero, List.set_cons_succ])
        refine wpAnyH_ready (rs := [17]) (by kernel_rfl) (by simp) ?_
        refine AllReadyH.cons rfl (fun K hK => ?_) AllReadyH.nil
        go_simp
        go_wp2_with fail
        refine hK.out _ _ (by (try dsimp only); go_keep) (fun hHeld => ?_)
        clear hK K
        (try simp only [Act.put, List.getElem_toArray, List.getElem_cons_succ, List.getElem_cons_zero, List.setIfInBounds_toArray, List.set_cons_zero, List.set_cons_succ])
        refine wpAnyH_ready (rs := [18]) (by kernel_rfl) (by simp) ?_
        refine AllReadyH.cons rfl (fun K hK => ?_) AllReadyH.nil
        go_simp
        go_wp2_with fail
        refine hK.out _ _ (by (try dsimp only); go_keep) (fun hHeld => ?_)
        clear hK K
        (try simp only [Act.put, List.getElem_toArray, List.getElem_cons_succ, List.getElem_cons_zero, List.setIfInBounds_toArray, List.set_cons_zero, List.set_cons_succ])
        refine wpAnyH_done (by kernel_rfl) ?_ _
        go_wp2_with fail
        obtain ⟨Y, hY⟩ : ∃ V, V = ((((((((((w'.setCell ⟨gp, 0, none⟩ (.bool true)).setCell ⟨gp, 1, none⟩ (.int .i64 0)).setCell ⟨gp, 2, none⟩ (.int .i64 0)).setCell ⟨gp, 3, none⟩ (.int .u64 0)).setCell ⟨gp, 4, none⟩ (.int .u64 0)).setCell ⟨gq, 0, none⟩ (.bool true)).setCell ⟨gq, 1, none⟩ (.int .i64 0)).setCell ⟨gq, 2, none⟩ (.int .i64 0)).setCell ⟨gq, 3, none⟩ (.int .u64 0)).setCell ⟨gq, 4, none⟩ (.int .u64 0)) := ⟨_, rfl⟩
        have hp := rows_putr ngpgq (Ok.row' hb rp.out) (Ok.row' hb rq.out) (HZ.out.step hb) (by omega) (by omega) _ _ _ _ _ _ _ _ _ _ hY
        rw [← hY]
        clear hY
        refine bodyPost_ret (results_2ct rfl _ _ gp gq 29 #[_, _, _, _, _] #[_, _, _, _, _] (0, 0) _ rfl rfl hp.2.1 hp.2.2 Tryz.underlying29 rfl infoN infoN) rfl ?_
        exact ⟨by rw [EA.out]; rfl, hp.1⟩
      · clear HX HY
        have EA : Hid (A = (botN, botN)) := by unfold Hid; rw [HA.out]; exact if_pos (by simp)
        clear HA
        have za := lt_row raz.out
        have zb := lt_row rbz.out
        obtain ⟨a0, a1, a2, a3, a4, a5, a6, a7, a8, a9⟩ := row5_facts raz.out
        obtain ⟨b0, b1, b2, b3, b4, b5, b6, b7, b8, b9⟩ := row5_facts rbz.out
        have bz : Ok Z Z := Ok.refl _
        refine wp_region_held_drew (S := (fun w' => w'.cell? ⟨ga, 0, none⟩ = some (.bool true) ∧ w'.cell? ⟨ga, 1, none⟩ = some (.int .i64 xl) ∧ w'.cell? ⟨ga, 2, none⟩ = some (.int .i64 xh) ∧ w'.cell? ⟨ga, 3, none⟩ = some (.int .u64 (xM : Int)) ∧ w'.cell? ⟨ga, 4, none⟩ = some (.int .u64 (xR : Int)) ∧ w'.cell? ⟨gb, 0, none⟩ = some (.bool true) ∧ w'.cell? ⟨gb, 1, none⟩ = some (.int .i64 yl) ∧ w'.cell? ⟨gb, 2, none⟩ = some (.int .i64 yh) ∧ w'.cell? ⟨gb, 3, none⟩ = some (.int .u64 (yM : Int)) ∧ w'.cell? ⟨gb, 4, none⟩ = some (.int .u64 (yR : Int)))) (by kernel_rfl) (by (try dsimp only); go_keep) (fun hHeld => ?_)
        refine wpAnyH_take (i := 0) (v := ?_) rfl (by kernel_rfl) (by kernel_rfl) (by kernel_rfl) (fun _ _ _ h => h) (Or.inl ⟨by rfl, ?_⟩) (by assumption) ?_
        rotate_left
        · intro w hSw; (try dsimp only at hSw); first | (go_simp; done) | (go_simp; with_reducible rfl)
        (try simp only [Act.put, List.getElem_toArray, List.getElem_cons_succ, List.getElem_cons_zero, List.setIfInBounds_toArray, List.set_cons_zero, List.set_cons_succ])
        refine wpAnyH_take (i := 1) (v := ?_) rfl (by kernel_rfl) (by kernel_rfl) (by kernel_rfl) (fun _ _ _ h => h) (Or.inl ⟨by rfl, ?_⟩) (by assumption) ?_
        rotate_left
        · intro w hSw; (try dsimp only at hSw); first | (go_simp; done) | (go_simp; with_reducible rfl)
        (try simp only [Act.put, List.getElem_toArray, List.getElem_cons_succ, List.getElem_cons_zero, List.setIfInBounds_toArray, List.set_cons_zero, List.set_cons_succ])
        refine wpAnyH_take (i := 2) (v := ?_) rfl (by kernel_rfl) (by kernel_rfl) (by kernel_rfl) (fun _ _ _ h => h) (Or.inl ⟨by rfl, ?_⟩) (by assumption) ?_
        rotate_left
        · intro w hSw; (try dsimp only at hSw); first | (go_simp; done) | (go_simp; with_reducible rfl)
        (try simp only [Act.put, List.getElem_toArray, List.getElem_cons_succ, List.getElem_cons_zero, List.setIfInBounds_toArray, List.set_cons_zero, List.set_cons_succ])
        refine wpAnyH_take (i := 4) (v := ?_) rfl (by kernel_rfl) (by kernel_rfl) (by kernel_rfl) (fun _ _ _ h => h) (Or.inl ⟨by rfl, ?_⟩) (by assumption) ?_
        rotate_left
        · intro w hSw; (try dsimp only at hSw); first | (go_simp; done) | (go_simp; with_reducible rfl)
        (try simp only [Act.put, List.getElem_toArray, List.getElem_cons_succ, List.getElem_cons_zero, List.setIfInBounds_toArray, List.set_cons_zero, List.set_cons_succ])
        refine wpAnyH_take (i := 5) (v := ?_) rfl (by kernel_rfl) (by kernel_rfl) (by kernel_rfl) (fun _ _ _ h => h) (Or.inl ⟨by rfl, ?_⟩) (by assumption) ?_
        rotate_left
        · intro w hSw; (try dsimp only at hSw); first | (go_simp; done) | (go_simp; with_reducible rfl)
        (try simp only [Act.put, List.getElem_toArray, List.getElem_cons_succ, List.getElem_cons_zero, List.setIfInBounds_toArray, List.set_cons_zero, List.set_cons_succ])
        refine wpAnyH_take (i := 6) (v := ?_) rfl (by kernel_rfl) (by kernel_rfl) (by kernel_rfl) (fun _ _ _ h => h) (Or.inl ⟨by rfl, ?_⟩) (by assumption) ?_
        rotate_left
        · intro w hSw; (try dsimp only at hSw); first | (go_simp; done) | (go_simp; with_reducible rfl)
        (try simp only [Act.put, List.getElem_toArray, List.getElem_cons_succ, List.getElem_cons_zero, List.setIfInBounds_toArray, List.set_cons_zero, List.set_cons_succ])
        refine wpAnyH_ready (rs := [3]) (by kernel_rfl) (by simp) ?_
        refine AllReadyH.cons rfl (fun K hK => ?_) AllReadyH.nil
        go_simp
        refine (vcomparing_any op HO.out (xl, xh, xM, xR, true) (yl, yh, yM, yR, true) RX.out RY.out Z _ (by repeat (first | assumption | refine Ok.alloc ?_ _ | refine Below.drew ?_))).mono ?_
        rintro e1 w' ⟨f, rfl, hT, hb⟩
        obtain ⟨fid, caps, rfl, hen, hf⟩ := hT
        have q0 := Ok.cell hb za a0
        have q1 := Ok.cell hb za a1
        have q2 := Ok.cell hb za a2
        have q3 := Ok.cell hb za a3
        have q4 := Ok.cell hb za a4
        have q5 := Ok.cell hb zb b0
        have q6 := Ok.cell hb zb b1
        have q7 := Ok.cell hb zb b2
        have q8 := Ok.cell hb zb b3
        have q9 := Ok.cell hb zb b4
        go_wp2_with fail
        refine hK.out _ _ (by (try dsimp only); go_keep) (fun hHeld => ?_)
        clear hK K
        (try simp only [Act.put, List.getElem_toArray, List.getElem_cons_succ, List.getElem_cons_zero, List.setIfInBounds_toArray, List.set_cons_zero, List.set_cons_succ])
        refine wpAnyH_take (i := 7) (v := ?_) rfl (by kernel_rfl) (by kernel_rfl) (by kernel_rfl) (fun _ _ _ h => h) (Or.inl ⟨by rfl, ?_⟩) (by assumption) ?_
        rotate_left
        · intro w hSw; (try dsimp only at hSw); first | (go_simp; done) | (go_simp; with_reducible rfl)
        (try simp only [Act.put, List.getElem_toArray, List.getElem_cons_succ, List.getElem_cons_zero, List.setIfInBounds_toArray, List.set_cons_zero, List.set_cons_succ])
        refine wpAnyH_take (i := 8) (v := undef) rfl (by kernel_rfl) (by kernel_rfl) (by kernel_rfl) (fun _ _ _ h => h) (Or.inr ⟨by rfl, rfl⟩) (by assumption) ?_
        (try simp only [Act.put, List.getElem_toArray, List.getElem_cons_succ, List.getElem_cons_zero, List.setIfInBounds_toArray, List.set_cons_zero, List.set_cons_succ])
        refine wpAnyH_take (i := 9) (v := undef) rfl (by kernel_rfl) (by kernel_rfl) (by kernel_rfl) (fun _ _ _ h => h) (Or.inr ⟨by rfl, rfl⟩) (by assumption) ?_
        (try simp only [Act.put, List.getElem_toArray, List.getElem_cons_succ, List.getElem_cons_zero, List.setIfInBounds_toArray, List.set_cons_zero, List.set_cons_succ])
        refine wpAnyH_take (i := 10) (v := undef) rfl (by kernel_rfl) (by kernel_rfl) (by kernel_rfl) (fun _ _ _ h => h) (Or.inr ⟨by rfl, rfl⟩) (by assumption) ?_
        (try simp only [Act.put, List.getElem_toArray, List.getElem_cons_succ, List.getElem_cons_zero, List.setIfInBounds_toArray, List.set_cons_zero, List.set_cons_succ])
        refine wpAnyH_take (i := 11) (v := ?_) rfl (by kernel_rfl) (by kernel_rfl) (by kernel_rfl) (fun _ _ _ h => h) (Or.inl ⟨by rfl, ?_⟩) (by assumption) ?_
        rotate_left
        · intro w hSw; (try dsimp only at hSw); first | (go_simp; done) | (go_simp; with_reducible rfl)
        (try simp only [Act.put, List.getElem_toArray, List.getElem_cons_succ, List.getElem_cons_zero, List.setIfInBounds_toArray, List.set_cons_zero, List.set_cons_succ])
        refine wpAnyH_ready (rs := [12]) (by kernel_rfl) (by simp) ?_
        refine AllReadyH.cons rfl (fun K hK => ?_) AllReadyH.nil
        go_simp
        refine (vask_no fid caps Z _ (by repeat (first | assumption | refine Ok.alloc ?_ _ | refine Below.drew ?_))).mono ?_
        rintro e1 w' ⟨rfl, hb⟩
        unfold nv botN
        have q0 := Ok.cell hb za a0
        have q1 := Ok.cell hb za a1
        have q2 := Ok.cell hb za a2
        have q3 := Ok.cell hb za a3
        have q4 := Ok.cell hb za a4
        have q5 := Ok.cell hb zb b0
        have q6 := Ok.cell hb zb b1
        have q7 := Ok.cell hb zb b2
        have q8 := Ok.cell hb zb b3
        have q9 := Ok.cell hb zb b4
        have zz := row5_facts (Ok.row' hb rp.out)
        have k0 := zz.1
        have k1 := zz.2.1
        have k2 := zz.2.2.1
        have k3 := zz.2.2.2.1
        have k4 := zz.2.2.2.2.1
        have k5 := zz.2.2.2.2.2.1
        have k6 := zz.2.2.2.2.2.2.1
        have k7 := zz.2.2.2.2.2.2.2.1
        have k8 := zz.2.2.2.2.2.2.2.2.1
        have k9 := zz.2.2.2.2.2.2.2.2.2
        clear zz
        have zz := row5_facts (Ok.row' hb rq.out)
        have j0 := zz.1
        have j1 := zz.2.1
        have j2 := zz.2.2.1
        have j3 := zz.2.2.2.1
        have j4 := zz.2.2.2.2.1
        have j5 := zz.2.2.2.2.2.1
        have j6 := zz.2.2.2.2.2.2.1
        have j7 := zz.2.2.2.2.2.2.2.1
        have j8 := zz.2.2.2.2.2.2.2.2.1
        have j9 := zz.2.2.2.2.2.2.2.2.2
        clear zz
        go_wp2_with fail
        refine hK.out _ _ (by (try dsimp only); go_keep) (fun hHeld => ?_)
        clear hK K
        (try simp only [Act.put, List.getElem_toArray, List.getElem_cons_succ, List.getElem_cons_zero, List.setIfInBounds_toArray, List.set_cons_zero, List.set_cons_succ])
        refine wpAnyH_take (i := 13) (v := ?_) rfl (by kernel_rfl) (by kernel_rfl) (by kernel_rfl) (fun _ _ _ h => h) (Or.inl ⟨by rfl, ?_⟩) (by assumption) ?_
        rotate_left
        · intro w hSw; (try dsimp only at hSw); first | (go_simp; done) | (go_simp; with_reducible rfl)
        (try simp only [Act.put, List.getElem_toArray, List.getElem_cons_succ, List.getElem_cons_zero, List.setIfInBounds_toArray, List.set_cons_zero, List.set_cons_succ])
        refine wpAnyH_take (i := 14) (v := ?_) rfl (by kernel_rfl) (by kernel_rfl) (by kernel_rfl) (fun _ _ _ h => h) (Or.inl ⟨by rfl, ?_⟩) (by assumption) ?_
        rotate_left
        · intro w hSw; (try dsimp only at hSw); first | (go_simp; done) | (go_simp; with_reducible rfl)
        (try simp only [Act.put, List.getElem_toArray, List.getElem_cons_succ, List.getElem_cons_zero, List.setIfInBounds_toArray, List.set_cons_zero, List.set_cons_succ])
        refine wpAnyH_take (i := 15) (v := ?_) rfl (by kernel_rfl) (by kernel_rfl) (by kernel_rfl) (fun _ _ _ h => h) (Or.inl ⟨by rfl, ?_⟩) (by assumption) ?_
        rotate_left
        · intro w hSw; (try dsimp only at hSw); first | (go_simp; done) | (go_simp; with_reducible rfl)
        (try simp only [Act.put, List.getElem_toArray, List.getElem_cons_succ, List.getElem_cons_zero, List.setIfInBounds_toArray, List.set_cons_zero, List.set_cons_succ])
        refine wpAnyH_ready (rs := [16]) (by kernel_rfl) (by simp) ?_
        refine AllReadyH.cons rfl (fun K hK => ?_) AllReadyH.nil
        go_simp
        go_wp2_with fail
        refine hK.out _ _ (by (try dsimp only); go_keep) (fun hHeld => ?_)
        clear hK K
        (try simp only [Act.put, List.getElem_toArray, List.getElem_cons_succ, List.getElem_cons_zero, List.setIfInBounds_toArray, List.set_cons_zero, List.set_cons_succ])
        refine wpAnyH_ready (rs := [17]) (by kernel_rfl) (by simp) ?_
        refine AllReadyH.cons rfl (fun K hK => ?_) AllReadyH.nil
        go_simp
        go_wp2_with fail
        refine hK.out _ _ (by (try dsimp only); go_keep) (fun hHeld => ?_)
        clear hK K
        (try simp only [Act.put, List.getElem_toArray, List.getElem_cons_succ, List.getElem_cons_zero, List.setIfInBounds_toArray, List.set_cons_zero, List.set_cons_succ])
        refine wpAnyH_ready (rs := [18]) (by kernel_rfl) (by simp) ?_
        refine AllReadyH.cons rfl (fun K hK => ?_) AllReadyH.nil
        go_simp
        go_wp2_with fail
        refine hK.out _ _ (by (try dsimp only); go_keep) (fun hHeld => ?_)
        clear hK K
        (try simp only [Act.put, List.getElem_toArray, List.getElem_cons_succ, List.getElem_cons_zero, List.setIfInBounds_toArray, List.set_cons_zero, List.set_cons_succ])
        refine wpAnyH_done (by kernel_rfl) ?_ _
        go_wp2_with fail
        obtain ⟨Y, hY⟩ : ∃ V, V = ((((((((((w'.setCell ⟨gp, 0, none⟩ (.bool true)).setCell ⟨gp, 1, none⟩ (.int .i64 0)).setCell ⟨gp, 2, none⟩ (.int .i64 0)).setCell ⟨gp, 3, none⟩ (.int .u64 0)).setCell ⟨gp, 4, none⟩ (.int .u64 0)).setCell ⟨gq, 0, none⟩ (.bool true)).setCell ⟨gq, 1, none⟩ (.int .i64 0)).setCell ⟨gq, 2, none⟩ (.int .i64 0)).setCell ⟨gq, 3, none⟩ (.int .u64 0)).setCell ⟨gq, 4, none⟩ (.int .u64 0)) := ⟨_, rfl⟩
        have hp := rows_putr ngpgq (Ok.row' hb rp.out) (Ok.row' hb rq.out) (HZ.out.step hb) (by omega) (by omega) _ _ _ _ _ _ _ _ _ _ hY
        rw [← hY]
        clear hY
        refine bodyPost_ret (results_2ct rfl _ _ gp gq 29 #[_, _, _, _, _] #[_, _, _, _, _] (0, 0) _ rfl rfl hp.2.1 hp.2.2 Tryz.underlying29 rfl infoN infoN) rfl ?_
        exact ⟨by rw [EA.out]; rfl, hp.1⟩
set_option maxRecDepth 100000 in
set_option maxHeartbeats 8000000 in
theorem vCompare_no (op : Int) (ho : ¬ OpC op) (a b : Int × Int × Nat × Nat × Bool) (ha : RawN a) (hb : RawN b) (w0 w : World) (hok : Ok w0 w) :
    Calls Tryz.prog 4 #[.int .i64 op, nv a, nv b] w fun e w' => e = .returned (.tuple #[nv botN, nv botN, .int .i64 1]) ∧ Ok w0 w' := by
  have hle := hok.le
  have HU : Hid (RawN a ∧ RawN b) := ⟨ha, hb⟩
  clear ha hb
  obtain ⟨x, hx⟩ : ∃ x, x = normN a := ⟨_, rfl⟩
  obtain ⟨y, hy⟩ : ∃ x, x = normN b := ⟨_, rfl⟩
  have RX : Hid (RawN x) := by rw [hx]; exact normN_raw HU.out.1
  have RY : Hid (RawN y) := by rw [hy]; exact normN_raw HU.out.2
  have HX : Hid _ := hx
  have HY : Hid _ := hy
  have HO : Hid _ := ho
  clear hx hy ho
  unfold nv
  go_enter Tryz.func4, Tryz.ntmps4
  go_wp2_with fail
  obtain ⟨W, hW⟩ : ∃ W, W = ((((w).alloc (.cells #[.bool a.2.2.2.2, .int .i64 a.1, .int .i64 a.2.1, .int .u64 (a.2.2.1 : Int), .int .u64 (a.2.2.2.1 : Int)] 29)).alloc (.cells #[.bool b.2.2.2.2, .int .i64 b.1, .int .i64 b.2.1, .int .u64 (b.2.2.1 : Int), .int .u64 (b.2.2.2.1 : Int)] 29)).alloc (.cells #[.bool false, .int .i64 0, .int .i64 0, .int .u64 0, .int .u64 0] 29)).alloc (.cells #[.bool false, .int .i64 0, .int .i64 0, .int .u64 0, .int .u64 0] 29) := ⟨_, rfl⟩
  have ra : Hid (W.heap[w.heap.size]? = some (.cells #[.bool a.2.2.2.2, .int .i64 a.1, .int .i64 a.2.1, .int .u64 (a.2.2.1 : Int), .int .u64 (a.2.2.2.1 : Int)] 29)) := by unfold Hid; rw [hW]; exact (by repeat (first | (refine heap_at _ _ _ ?hx; case hx => (first | (simp; done) | (simp; omega))) | (refine heap_past _ _ _ ?hy ?_; case hy => (first | (simp; done) | (simp; omega))) | fail))
  have rb : Hid (W.heap[w.heap.size + 1]? = some (.cells #[.bool b.2.2.2.2, .int .i64 b.1, .int .i64 b.2.1, .int .u64 (b.2.2.1 : Int), .int .u64 (b.2.2.2.1 : Int)] 29)) := by unfold Hid; rw [hW]; exact (by repeat (first | (refine heap_at _ _ _ ?hx; case hx => (first | (simp; done) | (simp; omega))) | (refine heap_past _ _ _ ?hy ?_; case hy => (first | (simp; done) | (simp; omega))) | fail))
  have rp : Hid (W.heap[w.heap.size + 1 + 1]? = some (.cells #[.bool false, .int .i64 0, .int .i64 0, .int .u64 0, .int .u64 0] 29)) := by unfold Hid; rw [hW]; exact (by repeat (first | (refine heap_at _ _ _ ?hx; case hx => (first | (simp; done) | (simp; omega))) | (refine heap_past _ _ _ ?hy ?_; case hy => (first | (simp; done) | (simp; omega))) | fail))
  have rq : Hid (W.heap[w.heap.size + 1 + 1 + 1]? = some (.cells #[.bool false, .int .i64 0, .int .i64 0, .int .u64 0, .int .u64 0] 29)) := by unfold Hid; rw [hW]; exact (by repeat (first | (refine heap_at _ _ _ ?hx; case hx => (first | (simp; done) | (simp; omega))) | (refine heap_past _ _ _ ?hy ?_; case hy => (first | (simp; done) | (simp; omega))) | fail))
  have HW : Hid (Ok w0 W) := by unfold Hid; rw [hW]; exact (by repeat (first | exact hok | refine Ok.alloc ?_ _ | refine Ok.draws ?_ _ | fail))
  rw [← hW]
  clear hW
  obtain ⟨gq, egq⟩ : ∃ g, g = w.heap.size + 1 + 1 + 1 := ⟨_, rfl⟩
  rw [← egq] at rq ⊢
  obtain ⟨gp, egp⟩ : ∃ g, g = w.heap.size + 1 + 1 := ⟨_, rfl⟩
  rw [← egp] at rp ⊢
  obtain ⟨gb, egb⟩ : ∃ g, g = w.heap.size + 1 := ⟨_, rfl⟩
  rw [← egb] at rb ⊢
  obtain ⟨ga, ega⟩ : ∃ g, g = w.heap.size := ⟨_, rfl⟩
  rw [← ega] at ra ⊢
  have lga : w0.heap.size ≤ ga := by omega
  have ngagb : ¬ ga = gb := by omega
  have ngagp : ¬ ga = gp := by omega
  have ngagq : ¬ ga = gq := by omega
  have lgb : w0.heap.size ≤ gb := by omega
  have ngbga : ¬ gb = ga := by omega
  have ngbgp : ¬ gb = gp := by omega
  have ngbgq : ¬ gb = gq := by omega
  have lgp : w0.heap.size ≤ gp := by omega
  have ngpga : ¬ gp = ga := by omega
  have ngpgb : ¬ gp = gb := by omega
  have ngpgq : ¬ gp = gq := by omega
  have lgq : w0.heap.size ≤ gq := by omega
  have ngqga : ¬ gq = ga := by omega
  have ngqgb : ¬ gq = gb := by omega
  have ngqgp : ¬ gq = gp := by omega
  clear ega egb egp egq
  apply wp_cutN (fun w1 => Hid (Ok w0 w1 ∧ w1.heap[ga]? = some (.cells #[.bool x.2.2.2.2, .int .i64 x.1, .int .i64 x.2.1, .int .u64 (x.2.2.1 : Int), .int .u64 (x.2.2.2.1 : Int)] 29) ∧ w1.heap[gb]? = some (.cells #[.bool y.2.2.2.2, .int .i64 y.1, .int .i64 y.2.1, .int .u64 (y.2.2.1 : Int), .int .u64 (y.2.2.2.1 : Int)] 29) ∧ (∀ (h : Nat) (o : Obj), h ≠ ga → h ≠ gb → W.heap[h]? = some o → w1.heap[h]? = some o)))
  case h1 =>
    obtain ⟨a0, a1, a2, a3, a4, a5, a6, a7, a8, a9⟩ := row5_facts ra.out
    obtain ⟨b0, b1, b2, b3, b4, b5, b6, b7, b8, b9⟩ := row5_facts rb.out
    have bz : Ok W W := Ok.refl _
    go_region_with (go_at_call 9; refine (nnorm_any _ (by first | exact HU.out.1 | exact HU.out.2) W _ (by first | assumption | exact Below.drew (by assumption))).mono ?_; rintro e w1 ⟨rfl, hb⟩; (first | rw [← HX.out] | rw [← HY.out]); unfold nv; obtain ⟨a0, a1, a2, a3, a4, a5, a6, a7, a8, a9⟩ := row5_facts (Ok.row' hb ra.out); obtain ⟨b0, b1, b2, b3, b4, b5, b6, b7, b8, b9⟩ := row5_facts (Ok.row' hb rb.out))
    all_goals exact ⟨rfl, rows_put2 (by omega) ra.out rb.out hb HW.out (by omega) (by omega) _ _ _ _ _ _ _ _ _ _⟩
  case h2 =>
    rintro Z H
    obtain ⟨HZ, raz, rbz, keep⟩ := H.out
    replace HZ : Hid (Ok w0 Z) := HZ
    replace raz : Hid _ := raz
    replace rbz : Hid _ := rbz
    replace rp : Hid _ := keep _ _ (by omega) (by omega) rp.out
    replace rq : Hid _ := keep _ _ (by omega) (by omega) rq.out
    clear H ra rb keep
    go_upto_region 2 with (fail)
    obtain ⟨xl, xh, xM, xR, xB⟩ := x
    obtain ⟨yl, yh, yM, yR, yB⟩ := y
    replace raz : Hid (Z.heap[ga]? = some (.cells #[.bool xB, .int .i64 xl, .int .i64 xh, .int .u64 (xM : Int), .int .u64 (xR : Int)] 29)) := raz
    replace rbz : Hid (Z.heap[gb]? = some (.cells #[.bool yB, .int .i64 yl, .int .i64 yh, .int .u64 (yM : Int), .int .u64 (yR : Int)] 29)) := rbz
    cases xB
    · cases yB
      · clear HX HY
        have EA : Hid (True) := trivial
        have za := lt_row raz.out
        have zb := lt_row rbz.out
        obtain ⟨a0, a1, a2, a3, a4, a5, a6, a7, a8, a9⟩ := row5_facts raz.out
        obtain ⟨b0, b1, b2, b3, b4, b5, b6, b7, b8, b9⟩ := row5_facts rbz.out
        have bz : Ok Z Z := Ok.refl _
        refine wp_region_held_drew (S := (fun w' => w'.cell? ⟨ga, 0, none⟩ = some (.bool false) ∧ w'.cell? ⟨ga, 1, none⟩ = some (.int .i64 xl) ∧ w'.cell? ⟨ga, 2, none⟩ = some (.int .i64 xh) ∧ w'.cell? ⟨ga, 3, none⟩ = some (.int .u64 (xM : Int)) ∧ w'.cell? ⟨ga, 4, none⟩ = some (.int .u64 (xR : Int)) ∧ w'.cell? ⟨gb, 0, none⟩ = some (.bool false) ∧ w'.cell? ⟨gb, 1, none⟩ = some (.int .i64 yl) ∧ w'.cell? ⟨gb, 2, none⟩ = some (.int .i64 yh) ∧ w'.cell? ⟨gb, 3, none⟩ = some (.int .u64 (yM : Int)) ∧ w'.cell? ⟨gb, 4, none⟩ = some (.int .u64 (yR : Int)))) (by kernel_rfl) (by (try dsimp only); go_keep) (fun hHeld => ?_)
        refine wpAnyH_take (i := 0) (v := ?_) rfl (by kernel_rfl) (by kernel_rfl) (by kernel_rfl) (fun _ _ _ h => h) (Or.inl ⟨by rfl, ?_⟩) (by assumption) ?_
        rotate_left
        · intro w hSw; (try dsimp only at hSw); first | (go_simp; done) | (go_simp; with_reducible rfl)
        (try simp only [Act.put, List.getElem_toArray, List.getElem_cons_succ, List.getElem_cons_zero, List.setIfInBounds_toArray, List.set_cons_zero, List.set_cons_succ])
        refine wpAnyH_take (i := 1) (v := ?_) rfl (by kernel_rfl) (by kernel_rfl) (by kernel_rfl) (fun _ _ _ h => h) (Or.inl ⟨by rfl, ?_⟩) (by assumption) ?_
        rotate_left
        · intro w hSw; (try dsimp only at hSw); first | (go_simp; done) | (go_simp; with_reducible rfl)
        (try simp only [Act.put, List.getElem_toArray, List.getElem_cons_succ, List.getElem_cons_zero, List.setIfInBounds_toArray, List.set_cons_zero, List.set_cons_succ])
        refine wpAnyH_take (i := 2) (v := ?_) rfl (by kernel_rfl) (by kernel_rfl) (by kernel_rfl) (fun _ _ _ h => h) (Or.inl ⟨by rfl, ?_⟩) (by assumption) ?_
        rotate_left
        · intro w hSw; (try dsimp only at hSw); first | (go_simp; done) | (go_simp; with_reducible rfl)
        (try simp only [Act.put, List.getElem_toArray, List.getElem_cons_succ, List.getElem_cons_zero, List.setIfInBounds_toArray, List.set_cons_zero, List.set_cons_succ])
        refine wpAnyH_take (i := 4) (v := ?_) rfl (by kernel_rfl) (by kernel_rfl) (by kernel_rfl) (fun _ _ _ h => h) (Or.inl ⟨by rfl, ?_⟩) (by assumption) ?_
        rotate_left
        · intro w hSw; (try dsimp only at hSw); first | (go_simp; done) | (go_simp; with_reducible rfl)
        (try simp only [Act.put, List.getElem_toArray, List.getElem_cons_succ, List.getElem_cons_zero, List.setIfInBounds_toArray, List.set_cons_zero, List.set_cons_succ])
        refine wpAnyH_take (i := 5) (v := ?_) rfl (by kernel_rfl) (by kernel_rfl) (by kernel_rfl) (fun _ _ _ h => h) (Or.inl ⟨by rfl, ?_⟩) (by assumption) ?_
        rotate_left
        · intro w hSw; (try dsimp only at hSw); first | (go_simp; done) | (go_simp; with_reducible rfl)
        (try simp only [Act.put, List.getElem_toArray, List.getElem_cons_succ, List.getElem_cons_zero, List.setIfInBounds_toArray, List.set_cons_zero, List.set_cons_succ])
        refine wpAnyH_take (i := 6) (v := ?_) rfl (by kernel_rfl) (by kernel_rfl) (by kernel_rfl) (fun _ _ _ h => h) (Or.inl ⟨by rfl, ?_⟩) (by assumption) ?_
        rotate_left
        · intro w hSw; (try dsimp only at hSw); first | (go_simp; done) | (go_simp; with_reducible rfl)
        (try simp only [Act.put, List.getElem_toArray, List.getElem_cons_succ, List.getElem_cons_zero, List.setIfInBounds_toArray, List.set_cons_zero, List.set_cons_succ])
        refine wpAnyH_ready (rs := [3]) (by kernel_rfl) (by simp) ?_
        refine AllReadyH.cons rfl (fun K hK => ?_) AllReadyH.nil
        go_simp
        refine (vcomparing_nil op HO.out (xl, xh, xM, xR, false) (yl, yh, yM, yR, false) Z _ (by repeat (first | assumption | refine Ok.alloc ?_ _ | refine Below.drew ?_))).mono ?_
        rintro e1 w' ⟨rfl, hb⟩
        have q0 := Ok.cell hb za a0
        have q1 := Ok.cell hb za a1
        have q2 := Ok.cell hb za a2
        have q3 := Ok.cell hb za a3
        have q4 := Ok.cell hb za a4
        have q5 := Ok.cell hb zb b0
        have q6 := Ok.cell hb zb b1
        have q7 := Ok.cell hb zb b2
        have q8 := Ok.cell hb zb b3
        have q9 := Ok.cell hb zb b4
        go_wp2_with fail
        refine hK.out _ _ (by (try dsimp only); go_keep) (fun hHeld => ?_)
        clear hK K
        (try simp only [Act.put, List.getElem_toArray, List.getElem_cons_succ, List.getElem_cons_zero, List.setIfInBounds_toArray, List.set_cons_zero, List.set_cons_succ])
        refine wpAnyH_take (i := 7) (v := ?_) rfl (by kernel_rfl) (by kernel_rfl) (by kernel_rfl) (fun _ _ _ h => h) (Or.inl ⟨by rfl, ?_⟩) (by assumption) ?_
        rotate_left
        · intro w hSw; (try dsimp only at hSw); first | (go_simp; done) | (go_simp; with_reducible rfl)
        (try simp only [Act.put, List.getElem_toArray, List.getElem_cons_succ, List.getElem_cons_zero, List.setIfInBounds_toArray, List.set_cons_zero, List.set_cons_succ])
        refine wpAnyH_take (i := 8) (v := ?_) rfl (by kernel_rfl) (by kernel_rfl) (by kernel_rfl) (fun _ _ _ h => h) (Or.inl ⟨by rfl, ?_⟩) (by assumption) ?_
        rotate_left
        · intro w hSw; (try dsimp only at hSw); first | (go_simp; done) | (go_simp; with_reducible rfl)
        (try simp only [Act.put, List.getElem_toArray, List.getElem_cons_succ, List.getElem_cons_zero, List.setIfInBounds_toArray, List.set_cons_zero, List.set_cons_succ])
        refine wpAnyH_take (i := 9) (v := ?_) rfl (by kernel_rfl) (by kernel_rfl) (by kernel_rfl) (fun _ _ _ h => h) (Or.inl ⟨by rfl, ?_⟩) (by assumption) ?_
        rotate_left
        · intro w hSw; (try dsimp only at hSw); first | (go_simp; done) | (go_simp; with_reducible rfl)
        (try simp only [Act.put, List.getElem_toArray, List.getElem_cons_succ, List.getElem_cons_zero, List.setIfInBounds_toArray, List.set_cons_zero, List.set_cons_succ])
        refine wpAnyH_take (i := 10) (v := ?_) rfl (by kernel_rfl) (by kernel_rfl) (by kernel_rfl) (fun _ _ _ h => h) (Or.inl ⟨by rfl, ?_⟩) (by assumption) ?_
        rotate_left
        · intro w hSw; (try dsimp only at hSw); first | (go_simp; done) | (go_simp; with_reducible rfl)
        (try simp only [Act.put, List.getElem_toArray, List.getElem_cons_succ, List.getElem_cons_zero, List.setIfInBounds_toArray, List.set_cons_zero, List.set_cons_succ])
        refine wpAnyH_take (i := 11) (v := ?_) rfl (by kernel_rfl) (by kernel_rfl) (by kernel_rfl) (fun _ _ _ h => h) (Or.inl ⟨by rfl, ?_⟩) (by assumption) ?_
        rotate_left
        · intro w hSw; (try dsimp only at hSw); first | (go_simp; done) | (go_simp; with_reducible rfl)
        (try simp only [Act.put, List.getElem_toArray, List.getElem_cons_succ, List.getElem_cons_zero, List.setIfInBounds_toArray, List.set_cons_zero, List.set_cons_succ])
        refine wpAnyH_ready (rs := [12]) (by kernel_rfl) (by simp) ?_
        refine AllReadyH.cons rfl (fun K hK => ?_) AllReadyH.nil
        go_simp
        refine (vask_nil true Z _ (by repeat (first | assumption | refine Ok.alloc ?_ _ | refine Below.drew ?_))).mono ?_
        rintro e1 w' ⟨rfl, hb⟩
        unfold nv botN
        have q0 := Ok.cell hb za a0
        have q1 := Ok.cell hb za a1
        have q2 := Ok.cell hb za a2
        have q3 := Ok.cell hb za a3
        have q4 := Ok.cell hb za a4
        have q5 := Ok.cell hb zb b0
        have q6 := Ok.cell hb zb b1
        have q7 := Ok.cell hb zb b2
        have q8 := Ok.cell hb zb b3
        have q9 := Ok.cell hb zb b4
        have zz := row5_facts (Ok.row' hb rp.out)
        have k0 := zz.1
        have k1 := zz.2.1
        have k2 := zz.2.2.1
        have k3 := zz.2.2.2.1
        have k4 := zz.2.2.2.2.1
        have k5 := zz.2.2.2.2.2.1
        have k6 := zz.2.2.2.2.2.2.1
        have k7 := zz.2.2.2.2.2.2.2.1
        have k8 := zz.2.2.2.2.2.2.2.2.1
        have k9 := zz.2.2.2.2.2.2.2.2.2
        clear zz
        have zz := row5_facts (Ok.row' hb rq.out)
        have j0 := zz.1
        have j1 := zz.2.1
        have j2 := zz.2.2.1
        have j3 := zz.2.2.2.1
        have j4 := zz.2.2.2.2.1
        have j5 := zz.2.2.2.2.2.1
        have j6 := zz.2.2.2.2.2.2.1
        have j7 := zz.2.2.2.2.2.2.2.1
        have j8 := zz.2.2.2.2.2.2.2.2.1
        have j9 := zz.2.2.2.2.2.2.2.2.2
        clear zz
        go_wp2_with fail
        refine hK.out _ _ (by (try dsimp only); go_keep) (fun hHeld => ?_)
        clear hK K
        (try simp only [Act.put, List.getElem_toArray, List.getElem_cons_succ, List.getElem_cons_zero, List.setIfInBounds_toArray, List.set_cons_zero, List.set_cons_succ])
        refine wpAnyH_take (i := 13) (v := ?_) rfl (by kernel_rfl) (by kernel_rfl) (by kernel_rfl) (fun _ _ _ h => h) (Or.inl ⟨by rfl, ?_⟩) (by assumption) ?_
        rotate_left
        · intro w hSw; (try dsimp only at hSw); first | (go_simp; done) | (go_simp; with_reducible rfl)
        (try simp only [Act.put, List.getElem_toArray, List.getElem_cons_succ, List.getElem_cons_zero, List.setIfInBounds_toArray, List.set_cons_zero, List.set_cons_succ])
        refine wpAnyH_take (i := 14) (v := ?_) rfl (by kernel_rfl) (by kernel_rfl) (by kernel_rfl) (fun _ _ _ h => h) (Or.inl ⟨by rfl, ?_⟩) (by assumption) ?_
        rotate_left
        · intro w hSw; (try dsimp only at hSw); first | (go_simp; done) | (go_simp; with_reducible rfl)
        (try simp only [Act.put, List.getElem_toArray, List.getElem_cons_succ, List.getElem_cons_zero, List.setIfInBounds_toArray, List.set_cons_zero, List.set_cons_succ])
        refine wpAnyH_take (i := 15) (v := ?_) rfl (by kernel_rfl) (by kernel_rfl) (by kernel_rfl) (fun _ _ _ h => h) (Or.inl ⟨by rfl, ?_⟩) (by assumption) ?_
        rotate_left
        · intro w hSw; (try dsimp only at hSw); first | (go_simp; done) | (go_simp; with_reducible rfl)
        (try simp only [Act.put, List.getElem_toArray, List.getElem_cons_succ, List.getElem_cons_zero, List.setIfInBounds_toArray, List.set_cons_zero, List.set_cons_succ])
        refine wpAnyH_ready (rs := [16]) (by kernel_rfl) (by simp) ?_
        refine AllReadyH.cons rfl (fun K hK => ?_) AllReadyH.nil
        go_simp
        go_wp2_with fail
        refine hK.out _ _ (by (try dsimp only); go_keep) (fun hHeld => ?_)
        clear hK K
        (try simp only [Act.put, List.getElem_toArray, List.getElem_cons_succ, List.getElem_cons_zero, List.setIfInBounds_toArray, List.set_cons_zero, List.set_cons_succ])
        refine wpAnyH_ready (rs := [17]) (by kernel_rfl) (by simp) ?_
        refine AllReadyH.cons rfl (fun K hK => ?_) AllReadyH.nil
        go_simp
        go_wp2_with fail
        refine hK.out _ _ (by (try dsimp only); go_keep) (fun hHeld => ?_)
        clear hK K
        (try simp only [Act.put, List.getElem_toArray, List.getElem_cons_succ, List.getElem_cons_zero, List.setIfInBounds_toArray, List.set_cons_zero, List.set_cons_succ])
        refine wpAnyH_ready (rs := [18]) (by kernel_rfl) (by simp) ?_
        refine AllReadyH.cons rfl (fun K hK => ?_) AllReadyH.nil
        go_simp
        go_wp2_with fail
        refine hK.out _ _ (by (try dsimp only); go_keep) (fun hHeld => ?_)
        clear hK K
        (try simp only [Act.put, List.getElem_toArray, List.getElem_cons_succ, List.getElem_cons_zero, List.setIfInBounds_toArray, List.set_cons_zero, List.set_cons_succ])
        refine wpAnyH_done (by kernel_rfl) ?_ _
        go_wp2_with fail
        obtain ⟨Y, hY⟩ : ∃ V, V = ((((((((((w'.setCell ⟨gp, 0, none⟩ (.bool true)).setCell ⟨gp, 1, none⟩ (.int .i64 0)).setCell ⟨gp, 2, none⟩ (.int .i64 0)).setCell ⟨gp, 3, none⟩ (.int .u64 0)).setCell ⟨gp, 4, none⟩ (.int .u64 0)).setCell ⟨gq, 0, none⟩ (.bool true)).setCell ⟨gq, 1, none⟩ (.int .i64 0)).setCell ⟨gq, 2, none⟩ (.int .i64 0)).setCell ⟨gq, 3, none⟩ (.int .u64 0)).setCell ⟨gq, 4, none⟩ (.int .u64 0)) := ⟨_, rfl⟩
        have hp := rows_putr ngpgq (Ok.row' hb rp.out) (Ok.row' hb rq.out) (HZ.out.step hb) (by omega) (by omega) _ _ _ _ _ _ _ _ _ _ hY
        rw [← hY]
        clear hY
        refine bodyPost_ret (results_2ct rfl _ _ gp gq 29 #[_, _, _, _, _] #[_, _, _, _, _] (0, 0) _ rfl rfl hp.2.1 hp.2.2 Tryz.underlying29 rfl infoN infoN) rfl ?_
        exact ⟨rfl, hp.1⟩
      · clear HX HY
        have EA : Hid (True) := trivial
        have za := lt_row raz.out
        have zb := lt_row rbz.out
        obtain ⟨a0, a1, a2, a3, a4, a5, a6, a7, a8, a9⟩ := row5_facts raz.out
        obtain ⟨b0, b1, b2, b3, b4, b5, b6, b7, b8, b9⟩ := row5_facts rbz.out
        have bz : Ok Z Z := Ok.refl _
        refine wp_region_held_drew (S := (fun w' => w'.cell? ⟨ga, 0, none⟩ = some (.bool false) ∧ w'.cell? ⟨ga, 1, none⟩ = some (.int .i64 xl) ∧ w'.cell? ⟨ga, 2, none⟩ = some (.int .i64 xh) ∧ w'.cell? ⟨ga, 3, none⟩ = some (.int .u64 (xM : Int)) ∧ w'.cell? ⟨ga, 4, none⟩ = some (.int .u64 (xR : Int)) ∧ w'.cell? ⟨gb, 0, none⟩ = some (.bool true) ∧ w'.cell? ⟨gb, 1, none⟩ = some (.int .i64 yl) ∧ w'.cell? ⟨gb, 2, none⟩ = some (.int .i64 yh) ∧ w'.cell? ⟨gb, 3, none⟩ = some (.int .u64 (yM : Int)) ∧ w'.cell? ⟨gb, 4, none⟩ = some (.int .u64 (yR : Int)))) (by kernel_rfl) (by (try dsimp only); go_keep) (fun hHeld => ?_)
        refine wpAnyH_take (i := 0) (v := ?_) rfl (by kernel_rfl) (by kernel_rfl) (by kernel_rfl) (fun _ _ _ h => h) (Or.inl ⟨by rfl, ?_⟩) (by assumption) ?_
        rotate_left
        · intro w hSw; (try dsimp only at hSw); first | (go_simp; done) | (go_simp; with_reducible rfl)
        (try simp only [Act.put, List.getElem_toArray, List.getElem_cons_succ, List.getElem_cons_zero, List.setIfInBounds_toArray, List.set_cons_zero, List.set_cons_succ])
        refine wpAnyH_take (i := 1) (v := ?_) rfl (by kernel_rfl) (by kernel_rfl) (by kernel_rfl) (fun _ _ _ h => h) (Or.inl ⟨by rfl, ?_⟩) (by assumption) ?_
        rotate_left
        · intro w hSw; (try dsimp only at hSw); first | (go_simp; done) | (go_simp; with_reducible rfl)
        (try simp only [Act.put, List.getElem_toArray, List.getElem_cons_succ, List.getElem_cons_zero, List.setIfInBounds_toArray, List.set_cons_zero, List.set_cons_succ])
        refine wpAnyH_take (i := 2) (v := ?_) rfl (by kernel_rfl) (by kernel_rfl) (by kernel_rfl) (fun _ _ _ h => h) (Or.inl ⟨by rfl, ?_⟩) (by assumption) ?_
        rotate_left
        · intro w hSw; (try dsimp only at hSw); first | (go_simp; done) | (go_simp; with_reducible rfl)
        (try simp only [Act.put, List.getElem_toArray, List.getElem_cons_succ, List.getElem_cons_zero, List.setIfInBounds_toArray, List.set_cons_zero, List.set_cons_succ])
        refine wpAnyH_take (i := 4) (v := ?_) rfl (by kernel_rfl) (by kernel_rfl) (by kernel_rfl) (fun _ _ _ h => h) (Or.inl ⟨by rfl, ?_⟩) (by assumption) ?_
        rotate_left
        · intro w hSw; (try dsimp only at hSw); first | (go_simp; done) | (go_simp; with_reducible rfl)
        (try simp only [Act.put, List.getElem_toArray, List.getElem_cons_succ, List.getElem_cons_zero, List.setIfInBounds_toArray, List.set_cons_zero, List.set_cons_succ])
        refine wpAnyH_take (i := 5) (v := ?_) rfl (by kernel_rfl) (by kernel_rfl) (by kernel_rfl) (fun _ _ _ h => h) (Or.inl ⟨by rfl, ?_⟩) (by assumption) ?_
        rotate_left
        · intro w hSw; (try dsimp only at hSw); first | (go_simp; done) | (go_simp; with_reducible rfl)
        (try simp only [Act.put, List.getElem_toArray, List.getElem_cons_succ, List.getElem_cons_zero, List.setIfInBounds_toArray, List.set_cons_zero, List.set_cons_succ])
        refine wpAnyH_take (i := 6) (v := ?_) rfl (by kernel_rfl) (by kernel_rfl) (by kernel_rfl) (fun _ _ _ h => h) (Or.inl ⟨by rfl, ?_⟩) (by assumption) ?_
        rotate_left
        · intro w hSw; (try dsimp only at hSw); first | (go_simp; done) | (go_simp; with_reducible rfl)
        (try simp only [Act.put, List.getElem_toArray, List.getElem_cons_succ, List.getElem_cons_zero, List.setIfInBounds_toArray, List.set_cons_zero, List.set_cons_succ])
        refine wpAnyH_ready (rs := [3]) (by kernel_rfl) (by simp) ?_
        refine AllReadyH.cons rfl (fun K hK => ?_) AllReadyH.nil
        go_simp
        refine (vcomparing_nil op HO.out (xl, xh, xM, xR, false) (yl, yh, yM, yR, true) Z _ (by repeat (first | assumption | refine Ok.alloc ?_ _ | refine Below.drew ?_))).mono ?_
        rintro e1 w' ⟨rfl, hb⟩
        have q0 := Ok.cell hb za a0
        have q1 := Ok.cell hb za a1
        have q2 := Ok.cell hb za a2
        have q3 := Ok.cell hb za a3
        have q4 := Ok.cell hb za a4
        have q5 := Ok.cell hb zb b0
        have q6 := Ok.cell hb zb b1
        have q7 := Ok.cell hb zb b2
        have q8 := Ok.cell hb zb b3
        have q9 := Ok.cell hb zb b4
        go_wp2_with fail
        refine hK.out _ _ (by (try dsimp only); go_keep) (fun hHeld => ?_)
        clear hK K
        (try simp only [Act.put, List.getElem_toArray, List.getElem_cons_succ, List.getElem_cons_zero, List.setIfInBounds_toArray, List.set_cons_zero, List.set_cons_succ])
        refine wpAnyH_take (i := 7) (v := ?_) rfl (by kernel_rfl) (by kernel_rfl) (by kernel_rfl) (fun _ _ _ h => h) (Or.inl ⟨by rfl, ?_⟩) (by assumption) ?_
        rotate_left
        · intro w hSw; (try dsimp only at hSw); first | (go_simp; done) | (go_simp; with_reducible rfl)
        (try simp only [Act.put, List.getElem_toArray, List.getElem_cons_succ, List.getElem_cons_zero, List.setIfInBounds_toArray, List.set_cons_zero, List.set_cons_succ])
        refine wpAnyH_take (i := 8) (v := ?_) rfl (by kernel_rfl) (by kernel_rfl) (by kernel_rfl) (fun _ _ _ h => h) (Or.inl ⟨by rfl, ?_⟩) (by assumption) ?_
        rotate_left
        · intro w hSw; (try dsimp only at hSw); first | (go_simp; done) | (go_simp; with_reducible rfl)
        (try simp only [Act.put, List.getElem_toArray, List.getElem_cons_succ, List.getElem_cons_zero, List.setIfInBounds_toArray, List.set_cons_zero, List.set_cons_succ])
        refine wpAnyH_take (i := 9) (v := ?_) rfl (by kernel_rfl) (by kernel_rfl) (by kernel_rfl) (fun _ _ _ h => h) (Or.inl ⟨by rfl, ?_⟩) (by assumption) ?_
        rotate_left
        · intro w hSw; (try dsimp only at hSw); first | (go_simp; done) | (go_simp; with_reducible rfl)
        (try simp only [Act.put, List.getElem_toArray, List.getElem_cons_succ, List.getElem_cons_zero, List.setIfInBounds_toArray, List.set_cons_zero, List.set_cons_succ])
        refine wpAnyH_take (i := 10) (v := ?_) rfl (by kernel_rfl) (by kernel_rfl) (by kernel_rfl) (fun _ _ _ h => h) (Or.inl ⟨by rfl, ?_⟩) (by assumption) ?_
        rotate_left
        · intro w hSw; (try dsimp only at hSw); first | (go_simp; done) | (go_simp; with_reducible rfl)
        (try simp only [Act.put, List.getElem_toArray, List.getElem_cons_succ, List.getElem_cons_zero, List.setIfInBounds_toArray, List.set_cons_zero, List.set_cons_succ])
        refine wpAnyH_take (i := 11) (v := ?_) rfl (by kernel_rfl) (by kernel_rfl) (by kernel_rfl) (fun _ _ _ h => h) (Or.inl ⟨by rfl, ?_⟩) (by assumption) ?_
        rotate_left
        · intro w hSw; (try dsimp only at hSw); first | (go_simp; done) | (go_simp; with_reducible rfl)
        (try simp only [Act.put, List.getElem_toArray, List.getElem_cons_succ, List.getElem_cons_zero, List.setIfInBounds_toArray, List.set_cons_zero, List.set_cons_succ])
        refine wpAnyH_ready (rs := [12]) (by kernel_rfl) (by simp) ?_
        refine AllReadyH.cons rfl (fun K hK => ?_) AllReadyH.nil
        go_simp
        refine (vask_nil false Z _ (by repeat (first | assumption | refine Ok.alloc ?_ _ | refine Below.drew ?_))).mono ?_
        rintro e1 w' ⟨rfl, hb⟩
        unfold nv botN
        have q0 := Ok.cell hb za a0
        have q1 := Ok.cell hb za a1
        have q2 := Ok.cell hb za a2
        have q3 := Ok.cell hb za a3
        have q4 := Ok.cell hb za a4
        have q5 := Ok.cell hb zb b0
        have q6 := Ok.cell hb zb b1
        have q7 := Ok.cell hb zb b2
        have q8 := Ok.cell hb zb b3
        have q9 := Ok.cell hb zb b4
        have zz := row5_facts (Ok.row' hb rp.out)
        have k0 := zz.1
        have k1 := zz.2.1
        have k2 := zz.2.2.1
        have k3 := zz.2.2.2.1
        have k4 := zz.2.2.2.2.1
        have k5 := zz.2.2.2.2.2.1
        have k6 := zz.2.2.2.2.2.2.1
        have k7 := zz.2.2.2.2.2.2.2.1
        have k8 := zz.2.2.2.2.2.2.2.2.1
        have k9 := zz.2.2.2.2.2.2.2.2.2
        clear zz
        have zz := row5_facts (Ok.row' hb rq.out)
        have j0 := zz.1
        have j1 := zz.2.1
        have j2 := zz.2.2.1
        have j3 := zz.2.2.2.1
        have j4 := zz.2.2.2.2.1
        have j5 := zz.2.2.2.2.2.1
        have j6 := zz.2.2.2.2.2.2.1
        have j7 := zz.2.2.2.2.2.2.2.1
        have j8 := zz.2.2.2.2.2.2.2.2.1
        have j9 := zz.2.2.2.2.2.2.2.2.2
        clear zz
        go_wp2_with fail
        refine hK.out _ _ (by (try dsimp only); go_keep) (fun hHeld => ?_)
        clear hK K
        (try simp only [Act.put, List.getElem_toArray, List.getElem_cons_succ, List.getElem_cons_zero, List.setIfInBounds_toArray, List.set_cons_zero, List.set_cons_succ])
        refine wpAnyH_take (i := 13) (v := ?_) rfl (by kernel_rfl) (by kernel_rfl) (by kernel_rfl) (fun _ _ _ h => h) (Or.inl ⟨by rfl, ?_⟩) (by assumption) ?_
        rotate_left
        · intro w hSw; (try dsimp only at hSw); first | (go_simp; done) | (go_simp; with_reducible rfl)
        (try simp only [Act.put, List.getElem_toArray, List.getElem_cons_succ, List.getElem_cons_zero, List.setIfInBounds_toArray, List.set_cons_zero, List.set_cons_succ])
        refine wpAnyH_take (i := 14) (v := ?_) rfl (by kernel_rfl) (by kernel_rfl) (by kernel_rfl) (fun _ _ _ h => h) (Or.inl ⟨by rfl, ?_⟩) (by assumption) ?_
        rotate_left
        · intro w hSw; (try dsimp only at hSw); first | (go_simp; done) | (go_simp; with_reducible rfl)
        (try simp only [Act.put, List.getElem_toArray, List.getElem_cons_succ, List.getElem_cons_zero, List.setIfInBounds_toArray, List.set_cons_zero, List.set_cons_succ])
        refine wpAnyH_take (i := 15) (v := ?_) rfl (by kernel_rfl) (by kernel_rfl) (by kernel_rfl) (fun _ _ _ h => h) (Or.inl ⟨by rfl, ?_⟩) (by assumption) ?_
        rotate_left
        · intro w hSw; (try dsimp only at hSw); first | (go_simp; done) | (go_simp; with_reducible rfl)
        (try simp only [Act.put, List.getElem_toArray, List.getElem_cons_succ, List.getElem_cons_zero, List.setIfInBounds_toArray, List.set_cons_zero, List.set_cons_succ])
        refine wpAnyH_ready (rs := [16]) (by kernel_rfl) (by simp) ?_
        refine AllReadyH.cons rfl (fun K hK => ?_) AllReadyH.nil
        go_simp
        go_wp2_with fail
        refine hK.out _ _ (by (try dsimp only); go_keep) (fun hHeld => ?_)
        clear hK K
        (try simp only [Act.put, List.getElem_toArray, List.getElem_cons_succ, List.getElem_cons_zero, List.setIfInBounds_toArray, List.set_cons_zero, List.set_cons_succ])
        refine wpAnyH_ready (rs := [17]) (by kernel_rfl) (by simp) ?_
        refine AllReadyH.cons rfl (fun K hK => ?_) AllReadyH.nil
        go_simp
        go_wp2_with fail
        refine hK.out _ _ (by (try dsimp only); go_keep) (fun hHeld => ?_)
        clear hK K
        (try simp only [Act.put, List.getElem_toArray, List.getElem_cons_succ, List.getElem_cons_zero, List.setIfInBounds_toArray, List.set_cons_zero, List.set_cons_succ])
        refine wpAnyH_ready (rs := [18]) (by kernel_rfl) (by simp) ?_
        refine AllReadyH.cons rfl (fun K hK => ?_) AllReadyH.nil
        go_simp
        go_wp2_with fail
        refine hK.out _ _ (by (try dsimp only); go_keep) (fun hHeld => ?_)
        clear hK K
        (try simp only [Act.put, List.getElem_toArray, List.getElem_cons_succ, List.getElem_cons_zero, List.setIfInBounds_toArray, List.set_cons_zero, List.set_cons_succ])
        refine wpAnyH_done (by kernel_rfl) ?_ _
        go_wp2_with fail
        obtain ⟨Y, hY⟩ : ∃ V, V = ((((((((((w'.setCell ⟨gp, 0, none⟩ (.bool true)).setCell ⟨gp, 1, none⟩ (.int .i64 0)).setCell ⟨gp, 2, none⟩ (.int .i64 0)).setCell ⟨gp, 3, none⟩ (.int .u64 0)).setCell ⟨gp, 4, none⟩ (.int .u64 0)).setCell ⟨gq, 0, none⟩ (.bool true)).setCell ⟨gq, 1, none⟩ (.int .i64 0)).setCell ⟨gq, 2, none⟩ (.int .i64 0)).setCell ⟨gq, 3, none⟩ (.int .u64 0)).setCell ⟨gq, 4, none⟩ (.int .u64 0)) := ⟨_, rfl⟩
        have hp := rows_putr ngpgq (Ok.row' hb rp.out) (Ok.row' hb rq.out) (HZ.out.step hb) (by omega) (by omega) _ _ _ _ _ _ _ _ _ _ hY
        rw [← hY]
        clear hY
        refine bodyPost_ret (results_2ct rfl _ _ gp gq 29 #[_, _, _, _, _] #[_, _, _, _, _] (0, 0) _ rfl rfl hp.2.1 hp.2.2 Tryz.underlying29 rfl infoN infoN) rfl ?_
        exact ⟨rfl, hp.1⟩
    · cases yB
      · clear HX HY
        have EA : Hid (True) := trivial
        have za := lt_row raz.out
        have zb := lt_row rbz.out
        obtain ⟨a0, a1, a2, a3, a4, a5, a6, a7, a8, a9⟩ := row5_facts raz.out
        obtain ⟨b0, b1, b2, b3, b4, b5, b6, b7, b8, b9⟩ := row5_facts rbz.out
        have bz : Ok Z Z := Ok.refl _
        refine wp_region_held_drew (S := (fun w' => w'.cell? ⟨ga, 0, none⟩ = some (.bool true) ∧ w'.cell? ⟨ga, 1, none⟩ = some (.int .i64 xl) ∧ w'.cell? ⟨ga, 2, none⟩ = some (.int .i64 xh) ∧ w'.cell? ⟨ga, 3, none⟩ = some (.int .u64 (xM : Int)) ∧ w'.cell? ⟨ga, 4, none⟩ = some (.int .u64 (xR : Int)) ∧ w'.cell? ⟨gb, 0, none⟩ = some (.bool false) ∧ w'.cell? ⟨gb, 1, none⟩ = some (.int .i64 yl) ∧ w'.cell? ⟨gb, 2, none⟩ = some (.int .i64 yh) ∧ w'.cell? ⟨gb, 3, none⟩ = some (.int .u64 (yM : Int)) ∧ w'.cell? ⟨gb, 4, none⟩ = some (.int .u64 (yR : Int)))) (by kernel_rfl) (by (try dsimp only); go_keep) (fun hHeld => ?_)
        refine wpAnyH_take (i := 0) (v := ?_) rfl (by kernel_rfl) (by kernel_rfl) (by kernel_rfl) (fun _ _ _ h => h) (Or.inl ⟨by rfl, ?_⟩) (by assumption) ?_
        rotate_left
        · intro w hSw; (try dsimp only at hSw); first | (go_simp; done) | (go_simp; with_reducible rfl)
        (try simp only [Act.put, List.getElem_toArray, List.getElem_cons_succ, List.getElem_cons_zero, List.setIfInBounds_toArray, List.set_cons_zero, List.set_cons_succ])
        refine wpAnyH_take (i := 1) (v := ?_) rfl (by kernel_rfl) (by kernel_rfl) (by kernel_rfl) (fun _ _ _ h => h) (Or.inl ⟨by rfl, ?_⟩) (by assumption) ?_
        rotate_left
        · intro w hSw; (try dsimp only at hSw); first | (go_simp; done) | (go_simp; with_reducible rfl)
        (try simp only [Act.put, List.getElem_toArray, List.getElem_cons_succ, List.getElem_cons_zero, List.setIfInBounds_toArray, List.set_cons_zero, List.set_cons_succ])
        refine wpAnyH_take (i := 2) (v := ?_) rfl (by kernel_rfl) (by kernel_rfl) (by kernel_rfl) (fun _ _ _ h => h) (Or.inl ⟨by rfl, ?_⟩) (by assumption) ?_
        rotate_left
        · intro w hSw; (try dsimp only at hSw); first | (go_simp; done) | (go_simp; with_reducible rfl)
        (try simp only [Act.put, List.getElem_toArray, List.getElem_cons_succ, List.getElem_cons_zero, List.setIfInBounds_toArray, List.set_cons_zero, List.set_cons_succ])
        refine wpAnyH_take (i := 4) (v := ?_) rfl (by kernel_rfl) (by kernel_rfl) (by kernel_rfl) (fun _ _ _ h => h) (Or.inl ⟨by rfl, ?_⟩) (by assumption) ?_
        rotate_left
        · intro w hSw; (try dsimp only at hSw); first | (go_simp; done) | (go_simp; with_reducible rfl)
        (try simp only [Act.put, List.getElem_toArray, List.getElem_cons_succ, List.getElem_cons_zero, List.setIfInBounds_toArray, List.set_cons_zero, List.set_cons_succ])
        refine wpAnyH_take (i := 5) (v := ?_) rfl (by kernel_rfl) (by kernel_rfl) (by kernel_rfl) (fun _ _ _ h => h) (Or.inl ⟨by rfl, ?_⟩) (by assumption) ?_
        rotate_left
        · intro w hSw; (try dsimp only at hSw); first | (go_simp; done) | (go_simp; with_reducible rfl)
        (try simp only [Act.put, List.getElem_toArray, List.getElem_cons_succ, List.getElem_cons_zero, List.setIfInBounds_toArray, List.set_cons_zero, List.set_cons_succ])
        refine wpAnyH_take (i := 6) (v := ?_) rfl (by kernel_rfl) (by kernel_rfl) (by kernel_rfl) (fun _ _ _ h => h) (Or.inl ⟨by rfl, ?_⟩) (by assumption) ?_
        rotate_left
        · intro w hSw; (try dsimp only at hSw); first | (go_simp; done) | (go_simp; with_reducible rfl)
        (try simp only [Act.put, List.getElem_toArray, List.getElem_cons_succ, List.getElem_cons_zero, List.setIfInBounds_toArray, List.set_cons_zero, List.set_cons_succ])
        refine wpAnyH_ready (rs := [3]) (by kernel_rfl) (by simp) ?_
        refine AllReadyH.cons rfl (fun K hK => ?_) AllReadyH.nil
        go_simp
        refine (vcomparing_nil op HO.out (xl, xh, xM, xR, true) (yl, yh, yM, yR, false) Z _ (by repeat (first | assumption | refine Ok.alloc ?_ _ | refine Below.drew ?_))).mono ?_
        rintro e1 w' ⟨rfl, hb⟩
        have q0 := Ok.cell hb za a0
        have q1 := Ok.cell hb za a1
        have q2 := Ok.cell hb za a2
        have q3 := Ok.cell hb za a3
        have q4 := Ok.cell hb za a4
        have q5 := Ok.cell hb zb b0
        have q6 := Ok.cell hb zb b1
        have q7 := Ok.cell hb zb b2
        have q8 := Ok.cell hb zb b3
        have q9 := Ok.cell hb zb b4
        go_wp2_with fail
        refine hK.out _ _ (by (try dsimp only); go_keep) (fun hHeld => ?_)
        clear hK K
        (try simp only [Act.put, List.getElem_toArray, List.getElem_cons_succ, List.getElem_cons_zero, List.setIfInBounds_toArray, List.set_cons_zero, List.set_cons_succ])
        refine wpAnyH_take (i := 7) (v := ?_) rfl (by kernel_rfl) (by kernel_rfl) (by kernel_rfl) (fun _ _ _ h => h) (Or.inl ⟨by rfl, ?_⟩) (by assumption) ?_
        rotate_left
        · intro w hSw; (try dsimp only at hSw); first | (go_simp; done) | (go_simp; with_reducible rfl)
        (try simp only [Act.put, List.getElem_toArray, List.getElem_cons_succ, List.getElem_cons_zero, List.setIfInBounds_toArray, List.set_cons_zero, List.set_cons_succ])
        refine wpAnyH_take (i := 8) (v := undef) rfl (by kernel_rfl) (by kernel_rfl) (by kernel_rfl) (fun _ _ _ h => h) (Or.inr ⟨by rfl, rfl⟩) (by assumption) ?_
        (try simp only [Act.put, List.getElem_toArray, List.getElem_cons_succ, List.getElem_cons_zero, List.setIfInBounds_toArray, List.set_cons_zero, List.set_cons_succ])
        refine wpAnyH_take (i := 9) (v := undef) rfl (by kernel_rfl) (by kernel_rfl) (by kernel_rfl) (fun _ _ _ h => h) (Or.inr ⟨by rfl, rfl⟩) (by assumption) ?_
        (try simp only [Act.put, List.getElem_toArray, List.getElem_cons_succ, List.getElem_cons_zero, List.setIfInBounds_toArray, List.set_cons_zero, List.set_cons_succ])
        refine wpAnyH_take (i := 10) (v := undef) rfl (by kernel_rfl) (by kernel_rfl) (by kernel_rfl) (fun _ _ _ h => h) (Or.inr ⟨by rfl, rfl⟩) (by assumption) ?_
        (try simp only [Act.put, List.getElem_toArray, List.getElem_cons_succ, List.getElem_cons_zero, List.setIfInBounds_toArray, List.set_cons_zero, List.set_cons_succ])
        refine wpAnyH_take (i := 11) (v := ?_) rfl (by kernel_rfl) (by kernel_rfl) (by kernel_rfl) (fun _ _ _ h => h) (Or.inl ⟨by rfl, ?_⟩) (by assumption) ?_
        rotate_left
        · intro w hSw; (try dsimp only at hSw); first | (go_simp; done) | (go_simp; with_reducible rfl)
        (try simp only [Act.put, List.getElem_toArray, List.getElem_cons_succ, List.getElem_cons_zero, List.setIfInBounds_toArray, List.set_cons_zero, List.set_cons_succ])
        refine wpAnyH_ready (rs := [12]) (by kernel_rfl) (by simp) ?_
        refine AllReadyH.cons rfl (fun K hK => ?_) AllReadyH.nil
        go_simp
        refine (vask_nil false Z _ (by repeat (first | assumption | refine Ok.alloc ?_ _ | refine Below.drew ?_))).mono ?_
        rintro e1 w' ⟨rfl, hb⟩
        unfold nv botN
        have q0 := Ok.cell hb za a0
        have q1 := Ok.cell hb za a1
        have q2 := Ok.cell hb za a2
        have q3 := Ok.cell hb za a3
        have q4 := Ok.cell hb za a4
        have q5 := Ok.cell hb zb b0
        have q6 := Ok.cell hb zb b1
        have q7 := Ok.cell hb zb b2
        have q8 := Ok.cell hb zb b3
        have q9 := Ok.cell hb zb b4
        have zz := row5_facts (Ok.row' hb rp.out)
        have k0 := zz.1
        have k1 := zz.2.1
        have k2 := zz.2.2.1
        have k3 := zz.2.2.2.1
        have k4 := zz.2.2.2.2.1
        have k5 := zz.2.2.2.2.2.1
        have k6 := zz.2.2.2.2.2.2.1
        have k7 := zz.2.2.2.2.2.2.2.1
        have k8 := zz.2.2.2.2.2.2.2.2.1
        have k9 := zz.2.2.2.2.2.2.2.2.2
        clear zz
        have zz := row5_facts (Ok.row' hb rq.out)
        have j0 := zz.1
        have j1 := zz.2.1
        have j2 := zz.2.2.1
        have j3 := zz.2.2.2.1
        have j4 := zz.2.2.2.2.1
        have j5 := zz.2.2.2.2.2.1
        have j6 := zz.2.2.2.2.2.2.1
        have j7 := zz.2.2.2.2.2.2.2.1
        have j8 := zz.2.2.2.2.2.2.2.2.1
        have j9 := zz.2.2.2.2.2.2.2.2.2
        clear zz
        go_wp2_with fail
        refine hK.out _ _ (by (try dsimp only); go_keep) (fun hHeld => ?_)
        clear hK K
        (try simp only [Act.put, List.getElem_toArray, List.getElem_cons_succ, List.getElem_cons_zero, List.setIfInBounds_toArray, List.set_cons_zero, List.set_cons_succ])
        refine wpAnyH_take (i := 13) (v := ?_) rfl (by kernel_rfl) (by kernel_rfl) (by kernel_rfl) (fun _ _ _ h => h) (Or.inl ⟨by rfl, ?_⟩) (by assumption) ?_
        rotate_left
        · intro w hSw; (try dsimp only at hSw); first | (go_simp; done) | (go_simp; with_reducible rfl)
        (try simp only [Act.put, List.getElem_toArray, List.getElem_cons_succ, List.getElem_cons_zero, List.setIfInBounds_toArray, List.set_cons_zero, List.set_cons_succ])
        refine wpAnyH_take (i := 14) (v := ?_) rfl (by kernel_rfl) (by kernel_rfl) (by kernel_rfl) (fun _ _ _ h => h) (Or.inl ⟨by rfl, ?_⟩) (by assumption) ?_
        rotate_left
        · intro w hSw; (try dsimp only at hSw); first | (go_simp; done) | (go_simp; with_reducible rfl)
        (try simp only [Act.put, List.getElem_toArray, List.getElem_cons_succ, List.getElem_cons_zero, List.setIfInBounds_toArray, List.set_cons_zero, List.set_cons_succ])
        refine wpAnyH_take (i := 15) (v := ?_) rfl (by kernel_rfl) (by kernel_rfl) (by kernel_rfl) (fun _ _ _ h => h) (Or.inl ⟨by rfl, ?_⟩) (by assumption) ?_
        rotate_left
        · intro w hSw; (try dsimp only at hSw); first | (go_simp; done) | (go_simp; with_reducible rfl)
        (try simp only [Act.put, List.getElem_toArray, List.getElem_cons_succ, List.getElem_cons_zero, List.setIfInBounds_toArray, List.set_cons_zero, List.set_cons_succ])
        refine wpAnyH_ready (rs := [16]) (by kernel_rfl) (by simp) ?_
        refine AllReadyH.cons rfl (fun K hK => ?_) AllReadyH.nil
        go_simp
        go_wp2_with fail
        refine hK.out _ _ (by (try dsimp only); go_keep) (fun hHeld => ?_)
        clear hK K
        (try simp only [Act.put, List.getElem_toArray, List.getElem_cons_succ, List.getElem_cons_zero, List.setIfInBounds_toArray, List.set_cons_zero, List.set_cons_succ])
        refine wpAnyH_ready (rs := [17]) (by kernel_rfl) (by simp) ?_
        refine AllReadyH.cons rfl (fun K hK => ?_) AllReadyH.nil
        go_simp
        go_wp2_with fail
        refine hK.out _ _ (by (try dsimp only); go_keep) (fun hHeld => ?_)
        clear hK K
        (try simp only [Act.put, List.getElem_toArray, List.getElem_cons_succ, List.getElem_cons_zero, List.setIfInBounds_toArray, List.set_cons_zero, List.set_cons_succ])
        refine wpAnyH_ready (rs := [18]) (by kernel_rfl) (by simp) ?_
        refine AllReadyH.cons rfl (fun K hK => ?_) AllReadyH.nil
        go_simp
        go_wp2_with fail
        refine hK.out _ _ (by (try dsimp only); go_keep) (fun hHeld => ?_)
        clear hK K
        (try simp only [Act.put, List.getElem_toArray, List.getElem_cons_succ, List.getElem_cons_zero, List.setIfInBounds_toArray, List.set_cons_zero, List.set_cons_succ])
        refine wpAnyH_done (by kernel_rfl) ?_ _
        go_wp2_with fail
        obtain ⟨Y, hY⟩ : ∃ V, V = ((((((((((w'.setCell ⟨gp, 0, none⟩ (.bool true)).setCell ⟨gp, 1, none⟩ (.int .i64 0)).setCell ⟨gp, 2, none⟩ (.int .i64 0)).setCell ⟨gp, 3, none⟩ (.int .u64 0)).setCell ⟨gp, 4, none⟩ (.int .u64 0)).setCell ⟨gq, 0, none⟩ (.bool true)).setCell ⟨gq, 1, none⟩ (.int .i64 0)).setCell ⟨gq, 2, none⟩ (.int .i64 0)).setCell ⟨gq, 3, none⟩ (.int .u64 0)).setCell ⟨gq, 4, none⟩ (.int .u64 0)) := ⟨_, rfl⟩
        have hp := rows_putr ngpgq (Ok.row' hb rp.out) (Ok.row' hb rq.out) (HZ.out.step hb) (by omega) (by omega) _ _ _ _ _ _ _ _ _ _ hY
        rw [← hY]
        clear hY
        refine bodyPost_ret (results_2ct rfl _ _ gp gq 29 #[_, _, _, _, _] #[_, _, _, _, _] (0, 0) _ rfl rfl hp.2.1 hp.2.2 Tryz.underlying29 rfl infoN infoN) rfl ?_
        exact ⟨rfl, hp.1⟩
      · clear HX HY
        have EA : Hid (True) := trivial
        have za := lt_row raz.out
        have zb := lt_row rbz.out
        obtain ⟨a0, a1, a2, a3, a4, a5, a6, a7, a8, a9⟩ := row5_facts raz.out
        obtain ⟨b0, b1, b2, b3, b4, b5, b6, b7, b8, b9⟩ := row5_facts rbz.out
        have bz : Ok Z Z := Ok.refl _
        refine wp_region_held_drew (S := (fun w' => w'.cell? ⟨ga, 0, none⟩ = some (.bool true) ∧ w'.cell? ⟨ga, 1, none⟩ = some (.int .i64 xl) ∧ w'.cell? ⟨ga, 2, none⟩ = some (.int .i64 xh) ∧ w'.cell? ⟨ga, 3, none⟩ = some (.int .u64 (xM : Int)) ∧ w'.cell? ⟨ga, 4, none⟩ = some (.int .u64 (xR : Int)) ∧ w'.cell? ⟨gb, 0, none⟩ = some (.bool true) ∧ w'.cell? ⟨gb, 1, none⟩ = some (.int .i64 yl) ∧ w'.cell? ⟨gb, 2, none⟩ = some (.int .i64 yh) ∧ w'.cell? ⟨gb, 3, none⟩ = some (.int .u64 (yM : Int)) ∧ w'.cell? ⟨gb, 4, none⟩ = some (.int .u64 (yR : Int)))) (by kernel_rfl) (by (try dsimp only); go_keep) (fun hHeld => ?_)
        refine wpAnyH_take (i := 0) (v := ?_) rfl (by kernel_rfl) (by kernel_rfl) (by kernel_rfl) (fun _ _ _ h => h) (Or.inl ⟨by rfl, ?_⟩) (by assumption) ?_
        rotate_left
        · intro w hSw; (try dsimp only at hSw); first | (go_simp; done) | (go_simp; with_reducible rfl)
        (try simp only [Act.put, List.getElem_toArray, List.getElem_cons_succ, List.getElem_cons_zero, List.setIfInBounds_toArray, List.set_cons_zero, List.set_cons_succ])
        refine wpAnyH_take (i := 1) (v := ?_) rfl (by kernel_rfl) (by kernel_rfl) (by kernel_rfl) (fun _ _ _ h => h) (Or.inl ⟨by rfl, ?_⟩) (by assumption) ?_
        rotate_left
        · intro w hSw; (try dsimp only at hSw); first | (go_simp; done) | (go_simp; with_reducible rfl)
        (try simp only [Act.put, List.getElem_toArray, List.getElem_cons_succ, List.getElem_cons_zero, List.setIfInBounds_toArray, List.set_cons_zero, List.set_cons_succ])
        refine wpAnyH_take (i := 2) (v := ?_) rfl (by kernel_rfl) (by kernel_rfl) (by kernel_rfl) (fun _ _ _ h => h) (Or.inl ⟨by rfl, ?_⟩) (by assumption) ?_
        rotate_left
        · intro w hSw; (try dsimp only at hSw); first | (go_simp; done) | (go_simp; with_reducible rfl)
        (try simp only [Act.put, List.getElem_toArray, List.getElem_cons_succ, List.getElem_cons_zero, List.setIfInBounds_toArray, List.set_cons_zero, List.set_cons_succ])
        refine wpAnyH_take (i := 4) (v := ?_) rfl (by kernel_rfl) (by kernel_rfl) (by kernel_rfl) (fun _ _ _ h => h) (Or.inl ⟨by rfl, ?_⟩) (by assumption) ?_
        rotate_left
        · intro w hSw; (try dsimp only at hSw); first | (go_simp; done) | (go_simp; with_reducible rfl)
        (try simp only [Act.put, List.getElem_toArray, List.getElem_cons_succ, List.getElem_cons_zero, List.setIfInBounds_toArray, List.set_cons_zero, List.set_cons_succ])
        refine wpAnyH_take (i := 5) (v := ?_) rfl (by kernel_rfl) (by kernel_rfl) (by kernel_rfl) (fun _ _ _ h => h) (Or.inl ⟨by rfl, ?_⟩) (by assumption) ?_
        rotate_left
        · intro w hSw; (try dsimp only at hSw); first | (go_simp; done) | (go_simp; with_reducible rfl)
        (try simp only [Act.put, List.getElem_toArray, List.getElem_cons_succ, List.getElem_cons_zero, List.setIfInBounds_toArray, List.set_cons_zero, List.set_cons_succ])
        refine wpAnyH_take (i := 6) (v := ?_) rfl (by kernel_rfl) (by kernel_rfl) (by kernel_rfl) (fun _ _ _ h => h) (Or.inl ⟨by rfl, ?_⟩) (by assumption) ?_
        rotate_left
        · intro w hSw; (try dsimp only at hSw); first | (go_simp; done) | (go_simp; with_reducible rfl)
        (try simp only [Act.put, List.getElem_toArray, List.getElem_cons_succ, List.getElem_cons_zero, List.setIfInBounds_toArray, List.set_cons_zero, List.set_cons_succ])
        refine wpAnyH_ready (rs := [3]) (by kernel_rfl) (by simp) ?_
        refine AllReadyH.cons rfl (fun K hK => ?_) AllReadyH.nil
        go_simp
        refine (vcomparing_nil op HO.out (xl, xh, xM, xR, true) (yl, yh, yM, yR, true) Z _ (by repeat (first | assumption | refine Ok.alloc ?_ _ | refine Below.drew ?_))).mono ?_
        rintro e1 w' ⟨rfl, hb⟩
        have q0 := Ok.cell hb za a0
        have q1 := Ok.cell hb za a1
        have q2 := Ok.cell hb za a2
        have q3 := Ok.cell hb za a3
        have q4 := Ok.cell hb za a4
        have q5 := Ok.cell hb zb b0
        have q6 := Ok.cell hb zb b1
        have q7 := Ok.cell hb zb b2
        have q8 := Ok.cell hb zb b3
        have q9 := Ok.cell hb zb b4
        go_wp2_with fail
        refine hK.out _ _ (by (try dsimp only); go_keep) (fun hHeld => ?_)
        clear hK K
        (try simp only [Act.put, List.getElem_toArray, List.getElem_cons_succ, List.getElem_cons_zero, List.setIfInBounds_toArray, List.set_cons_zero, List.set_cons_succ])
        refine wpAnyH_take (i := 7) (v := ?_) rfl (by kernel_rfl) (by kernel_rfl) (by kernel_rfl) (fun _ _ _ h => h) (Or.inl ⟨by rfl, ?_⟩) (by assumption) ?_
        rotate_left
        · intro w hSw; (try dsimp only at hSw); first | (go_simp; done) | (go_simp; with_reducible rfl)
        (try simp only [Act.put, List.getElem_toArray, List.getElem_cons_succ, List.getElem_cons_zero, List.setIfInBounds_toArray, List.set_cons_zero, List.set_cons_succ])
        refine wpAnyH_take (i := 8) (v := undef) rfl (by kernel_rfl) (by kernel_rfl) (by kernel_rfl) (fun _ _ _ h => h) (Or.inr ⟨by rfl, rfl⟩) (by assumption) ?_
        (try simp only [Act.put, List.getElem_toArray, List.getElem_cons_succ, List.getElem_cons_zero, List.setIfInBounds_toArray, List.set_cons_zero, List.set_cons_succ])
        refine wpAnyH_take (i := 9) (v := undef) rfl (by kernel_rfl) (by kernel_rfl) (by kernel_rfl) (fun _ _ _ h => h) (Or.inr ⟨by rfl, rfl⟩) (by assumption) ?_
        (try simp only [Act.put, List.getElem_toArray, List.getElem_cons_succ, List.getElem_cons_zero, List.setIfInBounds_toArray, List.set_cons_zero, List.set_cons_succ])
        refine wpAnyH_take (i := 10) (v := undef) rfl (by kernel_rfl) (by kernel_rfl) (by kernel_rfl) (fun _ _ _ h => h) (Or.inr ⟨by rfl, rfl⟩) (by assumption) ?_
        (try simp only [Act.put, List.getElem_toArray, List.getElem_cons_succ, List.getElem_cons_zero, List.setIfInBounds_toArray, List.set_cons_zero, List.set_cons_succ])
        refine wpAnyH_take (i := 11) (v := ?_) rfl (by kernel_rfl) (by kernel_rfl) (by kernel_rfl) (fun _ _ _ h => h) (Or.inl ⟨by rfl, ?_⟩) (by assumption) ?_
        rotate_left
        · intro w hSw; (try dsimp only at hSw); first | (go_simp; done) | (go_simp; with_reducible rfl)
        (try simp only [Act.put, List.getElem_toArray, List.getElem_cons_succ, List.getElem_cons_zero, List.setIfInBounds_toArray, List.set_cons_zero, List.set_cons_succ])
        refine wpAnyH_ready (rs := [12]) (by kernel_rfl) (by simp) ?_
        refine AllReadyH.cons rfl (fun K hK => ?_) AllReadyH.nil
        go_simp
        refine (vask_nil false Z _ (by repeat (first | assumption | refine Ok.alloc ?_ _ | refine Below.drew ?_))).mono ?_
        rintro e1 w' ⟨rfl, hb⟩
        unfold nv botN
        have q0 := Ok.cell hb za a0
        have q1 := Ok.cell hb za a1
        have q2 := Ok.cell hb za a2
        have q3 := Ok.cell hb za a3
        have q4 := Ok.cell hb za a4
        have q5 := Ok.cell hb zb b0
        have q6 := Ok.cell hb zb b1
        have q7 := Ok.cell hb zb b2
        have q8 := Ok.cell hb zb b3
        have q9 := Ok.cell hb zb b4
        have zz := row5_facts (Ok.row' hb rp.out)
        have k0 := zz.1
        have k1 := zz.2.1
        have k2 := zz.2.2.1
        have k3 := zz.2.2.2.1
        have k4 := zz.2.2.2.2.1
        have k5 := zz.2.2.2.2.2.1
        have k6 := zz.2.2.2.2.2.2.1
        have k7 := zz.2.2.2.2.2.2.2.1
        have k8 := zz.2.2.2.2.2.2.2.2.1
        have k9 := zz.2.2.2.2.2.2.2.2.2
        clear zz
        have zz := row5_facts (Ok.row' hb rq.out)
        have j0 := zz.1
        have j1 := zz.2.1
        have j2 := zz.2.2.1
        have j3 := zz.2.2.2.1
        have j4 := zz.2.2.2.2.1
        have j5 := zz.2.2.2.2.2.1
        have j6 := zz.2.2.2.2.2.2.1
        have j7 := zz.2.2.2.2.2.2.2.1
        have j8 := zz.2.2.2.2.2.2.2.2.1
        have j9 := zz.2.2.2.2.2.2.2.2.2
        clear zz
        go_wp2_with fail
        refine hK.out _ _ (by (try dsimp only); go_keep) (fun hHeld => ?_)
        clear hK K
        (try simp only [Act.put, List.getElem_toArray, List.getElem_cons_succ, List.getElem_cons_zero, List.setIfInBounds_toArray, List.set_cons_zero, List.set_cons_succ])
        refine wpAnyH_take (i := 13) (v := ?_) rfl (by kernel_rfl) (by kernel_rfl) (by kernel_rfl) (fun _ _ _ h => h) (Or.inl ⟨by rfl, ?_⟩) (by assumption) ?_
        rotate_left
        · intro w hSw; (try dsimp only at hSw); first | (go_simp; done) | (go_simp; with_reducible rfl)
        (try simp only [Act.put, List.getElem_toArray, List.getElem_cons_succ, List.getElem_cons_zero, List.setIfInBounds_toArray, List.set_cons_zero, List.set_cons_succ])
        refine wpAnyH_take (i := 14) (v := ?_) rfl (by kernel_rfl) (by kernel_rfl) (by kernel_rfl) (fun _ _ _ h => h) (Or.inl ⟨by rfl, ?_⟩) (by assumption) ?_
        rotate_left
        · intro w hSw; (try dsimp only at hSw); first | (go_simp; done) | (go_simp; with_reducible rfl)
        (try simp only [Act.put, List.getElem_toArray, List.getElem_cons_succ, List.getElem_cons_zero, List.setIfInBounds_toArray, List.set_cons_zero, List.set_cons_succ])
        refine wpAnyH_take (i := 15) (v := ?_) rfl (by kernel_rfl) (by kernel_rfl) (by kernel_rfl) (fun _ _ _ h => h) (Or.inl ⟨by rfl, ?_⟩) (by assumption) ?_
        rotate_left
        · intro w hSw; (try dsimp only at hSw); first | (go_simp; done) | (go_simp; with_reducible rfl)
        (try simp only [Act.put, List.getElem_toArray, List.getElem_cons_succ, List.getElem_cons_zero, List.setIfInBounds_toArray, List.set_cons_zero, List.set_cons_succ])
        refine wpAnyH_ready (rs := [16]) (by kernel_rfl) (by simp) ?_
        refine AllReadyH.cons rfl (fun K hK => ?_) AllReadyH.nil
        go_simp
        go_wp2_with fail
        refine hK.out _ _ (by (try dsimp only); go_keep) (fun hHeld => ?_)
        clear hK K
        (try simp only [Act.put, List.getElem_toArray, List.getElem_cons_succ, List.getElem_cons_zero, List.setIfInBounds_toArray, List.set_cons_zero, List.set_cons_succ])
        refine wpAnyH_ready (rs := [17]) (by kernel_rfl) (by simp) ?_
        refine AllReadyH.cons rfl (fun K hK => ?_) AllReadyH.nil
        go_simp
        go_wp2_with fail
        refine hK.out _ _ (by (try dsimp only); go_keep) (fun hHeld => ?_)
        clear hK K
        (try simp only [Act.put, List.getElem_toArray, List.getElem_cons_succ, List.getElem_cons_zero, List.setIfInBounds_toArray, List.set_cons_zero, List.set_cons_succ])
        refine wpAnyH_ready (rs := [18]) (by kernel_rfl) (by simp) ?_
        refine AllReadyH.cons rfl (fun K hK => ?_) AllReadyH.nil
        go_simp
        go_wp2_with fail
        refine hK.out _ _ (by (try dsimp only); go_keep) (fun hHeld => ?_)
        clear hK K
        (try simp only [Act.put, List.getElem_toArray, List.getElem_cons_succ, List.getElem_cons_zero, List.setIfInBounds_toArray, List.set_cons_zero, List.set_cons_succ])
        refine wpAnyH_done (by kernel_rfl) ?_ _
        go_wp2_with fail
        obtain ⟨Y, hY⟩ : ∃ V, V = ((((((((((w'.setCell ⟨gp, 0, none⟩ (.bool true)).setCell ⟨gp, 1, none⟩ (.int .i64 0)).setCell ⟨gp, 2, none⟩ (.int .i64 0)).setCell ⟨gp, 3, none⟩ (.int .u64 0)).setCell ⟨gp, 4, none⟩ (.int .u64 0)).setCell ⟨gq, 0, none⟩ (.bool true)).setCell ⟨gq, 1, none⟩ (.int .i64 0)).setCell ⟨gq, 2, none⟩ (.int .i64 0)).setCell ⟨gq, 3, none⟩ (.int .u64 0)).setCell ⟨gq, 4, none⟩ (.int .u64 0)) := ⟨_, rfl⟩
        have hp := rows_putr ngpgq (Ok.row' hb rp.out) (Ok.row' hb rq.out) (HZ.out.step hb) (by omega) (by omega) _ _ _ _ _ _ _ _ _ _ hY
        rw [← hY]
        clear hY
        refine bodyPost_ret (results_2ct rfl _ _ gp gq 29 #[_, _, _, _, _] #[_, _, _, _, _] (0, 0) _ rfl rfl hp.2.1 hp.2.2 Tryz.underlying29 rfl infoN infoN) rfl ?_
        exact ⟨rfl, hp.1⟩
end Go.Proofs.YtbkblijoimmdeaaGreat
