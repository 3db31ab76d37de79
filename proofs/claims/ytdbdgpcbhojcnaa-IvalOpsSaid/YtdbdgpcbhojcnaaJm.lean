import Derived.Test.YtdbdgpcbhojcnaaJh
import Derived.Test.YtdbdgpcbhojcnaaJx
import Derived.Test.YtdbdgpcbhojcnaaJcp
set_option linter.unusedVariables false
set_option linter.unusedSimpArgs false
set_option linter.unnecessarySimpa false
/- Package ival: Mul: contract. -/
namespace Go.Proofs.Ytdbdgpcbhojcnaa
open Go.RowKit
theorem pthi_p (W : Int → Int → Int) (al ah bl bh L H : Int) (bf : Nat) (w : World) (hop : OpAt 53 al ah bl bh W) (hbf : w.heap[bf]? = some (.cells #[.func (.func 53) #[] #[]] 58 (0, 0))) (h : cL W al ah bl bh 4 = L ∧ cH W al ah bl bh 4 = H) :
    Calls Try.prog 76 #[.agg #[.int .i64 al, .int .i64 ah], .agg #[.int .i64 bl, .int .i64 bh], .pointer (some ⟨bf, 0, none⟩)] w fun e w' => e = .returned (.agg #[.int .i64 (tW L), .int .i64 (wrap64 L), .int .i64 (tW H), .int .i64 (wrap64 H)]) ∧ Ok w w' := by
  rw [← h.1, ← h.2]; exact pthr_p W al ah bl bh bf w hop hbf
theorem op_pro {al ah bl bh : Int} (ha1 : In64 al) (ha2 : In64 ah) (hb1 : In64 bl) (hb2 : In64 bh) : OpAt 53 al ah bl bh (fun x y => x * y) := by
  intro x y hx hy w0 w hok
  exact pproduct_any x y (by rcases hx with rfl | rfl <;> assumption) (by rcases hy with rfl | rfl <;> assumption) w0 w hok
theorem cL_mul (al ah bl bh : Int) : cL (fun x y => x * y) al ah bl bh 4 = mulLo al ah bl bh ∧ cH (fun x y => x * y) al ah bl bh 4 = mulHi al ah bl bh := by
  simp only [cL, cH, cX, cY, mulLo, mulHi]
  generalize al * bl = p at *
  generalize al * bh = q at *
  generalize ah * bl = r at *
  generalize ah * bh = s at *
  omega
theorem pexact_x (lo hi : Int) (w : World) :
    Calls Try.prog 54 #[.agg #[.int .i64 (tW lo), .int .i64 (wrap64 lo), .int .i64 (tW hi), .int .i64 (wrap64 hi)]] w fun e w' => e = .returned (.bool (exW lo hi)) ∧ w' = w.alloc (.cells #[.int .i64 (tW lo), .int .i64 (wrap64 lo), .int .i64 (tW hi), .int .i64 (wrap64 hi)] 62) := pexact_ex lo hi w
/-- What Mul answers of a span. -/
def mulW (one : Bool) (L H : Int) : Int × Int × Bool := if exW L H = true ∨ one = true then ((hullW L H).1, (hullW L H).2, exW L H) else (-9223372036854775808, 9223372036854775807, false)
theorem retib' {l h : Int} {b : Bool} {p : Int × Int × Bool} (e : p = (l, h, b)) : Ending.returned (.tuple #[.agg #[.int .i64 l, .int .i64 h], .bool b]) = .returned (.tuple #[.agg #[.int .i64 p.1, .int .i64 p.2.1], .bool p.2.2]) := by rw [e]
set_option maxHeartbeats 4000000 in
theorem pmul_c (one : Bool) (al ah bl bh L H : Int) (hon : (decide (al = ah) && decide (bl = bh)) = one) (w0 w : World) (hok : Ok w0 w) (hop : OpAt 53 al ah bl bh (fun x y => x * y)) (hLH : cL (fun x y => x * y) al ah bl bh 4 = L ∧ cH (fun x y => x * y) al ah bl bh 4 = H) (hc : al ≤ ah) (hc2 : bl ≤ bh) :
    Calls Try.prog 30 #[.agg #[.int .i64 al, .int .i64 ah], .agg #[.int .i64 bl, .int .i64 bh]] w fun e w' => e = .returned (.tuple #[.agg #[.int .i64 (mulW one L H).1, .int .i64 (mulW one L H).2.1], .bool (mulW one L H).2.2]) ∧ Ok w0 w' := by
  have d : decide (ah < al) = false := decide_eq_false (by omega)
  have d2 : decide (bh < bl) = false := decide_eq_false (by omega)
  have HON : Hid ((decide (al = ah) && decide (bl = bh)) = one) := hon
  clear hon
  have HO : Hid _ := hop
  have HLH : Hid _ := hLH
  clear hop hLH
  go_enter Try.func30, Try.ntmps30
  go_wp2_with (first | (go_at_call 36; refine (pisnone_ex _ _ _).mono ?_; rintro e w' ⟨rfl, rfl⟩) | fail)
  obtain ⟨W, hW⟩ : ∃ W, W = ((((w.alloc (.cells #[.int .i64 al, .int .i64 ah] 23)).alloc (.cells #[.int .i64 bl, .int .i64 bh] 23)).alloc (.cells #[.int .i64 0, .int .i64 0] 23)).alloc (.cells #[.int .i64 al, .int .i64 ah] 23)).alloc (.cells #[.int .i64 bl, .int .i64 bh] 23) := ⟨_, rfl⟩
  have ra : W.heap[w.heap.size]? = some (.cells #[.int .i64 al, .int .i64 ah] 23) := by rw [hW]; exact (by repeat (first | (refine heap_at _ _ _ ?hx; case hx => (first | (simp; done) | (simp; omega))) | (refine heap_past _ _ _ ?hy ?_; case hy => (first | (simp; done) | (simp; omega))) | fail))
  have rb : W.heap[w.heap.size + 1]? = some (.cells #[.int .i64 bl, .int .i64 bh] 23) := by rw [hW]; exact (by repeat (first | (refine heap_at _ _ _ ?hx; case hx => (first | (simp; done) | (simp; omega))) | (refine heap_past _ _ _ ?hy ?_; case hy => (first | (simp; done) | (simp; omega))) | fail))
  have rr : W.heap[w.heap.size + 2]? = some (.cells #[.int .i64 0, .int .i64 0] 23) := by rw [hW]; exact (by repeat (first | (refine heap_at _ _ _ ?hx; case hx => (first | (simp; done) | (simp; omega))) | (refine heap_past _ _ _ ?hy ?_; case hy => (first | (simp; done) | (simp; omega))) | fail))
  have hokW : Ok w0 W := by rw [hW]; exact (by repeat (first | exact hok | refine Ok.alloc ?_ _ | refine Ok.draws ?_ _ | fail))
  have hw0 := hok.le
  rw [← hW]
  clear hW
  obtain ⟨c0, c1, _, _⟩ := row_facts ra
  obtain ⟨c2, c3, _, _⟩ := row_facts rb
  have g0 := lt_row ra
  have g1 := lt_row rb
  have HW : Hid (W.heap[w.heap.size + 2]? = some (.cells #[.int .i64 0, .int .i64 0] 23) ∧ Ok w0 W ∧ w0.heap.size ≤ w.heap.size) := ⟨rr, hokW, hw0⟩
  clear ra rb rr hokW hw0 hok
  have hm0 := World.new_ne W _ c0
  have hm1 := World.new_ne W _ c1
  have hm2 := World.new_ne W _ c2
  have hm3 := World.new_ne W _ c3
  have hn0 : ¬ w.heap.size = W.heap.size := by omega
  have hn1 : ¬ w.heap.size + 1 = W.heap.size := by omega
  have hn2 : ¬ w.heap.size = W.heap.size + 1 := by omega
  have hn3 : ¬ w.heap.size + 1 = W.heap.size + 1 := by omega
  have hp0 : ¬ W.heap.size + 1 = w.heap.size := by omega
  have hp1 : ¬ W.heap.size = w.heap.size := by omega
  have hp2 : ¬ W.heap.size = w.heap.size + 1 := by omega
  have hp3 : ¬ W.heap.size + 1 = w.heap.size + 1 := by omega
  refine wp_cut2 (fun a1 w1 => ∃ g bf, a1 = ⟨#[.agg #[.int .i64 al, .int .i64 ah], .agg #[.int .i64 bl, .int .i64 bh], .pointer (some ⟨w.heap.size, 0, none⟩), .pointer (some ⟨w.heap.size + 1, 0, none⟩), .pointer (some ⟨w.heap.size + 1 + 1, 0, none⟩), .bool false, .pointer (some ⟨g, 0, none⟩), .agg #[.int .i64 al, .int .i64 ah], .bool false, .bool false, .agg #[.int .i64 bl, .int .i64 bh], .bool false, .bool false, undef, .func (.func 76) #[] #[.pointer (some ⟨bf, 0, none⟩)], .agg #[.int .i64 al, .int .i64 ah], .agg #[.int .i64 bl, .int .i64 bh], .agg #[.int .i64 (tW L), .int .i64 (wrap64 L), .int .i64 (tW H), .int .i64 (wrap64 H)], undef, undef, undef, undef, undef, undef, undef, undef, undef, undef, undef, undef, undef, undef, undef], []⟩ ∧ Hid (Spn W w1 g L H)) ?_ ?_
  · go_region_held3 (fun w' => w'.cell? ⟨w.heap.size, 0, none⟩ = some (.int .i64 al) ∧ w'.cell? ⟨w.heap.size, 1, none⟩ = some (.int .i64 ah) ∧ w'.cell? ⟨w.heap.size + 1, 0, none⟩ = some (.int .i64 bl) ∧ w'.cell? ⟨w.heap.size + 1, 1, none⟩ = some (.int .i64 bh)) (go_keep)
      (first
      | (go_at_call 52; refine (pthrough_ex _ _).mono ?_; rintro e w' ⟨rfl, rfl⟩)
      | (go_at_call 76; refine (pthi_p (fun x y => x * y) _ _ _ _ L H _ _ HO.out (by repeat (first | (refine heap_at _ _ _ ?hx; case hx => (first | (simp; done) | (simp; omega))) | (refine heap_past _ _ _ ?hy ?_; case hy => (first | (simp; done) | (simp; omega))) | fail)) HLH.out).mono ?_; rintro e w2 ⟨rfl, hb2⟩; have hbW : Ok W w2 := Ok.step (by repeat (first | exact Ok.refl _ | refine Ok.alloc ?_ _ | refine Ok.draws ?_ _ | exact Below.drew (Ok.refl _))) hb2; have e0 := Ok.cell hbW g0 c0; have e1 := Ok.cell hbW g0 c1; have e2 := Ok.cell hbW g1 c2; have e3 := Ok.cell hbW g1 c3; have j0 : ¬ w2.heap.size = w.heap.size := (by have := hbW.le; omega); have j1 : ¬ w2.heap.size = w.heap.size + 1 := (by have := hbW.le; omega); have j2 : ¬ w.heap.size = w2.heap.size := (by have := hbW.le; omega); have j3 : ¬ w.heap.size + 1 = w2.heap.size := (by have := hbW.le; omega); first | (have HQ : Hid _ := rowA (o := .cells #[.int .i64 0, .int .i64 0, .int .i64 0, .int .i64 0] 62) hb2; obtain ⟨⟨q0, q1, q2, q3⟩, q4, q5, q6, q7⟩ := row_facts4 HQ.out) | (have HQ : Hid _ := rowB (o := .cells #[.int .i64 0, .int .i64 0, .int .i64 0, .int .i64 0] 62) hb2; obtain ⟨⟨q0, q1, q2, q3⟩, q4, q5, q6, q7⟩ := row_facts4 HQ.out) | skip)
      | fail)
    all_goals (refine ⟨_, _, rfl, ?_⟩; first | with_reducible exact thr_a hbW | ((with_reducible refine thr_b hbW HQ.out ?_); omega))
  · rintro a1 w1 ⟨g, bf, rfl, HT⟩
    have f0 := Ok.cell HT.out.1 g0 c0; have f1 := Ok.cell HT.out.1 g0 c1; have f2 := Ok.cell HT.out.1 g1 c2; have f3 := Ok.cell HT.out.1 g1 c3
    have i0 : w.heap.size < w1.heap.size := Nat.lt_of_lt_of_le g0 HT.out.1.le
    have i1 : w.heap.size + 1 < w1.heap.size := Nat.lt_of_lt_of_le g1 HT.out.1.le
    clear c0 c1 c2 c3 g0 g1 hm0 hm1 hm2 hm3 hn0 hn1 hn2 hn3 hp0 hp1 hp2 hp3 d d2
    have rg := HT.out.2.1
    obtain ⟨⟨q0, q1, q2, q3⟩, _, _, _, _⟩ := row_facts4 rg
    have sg := lt_row rg
    have rr := Ok.row' HT.out.1 HW.out.1
    obtain ⟨p0, p1, p2, p3⟩ := row_facts rr
    have HR : Hid (w1.heap[w.heap.size + 2]? = some (.cells #[.int .i64 0, .int .i64 0] 23) ∧ Ok w0 w1) := ⟨rr, Ok.step HW.out.2.1 HT.out.1⟩
    have sr := lt_row rr
    clear rr
    have ne1 : ¬ g = w.heap.size + 1 + 1 := by have h1 := HT.out.2.2; have h2 := lt_row HW.out.1; omega
    have ne2 : ¬ w.heap.size + 1 + 1 = g := by omega
    have HG : Hid (w1.heap[g]? = some (rowS L H)) := rg
    clear rg
    simp only [Exit.then]
    have hon := HON.out
    clear HON
    rcases hx : exW L H with _ | _
    · by_cases h1 : al = ah
      · have d1 : decide (al = ah) = true := decide_eq_true h1
        by_cases h2 : bl = bh
        · have d2 : decide (bl = bh) = true := decide_eq_true h2
          have E : Hid (mulW one L H = ((hullW L H).1, (hullW L H).2, false)) := by unfold Hid mulW; rw [if_pos (Or.inr (by rw [← hon, d1, d2]; rfl)), hx]
          clear hon h1 h2
          go_wp2_with (first | (go_at_call 54; refine (pexact_x _ _ _).mono ?_; rintro e w' ⟨rfl, rfl⟩) | (go_at_call 55; refine (pisone_ex _ _ _).mono ?_; rintro e w' ⟨rfl, rfl⟩) | (go_at_call 57; refine (pall_ex _).mono ?_; rintro e w' ⟨rfl, rfl⟩) | fail)
          obtain ⟨X, hX⟩ : ∃ X, X = ((w1.alloc (.cells #[.int .i64 (tW L), .int .i64 (wrap64 L), .int .i64 (tW H), .int .i64 (wrap64 H)] 62)).alloc (.cells #[.int .i64 al, .int .i64 ah] 23)).alloc (.cells #[.int .i64 bl, .int .i64 bh] 23) := ⟨_, rfl⟩
          have okX : Ok w1 X := by rw [hX]; exact (by repeat (first | exact Ok.refl _ | refine Ok.alloc ?_ _))
          rw [← hX]
          clear hX
          obtain ⟨⟨m0, m1, m2, m3⟩, _, _, _, _⟩ := row_facts4 (Ok.row' okX HG.out)
          have sX : g < X.heap.size := Nat.lt_of_lt_of_le sg okX.le
          obtain ⟨n0, n1, n2, n3⟩ := row_facts (Ok.row' okX HR.out.1)
          have HX : Hid (X.heap[w.heap.size + 2]? = some (.cells #[.int .i64 0, .int .i64 0] 23) ∧ Ok w0 X) := ⟨Ok.row' okX HR.out.1, Ok.step HR.out.2 okX⟩
          have bx : Ok X X := Ok.refl _
          have bx' : Ok X X.drew := Below.drew (Ok.refl _)
          clear okX q0 q1 q2 q3 p0 p1 p2 p3 f0 f1 f2 f3
          go_region_held3 (fun w' => w'.cell? ⟨g, 0, none⟩ = some (.int .i64 (tW L)) ∧ w'.cell? ⟨g, 1, none⟩ = some (.int .i64 (wrap64 L)) ∧ w'.cell? ⟨g, 2, none⟩ = some (.int .i64 (tW H)) ∧ w'.cell? ⟨g, 3, none⟩ = some (.int .i64 (wrap64 H))) (go_keep)
            (first
            | (go_at_call 56; refine (phull_any _ _ X _ (by assumption)).mono ?_; rintro e w3 ⟨rfl, hb3⟩; have e0 := Ok.cell hb3 sX m0; have e1 := Ok.cell hb3 sX m1; have e2 := Ok.cell hb3 sX m2; have e3 := Ok.cell hb3 sX m3; obtain ⟨k0, k1, k2, k3⟩ := row_facts (Ok.row' hb3 HX.out.1))
            | (go_at_call 54; refine (pexact_any _ _ X _ (by assumption)).mono ?_; rintro e w3 ⟨rfl, hb3⟩; have e0 := Ok.cell hb3 sX m0; have e1 := Ok.cell hb3 sX m1; have e2 := Ok.cell hb3 sX m2; have e3 := Ok.cell hb3 sX m3; obtain ⟨k0, k1, k2, k3⟩ := row_facts (Ok.row' hb3 HX.out.1))
            | fail)
          go_wp2_with fail
          (try simp only [Exit.inBlock, Exit.then])
          refine bodyPost_ret (results_iv rfl _ _ (w.heap.size + 2) 23 #[_, _] (0, 0) _ rfl (row_set2 (Ok.row' hb3 HX.out.1) _ _) Try.underlying23 rfl infoI) rfl ?_
          have hw := HW.out.2.2
          exact ⟨retib' E.out, ((Ok.step HX.out.2 hb3).set (show w0.heap.size ≤ w.heap.size + 2 by omega) _).set (show w0.heap.size ≤ w.heap.size + 2 by omega) _⟩
        · have d2 : decide (bl = bh) = false := decide_eq_false h2
          have E : Hid (mulW one L H = (-9223372036854775808, 9223372036854775807, false)) := by unfold Hid mulW; rw [← hon, d1, d2, hx]; rfl
          clear hon h1 h2
          go_wp2_with (first | (go_at_call 54; refine (pexact_x _ _ _).mono ?_; rintro e w' ⟨rfl, rfl⟩) | (go_at_call 55; refine (pisone_ex _ _ _).mono ?_; rintro e w' ⟨rfl, rfl⟩) | (go_at_call 57; refine (pall_ex _).mono ?_; rintro e w' ⟨rfl, rfl⟩) | fail)
          (try simp only [Exit.inBlock, Exit.then])
          refine bodyPost_ret (results_iv rfl _ _ (w.heap.size + 2) 23 #[_, _] (0, 0) _ rfl (by repeat (first | exact row_set2 HR.out.1 _ _ | (refine heap_past _ _ _ ?hy ?_; case hy => (simp; omega)))) Try.underlying23 rfl infoI) rfl ?_
          have hw := HW.out.2.2
          exact ⟨retib' E.out, by repeat (first | exact (HR.out.2.set (show w0.heap.size ≤ w.heap.size + 2 by omega) _).set (show w0.heap.size ≤ w.heap.size + 2 by omega) _ | refine Ok.alloc ?_ _)⟩
      · have d1 : decide (al = ah) = false := decide_eq_false h1
        have E : Hid (mulW one L H = (-9223372036854775808, 9223372036854775807, false)) := by unfold Hid mulW; rw [← hon, d1, hx]; rfl
        clear hon h1
        go_wp2_with (first | (go_at_call 54; refine (pexact_x _ _ _).mono ?_; rintro e w' ⟨rfl, rfl⟩) | (go_at_call 55; refine (pisone_ex _ _ _).mono ?_; rintro e w' ⟨rfl, rfl⟩) | (go_at_call 57; refine (pall_ex _).mono ?_; rintro e w' ⟨rfl, rfl⟩) | fail)
        (try simp only [Exit.inBlock, Exit.then])
        refine bodyPost_ret (results_iv rfl _ _ (w.heap.size + 2) 23 #[_, _] (0, 0) _ rfl (by repeat (first | exact row_set2 HR.out.1 _ _ | (refine heap_past _ _ _ ?hy ?_; case hy => (simp; omega)))) Try.underlying23 rfl infoI) rfl ?_
        have hw := HW.out.2.2
        exact ⟨retib' E.out, by repeat (first | exact (HR.out.2.set (show w0.heap.size ≤ w.heap.size + 2 by omega) _).set (show w0.heap.size ≤ w.heap.size + 2 by omega) _ | refine Ok.alloc ?_ _)⟩
    · have E : Hid (mulW one L H = ((hullW L H).1, (hullW L H).2, true)) := by unfold Hid mulW; rw [hx, if_pos (Or.inl rfl)]
      clear hon
      go_wp2_with (first | (go_at_call 54; refine (pexact_x _ _ _).mono ?_; rintro e w' ⟨rfl, rfl⟩) | (go_at_call 55; refine (pisone_ex _ _ _).mono ?_; rintro e w' ⟨rfl, rfl⟩) | (go_at_call 57; refine (pall_ex _).mono ?_; rintro e w' ⟨rfl, rfl⟩) | fail)
      obtain ⟨X, hX⟩ : ∃ X, X = w1.alloc (.cells #[.int .i64 (tW L), .int .i64 (wrap64 L), .int .i64 (tW H), .int .i64 (wrap64 H)] 62) := ⟨_, rfl⟩
      have okX : Ok w1 X := by rw [hX]; exact (by repeat (first | exact Ok.refl _ | refine Ok.alloc ?_ _))
      rw [← hX]
      clear hX
      obtain ⟨⟨m0, m1, m2, m3⟩, _, _, _, _⟩ := row_facts4 (Ok.row' okX HG.out)
      have sX : g < X.heap.size := Nat.lt_of_lt_of_le sg okX.le
      obtain ⟨n0, n1, n2, n3⟩ := row_facts (Ok.row' okX HR.out.1)
      have HX : Hid (X.heap[w.heap.size + 2]? = some (.cells #[.int .i64 0, .int .i64 0] 23) ∧ Ok w0 X) := ⟨Ok.row' okX HR.out.1, Ok.step HR.out.2 okX⟩
      have bx : Ok X X := Ok.refl _
      have bx' : Ok X X.drew := Below.drew (Ok.refl _)
      clear okX q0 q1 q2 q3 p0 p1 p2 p3 f0 f1 f2 f3
      go_region_held3 (fun w' => w'.cell? ⟨g, 0, none⟩ = some (.int .i64 (tW L)) ∧ w'.cell? ⟨g, 1, none⟩ = some (.int .i64 (wrap64 L)) ∧ w'.cell? ⟨g, 2, none⟩ = some (.int .i64 (tW H)) ∧ w'.cell? ⟨g, 3, none⟩ = some (.int .i64 (wrap64 H))) (go_keep)
        (first
        | (go_at_call 56; refine (phull_any _ _ X _ (by assumption)).mono ?_; rintro e w3 ⟨rfl, hb3⟩; have e0 := Ok.cell hb3 sX m0; have e1 := Ok.cell hb3 sX m1; have e2 := Ok.cell hb3 sX m2; have e3 := Ok.cell hb3 sX m3; obtain ⟨k0, k1, k2, k3⟩ := row_facts (Ok.row' hb3 HX.out.1))
        | (go_at_call 54; refine (pexact_any _ _ X _ (by assumption)).mono ?_; rintro e w3 ⟨rfl, hb3⟩; have e0 := Ok.cell hb3 sX m0; have e1 := Ok.cell hb3 sX m1; have e2 := Ok.cell hb3 sX m2; have e3 := Ok.cell hb3 sX m3; obtain ⟨k0, k1, k2, k3⟩ := row_facts (Ok.row' hb3 HX.out.1))
        | fail)
      go_wp2_with fail
      (try simp only [Exit.inBlock, Exit.then])
      refine bodyPost_ret (results_iv rfl _ _ (w.heap.size + 2) 23 #[_, _] (0, 0) _ rfl (row_set2 (Ok.row' hb3 HX.out.1) _ _) Try.underlying23 rfl infoI) rfl ?_
      have hw := HW.out.2.2
      exact ⟨retib' E.out, ((Ok.step HX.out.2 hb3).set (show w0.heap.size ≤ w.heap.size + 2 by omega) _).set (show w0.heap.size ≤ w.heap.size + 2 by omega) _⟩
theorem mulW_is {al ah bl bh : Int} (hc : al ≤ ah) (hc2 : bl ≤ bh) : mulW (decide (al = ah) && decide (bl = bh)) (mulLo al ah bl bh) (mulHi al ah bl bh) = mulI al ah bl bh := by
  unfold mulI
  rw [if_neg (show ¬ (ah < al ∨ bh < bl) by omega)]
  have hle : mulLo al ah bl bh ≤ mulHi al ah bl bh := by unfold mulLo mulHi; omega
  have S := span_hullW hle
  by_cases h0 : In64 (mulLo al ah bl bh) ∧ In64 (mulHi al ah bl bh)
  · have hx : exW (mulLo al ah bl bh) (mulHi al ah bl bh) = true := by unfold exW; rw [decide_eq_true h0.1, decide_eq_true h0.2]; rfl
    rw [if_pos h0, mulW, if_pos (Or.inl hx), ← S, spanI, if_pos h0]
  · have hx : exW (mulLo al ah bl bh) (mulHi al ah bl bh) = false := by
      unfold exW
      by_cases h1 : In64 (mulLo al ah bl bh)
      · rw [decide_eq_false (fun h2 => h0 ⟨h1, h2⟩), Bool.and_false]
      · rw [decide_eq_false h1, Bool.false_and]
    rw [if_neg h0]
    by_cases h1 : al = ah ∧ bl = bh
    · obtain ⟨rfl, rfl⟩ := h1
      have e : mulHi al al bl bl = mulLo al al bl bl := by unfold mulLo mulHi; omega
      rw [if_pos ⟨rfl, rfl⟩, mulW, if_pos (Or.inr (by rw [decide_eq_true rfl, decide_eq_true rfl]; rfl)), hx, e]
      unfold hullW
      rw [if_pos rfl]
    · rw [if_neg h1, mulW, if_neg]
      rw [hx]
      rintro (h | h)
      · cases h
      · rw [Bool.and_eq_true, decide_eq_true_eq, decide_eq_true_eq] at h
        exact h1 h
set_option maxHeartbeats 1000000 in
theorem pmul_n (al ah bl bh : Int) (w0 w : World) (hok : Ok w0 w) (hc : ah < al ∨ bh < bl) :
    Calls Try.prog 30 #[.agg #[.int .i64 al, .int .i64 ah], .agg #[.int .i64 bl, .int .i64 bh]] w fun e w' => e = .returned (.tuple #[.agg #[.int .i64 1, .int .i64 0], .bool true]) ∧ Ok w0 w' := by
  by_cases h1 : ah < al
  · have d : decide (ah < al) = true := decide_eq_true h1
    go_enter Try.func30, Try.ntmps30
    go_wp2_with (first | (go_at_call 36; refine (pisnone_ex _ _ _).mono ?_; rintro e w' ⟨rfl, rfl⟩) | (go_at_call 51; refine (pnone_ex _).mono ?_; rintro e w' ⟨rfl, rfl⟩) | fail)
    (try simp only [Exit.inBlock, Exit.then]); refine bodyPost_ret (results_iv rfl _ _ (w.heap.size + 2) 23 #[_, _] (0, 0) _ rfl (by repeat (first | (refine heap_at _ _ _ ?hx; case hx => (first | (simp; done) | (simp; omega))) | (refine heap_past _ _ _ ?hy ?_; case hy => (first | (simp; done) | (simp; omega))) | fail)) Try.underlying23 rfl infoI) rfl ?_
    exact ⟨rfl, (by repeat (first | exact hok | refine Ok.alloc ?_ _ | refine Ok.draws ?_ _ | fail))⟩
  · have d : decide (ah < al) = false := decide_eq_false h1
    have d2 : decide (bh < bl) = true := decide_eq_true (by omega)
    go_enter Try.func30, Try.ntmps30
    go_wp2_with (first | (go_at_call 36; refine (pisnone_ex _ _ _).mono ?_; rintro e w' ⟨rfl, rfl⟩) | (go_at_call 51; refine (pnone_ex _).mono ?_; rintro e w' ⟨rfl, rfl⟩) | fail)
    (try simp only [Exit.inBlock, Exit.then]); refine bodyPost_ret (results_iv rfl _ _ (w.heap.size + 2) 23 #[_, _] (0, 0) _ rfl (by repeat (first | (refine heap_at _ _ _ ?hx; case hx => (first | (simp; done) | (simp; omega))) | (refine heap_past _ _ _ ?hy ?_; case hy => (first | (simp; done) | (simp; omega))) | fail)) Try.underlying23 rfl infoI) rfl ?_
    exact ⟨rfl, (by repeat (first | exact hok | refine Ok.alloc ?_ _ | refine Ok.draws ?_ _ | fail))⟩
theorem pmul_any (al ah bl bh : Int) (w0 w : World) (hok : Ok w0 w) (ha1 : In64 al) (ha2 : In64 ah) (hb1 : In64 bl) (hb2 : In64 bh) :
    Calls Try.prog 30 #[.agg #[.int .i64 al, .int .i64 ah], .agg #[.int .i64 bl, .int .i64 bh]] w fun e w' => e = .returned (.tuple #[.agg #[.int .i64 (mulI al ah bl bh).1, .int .i64 (mulI al ah bl bh).2.1], .bool (mulI al ah bl bh).2.2]) ∧ Ok w0 w' := by
  by_cases h : ah < al ∨ bh < bl
  · rw [mul_none h]
    exact pmul_n al ah bl bh w0 w hok h
  · rw [← mulW_is (show al ≤ ah by omega) (show bl ≤ bh by omega)]
    exact pmul_c _ al ah bl bh _ _ rfl w0 w hok (op_pro ha1 ha2 hb1 hb2) (cL_mul al ah bl bh) (by omega) (by omega)
end Go.Proofs.Ytdbdgpcbhojcnaa
