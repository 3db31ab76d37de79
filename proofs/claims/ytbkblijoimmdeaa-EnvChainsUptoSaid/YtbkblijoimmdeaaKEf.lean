import Derived.Deep.RegionWith
import Derived.Test.YtbkblijoimmdeaaKEd
set_option linter.unusedVariables false
set_option linter.unusedSimpArgs false
set_option linter.unnecessarySimpa false
/- Ef -/
namespace Go.Proofs.Ytbkblijoimmdeaa
open Go.RowKit
theorem eNorm_at (x : ET) (xv : Value) (hx : RawE x) {B : Nat} (W w : World) (hok : Ok W w) (hE : EnvIs B W xv x) :
    Calls Try.prog 8 #[xv] w fun e w' => ∃ r, e = .returned r ∧ EnvIs W.heap.size w' r (normE x) ∧ Ok w w' ∧ Ok W w' := by
  refine (eNorm_any x xv hx w (hE.ok hok)).mono ?_
  rintro e w' ⟨r, rfl, h, hb⟩
  exact ⟨r, rfl, h.mono hok.le, hb, hok.step hb⟩
/-- An Env that lies at a place: its lists. -/
theorem EnvIs.lists {B : Nat} {w : World} {p : Bool} {so sp : Option Addr} {n m sc sd : Nat} {X : ET} (h : EnvIs B w (.agg #[.bool p, .slice so n sc, .slice sp m sd]) X) : SNs B w so X.2.1 ∧ SNs B w sp X.2.2 ∧ n = X.2.1.length ∧ m = X.2.2.length ∧ X.2.1.length ≤ 3518437208883 ∧ X.2.2.length ≤ 3518437208883 := by
  obtain ⟨vo, vc, ao, ac, e, h1, h2, h3, h4⟩ := h
  simp only [Value.agg.injEq, Array.mk.injEq, List.cons.injEq, Value.slice.injEq, Value.bool.injEq] at e
  obtain ⟨_, ⟨e1, e2, _⟩, ⟨e3, e4, _⟩, _⟩ := e
  subst e1 e2 e3 e4
  exact ⟨h1, h2, rfl, rfl, h3, h4⟩
def NPE (R : Act → World → Prop) : Exit → Act → World → Prop
  | .normal, a, w => R a w
  | _, _, _ => False
theorem wp_cutE {P : Program} {c : Code} {Q : Exit → Act → World → Prop} {a : Act} {w : World} (R : Act → World → Prop) (h1 : c.wp P (NPE R) a w) (h2 : ∀ a' w', R a' w' → Q .normal a' w') : c.wp P Q a w :=
  Code.wp_mono (fun e a w h => by cases e <;> first | exact h2 _ _ h | exact (h : False).elim) h1
theorem enorm2_end {w W w2 : World} {g k : Nat} {c0 c1 c2 d0 d1 d2 : Value} {t : TypeId} (hW : Ok w W) (h2 : Ok W w2) (ra : W.heap[g]? = some (.cells #[c0, c1, c2] t (0, 0))) (rb : W.heap[k]? = some (.cells #[d0, d1, d2] t (0, 0))) (hg : w.heap.size ≤ g) (hk : w.heap.size ≤ k) (hgk : ¬ g = k) (lg : g < W.heap.size) (lk : k < W.heap.size) {xv yv : Value} {X Y : ET} (EX : EnvIs W.heap.size w2 xv X) (EY : EnvIs W.heap.size w2 yv Y) (x0 x1 x2 y0 y1 y2 : Value) :
    Hid (Ok w ((((((w2.setCell ⟨g, 0, none⟩ x0).setCell ⟨g, 1, none⟩ x1).setCell ⟨g, 2, none⟩ x2).setCell ⟨k, 0, none⟩ y0).setCell ⟨k, 1, none⟩ y1).setCell ⟨k, 2, none⟩ y2)) ∧
    Hid (((((((w2.setCell ⟨g, 0, none⟩ x0).setCell ⟨g, 1, none⟩ x1).setCell ⟨g, 2, none⟩ x2).setCell ⟨k, 0, none⟩ y0).setCell ⟨k, 1, none⟩ y1).setCell ⟨k, 2, none⟩ y2).heap[g]? = some (.cells #[x0, x1, x2] t (0, 0))) ∧
    Hid (((((((w2.setCell ⟨g, 0, none⟩ x0).setCell ⟨g, 1, none⟩ x1).setCell ⟨g, 2, none⟩ x2).setCell ⟨k, 0, none⟩ y0).setCell ⟨k, 1, none⟩ y1).setCell ⟨k, 2, none⟩ y2).heap[k]? = some (.cells #[y0, y1, y2] t (0, 0))) ∧
    Hid (EnvIs W.heap.size ((((((w2.setCell ⟨g, 0, none⟩ x0).setCell ⟨g, 1, none⟩ x1).setCell ⟨g, 2, none⟩ x2).setCell ⟨k, 0, none⟩ y0).setCell ⟨k, 1, none⟩ y1).setCell ⟨k, 2, none⟩ y2) xv X) ∧
    Hid (EnvIs W.heap.size ((((((w2.setCell ⟨g, 0, none⟩ x0).setCell ⟨g, 1, none⟩ x1).setCell ⟨g, 2, none⟩ x2).setCell ⟨k, 0, none⟩ y0).setCell ⟨k, 1, none⟩ y1).setCell ⟨k, 2, none⟩ y2) yv Y) ∧
    (W.heap.size ≤ ((((((w2.setCell ⟨g, 0, none⟩ x0).setCell ⟨g, 1, none⟩ x1).setCell ⟨g, 2, none⟩ x2).setCell ⟨k, 0, none⟩ y0).setCell ⟨k, 1, none⟩ y1).setCell ⟨k, 2, none⟩ y2).heap.size) ∧
    (∀ (h : Nat) (o : Obj), h ≠ g → h ≠ k → W.heap[h]? = some o → ((((((w2.setCell ⟨g, 0, none⟩ x0).setCell ⟨g, 1, none⟩ x1).setCell ⟨g, 2, none⟩ x2).setCell ⟨k, 0, none⟩ y0).setCell ⟨k, 1, none⟩ y1).setCell ⟨k, 2, none⟩ y2).heap[h]? = some o) := by
  have a2 := Ok.row' h2 ra
  have b2 := Ok.row' h2 rb
  have s1 := erow_set3 a2 x0 x1 x2
  have o1 : ∀ (v : World) (p q r : Value) (h : Nat), h ≠ g → (((v.setCell ⟨g, 0, none⟩ p).setCell ⟨g, 1, none⟩ q).setCell ⟨g, 2, none⟩ r).heap[h]? = v.heap[h]? := fun v p q r h hh => by
    rw [heap_setCell_other _ _ _ _ hh, heap_setCell_other _ _ _ _ hh, heap_setCell_other _ _ _ _ hh]
  have o2 : ∀ (v : World) (p q r : Value) (h : Nat), h ≠ k → (((v.setCell ⟨k, 0, none⟩ p).setCell ⟨k, 1, none⟩ q).setCell ⟨k, 2, none⟩ r).heap[h]? = v.heap[h]? := fun v p q r h hh => by
    rw [heap_setCell_other _ _ _ _ hh, heap_setCell_other _ _ _ _ hh, heap_setCell_other _ _ _ _ hh]
  refine ⟨set3_ok (set3_ok (hW.step h2) hg _ _ _) hk _ _ _, ?_, ?_, (EX.set3 lg _ _ _).set3 lk _ _ _, (EY.set3 lg _ _ _).set3 lk _ _ _, by simpa using h2.le, ?_⟩
  · exact (o2 _ _ _ _ g hgk).trans s1
  · exact erow_set3 ((o1 _ _ _ _ k (fun e => hgk e.symm)).trans b2) _ _ _
  · exact fun h o e1 e2 e3 => ((o2 _ _ _ _ h e2).trans (o1 _ _ _ _ h e1)).trans (Ok.row' h2 e3)
set_option maxRecDepth 100000 in
set_option maxHeartbeats 4000000 in
theorem eLeq_any (x y : ET) (xv yv : Value) (hx : RawE x) (hy : RawE y) {B C : Nat} (w0 w : World) (hok : Ok w0 w) (hX : EnvIs B w xv x) (hY : EnvIs C w yv y) :
    Calls Try.prog 9 #[xv, yv] w fun e w' => e = .returned (.bool (leq0 (normE x) (normE y))) ∧ Ok w0 w' := by
  have Ex0 := hX
  obtain ⟨po, pc, pp, pd, ex, _, _, _, _⟩ := hX
  subst ex
  have Ex : Hid (EnvIs B w (.agg #[.bool x.1, .slice po x.2.1.length pc, .slice pp x.2.2.length pd]) x) := Ex0
  have Rx : Hid (RawE x) := hx
  clear Ex0 hx
  have Ey0 := hY
  obtain ⟨qo, qc, qp, qd, ey, _, _, _, _⟩ := hY
  subst ey
  have Ey : Hid (EnvIs C w (.agg #[.bool y.1, .slice qo y.2.1.length qc, .slice qp y.2.2.length qd]) y) := Ey0
  have Ry : Hid (RawE y) := hy
  clear Ey0 hy
  have HO : Hid (Ok w0 w) := hok
  clear hok
  obtain ⟨X, hX⟩ : ∃ X, X = normE x := ⟨_, rfl⟩
  obtain ⟨Y, hY⟩ : ∃ X, X = normE y := ⟨_, rfl⟩
  rw [← hX, ← hY]
  have HX : Hid _ := hX
  have HY : Hid _ := hY
  have NX : Hid (NorE X) := by unfold Hid; rw [hX]; exact normE_nor Rx.out
  have NY : Hid (NorE Y) := by unfold Hid; rw [hY]; exact normE_nor Ry.out
  clear hX hY
  obtain ⟨L, hL⟩ : ∃ L, L = leq0 X Y := ⟨_, rfl⟩
  rw [← hL]
  have HL : Hid (L = leq0 X Y) := hL
  clear hL
  go_enter Try.func9, Try.ntmps9
  go_wp2_with fail
  obtain ⟨W, hW⟩ : ∃ W, W = ((w).alloc (.cells #[.bool x.1, .slice po x.2.1.length pc, .slice pp x.2.2.length pd] 24)).alloc (.cells #[.bool y.1, .slice qo y.2.1.length qc, .slice qp y.2.2.length qd] 24) := ⟨_, rfl⟩
  have rx : Hid (W.heap[w.heap.size]? = some (.cells #[.bool x.1, .slice po x.2.1.length pc, .slice pp x.2.2.length pd] 24)) := by unfold Hid; rw [hW]; exact (by repeat (first | (refine heap_at _ _ _ ?hx; case hx => (first | (simp; done) | (simp; omega))) | (refine heap_past _ _ _ ?hy ?_; case hy => (first | (simp; done) | (simp; omega))) | fail))
  have ry : Hid (W.heap[w.heap.size + 1]? = some (.cells #[.bool y.1, .slice qo y.2.1.length qc, .slice qp y.2.2.length qd] 24)) := by unfold Hid; rw [hW]; exact (by repeat (first | (refine heap_at _ _ _ ?hx; case hx => (first | (simp; done) | (simp; omega))) | (refine heap_past _ _ _ ?hy ?_; case hy => (first | (simp; done) | (simp; omega))) | fail))
  have HW : Hid (Ok w W) := by unfold Hid; rw [hW]; have hok := Ok.refl w; exact (by repeat (first | exact hok | refine Ok.alloc ?_ _ | refine Ok.draws ?_ _ | fail))
  rw [← hW]
  clear hW
  obtain ⟨gy, egy⟩ : ∃ g, g = w.heap.size + 1 := ⟨_, rfl⟩
  rw [← egy] at ry ⊢
  obtain ⟨gx, egx⟩ : ∃ g, g = w.heap.size := ⟨_, rfl⟩
  rw [← egx] at rx ⊢
  have lgx : w.heap.size ≤ gx := by omega
  have nxy : ¬ gx = gy := by omega
  have lgy : w.heap.size ≤ gy := by omega
  have nyx : ¬ gy = gx := by omega
  clear egx egy
  have ExW : Hid (EnvIs B W (.agg #[.bool x.1, .slice po x.2.1.length pc, .slice pp x.2.2.length pd]) x) := Ex.out.ok HW.out
  have EyW : Hid (EnvIs C W (.agg #[.bool y.1, .slice qo y.2.1.length qc, .slice qp y.2.2.length qd]) y) := Ey.out.ok HW.out
  have Lx : Hid (gx < W.heap.size) := lt_row rx.out
  have Ly : Hid (gy < W.heap.size) := lt_row ry.out
  refine wp_cutE (fun a' w' => ∃ (so sp to tp : Option Addr) (sc sd tc td : Nat), a' = { tmps := #[.agg #[.bool x.1, .slice po x.2.1.length pc, .slice pp x.2.2.length pd], .agg #[.bool y.1, .slice qo y.2.1.length qc, .slice qp y.2.2.length qd], .pointer (some ⟨gx, 0, none⟩), .pointer (some ⟨gy, 0, none⟩), .bool false, .agg #[.bool x.1, .slice po x.2.1.length pc, .slice pp x.2.2.length pd], .agg #[.bool X.1, .slice so X.2.1.length sc, .slice sp X.2.2.length sd], .agg #[.bool y.1, .slice qo y.2.1.length qc, .slice qp y.2.2.length qd], .agg #[.bool Y.1, .slice to Y.2.1.length tc, .slice tp Y.2.2.length td], undef, undef, undef, undef, undef, undef, undef, undef, undef, undef, undef, undef, undef, undef, undef, undef, undef, undef, undef, undef], defers := [] } ∧ Hid (Ok w w') ∧ Hid (w'.heap[gx]? = some (.cells #[.bool X.1, .slice so X.2.1.length sc, .slice sp X.2.2.length sd] 24 (0, 0))) ∧ Hid (w'.heap[gy]? = some (.cells #[.bool Y.1, .slice to Y.2.1.length tc, .slice tp Y.2.2.length td] 24 (0, 0))) ∧ Hid (EnvIs W.heap.size w' (.agg #[.bool X.1, .slice so X.2.1.length sc, .slice sp X.2.2.length sd]) X) ∧ Hid (EnvIs W.heap.size w' (.agg #[.bool Y.1, .slice to Y.2.1.length tc, .slice tp Y.2.2.length td]) Y) ∧ (W.heap.size ≤ w'.heap.size) ∧ (∀ (h : Nat) (o : Obj), h ≠ gx → h ≠ gy → W.heap[h]? = some o → w'.heap[h]? = some o)) ?h1 ?h2
  case h1 =>
    obtain ⟨a0, a1, a2, a3, a4, a5⟩ := erow3_facts rx.out
    obtain ⟨b0, b1, b2, b3, b4, b5⟩ := erow3_facts ry.out
    have bz : Ok W W := Ok.refl _
    go_region_with (first
      | (go_at_call_of 8 (Value.slice po x.2.1.length pc); refine (eNorm_at x _ Rx.out W _ (by repeat (first | assumption | refine Below.drew ?_)) ExW.out).mono ?_; rintro e w1 ⟨r1, rfl, hE, hx1, hb⟩; rw [← HX.out] at hE; have EX : Hid (EnvIs W.heap.size w1 r1 X) := hE; obtain ⟨so, sc, sp, sd, e3, _, _, _, _⟩ := hE; subst e3; have O1 : Hid (Ok W w1) := hb; have z1 := Ok.refl w1; obtain ⟨a0, a1, a2, a3, a4, a5⟩ := erow3_facts (Ok.row' hb rx.out); obtain ⟨b0, b1, b2, b3, b4, b5⟩ := erow3_facts (Ok.row' hb ry.out))
      | (go_at_call_of 8 (Value.slice qo y.2.1.length qc); refine (eNorm_at y _ Ry.out W _ (by repeat (first | assumption | refine Below.drew ?_)) EyW.out).mono ?_; rintro e w2 ⟨r2, rfl, hE, hx2, hb⟩; rw [← HY.out] at hE; have EY : Hid (EnvIs W.heap.size w2 r2 Y) := hE; obtain ⟨to, tc, tp, td, e3, _, _, _, _⟩ := hE; subst e3; have O2 : Hid (Ok W w2) := hb; have z12 : Hid (Ok w1 w2) := Ok.step (by repeat (first | assumption | refine Below.drew ?_)) hx2; have z2 := Ok.refl w2; obtain ⟨a0, a1, a2, a3, a4, a5⟩ := erow3_facts (Ok.row' hb rx.out); obtain ⟨b0, b1, b2, b3, b4, b5⟩ := erow3_facts (Ok.row' hb ry.out))
      | fail)
    all_goals (refine ⟨so, sp, to, tp, sc, sd, tc, td, rfl, ?_⟩)
    all_goals exact enorm2_end (HW.out) O2.out rx.out ry.out lgx lgy nxy Lx.out Ly.out (EX.out.ok z12.out) EY.out _ _ _ _ _ _
  case h2 =>
    rintro a' Z ⟨so, sp, to, tp, sc, sd, tc, td, rfl, HZ, rX, rY, EX, EY, SZ, keep⟩
    clear rx ry
    clear keep
    rcases Bool.eq_false_or_eq_true X.1 with hX | hX
    · have HR : Hid (L = true) := by unfold Hid; rw [HL.out]; unfold leq0; rw [hX]; rfl
      obtain ⟨a0, a1, a2, a3, a4, a5⟩ := erow3_facts rX.out
      obtain ⟨b0, b1, b2, b3, b4, b5⟩ := erow3_facts rY.out
      rw [hX] at a0
      go_wp2_with fail
      go_ret
      exact ⟨by rw [HR.out]; rfl, HO.out.step HZ.out⟩
    · rcases Bool.eq_false_or_eq_true Y.1 with hY | hY
      · have HR : Hid (L = false) := by unfold Hid; rw [HL.out]; unfold leq0; rw [hX, hY]; rfl
        obtain ⟨a0, a1, a2, a3, a4, a5⟩ := erow3_facts rX.out
        obtain ⟨b0, b1, b2, b3, b4, b5⟩ := erow3_facts rY.out
        rw [hX] at a0
        rw [hY] at b0
        go_wp2_with fail
        go_ret
        exact ⟨by rw [HR.out]; rfl, HO.out.step HZ.out⟩
      · obtain ⟨b1, hb1⟩ : ∃ b, b = eqF lqN X.2.1 Y.2.1 := ⟨_, rfl⟩
        obtain ⟨b2, hb2⟩ : ∃ b, b = eqF lqN X.2.2 Y.2.2 := ⟨_, rfl⟩
        have HR0 : Hid (L = (b1 && b2)) := by unfold Hid; rw [HL.out, hb1, hb2]; unfold leq0; rw [hX, hY]; rfl
        have HB1 : Hid _ := hb1
        have HB2 : Hid _ := hb2
        clear hb1 hb2
        obtain ⟨a0, a1, a2, a3, a4, a5⟩ := erow3_facts rX.out
        obtain ⟨b0, b1, b2, b3, b4, b5⟩ := erow3_facts rY.out
        rw [hX] at a0
        rw [hY] at b0
        clear hX hY
        go_wp2_with fail
        clear a0 a1 a2 a3 a4 a5
        clear b0 b1 b2 b3 b4 b5
        refine (eeqLeq_any X.2.1 Y.2.1 _ _ _ _ NX.out.raw.1 NY.out.raw.1 EX.out.lists.2.2.2.2.1 EY.out.lists.2.2.2.2.1 Z _ (Ok.refl _) EX.out.lists.1 EY.out.lists.1).mono ?_
        rintro e w3 ⟨rfl, hb⟩
        rw [← HB1.out]
        replace rX : Hid _ := Ok.row' hb rX.out
        replace rY : Hid _ := Ok.row' hb rY.out
        have Z3 : Hid (Ok Z w3) := hb
        clear hb
        cases b1
        · have HR : Hid (L = false) := by unfold Hid; rw [HR0.out]; rfl
          go_wp2_with fail
          go_ret
          exact ⟨by rw [HR.out]; rfl, HO.out.step (HZ.out.step Z3.out)⟩
        · replace HR0 : Hid (L = b2) := by unfold Hid; rw [HR0.out]; rfl
          obtain ⟨a0, a1, a2, a3, a4, a5⟩ := erow3_facts rX.out
          obtain ⟨b0, b1, b2, b3, b4, b5⟩ := erow3_facts rY.out
          go_wp2_with fail
          clear a0 a1 a2 a3 a4 a5
          clear b0 b1 b2 b3 b4 b5
          refine (eeqLeq_any X.2.2 Y.2.2 _ _ _ _ NX.out.raw.2 NY.out.raw.2 EX.out.lists.2.2.2.2.2 EY.out.lists.2.2.2.2.2 Z _ Z3.out (EX.out.lists.2.1.ok Z3.out) (EY.out.lists.2.1.ok Z3.out)).mono ?_
          rintro e w4 ⟨rfl, hb⟩
          rw [← HB2.out]
          have Z4 : Hid (Ok Z w4) := hb
          clear hb
          have HR : Hid _ := HR0
          go_wp2_with fail
          go_ret
          exact ⟨by rw [HR.out]; rfl, HO.out.step (HZ.out.step Z4.out)⟩
set_option maxRecDepth 100000 in
set_option maxHeartbeats 4000000 in
theorem eSame_any (x y : ET) (xv yv : Value) (hx : RawE x) (hy : RawE y) {B C : Nat} (w0 w : World) (hok : Ok w0 w) (hX : EnvIs B w xv x) (hY : EnvIs C w yv y) :
    Calls Try.prog 14 #[xv, yv] w fun e w' => e = .returned (.bool (same0 (normE x) (normE y))) ∧ Ok w0 w' := by
  have Ex0 := hX
  obtain ⟨po, pc, pp, pd, ex, _, _, _, _⟩ := hX
  subst ex
  have Ex : Hid (EnvIs B w (.agg #[.bool x.1, .slice po x.2.1.length pc, .slice pp x.2.2.length pd]) x) := Ex0
  have Rx : Hid (RawE x) := hx
  clear Ex0 hx
  have Ey0 := hY
  obtain ⟨qo, qc, qp, qd, ey, _, _, _, _⟩ := hY
  subst ey
  have Ey : Hid (EnvIs C w (.agg #[.bool y.1, .slice qo y.2.1.length qc, .slice qp y.2.2.length qd]) y) := Ey0
  have Ry : Hid (RawE y) := hy
  clear Ey0 hy
  have HO : Hid (Ok w0 w) := hok
  clear hok
  obtain ⟨X, hX⟩ : ∃ X, X = normE x := ⟨_, rfl⟩
  obtain ⟨Y, hY⟩ : ∃ X, X = normE y := ⟨_, rfl⟩
  rw [← hX, ← hY]
  have HX : Hid _ := hX
  have HY : Hid _ := hY
  have NX : Hid (NorE X) := by unfold Hid; rw [hX]; exact normE_nor Rx.out
  have NY : Hid (NorE Y) := by unfold Hid; rw [hY]; exact normE_nor Ry.out
  clear hX hY
  obtain ⟨L, hL⟩ : ∃ L, L = same0 X Y := ⟨_, rfl⟩
  rw [← hL]
  have HL : Hid (L = same0 X Y) := hL
  clear hL
  go_enter Try.func14, Try.ntmps14
  go_wp2_with fail
  obtain ⟨W, hW⟩ : ∃ W, W = ((w).alloc (.cells #[.bool x.1, .slice po x.2.1.length pc, .slice pp x.2.2.length pd] 24)).alloc (.cells #[.bool y.1, .slice qo y.2.1.length qc, .slice qp y.2.2.length qd] 24) := ⟨_, rfl⟩
  have rx : Hid (W.heap[w.heap.size]? = some (.cells #[.bool x.1, .slice po x.2.1.length pc, .slice pp x.2.2.length pd] 24)) := by unfold Hid; rw [hW]; exact (by repeat (first | (refine heap_at _ _ _ ?hx; case hx => (first | (simp; done) | (simp; omega))) | (refine heap_past _ _ _ ?hy ?_; case hy => (first | (simp; done) | (simp; omega))) | fail))
  have ry : Hid (W.heap[w.heap.size + 1]? = some (.cells #[.bool y.1, .slice qo y.2.1.length qc, .slice qp y.2.2.length qd] 24)) := by unfold Hid; rw [hW]; exact (by repeat (first | (refine heap_at _ _ _ ?hx; case hx => (first | (simp; done) | (simp; omega))) | (refine heap_past _ _ _ ?hy ?_; case hy => (first | (simp; done) | (simp; omega))) | fail))
  have HW : Hid (Ok w W) := by unfold Hid; rw [hW]; have hok := Ok.refl w; exact (by repeat (first | exact hok | refine Ok.alloc ?_ _ | refine Ok.draws ?_ _ | fail))
  rw [← hW]
  clear hW
  obtain ⟨gy, egy⟩ : ∃ g, g = w.heap.size + 1 := ⟨_, rfl⟩
  rw [← egy] at ry ⊢
  obtain ⟨gx, egx⟩ : ∃ g, g = w.heap.size := ⟨_, rfl⟩
  rw [← egx] at rx ⊢
  have lgx : w.heap.size ≤ gx := by omega
  have nxy : ¬ gx = gy := by omega
  have lgy : w.heap.size ≤ gy := by omega
  have nyx : ¬ gy = gx := by omega
  clear egx egy
  have ExW : Hid (EnvIs B W (.agg #[.bool x.1, .slice po x.2.1.length pc, .slice pp x.2.2.length pd]) x) := Ex.out.ok HW.out
  have EyW : Hid (EnvIs C W (.agg #[.bool y.1, .slice qo y.2.1.length qc, .slice qp y.2.2.length qd]) y) := Ey.out.ok HW.out
  have Lx : Hid (gx < W.heap.size) := lt_row rx.out
  have Ly : Hid (gy < W.heap.size) := lt_row ry.out
  refine wp_cutE (fun a' w' => ∃ (so sp to tp : Option Addr) (sc sd tc td : Nat), a' = { tmps := #[.agg #[.bool x.1, .slice po x.2.1.length pc, .slice pp x.2.2.length pd], .agg #[.bool y.1, .slice qo y.2.1.length qc, .slice qp y.2.2.length qd], .pointer (some ⟨gx, 0, none⟩), .pointer (some ⟨gy, 0, none⟩), .bool false, .agg #[.bool x.1, .slice po x.2.1.length pc, .slice pp x.2.2.length pd], .agg #[.bool X.1, .slice so X.2.1.length sc, .slice sp X.2.2.length sd], .agg #[.bool y.1, .slice qo y.2.1.length qc, .slice qp y.2.2.length qd], .agg #[.bool Y.1, .slice to Y.2.1.length tc, .slice tp Y.2.2.length td], undef, undef, undef, undef, undef, undef, undef, undef, undef, undef, undef, undef, undef, undef, undef, undef, undef, undef, undef], defers := [] } ∧ Hid (Ok w w') ∧ Hid (w'.heap[gx]? = some (.cells #[.bool X.1, .slice so X.2.1.length sc, .slice sp X.2.2.length sd] 24 (0, 0))) ∧ Hid (w'.heap[gy]? = some (.cells #[.bool Y.1, .slice to Y.2.1.length tc, .slice tp Y.2.2.length td] 24 (0, 0))) ∧ Hid (EnvIs W.heap.size w' (.agg #[.bool X.1, .slice so X.2.1.length sc, .slice sp X.2.2.length sd]) X) ∧ Hid (EnvIs W.heap.size w' (.agg #[.bool Y.1, .slice to Y.2.1.length tc, .slice tp Y.2.2.length td]) Y) ∧ (W.heap.size ≤ w'.heap.size) ∧ (∀ (h : Nat) (o : Obj), h ≠ gx → h ≠ gy → W.heap[h]? = some o → w'.heap[h]? = some o)) ?h1 ?h2
  case h1 =>
    obtain ⟨a0, a1, a2, a3, a4, a5⟩ := erow3_facts rx.out
    obtain ⟨b0, b1, b2, b3, b4, b5⟩ := erow3_facts ry.out
    have bz : Ok W W := Ok.refl _
    go_region_with (first
      | (go_at_call_of 8 (Value.slice po x.2.1.length pc); refine (eNorm_at x _ Rx.out W _ (by repeat (first | assumption | refine Below.drew ?_)) ExW.out).mono ?_; rintro e w1 ⟨r1, rfl, hE, hx1, hb⟩; rw [← HX.out] at hE; have EX : Hid (EnvIs W.heap.size w1 r1 X) := hE; obtain ⟨so, sc, sp, sd, e3, _, _, _, _⟩ := hE; subst e3; have O1 : Hid (Ok W w1) := hb; have z1 := Ok.refl w1; obtain ⟨a0, a1, a2, a3, a4, a5⟩ := erow3_facts (Ok.row' hb rx.out); obtain ⟨b0, b1, b2, b3, b4, b5⟩ := erow3_facts (Ok.row' hb ry.out))
      | (go_at_call_of 8 (Value.slice qo y.2.1.length qc); refine (eNorm_at y _ Ry.out W _ (by repeat (first | assumption | refine Below.drew ?_)) EyW.out).mono ?_; rintro e w2 ⟨r2, rfl, hE, hx2, hb⟩; rw [← HY.out] at hE; have EY : Hid (EnvIs W.heap.size w2 r2 Y) := hE; obtain ⟨to, tc, tp, td, e3, _, _, _, _⟩ := hE; subst e3; have O2 : Hid (Ok W w2) := hb; have z12 : Hid (Ok w1 w2) := Ok.step (by repeat (first | assumption | refine Below.drew ?_)) hx2; have z2 := Ok.refl w2; obtain ⟨a0, a1, a2, a3, a4, a5⟩ := erow3_facts (Ok.row' hb rx.out); obtain ⟨b0, b1, b2, b3, b4, b5⟩ := erow3_facts (Ok.row' hb ry.out))
      | fail)
    all_goals (refine ⟨so, sp, to, tp, sc, sd, tc, td, rfl, ?_⟩)
    all_goals exact enorm2_end (HW.out) O2.out rx.out ry.out lgx lgy nxy Lx.out Ly.out (EX.out.ok z12.out) EY.out _ _ _ _ _ _
  case h2 =>
    rintro a' Z ⟨so, sp, to, tp, sc, sd, tc, td, rfl, HZ, rX, rY, EX, EY, SZ, keep⟩
    clear rx ry
    clear keep
    rcases Bool.eq_false_or_eq_true X.1 with hX | hX
    · rcases Bool.eq_false_or_eq_true Y.1 with hY | hY
      · obtain ⟨b1, hb1⟩ : ∃ b, b = decide (X.2.1 = Y.2.1) := ⟨_, rfl⟩
        obtain ⟨b2, hb2⟩ : ∃ b, b = decide (X.2.2 = Y.2.2) := ⟨_, rfl⟩
        have HR0 : Hid (L = (b1 && b2)) := by unfold Hid; rw [HL.out, hb1, hb2]; unfold same0; rw [hX, hY]; rfl
        have HB1 : Hid _ := hb1
        have HB2 : Hid _ := hb2
        clear hb1 hb2
        obtain ⟨a0, a1, a2, a3, a4, a5⟩ := erow3_facts rX.out
        obtain ⟨b0, b1, b2, b3, b4, b5⟩ := erow3_facts rY.out
        rw [hX] at a0
        rw [hY] at b0
        clear hX hY
        go_wp2_with fail
        clear a0 a1 a2 a3 a4 a5
        clear b0 b1 b2 b3 b4 b5
        refine (eEqual_any X.2.1 Y.2.1 _ _ _ _ EX.out.lists.2.2.2.2.1 EY.out.lists.2.2.2.2.1 Z _ (Ok.refl _) EX.out.lists.1 EY.out.lists.1).mono ?_
        rintro e w3 ⟨rfl, hb⟩
        rw [← HB1.out]
        replace rX : Hid _ := Ok.row' hb rX.out
        replace rY : Hid _ := Ok.row' hb rY.out
        have Z3 : Hid (Ok Z w3) := hb
        clear hb
        cases b1
        · have HR : Hid (L = false) := by unfold Hid; rw [HR0.out]; rfl
          go_wp2_with fail
          go_ret
          exact ⟨by rw [HR.out]; rfl, HO.out.step (HZ.out.step Z3.out)⟩
        · replace HR0 : Hid (L = b2) := by unfold Hid; rw [HR0.out]; rfl
          obtain ⟨a0, a1, a2, a3, a4, a5⟩ := erow3_facts rX.out
          obtain ⟨b0, b1, b2, b3, b4, b5⟩ := erow3_facts rY.out
          go_wp2_with fail
          clear a0 a1 a2 a3 a4 a5
          clear b0 b1 b2 b3 b4 b5
          refine (eEqual_any X.2.2 Y.2.2 _ _ _ _ EX.out.lists.2.2.2.2.2 EY.out.lists.2.2.2.2.2 Z _ Z3.out (EX.out.lists.2.1.ok Z3.out) (EY.out.lists.2.1.ok Z3.out)).mono ?_
          rintro e w4 ⟨rfl, hb⟩
          rw [← HB2.out]
          have Z4 : Hid (Ok Z w4) := hb
          clear hb
          have HR : Hid _ := HR0
          go_wp2_with fail
          go_ret
          exact ⟨by rw [HR.out]; rfl, HO.out.step (HZ.out.step Z4.out)⟩
      · have HR : Hid (L = false) := by unfold Hid; rw [HL.out]; unfold same0; rw [hX, hY]; rfl
        obtain ⟨a0, a1, a2, a3, a4, a5⟩ := erow3_facts rX.out
        obtain ⟨b0, b1, b2, b3, b4, b5⟩ := erow3_facts rY.out
        rw [hX] at a0
        rw [hY] at b0
        go_wp2_with fail
        go_ret
        exact ⟨by rw [HR.out]; rfl, HO.out.step HZ.out⟩
    · rcases Bool.eq_false_or_eq_true Y.1 with hY | hY
      · have HR : Hid (L = false) := by unfold Hid; rw [HL.out]; unfold same0; rw [hX, hY]; rfl
        obtain ⟨a0, a1, a2, a3, a4, a5⟩ := erow3_facts rX.out
        obtain ⟨b0, b1, b2, b3, b4, b5⟩ := erow3_facts rY.out
        rw [hX] at a0
        rw [hY] at b0
        go_wp2_with fail
        go_ret
        exact ⟨by rw [HR.out]; rfl, HO.out.step HZ.out⟩
      · obtain ⟨b1, hb1⟩ : ∃ b, b = decide (X.2.1 = Y.2.1) := ⟨_, rfl⟩
        obtain ⟨b2, hb2⟩ : ∃ b, b = decide (X.2.2 = Y.2.2) := ⟨_, rfl⟩
        have HR0 : Hid (L = (b1 && b2)) := by unfold Hid; rw [HL.out, hb1, hb2]; unfold same0; rw [hX, hY]; rfl
        have HB1 : Hid _ := hb1
        have HB2 : Hid _ := hb2
        clear hb1 hb2
        obtain ⟨a0, a1, a2, a3, a4, a5⟩ := erow3_facts rX.out
        obtain ⟨b0, b1, b2, b3, b4, b5⟩ := erow3_facts rY.out
        rw [hX] at a0
        rw [hY] at b0
        clear hX hY
        go_wp2_with fail
        clear a0 a1 a2 a3 a4 a5
        clear b0 b1 b2 b3 b4 b5
        refine (eEqual_any X.2.1 Y.2.1 _ _ _ _ EX.out.lists.2.2.2.2.1 EY.out.lists.2.2.2.2.1 Z _ (Ok.refl _) EX.out.lists.1 EY.out.lists.1).mono ?_
        rintro e w3 ⟨rfl, hb⟩
        rw [← HB1.out]
        replace rX : Hid _ := Ok.row' hb rX.out
        replace rY : Hid _ := Ok.row' hb rY.out
        have Z3 : Hid (Ok Z w3) := hb
        clear hb
        cases b1
        · have HR : Hid (L = false) := by unfold Hid; rw [HR0.out]; rfl
          go_wp2_with fail
          go_ret
          exact ⟨by rw [HR.out]; rfl, HO.out.step (HZ.out.step Z3.out)⟩
        · replace HR0 : Hid (L = b2) := by unfold Hid; rw [HR0.out]; rfl
          obtain ⟨a0, a1, a2, a3, a4, a5⟩ := erow3_facts rX.out
          obtain ⟨b0, b1, b2, b3, b4, b5⟩ := erow3_facts rY.out
          go_wp2_with fail
          clear a0 a1 a2 a3 a4 a5
          clear b0 b1 b2 b3 b4 b5
          refine (eEqual_any X.2.2 Y.2.2 _ _ _ _ EX.out.lists.2.2.2.2.2 EY.out.lists.2.2.2.2.2 Z _ Z3.out (EX.out.lists.2.1.ok Z3.out) (EY.out.lists.2.1.ok Z3.out)).mono ?_
          rintro e w4 ⟨rfl, hb⟩
          rw [← HB2.out]
          have Z4 : Hid (Ok Z w4) := hb
          clear hb
          have HR : Hid _ := HR0
          go_wp2_with fail
          go_ret
          exact ⟨by rw [HR.out]; rfl, HO.out.step (HZ.out.step Z4.out)⟩
end Go.Proofs.Ytbkblijoimmdeaa
