import Derived.Test.YtbkblijoimmdeaaKEh
set_option linter.unusedVariables false
set_option linter.unusedSimpArgs false
set_option linter.unnecessarySimpa false
/- Ei -/
namespace Go.Proofs.Ytbkblijoimmdeaa
open Go.RowKit
theorem eLeq_at (x y : ET) (xv yv : Value) (hx : RawE x) (hy : RawE y) {B C : Nat} (W w : World) (hok : Ok W w) (hX : EnvIs B W xv x) (hY : EnvIs C W yv y) :
    Calls Try.prog 9 #[xv, yv] w fun e w' => e = .returned (.bool (leq0 (normE x) (normE y))) ∧ Ok W w' := eLeq_any x y xv yv hx hy W w hok (hX.ok hok) (hY.ok hok)
theorem eSame_at (x y : ET) (xv yv : Value) (hx : RawE x) (hy : RawE y) {B C : Nat} (W w : World) (hok : Ok W w) (hX : EnvIs B W xv x) (hY : EnvIs C W yv y) :
    Calls Try.prog 14 #[xv, yv] w fun e w' => e = .returned (.bool (same0 (normE x) (normE y))) ∧ Ok W w' := eSame_any x y xv yv hx hy W w hok (hX.ok hok) (hY.ok hok)
theorem eMeet_at (x y : ET) (xv yv : Value) (hx : RawE x) (hy : RawE y) {B C : Nat} (W w : World) (hok : Ok W w) (hX : EnvIs B W xv x) (hY : EnvIs C W yv y) :
    Calls Try.prog 11 #[xv, yv] w fun e w' => ∃ r, e = .returned r ∧ EnvIs W.heap.size w' r (meet0 (normE x) (normE y)) ∧ Ok W w' := by
  refine (eMeet_any x y xv yv hx hy w (hX.ok hok) (hY.ok hok)).mono ?_
  rintro e w' ⟨r, rfl, h, hb⟩
  exact ⟨r, rfl, h.mono hok.le, hok.step hb⟩
theorem eJoin_at (x y : ET) (xv yv : Value) (hx : RawE x) (hy : RawE y) {B C : Nat} (W w : World) (hok : Ok W w) (hX : EnvIs B W xv x) (hY : EnvIs C W yv y) :
    Calls Try.prog 12 #[xv, yv] w fun e w' => ∃ r, e = .returned r ∧ EnvIs W.heap.size w' r (tog0 joinN (normE x) (normE y)) ∧ Ok W w' := by
  refine (eJoin_any x y xv yv hx hy w (hX.ok hok) (hY.ok hok)).mono ?_
  rintro e w' ⟨r, rfl, h, hb⟩
  exact ⟨r, rfl, h.mono hok.le, hok.step hb⟩
theorem eWiden_at (x y : ET) (xv yv tv : Value) (ts : List Int) (hx : RawE x) (hy : RawE y) {B C : Nat} (W w : World) (hok : Ok W w) (hT : SInts W tv ts) (hX : EnvIs B W xv x) (hY : EnvIs C W yv y) :
    Calls Try.prog 13 #[xv, yv, tv] w fun e w' => ∃ r, e = .returned r ∧ EnvIs W.heap.size w' r (tog0 (fun a b => widenN a b ts) (normE x) (normE y)) ∧ Ok W w' := by
  refine (eWiden_any x y xv yv tv ts hx hy w (SInts.ok hT hok) (hX.ok hok) (hY.ok hok)).mono ?_
  rintro e w' ⟨r, rfl, h, hb⟩
  exact ⟨r, rfl, h.mono hok.le, hok.step hb⟩
set_option maxRecDepth 100000 in
set_option maxHeartbeats 8000000 in
theorem eshaped_any (x y : ET) (xv yv : Value) {B C : Nat} (w0 w : World) (hok : Ok w0 w) (hX : EnvIs B w xv x) (hY : EnvIs C w yv y) :
    Calls Try.prog 10 #[xv, yv] w fun e w' => e = .returned (.bool (shp0 x y)) ∧ Ok w0 w' := by
  obtain ⟨po, pc, pp, pd, ex, _, _, _, _⟩ := hX
  subst ex
  obtain ⟨qo, qc, qp, qd, ey, _, _, _, _⟩ := hY
  subst ey
  have HO : Hid (Ok w0 w) := hok
  obtain ⟨L, hL⟩ : ∃ L, L = shp0 x y := ⟨_, rfl⟩
  rw [← hL]
  have HL : Hid (L = shp0 x y) := hL
  clear hL
  obtain ⟨d, v, a⟩ := x
  obtain ⟨d2, v2, a2⟩ := y
  simp only
  cases d
  · cases d2
    · by_cases c1 : v.length = v2.length
      · by_cases c2 : a.length = a2.length
        · have HR : Hid (L = true) := by unfold Hid; rw [HL.out]; simp [shp0, c1, c2]
          have k1 : ((v.length : Int) == (v2.length : Int)) = true := by simp; omega
          have k2 : ((a.length : Int) == (a2.length : Int)) = true := by simp; omega
          clear c1 c2 HL
          go_enter Try.func10, Try.ntmps10
          go_wp2_with fail
          go_ret
          exact ⟨by rw [HR.out]; rfl, (by repeat (first | exact HO.out | refine Ok.alloc ?_ _))⟩
        · have HR : Hid (L = false) := by unfold Hid; rw [HL.out]; simp [shp0, c1, c2]
          have k1 : ((v.length : Int) == (v2.length : Int)) = true := by simp; omega
          have k2 : ((a.length : Int) == (a2.length : Int)) = false := by simp; omega
          clear c1 c2 HL
          go_enter Try.func10, Try.ntmps10
          go_wp2_with fail
          go_ret
          exact ⟨by rw [HR.out]; rfl, (by repeat (first | exact HO.out | refine Ok.alloc ?_ _))⟩
      · have HR : Hid (L = false) := by unfold Hid; rw [HL.out]; simp [shp0, c1]
        have k1 : ((v.length : Int) == (v2.length : Int)) = false := by simp; omega
        clear c1 HL
        go_enter Try.func10, Try.ntmps10
        go_wp2_with fail
        go_ret
        exact ⟨by rw [HR.out]; rfl, (by repeat (first | exact HO.out | refine Ok.alloc ?_ _))⟩
    · have HR : Hid (L = true) := by unfold Hid; rw [HL.out]; rfl
      clear HL
      go_enter Try.func10, Try.ntmps10
      go_wp2_with fail
      go_ret
      exact ⟨by rw [HR.out]; rfl, (by repeat (first | exact HO.out | refine Ok.alloc ?_ _))⟩
  · have HR : Hid (L = true) := by unfold Hid; rw [HL.out]; rfl
    clear HL
    go_enter Try.func10, Try.ntmps10
    go_wp2_with fail
    go_ret
    exact ⟨by rw [HR.out]; rfl, (by repeat (first | exact HO.out | refine Ok.alloc ?_ _))⟩
end Go.Proofs.Ytbkblijoimmdeaa
