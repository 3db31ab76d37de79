import Derived.Test.YtdbdgpcbhojcnaaIwid
set_option linter.unusedVariables false
set_option linter.unusedSimpArgs false
set_option linter.unnecessarySimpa false
/- The document's Rem (winnowref11): contract. -/
namespace Go.Proofs.Ytdbdgpcbhojcnaa
open Go.RowKit
theorem Ok.rowR {w0 w : World} (h : Ok w0 w) {g : Nat} {o : Obj} (e : w0.heap[g]? = some o) : w.heap[g]? = some o :=
  Ok.row h ((Array.getElem?_eq_some_iff.1 e).1) e
def farI (v : Int) : Int := if v < 0 then -v else v
theorem far_neg {v : Int} (h : v < 0) (hv : In64 v) : IntKind.u64.wrap (-IntKind.u64.wrap v) = farI v := by
  unfold farI In64 at *; rw [if_pos h, u64w, u64w]; omega
theorem far_pos {v : Int} (h : 0 ≤ v) (hv : In64 v) : IntKind.u64.wrap v = farI v := by
  unfold farI In64 at *; rw [if_neg (by omega), u64w]; omega
theorem ret1u {a b : Int} (h : a = b) : Ending.returned (.int .u64 a) = .returned (.int .u64 b) := by rw [h]
set_option maxHeartbeats 400000 in
theorem rfar_any (v : Int) (hv : In64 v) (w : World) :
    Calls Try.prog 72 #[.int .i64 v] w fun e w' => e = .returned (.int .u64 (farI v)) ∧ w' = w := by
  by_cases h : v < 0
  · have E : Hid _ := far_neg h hv
    clear hv
    go_enter Try.func72, Try.ntmps72
    go_wp2
    go_ret
    exact ⟨ret1u E.out, rfl⟩
  · have E : Hid _ := far_pos (by omega) hv
    clear hv
    go_enter Try.func72, Try.ntmps72
    go_wp2
    go_ret
    exact ⟨ret1u E.out, rfl⟩
def rUp (bl bh : Int) : Int × Int := meetI bl bh 1 9223372036854775807
def rDn (bl bh : Int) : Int × Int := meetI bl bh (-9223372036854775808) (-1)
/-- The nearest and the farthest number of b but 0. -/
def remNear (bl bh : Int) : Int := min (if (rDn bl bh).2 < (rDn bl bh).1 then 18446744073709551615 else farI (rDn bl bh).2) (if (rUp bl bh).2 < (rUp bl bh).1 then 18446744073709551615 else farI (rUp bl bh).1)
def remMost (bl bh : Int) : Int := max (if (rDn bl bh).2 < (rDn bl bh).1 then 0 else farI (rDn bl bh).1) (if (rUp bl bh).2 < (rUp bl bh).1 then 0 else farI (rUp bl bh).2)
def remI (al ah bl bh : Int) : Int × Int × Bool :=
  if ah < al ∨ ((rDn bl bh).2 < (rDn bl bh).1 ∧ (rUp bl bh).2 < (rUp bl bh).1) then (1, 0, true)
  else if al = ah ∧ bl = bh then (if bl = -1 then 0 else al.tmod bl, if bl = -1 then 0 else al.tmod bl, true)
  else if max (farI al) (farI ah) < remNear bl bh then (al, ah, true)
  else (min 0 (max al (-(remMost bl bh - 1))), max 0 (min ah (remMost bl bh - 1)), true)
theorem normR (l h : Int) : (h < l ∧ normI l h = (1, 0)) ∨ (l ≤ h ∧ normI l h = (l, h)) := by
  unfold normI
  by_cases c : h < l
  · rw [if_pos c]; exact Or.inl ⟨c, rfl⟩
  · rw [if_neg c]; exact Or.inr ⟨by omega, rfl⟩
theorem rDn_cases {bl bh : Int} (h1 : In64 bl) (h2 : In64 bh) : rDn bl bh = (1, 0) ∨ (-9223372036854775808 ≤ (rDn bl bh).1 ∧ (rDn bl bh).1 ≤ (rDn bl bh).2 ∧ (rDn bl bh).2 ≤ -1) := by
  unfold rDn meetI
  rcases normR (max bl (-9223372036854775808)) (min bh (-1)) with ⟨_, e⟩ | ⟨_, e⟩
  · exact Or.inl e
  · rw [e]; right; simp only; omega
theorem rUp_cases {bl bh : Int} (h1 : In64 bl) (h2 : In64 bh) : rUp bl bh = (1, 0) ∨ (1 ≤ (rUp bl bh).1 ∧ (rUp bl bh).1 ≤ (rUp bl bh).2 ∧ (rUp bl bh).2 ≤ 9223372036854775807) := by
  unfold rUp meetI
  rcases normR (max bl 1) (min bh 9223372036854775807) with ⟨_, e⟩ | ⟨_, e⟩
  · exact Or.inl e
  · rw [e]; right; simp only; omega
theorem remI_far {al ah bl bh : Int} (h1 : ¬ (ah < al ∨ ((rDn bl bh).2 < (rDn bl bh).1 ∧ (rUp bl bh).2 < (rUp bl bh).1))) (h2 : ¬ (al = ah ∧ bl = bh)) (h3 : ¬ max (farI al) (farI ah) < remNear bl bh) : remI al ah bl bh = (min 0 (max al (-(remMost bl bh - 1))), max 0 (min ah (remMost bl bh - 1)), true) := by
  unfold remI; rw [if_neg h1, if_neg h2, if_neg h3]
theorem remI_near {al ah bl bh : Int} (h1 : ¬ (ah < al ∨ ((rDn bl bh).2 < (rDn bl bh).1 ∧ (rUp bl bh).2 < (rUp bl bh).1))) (h2 : ¬ (al = ah ∧ bl = bh)) (h3 : max (farI al) (farI ah) < remNear bl bh) : remI al ah bl bh = (al, ah, true) := by
  unfold remI; rw [if_neg h1, if_neg h2, if_pos h3]
/-- Where Rem's variables lie. -/
def RemInv (al ah bl bh : Int) (w X : World) (gd gu : Nat) (D U : Int × Int) : Prop :=
  Ok w X ∧ X.heap[w.heap.size]? = some (.cells #[.int .i64 al, .int .i64 ah] 23) ∧ X.heap[w.heap.size + 1]? = some (.cells #[.int .i64 bl, .int .i64 bh] 23) ∧ X.heap[w.heap.size + 2]? = some (.cells #[.int .i64 0, .int .i64 0] 23) ∧ X.heap[gd]? = some (.cells #[.int .i64 D.1, .int .i64 D.2] 23) ∧ X.heap[gu]? = some (.cells #[.int .i64 U.1, .int .i64 U.2] 23) ∧ w.heap.size + 3 ≤ gd ∧ gd < gu
theorem far_bd (v : Int) (h : In64 v) : 0 ≤ farI v ∧ farI v ≤ 9223372036854775808 := by
  unfold farI In64 at *; split <;> omega
theorem far_bds {bl bh : Int} (h1 : In64 bl) (h2 : In64 bh) : (0 ≤ farI (rUp bl bh).1 ∧ farI (rUp bl bh).1 ≤ 9223372036854775808) ∧ (0 ≤ farI (rUp bl bh).2 ∧ farI (rUp bl bh).2 ≤ 9223372036854775808) ∧ (0 ≤ farI (rDn bl bh).1 ∧ farI (rDn bl bh).1 ≤ 9223372036854775808) ∧ (0 ≤ farI (rDn bl bh).2 ∧ farI (rDn bl bh).2 ≤ 9223372036854775808) := by
  have cU := rUp_cases h1 h2
  have cD := rDn_cases h1 h2
  refine ⟨far_bd _ ?_, far_bd _ ?_, far_bd _ ?_, far_bd _ ?_⟩
  · rcases cU with c | c
    · rw [c]; unfold In64; simp
    · unfold In64; omega
  · rcases cU with c | c
    · rw [c]; unfold In64; simp
    · unfold In64; omega
  · rcases cD with c | c
    · rw [c]; unfold In64; simp
    · unfold In64; omega
  · rcases cD with c | c
    · rw [c]; unfold In64; simp
    · unfold In64; omega
theorem heap_drewR {w : World} {g : Nat} {x : Option Obj} (h : w.heap[g]? = x) : w.drew.heap[g]? = x := h
end Go.Proofs.Ytdbdgpcbhojcnaa
