import Derived.Test.YtgkbegmaffknbaaGreatRows
import Derived.WalkKit
import Derived.WalkSpells
import Derived.WalkSmall
import Derived.Deep.QuietTactic
import Derived.BigQuiet
import Derived.Deep.RegionHeld3
import Derived.Test.YtgkbegmaffknbaaGreatHCok
import Derived.Test.YtgkbegmaffknbaaGreatHIdiv
import Derived.Test.YtgkbegmaffknbaaGreatHKa
import Derived.Test.YtgkbegmaffknbaaGreatHNset
set_option linter.unusedVariables false
set_option linter.unusedSimpArgs false
set_option linter.unnecessarySimpa false
/- Iref Iwh Itm Isp Iwid Nv Irem0 -/
namespace Go.Proofs.YtgkbegmaffknbaaGreat
section
open Go.RowKit
theorem infoI : (Tryz.prog.info? 23).map (·.size) = some 2 := by kernel_rfl
theorem joinI_a {al ah bl bh : Int} (h : ah < al) : joinI al ah bl bh = normI bl bh := by unfold joinI; rw [if_pos h]
theorem joinI_b {al ah bl bh : Int} (h : al ≤ ah) (g : bh < bl) : joinI al ah bl bh = (al, ah) := by unfold joinI; rw [if_neg (by omega), if_pos g]
theorem joinI_c {al ah bl bh : Int} (h : al ≤ ah) (g : bl ≤ bh) : joinI al ah bl bh = (min al bl, max ah bh) := by unfold joinI; rw [if_neg (by omega), if_neg (by omega)]
end
section
open Go.RowKit
def hiW (z : Int) : Int := z / 18446744073709551616
def loW (z : Int) : Int := z % 18446744073709551616
end
section
open Go.RowKit
def rowW (z : Int) : Obj := .cells #[.int .i64 (hiW z), .int .u64 (loW z)] 130
def TimesInv (w0 w wr : World) (X S : Int) : Prop :=
  Ok w0 wr ∧ w.heap.size + 4 ≤ wr.heap.size ∧ wr.heap[w.heap.size]? = some (rowW 0) ∧ wr.heap[w.heap.size + 2]? = some (rowW X) ∧ wr.heap[w.heap.size + 3]? = some (rowW S)
theorem TimesInv.below {w0 w wr w1 : World} {X S : Int} (h : TimesInv w0 w wr X S) (hb : Ok wr w1) : TimesInv w0 w w1 X S := by
  obtain ⟨h1, h2, h3, h4, h5⟩ := h
  have := hb.le
  exact ⟨h1.step hb, by omega, hb.row (by omega) h3, hb.row (by omega) h4, hb.row (by omega) h5⟩
end
section
open Go.RowKit
theorem wlo (z : Int) : wrap64 (loW z) = wrap64 z := by unfold loW wrap64; omega
end
section
open Go.RowKit
/-- Numbers in a row of memory. -/
def IntsAt (w : World) (tb o : Nat) (ts : List Int) : Prop := (∀ i (h : i < ts.length), w.cell? ⟨tb, o + i, none⟩ = some (.int .i64 ts[i])) ∧ tb < w.heap.size ∧ ts.length ≤ 4611686018427387904
theorem IntsAt.ok {w w1 : World} {tb o : Nat} {ts : List Int} (h : IntsAt w tb o ts) (hb : Ok w w1) : IntsAt w1 tb o ts :=
  ⟨fun i hi => Ok.cell hb h.2.1 (h.1 i hi), Nat.lt_of_lt_of_le h.2.1 hb.le, h.2.2⟩
/-- A slice of numbers; an empty one may have any address. -/
def SInts (w : World) (v : Value) (ts : List Int) : Prop := (∃ tb o cap, v = .slice (some ⟨tb, o, none⟩) ts.length cap ∧ IntsAt w tb o ts) ∨ (∃ ao cap, v = .slice ao 0 cap ∧ ts = [])
theorem SInts.form {w : World} {v : Value} {ts : List Int} (h : SInts w v ts) : ∃ ao n cap, v = .slice ao n cap := by
  rcases h with ⟨tb, o, cap, rfl, _⟩ | ⟨ao, cap, rfl, _⟩
  · exact ⟨_, _, _, rfl⟩
  · exact ⟨_, _, _, rfl⟩
end
section
open Go.RowKit
theorem infoN : (Tryz.prog.info? 28).map (·.size) = some 5 := by kernel_rfl
/-- A Num as it is handed over. -/
def nv (a : Int × Int × Nat × Nat × Bool) : Value := .agg #[.bool a.2.2.2.2, .int .i64 a.1, .int .i64 a.2.1, .int .u64 (a.2.2.1 : Int), .int .u64 (a.2.2.2.1 : Int)]
theorem row5_facts {w : World} {g : Nat} {x y z u v : Value} {t : TypeId} (h : w.heap[g]? = some (.cells #[x, y, z, u, v] t (0, 0))) :
    w.cell? ⟨g, 0, none⟩ = some x ∧ w.cell? ⟨g, 1, none⟩ = some y ∧ w.cell? ⟨g, 2, none⟩ = some z ∧ w.cell? ⟨g, 3, none⟩ = some u ∧ w.cell? ⟨g, 4, none⟩ = some v ∧ w.frozen? ⟨g, 0, none⟩ = false ∧ w.frozen? ⟨g, 1, none⟩ = false ∧ w.frozen? ⟨g, 2, none⟩ = false ∧ w.frozen? ⟨g, 3, none⟩ = false ∧ w.frozen? ⟨g, 4, none⟩ = false := by
  refine ⟨?_, ?_, ?_, ?_, ?_, frozen_of_row _ _ _ _ _ h, frozen_of_row _ _ _ _ _ h, frozen_of_row _ _ _ _ _ h, frozen_of_row _ _ _ _ _ h, frozen_of_row _ _ _ _ _ h⟩
  · exact (cell_of_row _ _ 0 _ _ _ h).trans (by simp)
  · exact (cell_of_row _ _ 1 _ _ _ h).trans (by simp)
  · exact (cell_of_row _ _ 2 _ _ _ h).trans (by simp)
  · exact (cell_of_row _ _ 3 _ _ _ h).trans (by simp)
  · exact (cell_of_row _ _ 4 _ _ _ h).trans (by simp)
theorem row_set5 {w : World} {g : Nat} {x y z u v : Value} {t : TypeId} (h : w.heap[g]? = some (.cells #[x, y, z, u, v] t (0, 0))) (x' y' z' u' v' : Value) :
    (((((w.setCell ⟨g, 0, none⟩ x').setCell ⟨g, 1, none⟩ y').setCell ⟨g, 2, none⟩ z').setCell ⟨g, 3, none⟩ u').setCell ⟨g, 4, none⟩ v').heap[g]? = some (.cells #[x', y', z', u', v'] t (0, 0)) := by
  have h1 := heap_setCell_same w g 0 _ t x' h
  have h2 := heap_setCell_same _ g 1 _ t y' h1
  have h3 := heap_setCell_same _ g 2 _ t z' h2
  have h4 := heap_setCell_same _ g 3 _ t u' h3
  have h5 := heap_setCell_same _ g 4 _ t v' h4
  simpa using h5
set_option maxHeartbeats 400000 in
theorem nbot_any (w0 w : World) (hok : Ok w0 w) :
    Calls Tryz.prog 25 #[] w fun e w' => e = .returned (nv botN) ∧ Ok w0 w' := by
  go_enter Tryz.func25, Tryz.ntmps25
  go_wp2_with fail
  (try simp only [Exit.inBlock, Exit.then]); refine bodyPost_ret (results_cell_row rfl _ _ (w.heap.size) 28 #[_, _, _, _, _] (0, 0) _ rfl (by repeat (first | (refine heap_at _ _ _ ?hx; case hx => (first | (simp; done) | (simp; omega))) | (refine heap_past _ _ _ ?hy ?_; case hy => (first | (simp; done) | (simp; omega))) | fail)) Tryz.underlying28 rfl infoN) rfl ?_
  exact ⟨rfl, hok.alloc _⟩
set_option maxHeartbeats 400000 in
theorem nconst_any (v : Int) (w0 w : World) (hok : Ok w0 w) :
    Calls Tryz.prog 22 #[.int .i64 v] w fun e w' => e = .returned (nv (constN v)) ∧ Ok w0 w' := by
  have hle := hok.le
  go_enter Tryz.func22, Tryz.ntmps22
  go_wp2_with fail
  refine (pconst_any v _ _ (Ok.refl _)).mono ?_
  rintro e w' ⟨rfl, hb⟩
  have hr : Hid _ := Ok.row' (g := w.heap.size) (o := .cells #[.bool false, .int .i64 0, .int .i64 0, .int .u64 0, .int .u64 0] 28) hb (by repeat (first | (refine heap_at _ _ _ ?hx; case hx => (first | (simp; done) | (simp; omega))) | (refine heap_past _ _ _ ?hy ?_; case hy => (first | (simp; done) | (simp; omega))) | fail)); obtain ⟨k0, k1, k2, k3, k4, k5, k6, k7, k8, k9⟩ := row5_facts hr.out
  unfold cv
  go_wp2_with fail
  (try simp only [Exit.inBlock, Exit.then]); refine bodyPost_ret (results_cell_row rfl _ _ (w.heap.size) 28 #[_, _, _, _, _] (0, 0) _ rfl (row_set5 hr.out _ _ _ _ _) Tryz.underlying28 rfl infoN) rfl ?_
  exact ⟨rfl, (((((Ok.step (by repeat (first | exact hok | refine Ok.alloc ?_ _ | refine Ok.draws ?_ _ | fail)) hb).set (show w0.heap.size ≤ w.heap.size by omega) _).set (show w0.heap.size ≤ w.heap.size by omega) _).set (show w0.heap.size ≤ w.heap.size by omega) _).set (show w0.heap.size ≤ w.heap.size by omega) _).set (show w0.heap.size ≤ w.heap.size by omega) _⟩
end
section
open Go.RowKit
def farI (v : Int) : Int := if v < 0 then -v else v
theorem far_neg {v : Int} (h : v < 0) (hv : In64 v) : IntKind.u64.wrap (-IntKind.u64.wrap v) = farI v := by
  unfold farI In64 at *; rw [if_pos h, u64w, u64w]; omega
theorem far_pos {v : Int} (h : 0 ≤ v) (hv : In64 v) : IntKind.u64.wrap v = farI v := by
  unfold farI In64 at *; rw [if_neg (by omega), u64w]; omega
theorem ret1u {a b : Int} (h : a = b) : Ending.returned (.int .u64 a) = .returned (.int .u64 b) := by rw [h]
def rUp (bl bh : Int) : Int × Int := meetI bl bh 1 9223372036854775807
def rDn (bl bh : Int) : Int × Int := meetI bl bh (-9223372036854775808) (-1)
/-- The nearest and the farthest number of b but 0. -/
def remNear (bl bh : Int) : Int := min (if (rDn bl bh).2 < (rDn bl bh).1 then 18446744073709551615 else farI (rDn bl bh).2) (if (rUp bl bh).2 < (rUp bl bh).1 then 18446744073709551615 else farI (rUp bl bh).1)
def remMost (bl bh : Int) : Int := max (if (rDn bl bh).2 < (rDn bl bh).1 then 0 else farI (rDn bl bh).1) (if (rUp bl bh).2 < (rUp bl bh).1 then 0 else farI (rUp bl bh).2)
def remI (al ah bl bh : Int) : Int × Int × Bool :=
  if ah < al ∨ ((rDn bl bh).2 < (rDn bl bh).1 ∧ (rUp bl bh).2 < (rUp bl bh).1) then (1, 0, true)
  else if al = ah ∧ bl = bh then (if bl = -1 then 0 else al.tmod bl, if bl = -1 then 0 else al.tmod bl, true)
  else if max (farI al) (farI ah) < remNear bl bh then (al, ah, true)
  else (min 0 (max al (-(remMost bl bh - 1))), max 0 (min ah (remMost bl bh - 1)), true)
theorem normR (l h : Int) : (h < l ∧ normI l h = (1, 0)) ∨ (l ≤ h ∧ normI l h = (l, h)) := by
  unfold normI
  by_cases c : h < l
  · rw [if_pos c]; exact Or.inl ⟨c, rfl⟩
  · rw [if_neg c]; exact Or.inr ⟨by omega, rfl⟩
theorem rDn_cases {bl bh : Int} (h1 : In64 bl) (h2 : In64 bh) : rDn bl bh = (1, 0) ∨ (-9223372036854775808 ≤ (rDn bl bh).1 ∧ (rDn bl bh).1 ≤ (rDn bl bh).2 ∧ (rDn bl bh).2 ≤ -1) := by
  unfold rDn meetI
  rcases normR (max bl (-9223372036854775808)) (min bh (-1)) with ⟨_, e⟩ | ⟨_, e⟩
  · exact Or.inl e
  · rw [e]; right; simp only; omega
theorem rUp_cases {bl bh : Int} (h1 : In64 bl) (h2 : In64 bh) : rUp bl bh = (1, 0) ∨ (1 ≤ (rUp bl bh).1 ∧ (rUp bl bh).1 ≤ (rUp bl bh).2 ∧ (rUp bl bh).2 ≤ 9223372036854775807) := by
  unfold rUp meetI
  rcases normR (max bl 1) (min bh 9223372036854775807) with ⟨_, e⟩ | ⟨_, e⟩
  · exact Or.inl e
  · rw [e]; right; simp only; omega
theorem remI_far {al ah bl bh : Int} (h1 : ¬ (ah < al ∨ ((rDn bl bh).2 < (rDn bl bh).1 ∧ (rUp bl bh).2 < (rUp bl bh).1))) (h2 : ¬ (al = ah ∧ bl = bh)) (h3 : ¬ max (farI al) (farI ah) < remNear bl bh) : remI al ah bl bh = (min 0 (max al (-(remMost bl bh - 1))), max 0 (min ah (remMost bl bh - 1)), true) := by
  unfold remI; rw [if_neg h1, if_neg h2, if_neg h3]
theorem remI_near {al ah bl bh : Int} (h1 : ¬ (ah < al ∨ ((rDn bl bh).2 < (rDn bl bh).1 ∧ (rUp bl bh).2 < (rUp bl bh).1))) (h2 : ¬ (al = ah ∧ bl = bh)) (h3 : max (farI al) (farI ah) < remNear bl bh) : remI al ah bl bh = (al, ah, true) := by
  unfold remI; rw [if_neg h1, if_neg h2, if_pos h3]
theorem far_bd (v : Int) (h : In64 v) : 0 ≤ farI v ∧ farI v ≤ 9223372036854775808 := by
  unfold farI In64 at *; split <;> omega
theorem heap_drewR {w : World} {g : Nat} {x : Option Obj} (h : w.heap[g]? = x) : w.drew.heap[g]? = x := h
end
end Go.Proofs.YtgkbegmaffknbaaGreat
