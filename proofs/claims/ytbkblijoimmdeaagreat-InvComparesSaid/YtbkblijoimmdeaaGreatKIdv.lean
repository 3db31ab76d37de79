import Derived.Deep.RegionHeld3
import Derived.Test.YtbkblijoimmdeaaGreatKNv
set_option linter.unusedVariables false
set_option linter.unusedSimpArgs false
set_option linter.unnecessarySimpa false
/- Iwid Imul Icor Idv -/
namespace Go.Proofs.YtbkblijoimmdeaaGreat
section
open Go.RowKit
set_option maxHeartbeats 2000000 in
theorem rmeet_any (al ah bl bh : Int) (w0 w : World) (hok : Ok w0 w) :
    Calls Tryz.prog 40 #[.agg #[.int .i64 al, .int .i64 ah], .agg #[.int .i64 bl, .int .i64 bh]] w fun e w' => e = .returned (.agg #[.int .i64 (meetI al ah bl bh).1, .int .i64 (meetI al ah bl bh).2]) ∧ Ok w0 w' := by
  by_cases h1 : al < bl
  · by_cases h2 : bh < ah
    · skip
      have E0 : meetI al ah bl bh = normI bl bh := by unfold meetI; rw [show max al bl = bl by omega, show min ah bh = bh by omega]
      by_cases hx : bh < bl
      · have hb : bh < bl := hx
        have E : Hid (meetI al ah bl bh = ((normI bl bh).1, (normI bl bh).2)) := E0
        clear hx E0
        go_enter Tryz.func40, Tryz.ntmps40
        go_wp2_with (first | (go_at_call 66; refine (rnormal_yes _ _ _ hb).mono ?_; rintro e w' ⟨rfl, rfl⟩) | fail)
        (try simp only [Exit.inBlock, Exit.then]); refine bodyPost_ret (results_cell_row rfl _ _ (w.heap.size + 2) 24 #[_, _] (0, 0) _ rfl (by repeat (first | (refine heap_at _ _ _ ?hx; case hx => (first | (simp; done) | (simp; omega))) | (refine heap_past _ _ _ ?hy ?_; case hy => (first | (simp; done) | (simp; omega))) | fail)) Tryz.underlying24 rfl infoI) rfl ?_
        exact ⟨reti E.out, (by repeat (first | exact hok | refine Ok.alloc ?_ _ | refine Ok.draws ?_ _ | fail))⟩
      · have hb : bl ≤ bh := by omega
        have E : Hid (meetI al ah bl bh = ((normI bl bh).1, (normI bl bh).2)) := E0
        clear hx E0
        go_enter Tryz.func40, Tryz.ntmps40
        go_wp2_with (first | (go_at_call 66; refine (rnormal_no _ _ _ hb).mono ?_; rintro e w' ⟨rfl, rfl⟩) | fail)
        (try simp only [Exit.inBlock, Exit.then]); refine bodyPost_ret (results_cell_row rfl _ _ (w.heap.size + 2) 24 #[_, _] (0, 0) _ rfl (by repeat (first | (refine heap_at _ _ _ ?hx; case hx => (first | (simp; done) | (simp; omega))) | (refine heap_past _ _ _ ?hy ?_; case hy => (first | (simp; done) | (simp; omega))) | fail)) Tryz.underlying24 rfl infoI) rfl ?_
        exact ⟨reti E.out, (by repeat (first | exact hok | refine Ok.alloc ?_ _ | refine Ok.draws ?_ _ | fail))⟩
    · replace h2 : ah ≤ bh := by omega
      have E0 : meetI al ah bl bh = normI bl ah := by unfold meetI; rw [show max al bl = bl by omega, show min ah bh = ah by omega]
      by_cases hx : ah < bl
      · have hb : ah < bl := hx
        have E : Hid (meetI al ah bl bh = ((normI bl ah).1, (normI bl ah).2)) := E0
        clear hx E0
        go_enter Tryz.func40, Tryz.ntmps40
        go_wp2_with (first | (go_at_call 66; refine (rnormal_yes _ _ _ hb).mono ?_; rintro e w' ⟨rfl, rfl⟩) | fail)
        (try simp only [Exit.inBlock, Exit.then]); refine bodyPost_ret (results_cell_row rfl _ _ (w.heap.size + 2) 24 #[_, _] (0, 0) _ rfl (by repeat (first | (refine heap_at _ _ _ ?hx; case hx => (first | (simp; done) | (simp; omega))) | (refine heap_past _ _ _ ?hy ?_; case hy => (first | (simp; done) | (simp; omega))) | fail)) Tryz.underlying24 rfl infoI) rfl ?_
        exact ⟨reti E.out, (by repeat (first | exact hok | refine Ok.alloc ?_ _ | refine Ok.draws ?_ _ | fail))⟩
      · have hb : bl ≤ ah := by omega
        have E : Hid (meetI al ah bl bh = ((normI bl ah).1, (normI bl ah).2)) := E0
        clear hx E0
        go_enter Tryz.func40, Tryz.ntmps40
        go_wp2_with (first | (go_at_call 66; refine (rnormal_no _ _ _ hb).mono ?_; rintro e w' ⟨rfl, rfl⟩) | fail)
        (try simp only [Exit.inBlock, Exit.then]); refine bodyPost_ret (results_cell_row rfl _ _ (w.heap.size + 2) 24 #[_, _] (0, 0) _ rfl (by repeat (first | (refine heap_at _ _ _ ?hx; case hx => (first | (simp; done) | (simp; omega))) | (refine heap_past _ _ _ ?hy ?_; case hy => (first | (simp; done) | (simp; omega))) | fail)) Tryz.underlying24 rfl infoI) rfl ?_
        exact ⟨reti E.out, (by repeat (first | exact hok | refine Ok.alloc ?_ _ | refine Ok.draws ?_ _ | fail))⟩
  · replace h1 : bl ≤ al := by omega
    by_cases h2 : bh < ah
    · skip
      have E0 : meetI al ah bl bh = normI al bh := by unfold meetI; rw [show max al bl = al by omega, show min ah bh = bh by omega]
      by_cases hx : bh < al
      · have hb : bh < al := hx
        have E : Hid (meetI al ah bl bh = ((normI al bh).1, (normI al bh).2)) := E0
        clear hx E0
        go_enter Tryz.func40, Tryz.ntmps40
        go_wp2_with (first | (go_at_call 66; refine (rnormal_yes _ _ _ hb).mono ?_; rintro e w' ⟨rfl, rfl⟩) | fail)
        (try simp only [Exit.inBlock, Exit.then]); refine bodyPost_ret (results_cell_row rfl _ _ (w.heap.size + 2) 24 #[_, _] (0, 0) _ rfl (by repeat (first | (refine heap_at _ _ _ ?hx; case hx => (first | (simp; done) | (simp; omega))) | (refine heap_past _ _ _ ?hy ?_; case hy => (first | (simp; done) | (simp; omega))) | fail)) Tryz.underlying24 rfl infoI) rfl ?_
        exact ⟨reti E.out, (by repeat (first | exact hok | refine Ok.alloc ?_ _ | refine Ok.draws ?_ _ | fail))⟩
      · have hb : al ≤ bh := by omega
        have E : Hid (meetI al ah bl bh = ((normI al bh).1, (normI al bh).2)) := E0
        clear hx E0
        go_enter Tryz.func40, Tryz.ntmps40
        go_wp2_with (first | (go_at_call 66; refine (rnormal_no _ _ _ hb).mono ?_; rintro e w' ⟨rfl, rfl⟩) | fail)
        (try simp only [Exit.inBlock, Exit.then]); refine bodyPost_ret (results_cell_row rfl _ _ (w.heap.size + 2) 24 #[_, _] (0, 0) _ rfl (by repeat (first | (refine heap_at _ _ _ ?hx; case hx => (first | (simp; done) | (simp; omega))) | (refine heap_past _ _ _ ?hy ?_; case hy => (first | (simp; done) | (simp; omega))) | fail)) Tryz.underlying24 rfl infoI) rfl ?_
        exact ⟨reti E.out, (by repeat (first | exact hok | refine Ok.alloc ?_ _ | refine Ok.draws ?_ _ | fail))⟩
    · replace h2 : ah ≤ bh := by omega
      have E0 : meetI al ah bl bh = normI al ah := by unfold meetI; rw [show max al bl = al by omega, show min ah bh = ah by omega]
      by_cases hx : ah < al
      · have hb : ah < al := hx
        have E : Hid (meetI al ah bl bh = ((normI al ah).1, (normI al ah).2)) := E0
        clear hx E0
        go_enter Tryz.func40, Tryz.ntmps40
        go_wp2_with (first | (go_at_call 66; refine (rnormal_yes _ _ _ hb).mono ?_; rintro e w' ⟨rfl, rfl⟩) | fail)
        (try simp only [Exit.inBlock, Exit.then]); refine bodyPost_ret (results_cell_row rfl _ _ (w.heap.size + 2) 24 #[_, _] (0, 0) _ rfl (by repeat (first | (refine heap_at _ _ _ ?hx; case hx => (first | (simp; done) | (simp; omega))) | (refine heap_past _ _ _ ?hy ?_; case hy => (first | (simp; done) | (simp; omega))) | fail)) Tryz.underlying24 rfl infoI) rfl ?_
        exact ⟨reti E.out, (by repeat (first | exact hok | refine Ok.alloc ?_ _ | refine Ok.draws ?_ _ | fail))⟩
      · have hb : al ≤ ah := by omega
        have E : Hid (meetI al ah bl bh = ((normI al ah).1, (normI al ah).2)) := E0
        clear hx E0
        go_enter Tryz.func40, Tryz.ntmps40
        go_wp2_with (first | (go_at_call 66; refine (rnormal_no _ _ _ hb).mono ?_; rintro e w' ⟨rfl, rfl⟩) | fail)
        (try simp only [Exit.inBlock, Exit.then]); refine bodyPost_ret (results_cell_row rfl _ _ (w.heap.size + 2) 24 #[_, _] (0, 0) _ rfl (by repeat (first | (refine heap_at _ _ _ ?hx; case hx => (first | (simp; done) | (simp; omega))) | (refine heap_past _ _ _ ?hy ?_; case hy => (first | (simp; done) | (simp; omega))) | fail)) Tryz.underlying24 rfl infoI) rfl ?_
        exact ⟨reti E.out, (by repeat (first | exact hok | refine Ok.alloc ?_ _ | refine Ok.draws ?_ _ | fail))⟩
/-- Numbers in a row of memory. -/
def IntsAt (w : World) (tb o : Nat) (ts : List Int) : Prop := (∀ i (h : i < ts.length), w.cell? ⟨tb, o + i, none⟩ = some (.int .i64 ts[i])) ∧ tb < w.heap.size ∧ ts.length ≤ 4611686018427387904
theorem IntsAt.ok {w w1 : World} {tb o : Nat} {ts : List Int} (h : IntsAt w tb o ts) (hb : Ok w w1) : IntsAt w1 tb o ts :=
  ⟨fun i hi => Ok.cell hb h.2.1 (h.1 i hi), Nat.lt_of_lt_of_le h.2.1 hb.le, h.2.2⟩
def WidInv (w wr : World) (lo hi bl bh : Int) : Prop :=
  Ok w wr ∧ wr.heap[w.heap.size]? = some (.cells #[.int .i64 lo, .int .i64 hi] 24) ∧ wr.heap[w.heap.size + 1]? = some (.cells #[.int .i64 bl, .int .i64 bh] 24) ∧ wr.heap[w.heap.size + 2]? = some (.cells #[.int .i64 0, .int .i64 0] 24)
theorem row_setA {w : World} {g : Nat} {u v : Value} {t : TypeId} (hg : w.heap[g]? = some (.cells #[u, v] t (0, 0))) (x : Value) : (w.setCell ⟨g, 0, none⟩ x).heap[g]? = some (.cells #[x, v] t (0, 0)) := by
  simpa using heap_setCell_same w g 0 _ t x hg
theorem WidInv.setLo {w wr : World} {lo hi bl bh : Int} (h : WidInv w wr lo hi bl bh) (x : Int) : WidInv w (wr.setCell ⟨w.heap.size, 0, none⟩ (.int .i64 x)) x hi bl bh := by
  obtain ⟨h1, h2, h3, h4⟩ := h
  refine ⟨h1.set (Nat.le_refl _) _, row_setA h2 _, ?_, ?_⟩
  · rw [heap_setCell_other _ _ _ _ (by simp)]; exact h3
  · rw [heap_setCell_other _ _ _ _ (by simp)]; exact h4
/-- A slice of numbers; an empty one may have any address. -/
def SInts (w : World) (v : Value) (ts : List Int) : Prop := (∃ tb o cap, v = .slice (some ⟨tb, o, none⟩) ts.length cap ∧ IntsAt w tb o ts) ∨ (∃ ao cap, v = .slice ao 0 cap ∧ ts = [])
theorem SInts.form {w : World} {v : Value} {ts : List Int} (h : SInts w v ts) : ∃ ao n cap, v = .slice ao n cap := by
  rcases h with ⟨tb, o, cap, rfl, _⟩ | ⟨ao, cap, rfl, _⟩
  · exact ⟨_, _, _, rfl⟩
  · exact ⟨_, _, _, rfl⟩
end
section
open Go.RowKit
/-- Where two variables lie behind a region that made them in any order. -/
def Two (W w1 : World) (gl gh : Nat) (o p : Obj) : Prop := Ok W w1 ∧ w1.heap[gl]? = some o ∧ w1.heap[gh]? = some p ∧ gl ≠ gh ∧ W.heap.size ≤ gl ∧ W.heap.size ≤ gh
end
section
open Go.RowKit
def two (a b : Int) : Nat → Int
  | 0 => a
  | _ => b
def quoI (x y : Int) : Int := wrap64 (x.tdiv y)
def cornersI (al ah bl bh : Int) : Int × Int :=
  if ah < al ∨ bh < bl then (1, 0) else (min4 (quoI al bl) (quoI al bh) (quoI ah bl) (quoI ah bh), max4 (quoI al bl) (quoI al bh) (quoI ah bl) (quoI ah bh))
end
section
open Go.RowKit
def M (p q : Int × Int) : Int × Int := meetI p.1 p.2 q.1 q.2
def C (p q : Int × Int) : Int × Int := cornersI p.1 p.2 q.1 q.2
def One (W w1 : World) (g : Nat) (o : Obj) : Prop := Ok W w1 ∧ w1.heap[g]? = some o ∧ W.heap.size ≤ g
def NP (R : Act → World → Prop) : Exit → Act → World → Prop
  | .normal, a, w => R a w
  | _, _, _ => False
theorem wp_cut2 {P : Program} {c : Code} {Q : Exit → Act → World → Prop} {a : Act} {w : World} (R : Act → World → Prop) (h1 : c.wp P (NP R) a w) (h2 : ∀ a' w', R a' w' → Q .normal a' w') : c.wp P Q a w :=
  Code.wp_mono (fun e a w h => by cases e <;> first | exact h2 _ _ h | exact (h : False).elim) h1
end
end Go.Proofs.YtbkblijoimmdeaaGreat
