import Derived.Test.YtdbdgpcbhojcnaaIdn3
set_option linter.unusedVariables false
set_option linter.unusedSimpArgs false
set_option linter.unnecessarySimpa false
/- The laws' own question (winnowlaw11.asked): contract. -/
namespace Go.Proofs.Ytdbdgpcbhojcnaa
open Go.RowKit
def opK (k : Nat) (al ah bl bh : Int) : Int × Int × Bool :=
  match k with
  | 0 => negI al ah
  | 1 => addI al ah bl bh
  | 2 => subI al ah bl bh
  | 3 => mulI al ah bl bh
  | 4 => divI al ah bl bh
  | _ => remI al ah bl bh
set_option maxHeartbeats 1000000 in
theorem asked_0 (al ah bl bh : Int) (w0 w : World) (hok : Ok w0 w) (ha1 : In64 al) (ha2 : In64 ah) (hb1 : In64 bl) (hb2 : In64 bh) :
    Calls Try.prog 19 #[.int .i64 0, .agg #[.int .i64 al, .int .i64 ah], .agg #[.int .i64 bl, .int .i64 bh]] w fun e w' => e = .returned (.tuple #[.agg #[.int .i64 (negI al ah).1, .int .i64 (negI al ah).2.1], .bool (negI al ah).2.2]) ∧ Ok w0 w' := by
  have hle := hok.le
  go_enter Try.func19, Try.ntmps19
  go_wp2_with fail
  refine (pneg_any _ _ _ _ (Ok.refl _) ha1 ha2).mono ?_
  rintro e w' ⟨rfl, hb⟩
  have hr : Hid _ := Ok.row' (g := w.heap.size + 2) (o := .cells #[.int .i64 0, .int .i64 0] 23) hb (by repeat (first | (refine heap_at _ _ _ ?hx; case hx => (first | (simp; done) | (simp; omega))) | (refine heap_past _ _ _ ?hy ?_; case hy => (first | (simp; done) | (simp; omega))) | fail))
  obtain ⟨k0, k1, k2, k3⟩ := row_facts hr.out
  go_wp2_with fail
  (try simp only [Exit.inBlock, Exit.then])
  refine bodyPost_ret (results_iv rfl _ _ (w.heap.size + 2) 23 #[_, _] (0, 0) _ rfl (row_set2 hr.out _ _) Try.underlying23 rfl infoI) rfl ?_
  exact ⟨rfl, ((Ok.step (by repeat (first | exact hok | refine Ok.alloc ?_ _ | refine Ok.draws ?_ _ | fail)) hb).set (show w0.heap.size ≤ w.heap.size + 2 by omega) _).set (show w0.heap.size ≤ w.heap.size + 2 by omega) _⟩
set_option maxHeartbeats 1000000 in
theorem asked_1 (al ah bl bh : Int) (w0 w : World) (hok : Ok w0 w) (ha1 : In64 al) (ha2 : In64 ah) (hb1 : In64 bl) (hb2 : In64 bh) :
    Calls Try.prog 19 #[.int .i64 1, .agg #[.int .i64 al, .int .i64 ah], .agg #[.int .i64 bl, .int .i64 bh]] w fun e w' => e = .returned (.tuple #[.agg #[.int .i64 (addI al ah bl bh).1, .int .i64 (addI al ah bl bh).2.1], .bool (addI al ah bl bh).2.2]) ∧ Ok w0 w' := by
  have hle := hok.le
  go_enter Try.func19, Try.ntmps19
  go_wp2_with fail
  refine (padd_any _ _ _ _ _ _ (Ok.refl _) ha1 ha2 hb1 hb2).mono ?_
  rintro e w' ⟨rfl, hb⟩
  have hr : Hid _ := Ok.row' (g := w.heap.size + 2) (o := .cells #[.int .i64 0, .int .i64 0] 23) hb (by repeat (first | (refine heap_at _ _ _ ?hx; case hx => (first | (simp; done) | (simp; omega))) | (refine heap_past _ _ _ ?hy ?_; case hy => (first | (simp; done) | (simp; omega))) | fail))
  obtain ⟨k0, k1, k2, k3⟩ := row_facts hr.out
  go_wp2_with fail
  (try simp only [Exit.inBlock, Exit.then])
  refine bodyPost_ret (results_iv rfl _ _ (w.heap.size + 2) 23 #[_, _] (0, 0) _ rfl (row_set2 hr.out _ _) Try.underlying23 rfl infoI) rfl ?_
  exact ⟨rfl, ((Ok.step (by repeat (first | exact hok | refine Ok.alloc ?_ _ | refine Ok.draws ?_ _ | fail)) hb).set (show w0.heap.size ≤ w.heap.size + 2 by omega) _).set (show w0.heap.size ≤ w.heap.size + 2 by omega) _⟩
set_option maxHeartbeats 1000000 in
theorem asked_2 (al ah bl bh : Int) (w0 w : World) (hok : Ok w0 w) (ha1 : In64 al) (ha2 : In64 ah) (hb1 : In64 bl) (hb2 : In64 bh) :
    Calls Try.prog 19 #[.int .i64 2, .agg #[.int .i64 al, .int .i64 ah], .agg #[.int .i64 bl, .int .i64 bh]] w fun e w' => e = .returned (.tuple #[.agg #[.int .i64 (subI al ah bl bh).1, .int .i64 (subI al ah bl bh).2.1], .bool (subI al ah bl bh).2.2]) ∧ Ok w0 w' := by
  have hle := hok.le
  go_enter Try.func19, Try.ntmps19
  go_wp2_with fail
  refine (psub_any _ _ _ _ _ _ (Ok.refl _) ha1 ha2 hb1 hb2).mono ?_
  rintro e w' ⟨rfl, hb⟩
  have hr : Hid _ := Ok.row' (g := w.heap.size + 2) (o := .cells #[.int .i64 0, .int .i64 0] 23) hb (by repeat (first | (refine heap_at _ _ _ ?hx; case hx => (first | (simp; done) | (simp; omega))) | (refine heap_past _ _ _ ?hy ?_; case hy => (first | (simp; done) | (simp; omega))) | fail))
  obtain ⟨k0, k1, k2, k3⟩ := row_facts hr.out
  go_wp2_with fail
  (try simp only [Exit.inBlock, Exit.then])
  refine bodyPost_ret (results_iv rfl _ _ (w.heap.size + 2) 23 #[_, _] (0, 0) _ rfl (row_set2 hr.out _ _) Try.underlying23 rfl infoI) rfl ?_
  exact ⟨rfl, ((Ok.step (by repeat (first | exact hok | refine Ok.alloc ?_ _ | refine Ok.draws ?_ _ | fail)) hb).set (show w0.heap.size ≤ w.heap.size + 2 by omega) _).set (show w0.heap.size ≤ w.heap.size + 2 by omega) _⟩
set_option maxHeartbeats 1000000 in
theorem asked_3 (al ah bl bh : Int) (w0 w : World) (hok : Ok w0 w) (ha1 : In64 al) (ha2 : In64 ah) (hb1 : In64 bl) (hb2 : In64 bh) :
    Calls Try.prog 19 #[.int .i64 3, .agg #[.int .i64 al, .int .i64 ah], .agg #[.int .i64 bl, .int .i64 bh]] w fun e w' => e = .returned (.tuple #[.agg #[.int .i64 (mulI al ah bl bh).1, .int .i64 (mulI al ah bl bh).2.1], .bool (mulI al ah bl bh).2.2]) ∧ Ok w0 w' := by
  have hle := hok.le
  go_enter Try.func19, Try.ntmps19
  go_wp2_with fail
  refine (pmul_any _ _ _ _ _ _ (Ok.refl _) ha1 ha2 hb1 hb2).mono ?_
  rintro e w' ⟨rfl, hb⟩
  have hr : Hid _ := Ok.row' (g := w.heap.size + 2) (o := .cells #[.int .i64 0, .int .i64 0] 23) hb (by repeat (first | (refine heap_at _ _ _ ?hx; case hx => (first | (simp; done) | (simp; omega))) | (refine heap_past _ _ _ ?hy ?_; case hy => (first | (simp; done) | (simp; omega))) | fail))
  obtain ⟨k0, k1, k2, k3⟩ := row_facts hr.out
  go_wp2_with fail
  (try simp only [Exit.inBlock, Exit.then])
  refine bodyPost_ret (results_iv rfl _ _ (w.heap.size + 2) 23 #[_, _] (0, 0) _ rfl (row_set2 hr.out _ _) Try.underlying23 rfl infoI) rfl ?_
  exact ⟨rfl, ((Ok.step (by repeat (first | exact hok | refine Ok.alloc ?_ _ | refine Ok.draws ?_ _ | fail)) hb).set (show w0.heap.size ≤ w.heap.size + 2 by omega) _).set (show w0.heap.size ≤ w.heap.size + 2 by omega) _⟩
set_option maxHeartbeats 1000000 in
theorem asked_4 (al ah bl bh : Int) (w0 w : World) (hok : Ok w0 w) (ha1 : In64 al) (ha2 : In64 ah) (hb1 : In64 bl) (hb2 : In64 bh) :
    Calls Try.prog 19 #[.int .i64 4, .agg #[.int .i64 al, .int .i64 ah], .agg #[.int .i64 bl, .int .i64 bh]] w fun e w' => e = .returned (.tuple #[.agg #[.int .i64 (divI al ah bl bh).1, .int .i64 (divI al ah bl bh).2.1], .bool (divI al ah bl bh).2.2]) ∧ Ok w0 w' := by
  have hle := hok.le
  go_enter Try.func19, Try.ntmps19
  go_wp2_with fail
  refine (pdiv_any _ _ _ _ _ _ (Ok.refl _) ha1 ha2 hb1 hb2).mono ?_
  rintro e w' ⟨rfl, hb⟩
  have hr : Hid _ := Ok.row' (g := w.heap.size + 2) (o := .cells #[.int .i64 0, .int .i64 0] 23) hb (by repeat (first | (refine heap_at _ _ _ ?hx; case hx => (first | (simp; done) | (simp; omega))) | (refine heap_past _ _ _ ?hy ?_; case hy => (first | (simp; done) | (simp; omega))) | fail))
  obtain ⟨k0, k1, k2, k3⟩ := row_facts hr.out
  go_wp2_with fail
  (try simp only [Exit.inBlock, Exit.then])
  refine bodyPost_ret (results_iv rfl _ _ (w.heap.size + 2) 23 #[_, _] (0, 0) _ rfl (row_set2 hr.out _ _) Try.underlying23 rfl infoI) rfl ?_
  exact ⟨rfl, ((Ok.step (by repeat (first | exact hok | refine Ok.alloc ?_ _ | refine Ok.draws ?_ _ | fail)) hb).set (show w0.heap.size ≤ w.heap.size + 2 by omega) _).set (show w0.heap.size ≤ w.heap.size + 2 by omega) _⟩
set_option maxHeartbeats 1000000 in
theorem asked_5 (al ah bl bh : Int) (w0 w : World) (hok : Ok w0 w) (ha1 : In64 al) (ha2 : In64 ah) (hb1 : In64 bl) (hb2 : In64 bh) :
    Calls Try.prog 19 #[.int .i64 5, .agg #[.int .i64 al, .int .i64 ah], .agg #[.int .i64 bl, .int .i64 bh]] w fun e w' => e = .returned (.tuple #[.agg #[.int .i64 (remI al ah bl bh).1, .int .i64 (remI al ah bl bh).2.1], .bool (remI al ah bl bh).2.2]) ∧ Ok w0 w' := by
  have hle := hok.le
  go_enter Try.func19, Try.ntmps19
  go_wp2_with fail
  refine (prem_any _ _ _ _ _ _ (Ok.refl _) ha1 ha2 hb1 hb2).mono ?_
  rintro e w' ⟨rfl, hb⟩
  have hr : Hid _ := Ok.row' (g := w.heap.size + 2) (o := .cells #[.int .i64 0, .int .i64 0] 23) hb (by repeat (first | (refine heap_at _ _ _ ?hx; case hx => (first | (simp; done) | (simp; omega))) | (refine heap_past _ _ _ ?hy ?_; case hy => (first | (simp; done) | (simp; omega))) | fail))
  obtain ⟨k0, k1, k2, k3⟩ := row_facts hr.out
  go_wp2_with fail
  (try simp only [Exit.inBlock, Exit.then])
  refine bodyPost_ret (results_iv rfl _ _ (w.heap.size + 2) 23 #[_, _] (0, 0) _ rfl (row_set2 hr.out _ _) Try.underlying23 rfl infoI) rfl ?_
  exact ⟨rfl, ((Ok.step (by repeat (first | exact hok | refine Ok.alloc ?_ _ | refine Ok.draws ?_ _ | fail)) hb).set (show w0.heap.size ≤ w.heap.size + 2 by omega) _).set (show w0.heap.size ≤ w.heap.size + 2 by omega) _⟩
theorem asked_any (k : Nat) (hk : k < 6) (al ah bl bh : Int) (w0 w : World) (hok : Ok w0 w) (ha1 : In64 al) (ha2 : In64 ah) (hb1 : In64 bl) (hb2 : In64 bh) :
    Calls Try.prog 19 #[.int .i64 k, .agg #[.int .i64 al, .int .i64 ah], .agg #[.int .i64 bl, .int .i64 bh]] w fun e w' => e = .returned (.tuple #[.agg #[.int .i64 (opK k al ah bl bh).1, .int .i64 (opK k al ah bl bh).2.1], .bool (opK k al ah bl bh).2.2]) ∧ Ok w0 w' := by
  match k, hk with
  | 0, _ => exact asked_0 al ah bl bh w0 w hok ha1 ha2 hb1 hb2
  | 1, _ => exact asked_1 al ah bl bh w0 w hok ha1 ha2 hb1 hb2
  | 2, _ => exact asked_2 al ah bl bh w0 w hok ha1 ha2 hb1 hb2
  | 3, _ => exact asked_3 al ah bl bh w0 w hok ha1 ha2 hb1 hb2
  | 4, _ => exact asked_4 al ah bl bh w0 w hok ha1 ha2 hb1 hb2
  | 5, _ => exact asked_5 al ah bl bh w0 w hok ha1 ha2 hb1 hb2
/-- What 'done' answers of an operation: the result, whether there is one, whether it wraps. -/
def dnK (k : Nat) (x y : Int) : Int × Bool × Bool :=
  match k with
  | 0 => (wrap64 (-x), true, !decide (In64 (-x)))
  | 1 => (wrap64 (x + y), true, !decide (In64 (x + y)))
  | 2 => (wrap64 (x - y), true, !decide (In64 (x - y)))
  | 3 => (wrap64 (x * y), true, !decide (In64 (x * y)))
  | 4 => if y = 0 then (0, false, false) else (wrap64 (x.tdiv y), true, !decide (In64 (x.tdiv y)))
  | _ => if y = 0 then (0, false, false) else (x.tmod y, true, false)
theorem done_any (k : Nat) (hk : k < 6) (x y : Int) (w : World) (hx : In64 x) (hy : In64 y) :
    Calls Try.prog 21 #[.int .i64 k, .int .i64 x, .int .i64 y] w fun e w' => e = .returned (.tuple #[.int .i64 (dnK k x y).1, .bool (dnK k x y).2.1, .bool (dnK k x y).2.2]) ∧ w' = w := by
  match k, hk with
  | 0, _ => exact done_0 x y w hx
  | 1, _ => exact done_1 x y w hx hy
  | 2, _ => exact done_2 x y w hx hy
  | 3, _ => exact done_3 x y w hx hy
  | 4, _ =>
    unfold dnK
    by_cases h0 : y = 0
    · simp only [h0, if_true]; exact done_z 4 x (Or.inl rfl) w
    · simp only [h0, if_false]
      by_cases h1 : y = -1
      · subst h1; exact done_4m x w hx
      · have hi : In64 (x.tdiv y) := tdiv_in hx h0 (fun h => h1 h.2)
        rw [decide_eq_true hi]
        exact done_4 x y w h0 h1
  | 5, _ =>
    unfold dnK
    by_cases h0 : y = 0
    · simp only [h0, if_true]; exact done_z 5 x (Or.inr rfl) w
    · simp only [h0, if_false]
      by_cases h1 : y = -1
      · subst h1; exact done_5m x w
      · exact done_5 x y w h0 h1
/-- Every answer holds every result; where it says so, none wraps. -/
theorem holdK {k : Nat} {al ah bl bh x y : Int} (ha1 : In64 al) (ha2 : In64 ah) (hb1 : In64 bl) (hb2 : In64 bh) (hx : Mem al ah x) (hy : Mem bl bh y) (ht : (dnK k x y).2.1 = true) :
    Mem (opK k al ah bl bh).1 (opK k al ah bl bh).2.1 (dnK k x y).1 ∧ ((opK k al ah bl bh).2.2 = true → (dnK k x y).2.2 = false) := by
  unfold dnK opK at *
  split at ht
  · exact ⟨(neg_hull al ah).mem ⟨x, hx, rfl⟩, fun h => by rw [decide_eq_true ((neg_exact al ah).1 h x hx)]; rfl⟩
  · exact ⟨(add_hull al ah bl bh).mem ⟨x, y, hx, hy, rfl⟩, fun h => by rw [decide_eq_true ((add_exact al ah bl bh).1 h x y hx hy)]; rfl⟩
  · exact ⟨(sub_hull al ah bl bh).mem ⟨x, y, hx, hy, rfl⟩, fun h => by rw [decide_eq_true ((sub_exact al ah bl bh).1 h x y hx hy)]; rfl⟩
  · exact ⟨mul_mem ⟨x, y, hx, hy, rfl⟩, fun h => by rw [decide_eq_true ((mul_exact al ah bl bh).1 h x y hx hy)]; rfl⟩
  · by_cases h0 : y = 0
    · simp [h0] at ht
    · simp only [h0, if_false] at ht ⊢
      exact ⟨div_mem ha1 ha2 hb1 hb2 hx hy h0, fun h => by rw [decide_eq_true ((div_exact hb1 hb2 ha1 ha2).1 h x y hx hy h0)]; rfl⟩
  · by_cases h0 : y = 0
    · simp [h0] at ht
    · simp only [h0, if_false] at ht ⊢
      exact ⟨rem_mem hb1 hb2 hx hy h0, fun _ => by first | rfl | trivial⟩
/-- Of an interval that has none. -/
theorem noneK {k : Nat} {al ah bl bh : Int} (h : ah < al ∨ (0 < k ∧ bh < bl)) : opK k al ah bl bh = (1, 0, true) := by
  unfold opK
  split
  · exact negI_yes (by omega)
  · exact addI_yes (by omega)
  · exact subI_yes (by omega)
  · exact mul_none (by omega)
  · exact divI_none (by omega)
  · unfold remI
    rcases h with h | h
    · rw [if_pos (Or.inl h)]
    · have u1 : rDn bl bh = (1, 0) := by unfold rDn meetI normI; rw [if_pos (by omega)]
      have u2 : rUp bl bh = (1, 0) := by unfold rUp meetI normI; rw [if_pos (by omega)]
      rw [u1, u2, if_pos (Or.inr (by simp))]
end Go.Proofs.Ytdbdgpcbhojcnaa
