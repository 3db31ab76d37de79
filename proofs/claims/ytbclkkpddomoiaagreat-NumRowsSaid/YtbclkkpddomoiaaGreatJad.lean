import Derived.Test.YtbclkkpddomoiaaGreatJt
import Derived.Deep.RegionHeld3
set_option linter.unusedVariables false
set_option linter.unusedSimpArgs false
set_option linter.unnecessarySimpa false
/- Several texts, laid together. -/
namespace Go.Proofs.YtbclkkpddomoiaaGreat
open Go.RowKit
def NP (R : Act → World → Prop) : Exit → Act → World → Prop
  | .normal, a, w => R a w
  | _, _, _ => False
theorem wp_cut2 {P : Program} {c : Code} {Q : Exit → Act → World → Prop} {a : Act} {w : World} (R : Act → World → Prop) (h1 : c.wp P (NP R) a w) (h2 : ∀ a' w', R a' w' → Q .normal a' w') : c.wp P Q a w :=
  Code.wp_mono (fun e a w h => by cases e <;> first | exact h2 _ _ h | exact (h : False).elim) h1
section
open Go.RowKit
/-- An operation on numbers, at the corners. -/
def OpAt (f : Nat) (al ah bl bh : Int) (W : Int → Int → Int) : Prop :=
  ∀ x y, (x = al ∨ x = ah) → (y = bl ∨ y = bh) → ∀ w0 w, Ok w0 w → Calls Tryz.prog f #[.int .i64 x, .int .i64 y] w fun e w' => e = .returned (.agg #[.int .i64 (tW (W x y)), .int .i64 (wrap64 (W x y))]) ∧ Ok w0 w'
def rowS (lo hi : Int) : Obj := .cells #[.int .i64 (tW lo), .int .i64 (wrap64 lo), .int .i64 (tW hi), .int .i64 (wrap64 hi)] 138
def ThrInv (w wr : World) (g8 : Nat) (lo hi : Int) : Prop :=
  Ok w wr ∧ wr.heap[w.heap.size + 2]? = some (.cells #[.int .i64 0, .int .i64 0, .int .i64 0, .int .i64 0] 138) ∧ wr.heap[g8]? = some (rowS lo hi) ∧ w.heap.size + 2 < g8
/-- The corners, and the ends of what they gave so far. -/
def cX (al ah : Int) : Nat → Int
  | 0 => al
  | 1 => al
  | _ => ah
def cY (bl bh : Int) : Nat → Int
  | 0 => bl
  | 1 => bh
  | 2 => bl
  | _ => bh
def cL (W : Int → Int → Int) (al ah bl bh : Int) : Nat → Int
  | 0 => W al bl
  | k + 1 => min (cL W al ah bl bh k) (W (cX al ah k) (cY bl bh k))
def cH (W : Int → Int → Int) (al ah bl bh : Int) : Nat → Int
  | 0 => W al bl
  | k + 1 => max (cH W al ah bl bh k) (W (cX al ah k) (cY bl bh k))
theorem row_facts4 {w : World} {g : Nat} {a b c d : Value} {t : TypeId} (h : w.heap[g]? = some (.cells #[a, b, c, d] t (0, 0))) :
    (w.cell? ⟨g, 0, none⟩ = some a ∧ w.cell? ⟨g, 1, none⟩ = some b ∧ w.cell? ⟨g, 2, none⟩ = some c ∧ w.cell? ⟨g, 3, none⟩ = some d) ∧ w.frozen? ⟨g, 0, none⟩ = false ∧ w.frozen? ⟨g, 1, none⟩ = false ∧ w.frozen? ⟨g, 2, none⟩ = false ∧ w.frozen? ⟨g, 3, none⟩ = false := by
  refine ⟨⟨?_, ?_, ?_, ?_⟩, frozen_of_row _ _ _ _ _ h, frozen_of_row _ _ _ _ _ h, frozen_of_row _ _ _ _ _ h, frozen_of_row _ _ _ _ _ h⟩
  · exact (cell_of_row _ _ 0 _ _ _ h).trans (by simp)
  · exact (cell_of_row _ _ 1 _ _ _ h).trans (by simp)
  · exact (cell_of_row _ _ 2 _ _ _ h).trans (by simp)
  · exact (cell_of_row _ _ 3 _ _ _ h).trans (by simp)
theorem Jrow_set4 {w : World} {g : Nat} {a b c d : Value} {t : TypeId} (hg : w.heap[g]? = some (.cells #[a, b, c, d] t (0, 0))) (x y z u : Value) : ((((w.setCell ⟨g, 0, none⟩ x).setCell ⟨g, 1, none⟩ y).setCell ⟨g, 2, none⟩ z).setCell ⟨g, 3, none⟩ u).heap[g]? = some (.cells #[x, y, z, u] t (0, 0)) := by
  have h1 : (w.setCell ⟨g, 0, none⟩ x).heap[g]? = some (.cells #[x, b, c, d] t (0, 0)) := by simpa using heap_setCell_same w g 0 _ t x hg
  have h2 : ((w.setCell ⟨g, 0, none⟩ x).setCell ⟨g, 1, none⟩ y).heap[g]? = some (.cells #[x, y, c, d] t (0, 0)) := by simpa using heap_setCell_same _ g 1 _ t y h1
  have h3 : (((w.setCell ⟨g, 0, none⟩ x).setCell ⟨g, 1, none⟩ y).setCell ⟨g, 2, none⟩ z).heap[g]? = some (.cells #[x, y, z, d] t (0, 0)) := by simpa using heap_setCell_same _ g 2 _ t z h2
  simpa using heap_setCell_same _ g 3 _ t u h3
theorem ThrInv.next {w wr w3 : World} {g8 : Nat} {lo hi l h : Int} (H : ThrInv w wr g8 lo hi) (hb : Ok wr w3) :
    ThrInv w ((((w3.setCell ⟨g8, 0, none⟩ (.int .i64 (tW l))).setCell ⟨g8, 1, none⟩ (.int .i64 (wrap64 l))).setCell ⟨g8, 2, none⟩ (.int .i64 (tW h))).setCell ⟨g8, 3, none⟩ (.int .i64 (wrap64 h))) g8 l h := by
  obtain ⟨r1, r2, r3, r4⟩ := H
  have r3' := Ok.row' hb r3
  have hg : w.heap.size ≤ g8 := by omega
  refine ⟨((((r1.step hb).set hg _).set hg _).set hg _).set hg _, ?_, Jrow_set4 r3' _ _ _ _, r4⟩
  rw [heap_setCell_other _ _ _ _ (show w.heap.size + 2 ≠ g8 by omega), heap_setCell_other _ _ _ _ (show w.heap.size + 2 ≠ g8 by omega), heap_setCell_other _ _ _ _ (show w.heap.size + 2 ≠ g8 by omega), heap_setCell_other _ _ _ _ (show w.heap.size + 2 ≠ g8 by omega)]
  exact Ok.row' hb r2
theorem pwith_is (lo hi z : Int) (w0 w : World) (hok : Ok w0 w) :
    Calls Tryz.prog 194 #[.agg #[.int .i64 (tW lo), .int .i64 (wrap64 lo), .int .i64 (tW hi), .int .i64 (wrap64 hi)], .agg #[.int .i64 (tW z), .int .i64 (wrap64 z)]] w fun e w' => e = .returned (.agg #[.int .i64 (tW (min lo z)), .int .i64 (wrap64 (min lo z)), .int .i64 (tW (max hi z)), .int .i64 (wrap64 (max hi z))]) ∧ Ok w0 w' := pwith_any lo hi z w0 w hok
theorem idx0 (a b c d e f g h : Int) (w : World) : (Instr.index 162 (.agg #[.int .i64 a, .int .i64 b, .int .i64 c, .int .i64 d, .int .i64 e, .int .i64 f, .int .i64 g, .int .i64 h]) (.int .i64 0)).run Tryz.prog w = .ok (.agg #[.int .i64 a, .int .i64 b]) w := by kernel_rfl
theorem idx1 (a b c d e f g h : Int) (w : World) : (Instr.index 162 (.agg #[.int .i64 a, .int .i64 b, .int .i64 c, .int .i64 d, .int .i64 e, .int .i64 f, .int .i64 g, .int .i64 h]) (.int .i64 1)).run Tryz.prog w = .ok (.agg #[.int .i64 c, .int .i64 d]) w := by kernel_rfl
theorem idx2 (a b c d e f g h : Int) (w : World) : (Instr.index 162 (.agg #[.int .i64 a, .int .i64 b, .int .i64 c, .int .i64 d, .int .i64 e, .int .i64 f, .int .i64 g, .int .i64 h]) (.int .i64 2)).run Tryz.prog w = .ok (.agg #[.int .i64 e, .int .i64 f]) w := by kernel_rfl
theorem idx3 (a b c d e f g h : Int) (w : World) : (Instr.index 162 (.agg #[.int .i64 a, .int .i64 b, .int .i64 c, .int .i64 d, .int .i64 e, .int .i64 f, .int .i64 g, .int .i64 h]) (.int .i64 3)).run Tryz.prog w = .ok (.agg #[.int .i64 g, .int .i64 h]) w := by kernel_rfl
end
section
open Go.RowKit
set_option maxHeartbeats 400000 in
theorem pthrough_ex (f : Nat) (w : World) :
    Calls Tryz.prog 159 #[.func (.func f) #[] #[]] w fun e w' => e = .returned (.func (.func 193) #[] #[.pointer (some ⟨w.heap.size, 0, none⟩)]) ∧ w' = w.alloc (.cells #[.func (.func f) #[] #[]] 133) := by
  have hmf : ∀ (fn : Fn) (first cap : Array Value) (w : World), (Instr.makeFunc fn first cap).run Tryz.prog w = .ok (.func fn first cap) w := fun _ _ _ _ => rfl
  go_enter Tryz.func159, Tryz.ntmps159
  go_wp2
  go_ret
  exact ⟨rfl, rfl⟩
theorem rowA {W w' : World} {p o : Obj} (h : Ok ((W.drew.alloc o).alloc p) w') : w'.heap[W.heap.size]? = some o := Ok.row' h (heap_past _ _ _ (by simp) (heap_new0 _ _))
theorem rowB {W w' : World} {p o : Obj} (h : Ok ((W.drew.alloc p).alloc o) w') : w'.heap[W.heap.size + 1]? = some o := Ok.row' h (heap_at _ _ _ (by simp))
def Spn (W w1 : World) (g : Nat) (L H : Int) : Prop := Ok W w1 ∧ w1.heap[g]? = some (rowS L H) ∧ W.heap.size ≤ g
theorem thr_a {W w2 : World} {L H : Int} (h : Ok W w2) : Hid (Spn W (w2.alloc (.cells #[.int .i64 (tW L), .int .i64 (wrap64 L), .int .i64 (tW H), .int .i64 (wrap64 H)] 138)) w2.heap.size L H) := ⟨h.alloc _, heap_new0 _ _, h.le⟩
theorem thr_b {W w2 : World} {g : Nat} {a b c d : Value} {L H : Int} (h : Ok W w2) (e : w2.heap[g]? = some (.cells #[a, b, c, d] 138 (0, 0))) (hg : W.heap.size ≤ g) :
    Hid (Spn W ((((w2.setCell ⟨g, 0, none⟩ (.int .i64 (tW L))).setCell ⟨g, 1, none⟩ (.int .i64 (wrap64 L))).setCell ⟨g, 2, none⟩ (.int .i64 (tW H))).setCell ⟨g, 3, none⟩ (.int .i64 (wrap64 H))) g L H) :=
  ⟨(((h.set hg _).set hg _).set hg _).set hg _, Jrow_set4 e _ _ _ _, hg⟩
def exW (lo hi : Int) : Bool := decide (In64 lo) && decide (In64 hi)
theorem pexact_any (lo hi : Int) (w0 w : World) (hok : Ok w0 w) :
    Calls Tryz.prog 161 #[.agg #[.int .i64 (tW lo), .int .i64 (wrap64 lo), .int .i64 (tW hi), .int .i64 (wrap64 hi)]] w fun e w' => e = .returned (.bool (exW lo hi)) ∧ Ok w0 w' := by
  refine (pexact_ex lo hi w).mono ?_
  rintro e w' ⟨rfl, rfl⟩
  exact ⟨rfl, hok.alloc _⟩
theorem span_hullW {lo hi : Int} (h : lo ≤ hi) : spanI lo hi = ((hullW lo hi).1, (hullW lo hi).2, exW lo hi) := by
  unfold exW
  have e1 := tW_eq lo
  have e2 := tW_eq hi
  have w1 := wrap64_in lo
  have w2 := wrap64_in hi
  have t1 := tW_zero lo
  have t2 := tW_zero hi
  unfold hullW
  by_cases h0 : In64 lo ∧ In64 hi
  · have hL : tW lo = 0 := by unfold tW; unfold In64 at h0; omega
    have hH : tW hi = 0 := by unfold tW; unfold In64 at h0; omega
    rw [spanI, if_pos h0, if_pos (by omega), decide_eq_true h0.1, decide_eq_true h0.2, wrap64_id h0.1, wrap64_id h0.2]; rfl
  · have hd : (decide (In64 lo) && decide (In64 hi)) = false := by
      by_cases h1 : In64 lo
      · rw [decide_eq_false (show ¬ In64 hi from fun h2 => h0 ⟨h1, h2⟩), Bool.and_false]
      · rw [decide_eq_false h1, Bool.false_and]
    rw [hd, spanI, if_neg h0]
    clear t1 t2 h0 hd
    unfold In64 at w1 w2
    by_cases ht : tW lo = tW hi
    · rw [if_pos ht]
      by_cases hw : 18446744073709551615 ≤ hi - lo ∨ wrap64 hi < wrap64 lo
      · rw [if_pos hw]
        have a1 : wrap64 lo = -9223372036854775808 := by omega
        have a2 : wrap64 hi = 9223372036854775807 := by omega
        rw [a1, a2]
      · rw [if_neg hw]
    · rw [if_neg ht, if_pos (by omega)]
theorem cL_add {al ah bl bh : Int} (ha : al ≤ ah) (hb : bl ≤ bh) : cL (fun x y => x + y) al ah bl bh 4 = al + bl ∧ cH (fun x y => x + y) al ah bl bh 4 = ah + bh := by
  simp only [cL, cH, cX, cY]; omega
theorem cL_sub {al ah bl bh : Int} (ha : al ≤ ah) (hb : bl ≤ bh) : cL (fun x y => x - y) al ah bl bh 4 = al - bh ∧ cH (fun x y => x - y) al ah bl bh 4 = ah - bl := by
  simp only [cL, cH, cX, cY]; omega
theorem op_sum {al ah bl bh : Int} (ha1 : In64 al) (ha2 : In64 ah) (hb1 : In64 bl) (hb2 : In64 bh) : OpAt 155 al ah bl bh (fun x y => x + y) := by
  intro x y hx hy w0 w hok
  exact psum_any x y (by rcases hx with rfl | rfl <;> assumption) (by rcases hy with rfl | rfl <;> assumption) w0 w hok
theorem op_dif {al ah bl bh : Int} (ha1 : In64 al) (ha2 : In64 ah) (hb1 : In64 bl) (hb2 : In64 bh) : OpAt 158 al ah bl bh (fun x y => x - y) := by
  intro x y hx hy w0 w hok
  exact pdif_any x y (by rcases hx with rfl | rfl <;> assumption) (by rcases hy with rfl | rfl <;> assumption) w0 w hok
end
section
open Go
section
variable {P : Program} {ops : Array Oper} {Q : Exit → Act → World → Prop} {md : Region.Mode} {S : World → Prop} {n : Nat}
def wpAnyL (P : Program) (md : Region.Mode) (ops : Array Oper) (Q : Exit → Act → World → Prop) (S : World → Prop) (n : Nat) : Nat → Array Bool → Act → World → Prop
  | 0, listed, a, w => Region.ready md ops listed = [] ∧ Q .normal a w
  | fuel + 1, listed, a, w =>
    (Region.ready md ops listed = [] → Q .normal a w) ∧
    ∀ i ∈ Region.ready md ops listed, wpOp P ops Q i (fun a' w' => (i ≠ n → S w') ∧ wpAnyL P md ops Q S n fuel (listed.setIfInBounds i true) a' w') a w
theorem wpAny_of_L : ∀ (fuel : Nat) (listed : Array Bool) (a : Act) (w : World), wpAnyL P md ops Q S n fuel listed a w → wpAny P md ops Q fuel listed a w
  | 0, _, _, _, h => h
  | fuel + 1, _, _, _, h => ⟨h.1, fun i hi => wpOp_mono (fun a' w' h' => wpAny_of_L fuel _ a' w' h'.2) (h.2 i hi)⟩
theorem wpAnyL_first {i : Nat} {oi : Oper} {v : Value} (hi : ops[i]? = some oi) (hsel : ∀ (j : Nat) (o : Oper) cs b, ops[j]? = some o → o.op ≠ .select cs b)
    (hw : ∃ ol, ops[n]? = some ol ∧ ∃ e ∈ ol.after, Region.binds md e = true ∧ e.on = i)
    (hQ : ∀ c a w, Q (.panic c) (a.put oi.dst v) w → Q (.panic c) a w) :
    ∀ (fuel : Nat) (listed : Array Bool) (a : Act) (w : World),
      (∀ j oj, ops[j]? = some oj → j ≠ i → listed.getD j true = false → (∀ e ∈ oj.after, Region.binds md e = true → e.on ≠ i) → oi.apart ops oj = true) →
      i ∈ Region.ready md ops listed → YieldsIf P ops S oi v a → S w →
      wpAnyL P md ops Q S n fuel (listed.setIfInBounds i true) (a.put oi.dst v) w → wpAnyL P md ops Q S n (fuel + 1) listed a w := by
  intro fuel
  induction fuel with
  | zero =>
    intro listed a w _ hr hy hS H
    refine ⟨fun h => (by rw [h] at hr; cases hr), fun j hj => ?_⟩
    by_cases hji : j = i
    · subst hji; exact hy.wpOp hi hS ⟨fun _ => hS, H⟩
    · have := ready_mono hj hji
      rw [H.1] at this
      cases this
  | succ fuel ih =>
    intro listed a w hfree hr hy hS H
    refine ⟨fun h => (by rw [h] at hr; cases hr), fun j hj => ?_⟩
    by_cases hji : j = i
    · subst hji; exact hy.wpOp hi hS ⟨fun _ => hS, H⟩
    · have h1 := H.2 j (ready_mono hj hji)
      obtain ⟨hjun, oj, hoj, hall⟩ := mem_ready.1 hj
      have hnot : ∀ e ∈ oj.after, Region.binds md e = true → e.on ≠ i := fun e he hb heq => by
        have h1 := hall e he hb
        have h0 := (mem_ready.1 hr).1
        rw [heq] at h1
        rcases Nat.lt_or_ge i listed.size with h' | h'
        · simp [h'] at h0 h1; rw [h0] at h1; cases h1
        · simp [Array.getElem?_eq_none h'] at h1
      have hjn : j ≠ n := by
        rintro rfl
        obtain ⟨ol, h3, e, h4, h5, h6⟩ := hw
        rw [hoj] at h3
        cases h3
        exact hnot e h4 h5 h6
      have h2 := wpOp_putIf hoj (hfree j oj hoj hji hjun hnot) (fun cs b => hsel i oi cs b hi) (fun cs b => hsel j oj cs b hoj) hQ hy h1
      have hfree' : ∀ k ok, ops[k]? = some ok → k ≠ i → (listed.setIfInBounds j true).getD k true = false →
          (∀ e ∈ ok.after, Region.binds md e = true → e.on ≠ i) → oi.apart ops ok = true := fun k ok hk hki hun hno => by
        refine hfree k ok hk hki ?_ hno
        by_cases hjk : j = k
        · subst hjk; exact hjun
        · rw [getD_set_ne true hjk] at hun; exact hun
      refine wpOp_mono (fun a' w' h3 => ⟨h3.2.1, ih (listed.setIfInBounds j true) a' w' hfree' (ready_mono hr (Ne.symm hji)) h3.1 (h3.2.1 hjn) ?_⟩) h2
      rw [Array.setIfInBounds_comm _ _ hji]
      exact h3.2.2
/-- Does operation n wait for operation i? -/
def waitsFor (md : Region.Mode) (ops : Array Oper) (n i : Nat) : Bool :=
  match ops[n]? with
  | some o => o.after.any fun e => Region.binds md e && (e.on == i)
  | none => false
theorem waitsFor_spec {i : Nat} (h : waitsFor md ops n i = true) : ∃ ol, ops[n]? = some ol ∧ ∃ e ∈ ol.after, Region.binds md e = true ∧ e.on = i := by
  unfold waitsFor at h
  split at h
  · rename_i o ho
    refine ⟨o, ho, ?_⟩
    rw [Array.any_eq_true'] at h
    obtain ⟨e, he, h2⟩ := h
    simp only [Bool.and_eq_true, beq_iff_eq] at h2
    exact ⟨e, he, h2.1, h2.2⟩
  · cases h
theorem wpAnyL_take {i : Nat} {oi : Oper} {v : Value} {fuel : Nat} {listed : Array Bool} {a : Act} {w : World} (hi : ops[i]? = some oi)
    (hs : Region.noSelect ops = true) (hf : Region.free md ops listed i = true) (hr : (Region.ready md ops listed).contains i = true) (hn : waitsFor md ops n i = true)
    (hQ : ∀ c a w, Q (.panic c) (a.put oi.dst v) w → Q (.panic c) a w) (hS : S w) (hy : YieldsIf P ops S oi v a)
    (h : wpAnyL P md ops Q S n fuel (listed.setIfInBounds i true) (a.put oi.dst v) w) : wpAnyL P md ops Q S n (fuel + 1) listed a w :=
  wpAnyL_first hi (Region.noSelect_spec hs) (waitsFor_spec hn) hQ fuel listed a w (Region.free_spec hi hf) (by simpa using hr) hy hS h
theorem wpAnyL_step {i : Nat} {o : Oper} {fuel : Nat} {listed : Array Bool} {a : Act} {w : World} (hr : Region.ready md ops listed = [i]) (ho : ops[i]? = some o)
    (h : ∀ K' : Act → World → Prop, Shut (∀ a w, (i ≠ n → S w) → wpAnyL P md ops Q S n fuel (listed.setIfInBounds i true) a w → K' a w) → if Region.wanted o (yielded ops a.tmps) = true then Oper.wp P o a w K' Q else K' (a.put o.dst undef) w) :
    wpAnyL P md ops Q S n (fuel + 1) listed a w := by
  refine ⟨fun h0 => (by rw [hr] at h0; cases h0), fun j hj => ?_⟩
  rw [hr, List.mem_singleton] at hj
  subst hj
  exact wpOp_step ho (fun K' hK => h K' (fun a w hS hW => hK a w ⟨hS, hW⟩))
theorem wpAnyL_done {listed : Array Bool} {a : Act} {w : World} (hr : Region.ready md ops listed = []) (h : Q .normal a w) :
    ∀ fuel, wpAnyL P md ops Q S n fuel listed a w
  | 0 => ⟨hr, h⟩
  | _ + 1 => ⟨fun _ => h, by rw [hr]; simp⟩
theorem wp_region_L {id : Nat} {a : Act} {w : World} (S : World → Prop) (n : Nat) (hm : P.follows .mixedOrders = true)
    (h : wpAnyL P .any ops Q S n ops.size (Array.replicate ops.size false) a w.drew) : (Code.region id ops true).wp P Q a w :=
  wp_region_any hm (wpAny_of_L _ _ _ _ h)
end
end
section
open Go.RowKit
attribute [local go_sem] idx0 idx1 idx2 idx3
set_option maxHeartbeats 2000000 in
theorem pthr_s (W : Int → Int → Int) (al ah bl bh : Int) (bf : Nat) (w : World) (hop : OpAt 155 al ah bl bh W) (hbf : w.heap[bf]? = some (.cells #[.func (.func 155) #[] #[]] 133 (0, 0))) :
    Calls Tryz.prog 193 #[.agg #[.int .i64 al, .int .i64 ah], .agg #[.int .i64 bl, .int .i64 bh], .pointer (some ⟨bf, 0, none⟩)] w fun e w' => e = retS (cL W al ah bl bh 4) (cH W al ah bl bh 4) ∧ Ok w w' := by
  have hb0 := lt_row hbf
  have cf : w.cell? ⟨bf, 0, none⟩ = some (.func (.func 155) #[] #[]) := by rw [cell_of_row _ _ _ _ _ _ hbf]; rfl
  have yb0 : ¬ bf = w.heap.size := by omega
  have xb0 : ¬ w.heap.size = bf := by omega
  have zb1 : bf < w.heap.size + 1 := by omega
  have yb1 : ¬ bf = w.heap.size + 1 := by omega
  have xb1 : ¬ w.heap.size + 1 = bf := by omega
  have zb2 : bf < w.heap.size + 1 + 1 := by omega
  have yb2 : ¬ bf = w.heap.size + 1 + 1 := by omega
  have xb2 : ¬ w.heap.size + 1 + 1 = bf := by omega
  have zb3 : bf < w.heap.size + 1 + 1 + 1 := by omega
  have yb3 : ¬ bf = w.heap.size + 1 + 1 + 1 := by omega
  have xb3 : ¬ w.heap.size + 1 + 1 + 1 = bf := by omega
  have zb4 : bf < w.heap.size + 1 + 1 + 1 + 1 := by omega
  have yb4 : ¬ bf = w.heap.size + 1 + 1 + 1 + 1 := by omega
  have xb4 : ¬ w.heap.size + 1 + 1 + 1 + 1 = bf := by omega
  have HB : Hid _ := hbf
  have HO : Hid _ := hop
  clear hop hbf
  go_enter Tryz.func193, Tryz.ntmps193
  have CF : Hid _ := cf
  go_wp2_with fail
  refine (HO.out _ _ (Or.inl rfl) (Or.inl rfl) _ _ (Ok.refl _)).mono ?_
  rintro e w1 ⟨rfl, hb1⟩
  have hok : Ok w w := Ok.refl w
  have hle1 : w.heap.size + 4 ≤ w1.heap.size := by have := hb1.le; simpa using this
  have HW : Hid (Ok w w1 ∧ w1.heap[w.heap.size + 2]? = some (.cells #[.int .i64 0, .int .i64 0, .int .i64 0, .int .i64 0] 138)) := ⟨Ok.step (by repeat (first | exact hok | refine Ok.alloc ?_ _ | refine Ok.draws ?_ _ | fail)) hb1, Ok.row' hb1 (by repeat (first | (refine heap_at _ _ _ ?hx; case hx => (first | (simp; done) | (simp; omega))) | (refine heap_past _ _ _ ?hy ?_; case hy => (first | (simp; done) | (simp; omega))) | fail))⟩
  have HR : Hid (w1.heap[w.heap.size + 1 + 1 + 1]? = some (.cells #[.int .i64 al, .int .i64 bl, .int .i64 al, .int .i64 bh, .int .i64 ah, .int .i64 bl, .int .i64 ah, .int .i64 bh] 162)) := Ok.row' hb1 (by repeat (first | (refine heap_at _ _ _ ?hx; case hx => (first | (simp; done) | (simp; omega))) | (refine heap_past _ _ _ ?hy ?_; case hy => (first | (simp; done) | (simp; omega))) | fail))
  have k0 : w1.cell? ⟨w.heap.size + 1 + 1 + 1, 0, none⟩ = some (.int .i64 al) := by rw [cell_of_row _ _ _ _ _ _ HR.out]; rfl
  have k1 : w1.cell? ⟨w.heap.size + 1 + 1 + 1, 1, none⟩ = some (.int .i64 bl) := by rw [cell_of_row _ _ _ _ _ _ HR.out]; rfl
  have k2 : w1.cell? ⟨w.heap.size + 1 + 1 + 1, 2, none⟩ = some (.int .i64 al) := by rw [cell_of_row _ _ _ _ _ _ HR.out]; rfl
  have k3 : w1.cell? ⟨w.heap.size + 1 + 1 + 1, 3, none⟩ = some (.int .i64 bh) := by rw [cell_of_row _ _ _ _ _ _ HR.out]; rfl
  have k4 : w1.cell? ⟨w.heap.size + 1 + 1 + 1, 4, none⟩ = some (.int .i64 ah) := by rw [cell_of_row _ _ _ _ _ _ HR.out]; rfl
  have k5 : w1.cell? ⟨w.heap.size + 1 + 1 + 1, 5, none⟩ = some (.int .i64 bl) := by rw [cell_of_row _ _ _ _ _ _ HR.out]; rfl
  have k6 : w1.cell? ⟨w.heap.size + 1 + 1 + 1, 6, none⟩ = some (.int .i64 ah) := by rw [cell_of_row _ _ _ _ _ _ HR.out]; rfl
  have k7 : w1.cell? ⟨w.heap.size + 1 + 1 + 1, 7, none⟩ = some (.int .i64 bh) := by rw [cell_of_row _ _ _ _ _ _ HR.out]; rfl
  have zc0 : w.heap.size + 1 + 1 + 1 < w1.heap.size := by omega
  have yc0 : ¬ w.heap.size + 1 + 1 + 1 = w1.heap.size := by omega
  have xc0 : ¬ w1.heap.size = w.heap.size + 1 + 1 + 1 := by omega
  have zc1 : w.heap.size + 1 + 1 + 1 < w1.heap.size + 1 := by omega
  have yc1 : ¬ w.heap.size + 1 + 1 + 1 = w1.heap.size + 1 := by omega
  have xc1 : ¬ w1.heap.size + 1 = w.heap.size + 1 + 1 + 1 := by omega
  have zc2 : w.heap.size + 1 + 1 + 1 < w1.heap.size + 1 + 1 := by omega
  have yc2 : ¬ w.heap.size + 1 + 1 + 1 = w1.heap.size + 1 + 1 := by omega
  have xc2 : ¬ w1.heap.size + 1 + 1 = w.heap.size + 1 + 1 + 1 := by omega
  clear hb1 hok cf zb1 zb2 zb3 zb4 yb0 yb1 yb2 yb3 yb4 xb0 xb1 xb2 xb3 xb4
  go_wp2_with fail
  clear k0 k1 k2 k3 k4 k5 k6 k7 zc0 zc1 zc2 yc0 yc1 yc2 xc0 xc1 xc2 HR
  obtain ⟨g8, hg8⟩ : ∃ g8, g8 = w1.heap.size + 1 := ⟨_, rfl⟩
  obtain ⟨W1, hW1⟩ : ∃ W1, W1 = (w1.alloc (.cells #[.int .i64 (tW (W al bl)), .int .i64 (wrap64 (W al bl))] 136)).alloc (.cells #[.int .i64 (tW (W al bl)), .int .i64 (wrap64 (W al bl)), .int .i64 (tW (W al bl)), .int .i64 (wrap64 (W al bl))] 138) := ⟨_, rfl⟩
  have HS : Hid (ThrInv w W1 g8 (cL W al ah bl bh 0) (cH W al ah bl bh 0)) := by
    rw [hW1]
    refine ⟨(HW.out.1.alloc _).alloc _, heap_past _ _ _ (by simp; omega) (heap_past _ _ _ (by omega) HW.out.2), heap_at _ _ _ (by rw [hg8]; simp), by omega⟩
  rw [← hW1, ← hg8]
  have HG : Hid (bf < w.heap.size) := hb0
  clear hW1 hg8 hle1 HW hb0 HB
  go_loopw [42] (fun i wr => ∃ k : Nat, k ≤ 4 ∧ i = .int .i64 k ∧ Hid (ThrInv w wr g8 (cL W al ah bl bh k) (cH W al ah bl bh k))) (fun i _ => (4 - intOf i).toNat)
  case atStart => exact ⟨0, by omega, rfl, HS⟩
  case round =>
    obtain ⟨k, hk, rfl, HI⟩ := hrel
    clear HS
    by_cases hk1 : k < 4
    · have hk2 : (k : Int) < 4 := by omega
      obtain ⟨r1, r2, r3, r4⟩ := HI.out
      have sz := lt_row r3
      have e0 := Ok.cell r1 HG.out CF.out
      obtain ⟨L, hL⟩ : ∃ L, L = cL W al ah bl bh k := ⟨_, rfl⟩
      obtain ⟨H, hH⟩ : ∃ H, H = cH W al ah bl bh k := ⟨_, rfl⟩
      have SL : Hid (cL W al ah bl bh (k + 1) = min L (W (cX al ah k) (cY bl bh k))) := by rw [hL]; rfl
      have SH : Hid (cH W al ah bl bh (k + 1) = max H (W (cX al ah k) (cY bl bh k))) := by rw [hH]; rfl
      rw [← hL, ← hH] at r3
      have l0 : wr.cell? ⟨g8, 0, none⟩ = some (.int .i64 (tW L)) := by rw [cell_of_row _ _ _ _ _ _ r3]; rfl
      have l1 : wr.cell? ⟨g8, 1, none⟩ = some (.int .i64 (wrap64 L)) := by rw [cell_of_row _ _ _ _ _ _ r3]; rfl
      have l2 : wr.cell? ⟨g8, 2, none⟩ = some (.int .i64 (tW H)) := by rw [cell_of_row _ _ _ _ _ _ r3]; rfl
      have l3 : wr.cell? ⟨g8, 3, none⟩ = some (.int .i64 (wrap64 H)) := by rw [cell_of_row _ _ _ _ _ _ r3]; rfl
      have HV : Hid (ThrInv w wr g8 L H) := ⟨r1, r2, r3, r4⟩
      clear HI r1 r2 r3 r4 hL hH
      have b1 : g8 < wr.heap.size := sz
      have b2 : ¬ g8 = wr.heap.size := by omega
      have b3 : ¬ wr.heap.size = g8 := by omega
      have hb := HG.out; have hg := HV.out.2.2.2
      have b4 : bf < wr.heap.size := by omega
      have b5 : ¬ bf = wr.heap.size := by omega
      have b6 : ¬ wr.heap.size = bf := by omega
      have b7 : ¬ bf = g8 := by omega
      have b8 : ¬ g8 = bf := by omega
      clear hb hg
      obtain rfl | rfl | rfl | rfl : k = 0 ∨ k = 1 ∨ k = 2 ∨ k = 3 := by omega
      · go_wp2_with fail
        obtain ⟨gt, hgt⟩ : ∃ gt, gt = wr.heap.size := ⟨_, rfl⟩
        obtain ⟨X, hX⟩ : ∃ X, X = wr.alloc (.cells #[.int .i64 al, .int .i64 bl] 161) := ⟨_, rfl⟩
        have okX : Ok wr X := by rw [hX]; exact (Ok.refl _).alloc _
        have rt : X.heap[gt]? = some (.cells #[.int .i64 al, .int .i64 bl] 161) := by rw [hX]; exact heap_at _ _ _ hgt
        obtain ⟨t0, t1, _, _⟩ := row_facts rt
        have u1 := lt_row rt
        rw [← hX, ← hgt]
        have m0 := Ok.cell okX b1 l0; have m1 := Ok.cell okX b1 l1; have m2 := Ok.cell okX b1 l2; have m3 := Ok.cell okX b1 l3
        have m4 := Ok.cell okX b4 e0
        have u2 : g8 < X.heap.size := by omega
        have u3 : bf < X.heap.size := by omega
        have HX : Hid (Ok wr X) := okX
        have HM : Hid (X.cell? ⟨g8, 0, none⟩ = some (.int .i64 (tW L)) ∧ X.cell? ⟨g8, 1, none⟩ = some (.int .i64 (wrap64 L)) ∧ X.cell? ⟨g8, 2, none⟩ = some (.int .i64 (tW H)) ∧ X.cell? ⟨g8, 3, none⟩ = some (.int .i64 (wrap64 H)) ∧ X.cell? ⟨bf, 0, none⟩ = some (.func (.func 155) #[] #[]) ∧ X.cell? ⟨gt, 0, none⟩ = some (.int .i64 al) ∧ X.cell? ⟨gt, 1, none⟩ = some (.int .i64 bl)) := ⟨m0, m1, m2, m3, m4, t0, t1⟩
        have HU : Hid (g8 < X.heap.size ∧ bf < X.heap.size ∧ gt < X.heap.size) := ⟨u2, u3, u1⟩
        clear hX hgt okX rt l0 l1 l2 l3 e0 b1 b2 b3 b4 b5 b6 b7 b8 sz u1 u2 u3 m0 m1 m2 m3 m4 t0 t1
        refine wp_region_L (fun w' => w'.cell? ⟨g8, 0, none⟩ = some (.int .i64 (tW L)) ∧ w'.cell? ⟨g8, 1, none⟩ = some (.int .i64 (wrap64 L)) ∧ w'.cell? ⟨g8, 2, none⟩ = some (.int .i64 (tW H)) ∧ w'.cell? ⟨g8, 3, none⟩ = some (.int .i64 (wrap64 H)) ∧ w'.cell? ⟨bf, 0, none⟩ = some (.func (.func 155) #[] #[]) ∧ w'.cell? ⟨gt, 0, none⟩ = some (.int .i64 al) ∧ w'.cell? ⟨gt, 1, none⟩ = some (.int .i64 bl)) 8 (by kernel_rfl) ?_
        refine wpAnyL_take (i := 0) (oi := { dst := some 45, op := Op.load 138 (Operand.tmp 8), type := 138, pos := "whole.go:69", after := #[], guard := Option.none }) (v := .agg #[.int .i64 (tW L), .int .i64 (wrap64 L), .int .i64 (tW H), .int .i64 (wrap64 H)]) rfl (by kernel_rfl) (by kernel_rfl) (by kernel_rfl) (by kernel_rfl) (fun _ _ _ h => h) HM.out (Or.inl ⟨by rfl, ?_⟩) ?_
        · intro w' hSw
          obtain ⟨s0, s1, s2, s3, s4, s5, s6⟩ := hSw
          go_simp
        simp only [Act.put, List.setIfInBounds_toArray, List.set_cons_zero, List.set_cons_succ]
        refine wpAnyL_take (i := 1) (oi := { dst := some 46, op := Op.load 133 (Operand.tmp 2), type := 133, pos := "whole.go:69", after := #[], guard := Option.none }) (v := .func (.func 155) #[] #[]) rfl (by kernel_rfl) (by kernel_rfl) (by kernel_rfl) (by kernel_rfl) (fun _ _ _ h => h) HM.out (Or.inl ⟨by rfl, ?_⟩) ?_
        · intro w' hSw
          obtain ⟨s0, s1, s2, s3, s4, s5, s6⟩ := hSw
          go_simp
        simp only [Act.put, List.setIfInBounds_toArray, List.set_cons_zero, List.set_cons_succ]
        refine wpAnyL_take (i := 2) (oi := { dst := some 47, op := Op.indexAddr 161 (Operand.tmp 10) (Operand.const (Value.int IntKind.i64 0)), type := 0, pos := "whole.go:69", after := #[], guard := Option.none }) (v := .pointer (some ⟨gt, 0, none⟩)) rfl (by kernel_rfl) (by kernel_rfl) (by kernel_rfl) (by kernel_rfl) (fun _ _ _ h => h) HM.out (Or.inl ⟨by rfl, ?_⟩) ?_
        · intro w' hSw
          obtain ⟨s0, s1, s2, s3, s4, s5, s6⟩ := hSw
          go_simp
        simp only [Act.put, List.setIfInBounds_toArray, List.set_cons_zero, List.set_cons_succ]
        refine wpAnyL_take (i := 3) (oi := { dst := some 48, op := Op.load 2 (Operand.tmp 47), type := 2, pos := "whole.go:69", after := #[{ on := 2, ground := Ground.data }], guard := Option.none }) (v := .int .i64 al) rfl (by kernel_rfl) (by kernel_rfl) (by kernel_rfl) (by kernel_rfl) (fun _ _ _ h => h) HM.out (Or.inl ⟨by rfl, ?_⟩) ?_
        · intro w' hSw
          obtain ⟨s0, s1, s2, s3, s4, s5, s6⟩ := hSw
          go_simp
        simp only [Act.put, List.setIfInBounds_toArray, List.set_cons_zero, List.set_cons_succ]
        refine wpAnyL_take (i := 4) (oi := { dst := some 49, op := Op.indexAddr 161 (Operand.tmp 10) (Operand.const (Value.int IntKind.i64 1)), type := 0, pos := "whole.go:69", after := #[], guard := Option.none }) (v := .pointer (some ⟨gt, 1, none⟩)) rfl (by kernel_rfl) (by kernel_rfl) (by kernel_rfl) (by kernel_rfl) (fun _ _ _ h => h) HM.out (Or.inl ⟨by rfl, ?_⟩) ?_
        · intro w' hSw
          obtain ⟨s0, s1, s2, s3, s4, s5, s6⟩ := hSw
          go_simp
        simp only [Act.put, List.setIfInBounds_toArray, List.set_cons_zero, List.set_cons_succ]
        refine wpAnyL_take (i := 5) (oi := { dst := some 50, op := Op.load 2 (Operand.tmp 49), type := 2, pos := "whole.go:69", after := #[{ on := 4, ground := Ground.data }], guard := Option.none }) (v := .int .i64 bl) rfl (by kernel_rfl) (by kernel_rfl) (by kernel_rfl) (by kernel_rfl) (fun _ _ _ h => h) HM.out (Or.inl ⟨by rfl, ?_⟩) ?_
        · intro w' hSw
          obtain ⟨s0, s1, s2, s3, s4, s5, s6⟩ := hSw
          go_simp
        simp only [Act.put, List.setIfInBounds_toArray, List.set_cons_zero, List.set_cons_succ]
        refine wpAnyL_step (i := 6) (by kernel_rfl) rfl (fun K hK => ?_)
        go_simp
        refine (HO.out _ _ (Or.inl rfl) (Or.inl rfl) X _ (Below.drew (Ok.refl _))).mono ?_
        rintro e w2 ⟨rfl, hb2⟩
        go_wp2_with fail
        refine hK.out _ _ (fun _ => ⟨Ok.cell hb2 HU.out.1 HM.out.1, Ok.cell hb2 HU.out.1 HM.out.2.1, Ok.cell hb2 HU.out.1 HM.out.2.2.1, Ok.cell hb2 HU.out.1 HM.out.2.2.2.1, Ok.cell hb2 HU.out.2.1 HM.out.2.2.2.2.1, Ok.cell hb2 HU.out.2.2 HM.out.2.2.2.2.2.1, Ok.cell hb2 HU.out.2.2 HM.out.2.2.2.2.2.2⟩) ?_
        clear hK K
        refine wpAnyL_step (i := 7) (by kernel_rfl) rfl (fun K hK => ?_)
        go_simp
        refine (pwith_is _ _ _ X _ hb2).mono ?_
        rintro e w3 ⟨rfl, hb3⟩
        go_wp2_with fail
        refine hK.out _ _ (fun _ => ⟨Ok.cell hb3 HU.out.1 HM.out.1, Ok.cell hb3 HU.out.1 HM.out.2.1, Ok.cell hb3 HU.out.1 HM.out.2.2.1, Ok.cell hb3 HU.out.1 HM.out.2.2.2.1, Ok.cell hb3 HU.out.2.1 HM.out.2.2.2.2.1, Ok.cell hb3 HU.out.2.2 HM.out.2.2.2.2.2.1, Ok.cell hb3 HU.out.2.2 HM.out.2.2.2.2.2.2⟩) ?_
        clear hK K
        have hb4 := Ok.step HX.out hb3
        obtain ⟨⟨y0, y1, y2, y3⟩, z0, z1, z2, z3⟩ := row_facts4 (Ok.row' hb4 HV.out.2.2.1)
        have H4 : Hid (Ok wr w3) := hb4
        clear hb4 hb3 hb2 HX HM HU
        refine wpAnyL_step (i := 8) (by kernel_rfl) rfl (fun K hK => ?_)
        go_simp
        refine hK.out _ _ (fun h => absurd rfl h) ?_
        clear hK K
        refine wpAnyL_done (by kernel_rfl) ?_ _
        go_wp2_with fail
        go_roundw
        case rel =>
          refine ⟨0 + 1, by omega, rfl, ?_⟩
          rw [SL.out, SH.out]
          exact HV.out.next H4.out
        case measure => simp only [intOf]; omega
      · go_wp2_with fail
        obtain ⟨gt, hgt⟩ : ∃ gt, gt = wr.heap.size := ⟨_, rfl⟩
        obtain ⟨X, hX⟩ : ∃ X, X = wr.alloc (.cells #[.int .i64 al, .int .i64 bh] 161) := ⟨_, rfl⟩
        have okX : Ok wr X := by rw [hX]; exact (Ok.refl _).alloc _
        have rt : X.heap[gt]? = some (.cells #[.int .i64 al, .int .i64 bh] 161) := by rw [hX]; exact heap_at _ _ _ hgt
        obtain ⟨t0, t1, _, _⟩ := row_facts rt
        have u1 := lt_row rt
        rw [← hX, ← hgt]
        have m0 := Ok.cell okX b1 l0; have m1 := Ok.cell okX b1 l1; have m2 := Ok.cell okX b1 l2; have m3 := Ok.cell okX b1 l3
        have m4 := Ok.cell okX b4 e0
        have u2 : g8 < X.heap.size := by omega
        have u3 : bf < X.heap.size := by omega
        have HX : Hid (Ok wr X) := okX
        have HM : Hid (X.cell? ⟨g8, 0, none⟩ = some (.int .i64 (tW L)) ∧ X.cell? ⟨g8, 1, none⟩ = some (.int .i64 (wrap64 L)) ∧ X.cell? ⟨g8, 2, none⟩ = some (.int .i64 (tW H)) ∧ X.cell? ⟨g8, 3, none⟩ = some (.int .i64 (wrap64 H)) ∧ X.cell? ⟨bf, 0, none⟩ = some (.func (.func 155) #[] #[]) ∧ X.cell? ⟨gt, 0, none⟩ = some (.int .i64 al) ∧ X.cell? ⟨gt, 1, none⟩ = some (.int .i64 bh)) := ⟨m0, m1, m2, m3, m4, t0, t1⟩
        have HU : Hid (g8 < X.heap.size ∧ bf < X.heap.size ∧ gt < X.heap.size) := ⟨u2, u3, u1⟩
        clear hX hgt okX rt l0 l1 l2 l3 e0 b1 b2 b3 b4 b5 b6 b7 b8 sz u1 u2 u3 m0 m1 m2 m3 m4 t0 t1
        refine wp_region_L (fun w' => w'.cell? ⟨g8, 0, none⟩ = some (.int .i64 (tW L)) ∧ w'.cell? ⟨g8, 1, none⟩ = some (.int .i64 (wrap64 L)) ∧ w'.cell? ⟨g8, 2, none⟩ = some (.int .i64 (tW H)) ∧ w'.cell? ⟨g8, 3, none⟩ = some (.int .i64 (wrap64 H)) ∧ w'.cell? ⟨bf, 0, none⟩ = some (.func (.func 155) #[] #[]) ∧ w'.cell? ⟨gt, 0, none⟩ = some (.int .i64 al) ∧ w'.cell? ⟨gt, 1, none⟩ = some (.int .i64 bh)) 8 (by kernel_rfl) ?_
        refine wpAnyL_take (i := 0) (oi := { dst := some 45, op := Op.load 138 (Operand.tmp 8), type := 138, pos := "whole.go:69", after := #[], guard := Option.none }) (v := .agg #[.int .i64 (tW L), .int .i64 (wrap64 L), .int .i64 (tW H), .int .i64 (wrap64 H)]) rfl (by kernel_rfl) (by kernel_rfl) (by kernel_rfl) (by kernel_rfl) (fun _ _ _ h => h) HM.out (Or.inl ⟨by rfl, ?_⟩) ?_
        · intro w' hSw
          obtain ⟨s0, s1, s2, s3, s4, s5, s6⟩ := hSw
          go_simp
        simp only [Act.put, List.setIfInBounds_toArray, List.set_cons_zero, List.set_cons_succ]
        refine wpAnyL_take (i := 1) (oi := { dst := some 46, op := Op.load 133 (Operand.tmp 2), type := 133, pos := "whole.go:69", after := #[], guard := Option.none }) (v := .func (.func 155) #[] #[]) rfl (by kernel_rfl) (by kernel_rfl) (by kernel_rfl) (by kernel_rfl) (fun _ _ _ h => h) HM.out (Or.inl ⟨by rfl, ?_⟩) ?_
        · intro w' hSw
          obtain ⟨s0, s1, s2, s3, s4, s5, s6⟩ := hSw
          go_simp
        simp only [Act.put, List.setIfInBounds_toArray, List.set_cons_zero, List.set_cons_succ]
        refine wpAnyL_take (i := 2) (oi := { dst := some 47, op := Op.indexAddr 161 (Operand.tmp 10) (Operand.const (Value.int IntKind.i64 0)), type := 0, pos := "whole.go:69", after := #[], guard := Option.none }) (v := .pointer (some ⟨gt, 0, none⟩)) rfl (by kernel_rfl) (by kernel_rfl) (by kernel_rfl) (by kernel_rfl) (fun _ _ _ h => h) HM.out (Or.inl ⟨by rfl, ?_⟩) ?_
        · intro w' hSw
          obtain ⟨s0, s1, s2, s3, s4, s5, s6⟩ := hSw
          go_simp
        simp only [Act.put, List.setIfInBounds_toArray, List.set_cons_zero, List.set_cons_succ]
        refine wpAnyL_take (i := 3) (oi := { dst := some 48, op := Op.load 2 (Operand.tmp 47), type := 2, pos := "whole.go:69", after := #[{ on := 2, ground := Ground.data }], guard := Option.none }) (v := .int .i64 al) rfl (by kernel_rfl) (by kernel_rfl) (by kernel_rfl) (by kernel_rfl) (fun _ _ _ h => h) HM.out (Or.inl ⟨by rfl, ?_⟩) ?_
        · intro w' hSw
          obtain ⟨s0, s1, s2, s3, s4, s5, s6⟩ := hSw
          go_simp
        simp only [Act.put, List.setIfInBounds_toArray, List.set_cons_zero, List.set_cons_succ]
        refine wpAnyL_take (i := 4) (oi := { dst := some 49, op := Op.indexAddr 161 (Operand.tmp 10) (Operand.const (Value.int IntKind.i64 1)), type := 0, pos := "whole.go:69", after := #[], guard := Option.none }) (v := .pointer (some ⟨gt, 1, none⟩)) rfl (by kernel_rfl) (by kernel_rfl) (by kernel_rfl) (by kernel_rfl) (fun _ _ _ h => h) HM.out (Or.inl ⟨by rfl, ?_⟩) ?_
        · intro w' hSw
          obtain ⟨s0, s1, s2, s3, s4, s5, s6⟩ := hSw
          go_simp
        simp only [Act.put, List.setIfInBounds_toArray, List.set_cons_zero, List.set_cons_succ]
        refine wpAnyL_take (i := 5) (oi := { dst := some 50, op := Op.load 2 (Operand.tmp 49), type := 2, pos := "whole.go:69", after := #[{ on := 4, ground := Ground.data }], guard := Option.none }) (v := .int .i64 bh) rfl (by kernel_rfl) (by kernel_rfl) (by kernel_rfl) (by kernel_rfl) (fun _ _ _ h => h) HM.out (Or.inl ⟨by rfl, ?_⟩) ?_
        · intro w' hSw
          obtain ⟨s0, s1, s2, s3, s4, s5, s6⟩ := hSw
          go_simp
        simp only [Act.put, List.setIfInBounds_toArray, List.set_cons_zero, List.set_cons_succ]
        refine wpAnyL_step (i := 6) (by kernel_rfl) rfl (fun K hK => ?_)
        go_simp
        refine (HO.out _ _ (Or.inl rfl) (Or.inr rfl) X _ (Below.drew (Ok.refl _))).mono ?_
        rintro e w2 ⟨rfl, hb2⟩
        go_wp2_with fail
        refine hK.out _ _ (fun _ => ⟨Ok.cell hb2 HU.out.1 HM.out.1, Ok.cell hb2 HU.out.1 HM.out.2.1, Ok.cell hb2 HU.out.1 HM.out.2.2.1, Ok.cell hb2 HU.out.1 HM.out.2.2.2.1, Ok.cell hb2 HU.out.2.1 HM.out.2.2.2.2.1, Ok.cell hb2 HU.out.2.2 HM.out.2.2.2.2.2.1, Ok.cell hb2 HU.out.2.2 HM.out.2.2.2.2.2.2⟩) ?_
        clear hK K
        refine wpAnyL_step (i := 7) (by kernel_rfl) rfl (fun K hK => ?_)
        go_simp
        refine (pwith_is _ _ _ X _ hb2).mono ?_
        rintro e w3 ⟨rfl, hb3⟩
        go_wp2_with fail
        refine hK.out _ _ (fun _ => ⟨Ok.cell hb3 HU.out.1 HM.out.1, Ok.cell hb3 HU.out.1 HM.out.2.1, Ok.cell hb3 HU.out.1 HM.out.2.2.1, Ok.cell hb3 HU.out.1 HM.out.2.2.2.1, Ok.cell hb3 HU.out.2.1 HM.out.2.2.2.2.1, Ok.cell hb3 HU.out.2.2 HM.out.2.2.2.2.2.1, Ok.cell hb3 HU.out.2.2 HM.out.2.2.2.2.2.2⟩) ?_
        clear hK K
        have hb4 := Ok.step HX.out hb3
        obtain ⟨⟨y0, y1, y2, y3⟩, z0, z1, z2, z3⟩ := row_facts4 (Ok.row' hb4 HV.out.2.2.1)
        have H4 : Hid (Ok wr w3) := hb4
        clear hb4 hb3 hb2 HX HM HU
        refine wpAnyL_step (i := 8) (by kernel_rfl) rfl (fun K hK => ?_)
        go_simp
        refine hK.out _ _ (fun h => absurd rfl h) ?_
        clear hK K
        refine wpAnyL_done (by kernel_rfl) ?_ _
        go_wp2_with fail
        go_roundw
        case rel =>
          refine ⟨1 + 1, by omega, rfl, ?_⟩
          rw [SL.out, SH.out]
          exact HV.out.next H4.out
        case measure => simp only [intOf]; omega
      · go_wp2_with fail
        obtain ⟨gt, hgt⟩ : ∃ gt, gt = wr.heap.size := ⟨_, rfl⟩
        obtain ⟨X, hX⟩ : ∃ X, X = wr.alloc (.cells #[.int .i64 ah, .int .i64 bl] 161) := ⟨_, rfl⟩
        have okX : Ok wr X := by rw [hX]; exact (Ok.refl _).alloc _
        have rt : X.heap[gt]? = some (.cells #[.int .i64 ah, .int .i64 bl] 161) := by rw [hX]; exact heap_at _ _ _ hgt
        obtain ⟨t0, t1, _, _⟩ := row_facts rt
        have u1 := lt_row rt
        rw [← hX, ← hgt]
        have m0 := Ok.cell okX b1 l0; have m1 := Ok.cell okX b1 l1; have m2 := Ok.cell okX b1 l2; have m3 := Ok.cell okX b1 l3
        have m4 := Ok.cell okX b4 e0
        have u2 : g8 < X.heap.size := by omega
        have u3 : bf < X.heap.size := by omega
        have HX : Hid (Ok wr X) := okX
        have HM : Hid (X.cell? ⟨g8, 0, none⟩ = some (.int .i64 (tW L)) ∧ X.cell? ⟨g8, 1, none⟩ = some (.int .i64 (wrap64 L)) ∧ X.cell? ⟨g8, 2, none⟩ = some (.int .i64 (tW H)) ∧ X.cell? ⟨g8, 3, none⟩ = some (.int .i64 (wrap64 H)) ∧ X.cell? ⟨bf, 0, none⟩ = some (.func (.func 155) #[] #[]) ∧ X.cell? ⟨gt, 0, none⟩ = some (.int .i64 ah) ∧ X.cell? ⟨gt, 1, none⟩ = some (.int .i64 bl)) := ⟨m0, m1, m2, m3, m4, t0, t1⟩
        have HU : Hid (g8 < X.heap.size ∧ bf < X.heap.size ∧ gt < X.heap.size) := ⟨u2, u3, u1⟩
        clear hX hgt okX rt l0 l1 l2 l3 e0 b1 b2 b3 b4 b5 b6 b7 b8 sz u1 u2 u3 m0 m1 m2 m3 m4 t0 t1
        refine wp_region_L (fun w' => w'.cell? ⟨g8, 0, none⟩ = some (.int .i64 (tW L)) ∧ w'.cell? ⟨g8, 1, none⟩ = some (.int .i64 (wrap64 L)) ∧ w'.cell? ⟨g8, 2, none⟩ = some (.int .i64 (tW H)) ∧ w'.cell? ⟨g8, 3, none⟩ = some (.int .i64 (wrap64 H)) ∧ w'.cell? ⟨bf, 0, none⟩ = some (.func (.func 155) #[] #[]) ∧ w'.cell? ⟨gt, 0, none⟩ = some (.int .i64 ah) ∧ w'.cell? ⟨gt, 1, none⟩ = some (.int .i64 bl)) 8 (by kernel_rfl) ?_
        refine wpAnyL_take (i := 0) (oi := { dst := some 45, op := Op.load 138 (Operand.tmp 8), type := 138, pos := "whole.go:69", after := #[], guard := Option.none }) (v := .agg #[.int .i64 (tW L), .int .i64 (wrap64 L), .int .i64 (tW H), .int .i64 (wrap64 H)]) rfl (by kernel_rfl) (by kernel_rfl) (by kernel_rfl) (by kernel_rfl) (fun _ _ _ h => h) HM.out (Or.inl ⟨by rfl, ?_⟩) ?_
        · intro w' hSw
          obtain ⟨s0, s1, s2, s3, s4, s5, s6⟩ := hSw
          go_simp
        simp only [Act.put, List.setIfInBounds_toArray, List.set_cons_zero, List.set_cons_succ]
        refine wpAnyL_take (i := 1) (oi := { dst := some 46, op := Op.load 133 (Operand.tmp 2), type := 133, pos := "whole.go:69", after := #[], guard := Option.none }) (v := .func (.func 155) #[] #[]) rfl (by kernel_rfl) (by kernel_rfl) (by kernel_rfl) (by kernel_rfl) (fun _ _ _ h => h) HM.out (Or.inl ⟨by rfl, ?_⟩) ?_
        · intro w' hSw
          obtain ⟨s0, s1, s2, s3, s4, s5, s6⟩ := hSw
          go_simp
        simp only [Act.put, List.setIfInBounds_toArray, List.set_cons_zero, List.set_cons_succ]
        refine wpAnyL_take (i := 2) (oi := { dst := some 47, op := Op.indexAddr 161 (Operand.tmp 10) (Operand.const (Value.int IntKind.i64 0)), type := 0, pos := "whole.go:69", after := #[], guard := Option.none }) (v := .pointer (some ⟨gt, 0, none⟩)) rfl (by kernel_rfl) (by kernel_rfl) (by kernel_rfl) (by kernel_rfl) (fun _ _ _ h => h) HM.out (Or.inl ⟨by rfl, ?_⟩) ?_
        · intro w' hSw
          obtain ⟨s0, s1, s2, s3, s4, s5, s6⟩ := hSw
          go_simp
        simp only [Act.put, List.setIfInBounds_toArray, List.set_cons_zero, List.set_cons_succ]
        refine wpAnyL_take (i := 3) (oi := { dst := some 48, op := Op.load 2 (Operand.tmp 47), type := 2, pos := "whole.go:69", after := #[{ on := 2, ground := Ground.data }], guard := Option.none }) (v := .int .i64 ah) rfl (by kernel_rfl) (by kernel_rfl) (by kernel_rfl) (by kernel_rfl) (fun _ _ _ h => h) HM.out (Or.inl ⟨by rfl, ?_⟩) ?_
        · intro w' hSw
          obtain ⟨s0, s1, s2, s3, s4, s5, s6⟩ := hSw
          go_simp
        simp only [Act.put, List.setIfInBounds_toArray, List.set_cons_zero, List.set_cons_succ]
        refine wpAnyL_take (i := 4) (oi := { dst := some 49, op := Op.indexAddr 161 (Operand.tmp 10) (Operand.const (Value.int IntKind.i64 1)), type := 0, pos := "whole.go:69", after := #[], guard := Option.none }) (v := .pointer (some ⟨gt, 1, none⟩)) rfl (by kernel_rfl) (by kernel_rfl) (by kernel_rfl) (by kernel_rfl) (fun _ _ _ h => h) HM.out (Or.inl ⟨by rfl, ?_⟩) ?_
        · intro w' hSw
          obtain ⟨s0, s1, s2, s3, s4, s5, s6⟩ := hSw
          go_simp
        simp only [Act.put, List.setIfInBounds_toArray, List.set_cons_zero, List.set_cons_succ]
        refine wpAnyL_take (i := 5) (oi := { dst := some 50, op := Op.load 2 (Operand.tmp 49), type := 2, pos := "whole.go:69", after := #[{ on := 4, ground := Ground.data }], guard := Option.none }) (v := .int .i64 bl) rfl (by kernel_rfl) (by kernel_rfl) (by kernel_rfl) (by kernel_rfl) (fun _ _ _ h => h) HM.out (Or.inl ⟨by rfl, ?_⟩) ?_
        · intro w' hSw
          obtain ⟨s0, s1, s2, s3, s4, s5, s6⟩ := hSw
          go_simp
        simp only [Act.put, List.setIfInBounds_toArray, List.set_cons_zero, List.set_cons_succ]
        refine wpAnyL_step (i := 6) (by kernel_rfl) rfl (fun K hK => ?_)
        go_simp
        refine (HO.out _ _ (Or.inr rfl) (Or.inl rfl) X _ (Below.drew (Ok.refl _))).mono ?_
        rintro e w2 ⟨rfl, hb2⟩
        go_wp2_with fail
        refine hK.out _ _ (fun _ => ⟨Ok.cell hb2 HU.out.1 HM.out.1, Ok.cell hb2 HU.out.1 HM.out.2.1, Ok.cell hb2 HU.out.1 HM.out.2.2.1, Ok.cell hb2 HU.out.1 HM.out.2.2.2.1, Ok.cell hb2 HU.out.2.1 HM.out.2.2.2.2.1, Ok.cell hb2 HU.out.2.2 HM.out.2.2.2.2.2.1, Ok.cell hb2 HU.out.2.2 HM.out.2.2.2.2.2.2⟩) ?_
        clear hK K
        refine wpAnyL_step (i := 7) (by kernel_rfl) rfl (fun K hK => ?_)
        go_simp
        refine (pwith_is _ _ _ X _ hb2).mono ?_
        rintro e w3 ⟨rfl, hb3⟩
        go_wp2_with fail
        refine hK.out _ _ (fun _ => ⟨Ok.cell hb3 HU.out.1 HM.out.1, Ok.cell hb3 HU.out.1 HM.out.2.1, Ok.cell hb3 HU.out.1 HM.out.2.2.1, Ok.cell hb3 HU.out.1 HM.out.2.2.2.1, Ok.cell hb3 HU.out.2.1 HM.out.2.2.2.2.1, Ok.cell hb3 HU.out.2.2 HM.out.2.2.2.2.2.1, Ok.cell hb3 HU.out.2.2 HM.out.2.2.2.2.2.2⟩) ?_
        clear hK K
        have hb4 := Ok.step HX.out hb3
        obtain ⟨⟨y0, y1, y2, y3⟩, z0, z1, z2, z3⟩ := row_facts4 (Ok.row' hb4 HV.out.2.2.1)
        have H4 : Hid (Ok wr w3) := hb4
        clear hb4 hb3 hb2 HX HM HU
        refine wpAnyL_step (i := 8) (by kernel_rfl) rfl (fun K hK => ?_)
        go_simp
        refine hK.out _ _ (fun h => absurd rfl h) ?_
        clear hK K
        refine wpAnyL_done (by kernel_rfl) ?_ _
        go_wp2_with fail
        go_roundw
        case rel =>
          refine ⟨2 + 1, by omega, rfl, ?_⟩
          rw [SL.out, SH.out]
          exact HV.out.next H4.out
        case measure => simp only [intOf]; omega
      · go_wp2_with fail
        obtain ⟨gt, hgt⟩ : ∃ gt, gt = wr.heap.size := ⟨_, rfl⟩
        obtain ⟨X, hX⟩ : ∃ X, X = wr.alloc (.cells #[.int .i64 ah, .int .i64 bh] 161) := ⟨_, rfl⟩
        have okX : Ok wr X := by rw [hX]; exact (Ok.refl _).alloc _
        have rt : X.heap[gt]? = some (.cells #[.int .i64 ah, .int .i64 bh] 161) := by rw [hX]; exact heap_at _ _ _ hgt
        obtain ⟨t0, t1, _, _⟩ := row_facts rt
        have u1 := lt_row rt
        rw [← hX, ← hgt]
        have m0 := Ok.cell okX b1 l0; have m1 := Ok.cell okX b1 l1; have m2 := Ok.cell okX b1 l2; have m3 := Ok.cell okX b1 l3
        have m4 := Ok.cell okX b4 e0
        have u2 : g8 < X.heap.size := by omega
        have u3 : bf < X.heap.size := by omega
        have HX : Hid (Ok wr X) := okX
        have HM : Hid (X.cell? ⟨g8, 0, none⟩ = some (.int .i64 (tW L)) ∧ X.cell? ⟨g8, 1, none⟩ = some (.int .i64 (wrap64 L)) ∧ X.cell? ⟨g8, 2, none⟩ = some (.int .i64 (tW H)) ∧ X.cell? ⟨g8, 3, none⟩ = some (.int .i64 (wrap64 H)) ∧ X.cell? ⟨bf, 0, none⟩ = some (.func (.func 155) #[] #[]) ∧ X.cell? ⟨gt, 0, none⟩ = some (.int .i64 ah) ∧ X.cell? ⟨gt, 1, none⟩ = some (.int .i64 bh)) := ⟨m0, m1, m2, m3, m4, t0, t1⟩
        have HU : Hid (g8 < X.heap.size ∧ bf < X.heap.size ∧ gt < X.heap.size) := ⟨u2, u3, u1⟩
        clear hX hgt okX rt l0 l1 l2 l3 e0 b1 b2 b3 b4 b5 b6 b7 b8 sz u1 u2 u3 m0 m1 m2 m3 m4 t0 t1
        refine wp_region_L (fun w' => w'.cell? ⟨g8, 0, none⟩ = some (.int .i64 (tW L)) ∧ w'.cell? ⟨g8, 1, none⟩ = some (.int .i64 (wrap64 L)) ∧ w'.cell? ⟨g8, 2, none⟩ = some (.int .i64 (tW H)) ∧ w'.cell? ⟨g8, 3, none⟩ = some (.int .i64 (wrap64 H)) ∧ w'.cell? ⟨bf, 0, none⟩ = some (.func (.func 155) #[] #[]) ∧ w'.cell? ⟨gt, 0, none⟩ = some (.int .i64 ah) ∧ w'.cell? ⟨gt, 1, none⟩ = some (.int .i64 bh)) 8 (by kernel_rfl) ?_
        refine wpAnyL_take (i := 0) (oi := { dst := some 45, op := Op.load 138 (Operand.tmp 8), type := 138, pos := "whole.go:69", after := #[], guard := Option.none }) (v := .agg #[.int .i64 (tW L), .int .i64 (wrap64 L), .int .i64 (tW H), .int .i64 (wrap64 H)]) rfl (by kernel_rfl) (by kernel_rfl) (by kernel_rfl) (by kernel_rfl) (fun _ _ _ h => h) HM.out (Or.inl ⟨by rfl, ?_⟩) ?_
        · intro w' hSw
          obtain ⟨s0, s1, s2, s3, s4, s5, s6⟩ := hSw
          go_simp
        simp only [Act.put, List.setIfInBounds_toArray, List.set_cons_zero, List.set_cons_succ]
        refine wpAnyL_take (i := 1) (oi := { dst := some 46, op := Op.load 133 (Operand.tmp 2), type := 133, pos := "whole.go:69", after := #[], guard := Option.none }) (v := .func (.func 155) #[] #[]) rfl (by kernel_rfl) (by kernel_rfl) (by kernel_rfl) (by kernel_rfl) (fun _ _ _ h => h) HM.out (Or.inl ⟨by rfl, ?_⟩) ?_
        · intro w' hSw
          obtain ⟨s0, s1, s2, s3, s4, s5, s6⟩ := hSw
          go_simp
        simp only [Act.put, List.setIfInBounds_toArray, List.set_cons_zero, List.set_cons_succ]
        refine wpAnyL_take (i := 2) (oi := { dst := some 47, op := Op.indexAddr 161 (Operand.tmp 10) (Operand.const (Value.int IntKind.i64 0)), type := 0, pos := "whole.go:69", after := #[], guard := Option.none }) (v := .pointer (some ⟨gt, 0, none⟩)) rfl (by kernel_rfl) (by kernel_rfl) (by kernel_rfl) (by kernel_rfl) (fun _ _ _ h => h) HM.out (Or.inl ⟨by rfl, ?_⟩) ?_
        · intro w' hSw
          obtain ⟨s0, s1, s2, s3, s4, s5, s6⟩ := hSw
          go_simp
        simp only [Act.put, List.setIfInBounds_toArray, List.set_cons_zero, List.set_cons_succ]
        refine wpAnyL_take (i := 3) (oi := { dst := some 48, op := Op.load 2 (Operand.tmp 47), type := 2, pos := "whole.go:69", after := #[{ on := 2, ground := Ground.data }], guard := Option.none }) (v := .int .i64 ah) rfl (by kernel_rfl) (by kernel_rfl) (by kernel_rfl) (by kernel_rfl) (fun _ _ _ h => h) HM.out (Or.inl ⟨by rfl, ?_⟩) ?_
        · intro w' hSw
          obtain ⟨s0, s1, s2, s3, s4, s5, s6⟩ := hSw
          go_simp
        simp only [Act.put, List.setIfInBounds_toArray, List.set_cons_zero, List.set_cons_succ]
        refine wpAnyL_take (i := 4) (oi := { dst := some 49, op := Op.indexAddr 161 (Operand.tmp 10) (Operand.const (Value.int IntKind.i64 1)), type := 0, pos := "whole.go:69", after := #[], guard := Option.none }) (v := .pointer (some ⟨gt, 1, none⟩)) rfl (by kernel_rfl) (by kernel_rfl) (by kernel_rfl) (by kernel_rfl) (fun _ _ _ h => h) HM.out (Or.inl ⟨by rfl, ?_⟩) ?_
        · intro w' hSw
          obtain ⟨s0, s1, s2, s3, s4, s5, s6⟩ := hSw
          go_simp
        simp only [Act.put, List.setIfInBounds_toArray, List.set_cons_zero, List.set_cons_succ]
        refine wpAnyL_take (i := 5) (oi := { dst := some 50, op := Op.load 2 (Operand.tmp 49), type := 2, pos := "whole.go:69", after := #[{ on := 4, ground := Ground.data }], guard := Option.none }) (v := .int .i64 bh) rfl (by kernel_rfl) (by kernel_rfl) (by kernel_rfl) (by kernel_rfl) (fun _ _ _ h => h) HM.out (Or.inl ⟨by rfl, ?_⟩) ?_
        · intro w' hSw
          obtain ⟨s0, s1, s2, s3, s4, s5, s6⟩ := hSw
          go_simp
        simp only [Act.put, List.setIfInBounds_toArray, List.set_cons_zero, List.set_cons_succ]
        refine wpAnyL_step (i := 6) (by kernel_rfl) rfl (fun K hK => ?_)
        go_simp
        refine (HO.out _ _ (Or.inr rfl) (Or.inr rfl) X _ (Below.drew (Ok.refl _))).mono ?_
        rintro e w2 ⟨rfl, hb2⟩
        go_wp2_with fail
        refine hK.out _ _ (fun _ => ⟨Ok.cell hb2 HU.out.1 HM.out.1, Ok.cell hb2 HU.out.1 HM.out.2.1, Ok.cell hb2 HU.out.1 HM.out.2.2.1, Ok.cell hb2 HU.out.1 HM.out.2.2.2.1, Ok.cell hb2 HU.out.2.1 HM.out.2.2.2.2.1, Ok.cell hb2 HU.out.2.2 HM.out.2.2.2.2.2.1, Ok.cell hb2 HU.out.2.2 HM.out.2.2.2.2.2.2⟩) ?_
        clear hK K
        refine wpAnyL_step (i := 7) (by kernel_rfl) rfl (fun K hK => ?_)
        go_simp
        refine (pwith_is _ _ _ X _ hb2).mono ?_
        rintro e w3 ⟨rfl, hb3⟩
        go_wp2_with fail
        refine hK.out _ _ (fun _ => ⟨Ok.cell hb3 HU.out.1 HM.out.1, Ok.cell hb3 HU.out.1 HM.out.2.1, Ok.cell hb3 HU.out.1 HM.out.2.2.1, Ok.cell hb3 HU.out.1 HM.out.2.2.2.1, Ok.cell hb3 HU.out.2.1 HM.out.2.2.2.2.1, Ok.cell hb3 HU.out.2.2 HM.out.2.2.2.2.2.1, Ok.cell hb3 HU.out.2.2 HM.out.2.2.2.2.2.2⟩) ?_
        clear hK K
        have hb4 := Ok.step HX.out hb3
        obtain ⟨⟨y0, y1, y2, y3⟩, z0, z1, z2, z3⟩ := row_facts4 (Ok.row' hb4 HV.out.2.2.1)
        have H4 : Hid (Ok wr w3) := hb4
        clear hb4 hb3 hb2 HX HM HU
        refine wpAnyL_step (i := 8) (by kernel_rfl) rfl (fun K hK => ?_)
        go_simp
        refine hK.out _ _ (fun h => absurd rfl h) ?_
        clear hK K
        refine wpAnyL_done (by kernel_rfl) ?_ _
        go_wp2_with fail
        go_roundw
        case rel =>
          refine ⟨3 + 1, by omega, rfl, ?_⟩
          rw [SL.out, SH.out]
          exact HV.out.next H4.out
        case measure => simp only [intOf]; omega
    · have hk2 : k = 4 := by omega
      subst hk2
      obtain ⟨⟨y0, y1, y2, y3⟩, z0, z1, z2, z3⟩ := row_facts4 HI.out.2.2.1
      obtain ⟨⟨x0, x1, x2, x3⟩, v0, v1, v2, v3⟩ := row_facts4 HI.out.2.1
      go_wp2_with fail
      (try simp only [Exit.inBlock, Exit.then])
      refine bodyPost_ret (results_cell_row rfl _ _ (w.heap.size + 2) 138 #[_, _, _, _] (0, 0) _ rfl (Jrow_set4 HI.out.2.1 _ _ _ _) Tryz.underlying138 rfl infoS) rfl ?_
      exact ⟨rfl, (((HI.out.1.set (show w.heap.size ≤ w.heap.size + 2 by omega) _).set (show w.heap.size ≤ w.heap.size + 2 by omega) _).set (show w.heap.size ≤ w.heap.size + 2 by omega) _).set (show w.heap.size ≤ w.heap.size + 2 by omega) _⟩
end
section
open Go.RowKit
theorem pthi_s (W : Int → Int → Int) (al ah bl bh L H : Int) (bf : Nat) (w : World) (hop : OpAt 155 al ah bl bh W) (hbf : w.heap[bf]? = some (.cells #[.func (.func 155) #[] #[]] 133 (0, 0))) (h : cL W al ah bl bh 4 = L ∧ cH W al ah bl bh 4 = H) :
    Calls Tryz.prog 193 #[.agg #[.int .i64 al, .int .i64 ah], .agg #[.int .i64 bl, .int .i64 bh], .pointer (some ⟨bf, 0, none⟩)] w fun e w' => e = .returned (.agg #[.int .i64 (tW L), .int .i64 (wrap64 L), .int .i64 (tW H), .int .i64 (wrap64 H)]) ∧ Ok w w' := by
  rw [← h.1, ← h.2]; exact pthr_s W al ah bl bh bf w hop hbf
set_option maxHeartbeats 2000000 in
theorem pgap_s_c (W2 : Int → Int → Int) (al ah bl bh : Int) (w0 w : World) (hok : Ok w0 w) (hop : OpAt 155 al ah bl bh W2) (hc : al ≤ ah) (hc2 : bl ≤ bh) :
    Calls Tryz.prog 154 #[.func (.func 155) #[] #[], .agg #[.int .i64 al, .int .i64 ah], .agg #[.int .i64 bl, .int .i64 bh]] w fun e w' => e = .returned (.tuple #[.agg #[.int .i64 (hullW (cL W2 al ah bl bh 4) (cH W2 al ah bl bh 4)).1, .int .i64 (hullW (cL W2 al ah bl bh 4) (cH W2 al ah bl bh 4)).2], .bool (exW (cL W2 al ah bl bh 4) (cH W2 al ah bl bh 4))]) ∧ Ok w0 w' := by
  have d : decide (ah < al) = false := decide_eq_false (by omega)
  have d2 : decide (bh < bl) = false := decide_eq_false (by omega)
  have HO : Hid _ := hop
  clear hop
  generalize hL : cL W2 al ah bl bh 4 = L
  generalize hH : cH W2 al ah bl bh 4 = H
  have HLH : Hid (cL W2 al ah bl bh 4 = L ∧ cH W2 al ah bl bh 4 = H) := ⟨hL, hH⟩
  clear hL hH
  go_enter Tryz.func154, Tryz.ntmps154
  go_wp2_with (first | (go_at_call 86; refine (pisnone_ex _ _ _).mono ?_; rintro e w' ⟨rfl, rfl⟩) | fail)
  obtain ⟨W, hW⟩ : ∃ W, W = ((((w.alloc (.cells #[.int .i64 al, .int .i64 ah] 23)).alloc (.cells #[.int .i64 bl, .int .i64 bh] 23)).alloc (.cells #[.int .i64 0, .int .i64 0] 23)).alloc (.cells #[.int .i64 al, .int .i64 ah] 23)).alloc (.cells #[.int .i64 bl, .int .i64 bh] 23) := ⟨_, rfl⟩
  have ra : W.heap[w.heap.size]? = some (.cells #[.int .i64 al, .int .i64 ah] 23) := by rw [hW]; exact (by repeat (first | (refine heap_at _ _ _ ?hx; case hx => (first | (simp; done) | (simp; omega))) | (refine heap_past _ _ _ ?hy ?_; case hy => (first | (simp; done) | (simp; omega))) | fail))
  have rb : W.heap[w.heap.size + 1]? = some (.cells #[.int .i64 bl, .int .i64 bh] 23) := by rw [hW]; exact (by repeat (first | (refine heap_at _ _ _ ?hx; case hx => (first | (simp; done) | (simp; omega))) | (refine heap_past _ _ _ ?hy ?_; case hy => (first | (simp; done) | (simp; omega))) | fail))
  have rr : W.heap[w.heap.size + 2]? = some (.cells #[.int .i64 0, .int .i64 0] 23) := by rw [hW]; exact (by repeat (first | (refine heap_at _ _ _ ?hx; case hx => (first | (simp; done) | (simp; omega))) | (refine heap_past _ _ _ ?hy ?_; case hy => (first | (simp; done) | (simp; omega))) | fail))
  have hokW : Ok w0 W := by rw [hW]; exact (by repeat (first | exact hok | refine Ok.alloc ?_ _ | refine Ok.draws ?_ _ | fail))
  have hw0 := hok.le
  rw [← hW]
  clear hW
  obtain ⟨c0, c1, _, _⟩ := row_facts ra
  obtain ⟨c2, c3, _, _⟩ := row_facts rb
  have g0 := lt_row ra
  have g1 := lt_row rb
  have HW : Hid (W.heap[w.heap.size + 2]? = some (.cells #[.int .i64 0, .int .i64 0] 23) ∧ Ok w0 W ∧ w0.heap.size ≤ w.heap.size) := ⟨rr, hokW, hw0⟩
  clear ra rb rr hokW hw0 hok
  have hm0 := World.new_ne W _ c0
  have hm1 := World.new_ne W _ c1
  have hm2 := World.new_ne W _ c2
  have hm3 := World.new_ne W _ c3
  have hn0 : ¬ w.heap.size = W.heap.size := by omega
  have hn1 : ¬ w.heap.size + 1 = W.heap.size := by omega
  have hn2 : ¬ w.heap.size = W.heap.size + 1 := by omega
  have hn3 : ¬ w.heap.size + 1 = W.heap.size + 1 := by omega
  have hp0 : ¬ W.heap.size + 1 = w.heap.size := by omega
  have hp1 : ¬ W.heap.size = w.heap.size := by omega
  have hp2 : ¬ W.heap.size = w.heap.size + 1 := by omega
  have hp3 : ¬ W.heap.size + 1 = w.heap.size + 1 := by omega
  refine wp_cut2 (fun a1 w1 => ∃ g bf, a1 = ⟨#[.func (.func 155) #[] #[], .agg #[.int .i64 al, .int .i64 ah], .agg #[.int .i64 bl, .int .i64 bh], undef, .pointer (some ⟨w.heap.size, 0, none⟩), .pointer (some ⟨w.heap.size + 1, 0, none⟩), .pointer (some ⟨w.heap.size + 1 + 1, 0, none⟩), .bool false, .pointer (some ⟨g, 0, none⟩), .agg #[.int .i64 al, .int .i64 ah], .bool false, .bool false, .agg #[.int .i64 bl, .int .i64 bh], .bool false, .bool false, undef, .func (.func 155) #[] #[], .func (.func 193) #[] #[.pointer (some ⟨bf, 0, none⟩)], .agg #[.int .i64 al, .int .i64 ah], .agg #[.int .i64 bl, .int .i64 bh], .agg #[.int .i64 (tW L), .int .i64 (wrap64 L), .int .i64 (tW H), .int .i64 (wrap64 H)], undef, undef, undef, undef], []⟩ ∧ Hid (Spn W w1 g L H)) ?_ ?_
  · go_region_held3 (fun w' => w'.cell? ⟨w.heap.size, 0, none⟩ = some (.int .i64 al) ∧ w'.cell? ⟨w.heap.size, 1, none⟩ = some (.int .i64 ah) ∧ w'.cell? ⟨w.heap.size + 1, 0, none⟩ = some (.int .i64 bl) ∧ w'.cell? ⟨w.heap.size + 1, 1, none⟩ = some (.int .i64 bh)) (go_keep)
      (first
      | (go_at_call 159; refine (pthrough_ex _ _).mono ?_; rintro e w' ⟨rfl, rfl⟩)
      | (go_at_call 193; refine (pthi_s W2 _ _ _ _ L H _ _ HO.out (by repeat (first | (refine heap_at _ _ _ ?hx; case hx => (first | (simp; done) | (simp; omega))) | (refine heap_past _ _ _ ?hy ?_; case hy => (first | (simp; done) | (simp; omega))) | fail)) HLH.out).mono ?_; rintro e w2 ⟨rfl, hb2⟩; have hbW : Ok W w2 := Ok.step (by repeat (first | exact Ok.refl _ | refine Ok.alloc ?_ _ | refine Ok.draws ?_ _ | exact Below.drew (Ok.refl _))) hb2; have e0 := Ok.cell hbW g0 c0; have e1 := Ok.cell hbW g0 c1; have e2 := Ok.cell hbW g1 c2; have e3 := Ok.cell hbW g1 c3; have j0 : ¬ w2.heap.size = w.heap.size := (by have := hbW.le; omega); have j1 : ¬ w2.heap.size = w.heap.size + 1 := (by have := hbW.le; omega); have j2 : ¬ w.heap.size = w2.heap.size := (by have := hbW.le; omega); have j3 : ¬ w.heap.size + 1 = w2.heap.size := (by have := hbW.le; omega); first | (have HQ : Hid _ := rowA (o := .cells #[.int .i64 0, .int .i64 0, .int .i64 0, .int .i64 0] 138) hb2; obtain ⟨⟨q0, q1, q2, q3⟩, q4, q5, q6, q7⟩ := row_facts4 HQ.out) | (have HQ : Hid _ := rowB (o := .cells #[.int .i64 0, .int .i64 0, .int .i64 0, .int .i64 0] 138) hb2; obtain ⟨⟨q0, q1, q2, q3⟩, q4, q5, q6, q7⟩ := row_facts4 HQ.out) | skip)
      | fail)
    all_goals (refine ⟨_, _, rfl, ?_⟩; first | with_reducible exact thr_a hbW | ((with_reducible refine thr_b hbW HQ.out ?_); omega))
  · rintro a1 w1 ⟨g, bf, rfl, HT⟩
    clear c0 c1 c2 c3 g0 g1 hm0 hm1 hm2 hm3 hn0 hn1 hn2 hn3 hp0 hp1 hp2 hp3 d d2
    have rg := HT.out.2.1
    obtain ⟨⟨q0, q1, q2, q3⟩, _, _, _, _⟩ := row_facts4 rg
    have sg := lt_row rg
    have rr := Ok.row' HT.out.1 HW.out.1
    obtain ⟨p0, p1, p2, p3⟩ := row_facts rr
    have HR : Hid (w1.heap[w.heap.size + 2]? = some (.cells #[.int .i64 0, .int .i64 0] 23) ∧ Ok w0 w1) := ⟨rr, Ok.step HW.out.2.1 HT.out.1⟩
    clear rg rr
    have bx : Ok w1 w1 := Ok.refl _
    have bx' : Ok w1 w1.drew := Below.drew (Ok.refl _)
    have ne1 : ¬ g = w.heap.size + 1 + 1 := by have h1 := HT.out.2.2; have h2 := lt_row HW.out.1; omega
    have ne2 : ¬ w.heap.size + 1 + 1 = g := by omega
    simp only [Exit.then]
    go_wp2_with fail
    go_region_held3 (fun w' => w'.cell? ⟨g, 0, none⟩ = some (.int .i64 (tW L)) ∧ w'.cell? ⟨g, 1, none⟩ = some (.int .i64 (wrap64 L)) ∧ w'.cell? ⟨g, 2, none⟩ = some (.int .i64 (tW H)) ∧ w'.cell? ⟨g, 3, none⟩ = some (.int .i64 (wrap64 H))) (go_keep)
      (first
      | (go_at_call 163; refine (phull_any _ _ w1 _ (by assumption)).mono ?_; rintro e w3 ⟨rfl, hb3⟩; have e0 := Ok.cell hb3 sg q0; have e1 := Ok.cell hb3 sg q1; have e2 := Ok.cell hb3 sg q2; have e3 := Ok.cell hb3 sg q3; obtain ⟨k0, k1, k2, k3⟩ := row_facts (Ok.row' hb3 HR.out.1))
      | (go_at_call 161; refine (pexact_any _ _ w1 _ (by assumption)).mono ?_; rintro e w3 ⟨rfl, hb3⟩; have e0 := Ok.cell hb3 sg q0; have e1 := Ok.cell hb3 sg q1; have e2 := Ok.cell hb3 sg q2; have e3 := Ok.cell hb3 sg q3; obtain ⟨k0, k1, k2, k3⟩ := row_facts (Ok.row' hb3 HR.out.1))
      | fail)
    go_wp2_with fail
    (try simp only [Exit.inBlock, Exit.then])
    refine bodyPost_ret (results_iv rfl _ _ (w.heap.size + 2) 23 #[_, _] (0, 0) _ rfl (row_set2 (Ok.row' hb3 HR.out.1) _ _) Tryz.underlying23 rfl infoI) rfl ?_
    have hw := HW.out.2.2
    exact ⟨rfl, ((Ok.step HR.out.2 hb3).set (show w0.heap.size ≤ w.heap.size + 2 by omega) _).set (show w0.heap.size ≤ w.heap.size + 2 by omega) _⟩
set_option maxHeartbeats 1000000 in
theorem pgap_s_n (al ah bl bh : Int) (w0 w : World) (hok : Ok w0 w) (hc : ah < al ∨ bh < bl) :
    Calls Tryz.prog 154 #[.func (.func 155) #[] #[], .agg #[.int .i64 al, .int .i64 ah], .agg #[.int .i64 bl, .int .i64 bh]] w fun e w' => e = .returned (.tuple #[.agg #[.int .i64 1, .int .i64 0], .bool true]) ∧ Ok w0 w' := by
  by_cases h1 : ah < al
  · have d : decide (ah < al) = true := decide_eq_true h1
    go_enter Tryz.func154, Tryz.ntmps154
    go_wp2_with (first | (go_at_call 86; refine (pisnone_ex _ _ _).mono ?_; rintro e w' ⟨rfl, rfl⟩) | (go_at_call 143; refine (pnone_ex _).mono ?_; rintro e w' ⟨rfl, rfl⟩) | fail)
    (try simp only [Exit.inBlock, Exit.then]); refine bodyPost_ret (results_iv rfl _ _ (w.heap.size + 2) 23 #[_, _] (0, 0) _ rfl (by repeat (first | (refine heap_at _ _ _ ?hx; case hx => (first | (simp; done) | (simp; omega))) | (refine heap_past _ _ _ ?hy ?_; case hy => (first | (simp; done) | (simp; omega))) | fail)) Tryz.underlying23 rfl infoI) rfl ?_
    exact ⟨rfl, (by repeat (first | exact hok | refine Ok.alloc ?_ _ | refine Ok.draws ?_ _ | fail))⟩
  · have d : decide (ah < al) = false := decide_eq_false h1
    have d2 : decide (bh < bl) = true := decide_eq_true (by omega)
    go_enter Tryz.func154, Tryz.ntmps154
    go_wp2_with (first | (go_at_call 86; refine (pisnone_ex _ _ _).mono ?_; rintro e w' ⟨rfl, rfl⟩) | (go_at_call 143; refine (pnone_ex _).mono ?_; rintro e w' ⟨rfl, rfl⟩) | fail)
    (try simp only [Exit.inBlock, Exit.then]); refine bodyPost_ret (results_iv rfl _ _ (w.heap.size + 2) 23 #[_, _] (0, 0) _ rfl (by repeat (first | (refine heap_at _ _ _ ?hx; case hx => (first | (simp; done) | (simp; omega))) | (refine heap_past _ _ _ ?hy ?_; case hy => (first | (simp; done) | (simp; omega))) | fail)) Tryz.underlying23 rfl infoI) rfl ?_
    exact ⟨rfl, (by repeat (first | exact hok | refine Ok.alloc ?_ _ | refine Ok.draws ?_ _ | fail))⟩
end
section
open Go.RowKit
theorem pgap_s_any (al ah bl bh : Int) (w0 w : World) (hok : Ok w0 w) (ha1 : In64 al) (ha2 : In64 ah) (hb1 : In64 bl) (hb2 : In64 bh) :
    Calls Tryz.prog 154 #[.func (.func 155) #[] #[], .agg #[.int .i64 al, .int .i64 ah], .agg #[.int .i64 bl, .int .i64 bh]] w fun e w' => e = .returned (.tuple #[.agg #[.int .i64 (addI al ah bl bh).1, .int .i64 (addI al ah bl bh).2.1], .bool (addI al ah bl bh).2.2]) ∧ Ok w0 w' := by
  by_cases h : ah < al ∨ bh < bl
  · rw [show addI al ah bl bh = (1, 0, true) by unfold addI; rw [if_pos h]]
    exact pgap_s_n al ah bl bh w0 w hok h
  · have hc : al ≤ ah := by omega
    have hc2 : bl ≤ bh := by omega
    have E := cL_add hc hc2
    have H := pgap_s_c _ al ah bl bh w0 w hok (op_sum ha1 ha2 hb1 hb2) hc hc2
    rw [E.1, E.2] at H
    have Q : addI al ah bl bh = ((hullW (al + bl) (ah + bh)).1, (hullW (al + bl) (ah + bh)).2, exW (al + bl) (ah + bh)) := by
      unfold addI; rw [if_neg h]; exact span_hullW (by omega)
    rw [Q]
    exact H
set_option maxHeartbeats 1000000 in
theorem Jpadd_any (al ah bl bh : Int) (w0 w : World) (hok : Ok w0 w) (ha1 : In64 al) (ha2 : In64 ah) (hb1 : In64 bl) (hb2 : In64 bh) :
    Calls Tryz.prog 99 #[.agg #[.int .i64 al, .int .i64 ah], .agg #[.int .i64 bl, .int .i64 bh]] w fun e w' => e = .returned (.tuple #[.agg #[.int .i64 (addI al ah bl bh).1, .int .i64 (addI al ah bl bh).2.1], .bool (addI al ah bl bh).2.2]) ∧ Ok w0 w' := by
  have hle := hok.le
  have HA : Hid (In64 al ∧ In64 ah ∧ In64 bl ∧ In64 bh) := ⟨ha1, ha2, hb1, hb2⟩
  clear ha1 ha2 hb1 hb2
  go_enter Tryz.func99, Tryz.ntmps99
  go_wp2_with fail
  refine (pgap_s_any _ _ _ _ _ _ (Ok.refl _) HA.out.1 HA.out.2.1 HA.out.2.2.1 HA.out.2.2.2).mono ?_
  rintro e w' ⟨rfl, hb⟩
  have hr : Hid _ := Ok.row' (g := w.heap.size + 2) (o := .cells #[.int .i64 0, .int .i64 0] 23) hb (by repeat (first | (refine heap_at _ _ _ ?hx; case hx => (first | (simp; done) | (simp; omega))) | (refine heap_past _ _ _ ?hy ?_; case hy => (first | (simp; done) | (simp; omega))) | fail))
  obtain ⟨k0, k1, k2, k3⟩ := row_facts hr.out
  go_wp2_with fail
  (try simp only [Exit.inBlock, Exit.then])
  refine bodyPost_ret (results_iv rfl _ _ (w.heap.size + 2) 23 #[_, _] (0, 0) _ rfl (row_set2 hr.out _ _) Tryz.underlying23 rfl infoI) rfl ?_
  exact ⟨rfl, ((Ok.step (by repeat (first | exact hok | refine Ok.alloc ?_ _ | refine Ok.draws ?_ _ | fail)) hb).set (show w0.heap.size ≤ w.heap.size + 2 by omega) _).set (show w0.heap.size ≤ w.heap.size + 2 by omega) _⟩
end
end Go.Proofs.YtbclkkpddomoiaaGreat
