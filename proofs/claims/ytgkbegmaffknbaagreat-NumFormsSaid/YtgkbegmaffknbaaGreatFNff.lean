import Derived.Deep.Cut
import Derived.Deep.CutRange
import Derived.Test.YtgkbegmaffknbaaGreatFNw
import Derived.Test.YtgkbegmaffknbaaGreatFNx
set_option linter.unusedVariables false
set_option linter.unusedSimpArgs false
set_option linter.unnecessarySimpa false
/- Nff -/
namespace Go.Proofs.YtgkbegmaffknbaaGreat
open Go.RowKit
theorem lq1 {α : Type} {xs : List α} {i : Nat} (h : i < xs.toArray.size) : xs.toArray[i] = xs[i]'(by simpa using h) := List.getElem_toArray h
theorem lq2 {α : Type} (x : α) (xs : List α) (i : Nat) (h : i + 1 < (x :: xs).length) : (x :: xs)[i + 1] = xs[i]'(Nat.lt_of_succ_lt_succ h) := List.getElem_cons_succ x xs i h
theorem lq3 {α : Type} (x : α) (xs : List α) (h : 0 < (x :: xs).length) : (x :: xs)[0] = x := rfl
theorem lq4 {α : Type} (l : List α) (i : Nat) (a : α) : l.toArray.setIfInBounds i a = (l.set i a).toArray := by simp
theorem lq5 {α : Type} (x : α) (xs : List α) (a : α) : (x :: xs).set 0 a = a :: xs := rfl
theorem lq6 {α : Type} (x : α) (xs : List α) (n : Nat) (a : α) : (x :: xs).set (n + 1) a = x :: xs.set n a := rfl
/-- The rules by which a region that draws nothing is walked, of a letter f (so that what stands at the goal isn't laid open at each step). -/
def SeqRules (P : Program) (ops : Array Oper) (Q : Exit → Act → World → Prop) (f : List Nat → Act → World → Prop) : Prop := (∀ i rest a w, wpOp P ops Q i (f rest) a w → f (i :: rest) a w) ∧ (∀ a w, Q .normal a w → f [] a w)
theorem seq_begin {P : Program} {ops : Array Oper} {Q : Exit → Act → World → Prop} {l : List Nat} {a : Act} {w : World} (h : ∀ f : List Nat → Act → World → Prop, SeqRules P ops Q f → f l a w) : wpOps P ops Q l a w :=
  h (wpOps P ops Q) ⟨fun i rest a w k => by rw [wpOps_cons]; exact k, fun a w k => by unfold wpOps; exact k⟩
theorem seq_take {P : Program} {ops : Array Oper} {Q : Exit → Act → World → Prop} {f : List Nat → Act → World → Prop} (hf : SeqRules P ops Q f) {i : Nat} {rest : List Nat} {o : Oper} {v : Value} {S : World → Prop} {a : Act} {w : World} (hi : ops[i]? = some o) (hy : YieldsIf P ops S o v a) (hS : S w) (h : f rest (a.put o.dst v) w) : f (i :: rest) a w :=
  hf.1 _ _ _ _ (hy.wpOp hi hS h)
theorem seq_call {P : Program} {ops : Array Oper} {Q : Exit → Act → World → Prop} {f : List Nat → Act → World → Prop} (hf : SeqRules P ops Q f) {i : Nat} {rest : List Nat} {o : Oper} {a : Act} {w : World} (hi : ops[i]? = some o) (hw : Region.wanted o (yielded ops a.tmps) = true) (h : ∀ K' : Act → World → Prop, Shut (∀ a' w', f rest a' w' → K' a' w') → Oper.wp P o a w K' Q) : f (i :: rest) a w :=
  hf.1 _ _ _ _ (wpOp_step hi (fun K' hK' => by rw [if_pos hw]; exact h K' hK'))
theorem seq_no {P : Program} {ops : Array Oper} {Q : Exit → Act → World → Prop} {f : List Nat → Act → World → Prop} (hf : SeqRules P ops Q f) {i : Nat} {rest : List Nat} {o : Oper} {a : Act} {w : World} (hi : ops[i]? = some o) (hw : Region.wanted o (yielded ops a.tmps) = false) (h : f rest (a.put o.dst undef) w) : f (i :: rest) a w :=
  seq_take hf (v := undef) (S := fun _ => True) hi (Or.inr ⟨hw, rfl⟩) trivial h
theorem seq_done {P : Program} {ops : Array Oper} {Q : Exit → Act → World → Prop} {f : List Nat → Act → World → Prop} (hf : SeqRules P ops Q f) {a : Act} {w : World} (h : Q .normal a w) : f [] a w := hf.2 _ _ h
theorem ite_num {α : Type} {P1 P2 P3 P4 P5 : Prop} [Decidable P1] [Decidable P2] [Decidable P3] [Decidable P4] [Decidable P5] {T F : α} : (if P1 then if P2 then if P3 then if P4 then if P5 then T else F else F else F else F else F) = if (P1 ∧ P2 ∧ P3 ∧ P4 ∧ P5) then T else F := by
  by_cases h1 : P1 <;> by_cases h2 : P2 <;> by_cases h3 : P3 <;> by_cases h4 : P4 <;> by_cases h5 : P5 <;> simp [h1, h2, h3, h4, h5]
theorem eqn_run {α : Type} {L : Bool} {x y : Int × Int × Nat × Nat × Bool} (h : L = true ↔ x = y) (f : Bool → α) : (if x.2.2.2.2 = y.2.2.2.2 then if x.1 = y.1 then if x.2.1 = y.2.1 then if (x.2.2.1 : Int) = (y.2.2.1 : Int) then if (x.2.2.2.1 : Int) = (y.2.2.2.1 : Int) then f true else f false else f false else f false else f false else f false) = f L := by
  rw [ite_num]
  obtain ⟨a, b, c, d, e⟩ := x
  obtain ⟨a', b', c', d', e'⟩ := y
  simp only [Prod.mk.injEq] at h ⊢
  by_cases hL : L = true
  · have k := h.1 hL
    rw [if_pos ⟨k.2.2.2.2, k.1, k.2.1, by rw [k.2.2.1], by rw [k.2.2.2.1]⟩, hL]
  · rw [if_neg (fun k => hL (h.2 ⟨k.2.1, k.2.2.1, by omega, by omega, k.1⟩)), Bool.eq_false_iff.2 hL]
theorem eqn_ne {x y : Int × Int × Nat × Nat × Bool} (h : x ≠ y) {α : Type} (T F : α) : (if x.2.2.2.2 = y.2.2.2.2 then if x.1 = y.1 then if x.2.1 = y.2.1 then if (x.2.2.1 : Int) = (y.2.2.1 : Int) then if (x.2.2.2.1 : Int) = (y.2.2.2.1 : Int) then T else F else F else F else F else F) = F := by
  have k := eqn_run (L := false) (x := x) (y := y) ⟨(fun c => by cases c), (fun c => absurd c h)⟩ (fun b => if b = true then T else F)
  simpa using k
theorem forms_z {x z : Int × Int × Nat × Nat × Bool} (rz : RawN z) (nz : NormN z) (zb : z.2.2.2.2 = false) (h0 : insN z 0 = false) : (x.1 = 0 → ¬ z.1 = x.1) ∧ (x.2.1 = 0 → ¬ z.2.1 = x.2.1) := by
  have n := nz.resolve_left (fun c => by rw [c] at zb; cases zb)
  have e := norm_ends n
  have k : ¬ MemN z 0 := fun c => by rw [(insN_iff rz in_zero).2 c] at h0; cases h0
  exact ⟨fun c d => k (by have m := e.1; rw [d, c] at m; exact m), fun c d => k (by have m := e.2; rw [d, c] at m; exact m)⟩
theorem forms_cell {w : World} {g : Nat} {p q r : Int} {t : TypeId} (h : w.heap[g]? = some (.cells #[.int .i64 p, .int .i64 q, .int .i64 r] t (0, 0))) {k : Nat} (hk : k < 3) : ∃ e, (e = p ∨ e = q ∨ e = r) ∧ w.cell? ⟨g, k, none⟩ = some (.int .i64 e) := by
  match k, hk with
  | 0, _ => exact ⟨p, Or.inl rfl, (cell_of_row _ _ 0 _ _ _ h).trans (by simp)⟩
  | 1, _ => exact ⟨q, Or.inr (Or.inl rfl), (cell_of_row _ _ 1 _ _ _ h).trans (by simp)⟩
  | 2, _ => exact ⟨r, Or.inr (Or.inr rfl), (cell_of_row _ _ 2 _ _ _ h).trans (by simp)⟩
theorem forms_el {a b x m j : Int × Int × Nat × Nat × Bool} {v sm : Int} (ha : RawN a) (hb : RawN b) (hv : In64 v) (hx : x = normN a) (hm : m = meetN a b) (hj : j = joinN a b) (hs : sm = someN x v) (e : Int) (he : e = x.1 ∨ e = x.2.1 ∨ e = sm) :
    In64 e ∧ (x.2.2.2.2 = false → insN a e = true ∧ insN m e = insN b e ∧ insN j e = true ∧ (lqN a b = true → insN b e = true)) := by
  have rx : RawN x := by rw [hx]; exact normN_raw ha
  have nx : NormN x := by rw [hx]; exact normN_norm ha
  have ie : In64 e := by
    rcases he with h | h | h
    · rw [h]; exact rx.1
    · rw [h]; exact rx.2.1
    · rw [h, hs]; exact someN_in rx nx hv
  refine ⟨ie, fun xb => ?_⟩
  have mx : MemN x e := by
    rcases he with h | h | h
    · rcases nx with n | n
      · rw [n] at xb; cases xb
      · rw [h]; exact (norm_ends n).1
    · rcases nx with n | n
      · rw [n] at xb; cases xb
      · rw [h]; exact (norm_ends n).2
    · rw [h, hs]; exact someN_mem nx xb hv
  have ma : MemN a e := by rw [hx] at mx; exact (normN_mem ha ie).1 mx
  have ia : insN a e = true := (insN_iff ha ie).2 ma
  refine ⟨ia, ?_, ?_, fun lq => ?_⟩
  · rw [hm, ins_meet ha hb ie, ia]; rfl
  · rw [hj]; exact ins_join ha hb ie (Or.inl ia)
  · exact (insN_iff hb ie).2 ((lqN_iff ha hb).1 lq e ie ma)

set_option maxRecDepth 100000 in
set_option maxHeartbeats 40000000 in
theorem forms_any (a b c : Int × Int × Nat × Nat × Bool) (v : Int) (ha : RawN a) (hb : RawN b) (hc : RawN c) (hv : In64 v) (w0 w : World) (hok : Ok w0 w) :
    Calls Tryz.prog 3 #[nv a, nv b, nv c, .int .i64 v] w fun e w' => e = .returned (.bool true) ∧ Ok w0 w' := by
  have hle := hok.le
  have HU : Hid (RawN a ∧ RawN b ∧ RawN c ∧ In64 v) := ⟨ha, hb, hc, hv⟩
  clear ha hb hc hv
  obtain ⟨x, hx⟩ : ∃ t, t = normN a := ⟨_, rfl⟩
  have HX : Hid _ := hx
  obtain ⟨y, hy⟩ : ∃ t, t = normN b := ⟨_, rfl⟩
  have HY : Hid _ := hy
  obtain ⟨j, hj⟩ : ∃ t, t = joinN a b := ⟨_, rfl⟩
  have HJ : Hid _ := hj
  obtain ⟨m, hm⟩ : ∃ t, t = meetN a b := ⟨_, rfl⟩
  have HM : Hid _ := hm
  obtain ⟨z, hz⟩ : ∃ t, t = nonZeroN a := ⟨_, rfl⟩
  have HZ : Hid _ := hz
  have RX : Hid (RawN x ∧ NormN x) := by rw [hx]; exact ⟨normN_raw HU.out.1, normN_norm HU.out.1⟩
  have RY : Hid (RawN y ∧ NormN y) := by rw [hy]; exact ⟨normN_raw HU.out.2.1, normN_norm HU.out.2.1⟩
  have RJ : Hid (RawN j ∧ NormN j) := by rw [hj]; exact ⟨joinN_raw HU.out.1 HU.out.2.1, joinN_norm HU.out.1 HU.out.2.1⟩
  have RM : Hid (RawN m ∧ NormN m) := by rw [hm]; exact ⟨meetN_raw HU.out.1 HU.out.2.1, meetN_norm HU.out.1 HU.out.2.1⟩
  have RZ : Hid (RawN z ∧ NormN z) := by rw [hz]; exact ⟨nonZeroN_raw HU.out.1, nonZeroN_norm HU.out.1⟩
  clear hx hy hj hm hz
  obtain ⟨p, hp⟩ : ∃ t, t = insN a v := ⟨_, rfl⟩
  have HPV : Hid _ := hp
  obtain ⟨q, hq⟩ : ∃ t, t = insN b v := ⟨_, rfl⟩
  have HQV : Hid _ := hq
  clear hp hq
  unfold nv
  go_enter Tryz.func3, Tryz.ntmps3
  go_wp2_with fail
  obtain ⟨W0, hW0⟩ : ∃ W, W = (((w).alloc (.cells #[.bool a.2.2.2.2, .int .i64 a.1, .int .i64 a.2.1, .int .u64 (a.2.2.1 : Int), .int .u64 (a.2.2.2.1 : Int)] 28)).alloc (.cells #[.bool b.2.2.2.2, .int .i64 b.1, .int .i64 b.2.1, .int .u64 (b.2.2.1 : Int), .int .u64 (b.2.2.2.1 : Int)] 28)).alloc (.cells #[.bool c.2.2.2.2, .int .i64 c.1, .int .i64 c.2.1, .int .u64 (c.2.2.1 : Int), .int .u64 (c.2.2.2.1 : Int)] 28) := ⟨_, rfl⟩
  have ra : Hid (W0.heap[w.heap.size]? = some (.cells #[.bool a.2.2.2.2, .int .i64 a.1, .int .i64 a.2.1, .int .u64 (a.2.2.1 : Int), .int .u64 (a.2.2.2.1 : Int)] 28)) := by unfold Hid; rw [hW0]; exact (by repeat (first | (refine heap_at _ _ _ ?hx; case hx => (first | (simp; done) | (simp; omega))) | (refine heap_past _ _ _ ?hy ?_; case hy => (first | (simp; done) | (simp; omega))) | fail))
  have rb : Hid (W0.heap[w.heap.size + 1]? = some (.cells #[.bool b.2.2.2.2, .int .i64 b.1, .int .i64 b.2.1, .int .u64 (b.2.2.1 : Int), .int .u64 (b.2.2.2.1 : Int)] 28)) := by unfold Hid; rw [hW0]; exact (by repeat (first | (refine heap_at _ _ _ ?hx; case hx => (first | (simp; done) | (simp; omega))) | (refine heap_past _ _ _ ?hy ?_; case hy => (first | (simp; done) | (simp; omega))) | fail))
  have rc : Hid (W0.heap[w.heap.size + 1 + 1]? = some (.cells #[.bool c.2.2.2.2, .int .i64 c.1, .int .i64 c.2.1, .int .u64 (c.2.2.1 : Int), .int .u64 (c.2.2.2.1 : Int)] 28)) := by unfold Hid; rw [hW0]; exact (by repeat (first | (refine heap_at _ _ _ ?hx; case hx => (first | (simp; done) | (simp; omega))) | (refine heap_past _ _ _ ?hy ?_; case hy => (first | (simp; done) | (simp; omega))) | fail))
  have HW0 : Hid (Ok w0 W0) := by unfold Hid; rw [hW0]; exact (by repeat (first | exact hok | refine Ok.alloc ?_ _ | refine Ok.draws ?_ _ | fail))
  rw [← hW0]
  clear hW0
  obtain ⟨gc, egc⟩ : ∃ g, g = w.heap.size + 1 + 1 := ⟨_, rfl⟩
  rw [← egc] at rc ⊢
  obtain ⟨gb, egb⟩ : ∃ g, g = w.heap.size + 1 := ⟨_, rfl⟩
  rw [← egb] at rb ⊢
  obtain ⟨ga, ega⟩ : ∃ g, g = w.heap.size := ⟨_, rfl⟩
  rw [← ega] at ra ⊢
  have lga : w0.heap.size ≤ ga := by omega
  have ngagb : ¬ ga = gb := by omega
  have ngagc : ¬ ga = gc := by omega
  have lgb : w0.heap.size ≤ gb := by omega
  have ngbga : ¬ gb = ga := by omega
  have ngbgc : ¬ gb = gc := by omega
  have lgc : w0.heap.size ≤ gc := by omega
  have ngcga : ¬ gc = ga := by omega
  have ngcgb : ¬ gc = gb := by omega
  clear ega egb egc
  refine (works13 W0 _ (Ok.refl _)).mono ?_
  rintro e W ⟨rfl, hb⟩
  replace ra : Hid _ := Ok.row' hb ra.out
  replace rb : Hid _ := Ok.row' hb rb.out
  replace rc : Hid _ := Ok.row' hb rc.out
  have HW : Hid (Ok w0 W) := HW0.out.step hb
  clear hb HW0 hok hle
  go_wp2_with fail
  go_cut [9, 10] from 20 to 23 (fun s9 s10 u => Hid (∃ gx gy : Nat, s9 = .pointer (some ⟨gx, 0, none⟩) ∧ s10 = .pointer (some ⟨gy, 0, none⟩) ∧ u.heap[gx]? = some (.cells #[.bool x.2.2.2.2, .int .i64 x.1, .int .i64 x.2.1, .int .u64 (x.2.2.1 : Int), .int .u64 (x.2.2.2.1 : Int)] 28) ∧ u.heap[gy]? = some (.cells #[.bool y.2.2.2.2, .int .i64 y.1, .int .i64 y.2.1, .int .u64 (y.2.2.1 : Int), .int .u64 (y.2.2.2.1 : Int)] 28) ∧ Ok W u))
  case first =>
    as_aux_lemma =>
      refine wp_region_inv (by kernel_rfl) (by kernel_rfl) (fun F l fr u => ∃ (b0 b1 b2 b3 b4 b5 b6 b7 : Bool) (s20 s21 s22 s23 s9 s10 : Value) (g4 g5 : Nat), l = #[b0, b1, b2, b3, b4, b5, b6, b7] ∧ fr = ((((((F.put (some 20) s20).put (some 21) s21).put (some 22) s22).put (some 23) s23).put (some 9) s9).put (some 10) s10) ∧ Ok W u ∧ (b0 = true → s20 = nv a) ∧ (b1 = true → s21 = nv x) ∧ (b2 = true → s22 = nv b) ∧ (b3 = true → s23 = nv y) ∧ (b4 = true → s9 = .pointer (some ⟨g4, 0, none⟩)) ∧ (b4 = true → W.heap.size ≤ g4) ∧ (b4 = true → b6 = false → u.heap[g4]? = some (.cells #[.bool false, .int .i64 0, .int .i64 0, .int .u64 0, .int .u64 0] 28 (0, 0))) ∧ (b6 = true → u.heap[g4]? = some (.cells #[.bool x.2.2.2.2, .int .i64 x.1, .int .i64 x.2.1, .int .u64 (x.2.2.1 : Int), .int .u64 (x.2.2.2.1 : Int)] 28 (0, 0))) ∧ (b6 = true → b4 = true) ∧ (b5 = true → s10 = .pointer (some ⟨g5, 0, none⟩)) ∧ (b5 = true → W.heap.size ≤ g5) ∧ (b5 = true → b7 = false → u.heap[g5]? = some (.cells #[.bool false, .int .i64 0, .int .i64 0, .int .u64 0, .int .u64 0] 28 (0, 0))) ∧ (b7 = true → u.heap[g5]? = some (.cells #[.bool y.2.2.2.2, .int .i64 y.1, .int .i64 y.2.1, .int .u64 (y.2.2.1 : Int), .int .u64 (y.2.2.2.1 : Int)] 28 (0, 0))) ∧ (b7 = true → b5 = true) ∧ (b4 = true → b5 = true → g4 ≠ g5)) ?start ?step ?fin
      case start => exact ⟨false, false, false, false, false, false, false, false, undef, undef, undef, undef, undef, undef, 0, 0, rfl, (by (try simp only [Act.put, List.setIfInBounds_toArray, List.set_cons_zero, List.set_cons_succ]); try rfl), Ok.draws (Ok.refl _) 1, (fun h => by cases h), (fun h => by cases h), (fun h => by cases h), (fun h => by cases h), (fun h => by cases h), (fun h => by cases h), (fun h => by cases h), (fun h => by cases h), (fun h => by cases h), (fun h => by cases h), (fun h => by cases h), (fun h => by cases h), (fun h => by cases h), (fun h => by cases h), (fun h => by cases h)⟩
      case step =>
        intro l fr u i o hI hi0 ho hd K hK
        obtain ⟨b0, b1, b2, b3, b4, b5, b6, b7, s20, s21, s22, s23, s9, s10, g4, g5, rfl, rfl, hO, q0, q1, q2, q3, p4, l4, q4, q6, m6, p5, l5, q5, q7, m7, d4_5⟩ := hI
        have hlt : i < 8 := (Array.getElem?_eq_some_iff.1 ho).1
        rcases (show i = 0 ∨ i = 1 ∨ i = 2 ∨ i = 3 ∨ i = 4 ∨ i = 5 ∨ i = 6 ∨ i = 7 by omega) with rfl | rfl | rfl | rfl | rfl | rfl | rfl | rfl
        · have ho2 := Option.some.inj ho
          subst ho2
          have f0 : b0 = false := hi0
          clear ho hlt hd hi0
          have zz := row5_facts (Ok.row' hO ra.out)
          have aa0 := zz.1
          have aa1 := zz.2.1
          have aa2 := zz.2.2.1
          have aa3 := zz.2.2.2.1
          have aa4 := zz.2.2.2.2.1
          have aa5 := zz.2.2.2.2.2.1
          have aa6 := zz.2.2.2.2.2.2.1
          have aa7 := zz.2.2.2.2.2.2.2.1
          have aa8 := zz.2.2.2.2.2.2.2.2.1
          have aa9 := zz.2.2.2.2.2.2.2.2.2
          clear zz
          (try simp only [Act.put, List.getElem_toArray, List.getElem_cons_succ, List.getElem_cons_zero, List.setIfInBounds_toArray, List.set_cons_zero, List.set_cons_succ])
          go_simp
          refine hK.out _ _ ?_
          exact ⟨true, b1, b2, b3, b4, b5, b6, b7, nv a, s21, s22, s23, s9, s10, g4, g5, rfl, (by (try simp only [Act.put, List.setIfInBounds_toArray, List.set_cons_zero, List.set_cons_succ]); try rfl), hO, (fun _ => rfl), q1, q2, q3, p4, l4, q4, q6, m6, p5, l5, q5, q7, m7, d4_5⟩
        · have ho2 := Option.some.inj ho
          subst ho2
          have f1 : b1 = false := hi0
          have t0 : b0 = true := hd ⟨0, .data⟩ (by simp) rfl
          clear ho hlt hd hi0
          have e0 := q0 t0
          subst e0
          (try simp only [Act.put, List.getElem_toArray, List.getElem_cons_succ, List.getElem_cons_zero, List.setIfInBounds_toArray, List.set_cons_zero, List.set_cons_succ])
          go_simp
          refine (nnorm_any a HU.out.1 u _ (Ok.refl _)).mono ?_
          rintro e u' ⟨rfl, hb⟩
          rw [← HX.out]
          dsimp only
          refine hK.out _ _ ?_
          exact ⟨b0, true, b2, b3, b4, b5, b6, b7, nv a, nv x, s22, s23, s9, s10, g4, g5, rfl, (by (try simp only [Act.put, List.setIfInBounds_toArray, List.set_cons_zero, List.set_cons_succ]); try rfl), hO.step hb, q0, (fun _ => rfl), q2, q3, p4, l4, (fun h1 h2 => Ok.row' hb (q4 h1 h2)), (fun h1 => Ok.row' hb (q6 h1)), m6, p5, l5, (fun h1 h2 => Ok.row' hb (q5 h1 h2)), (fun h1 => Ok.row' hb (q7 h1)), m7, d4_5⟩
        · have ho2 := Option.some.inj ho
          subst ho2
          have f2 : b2 = false := hi0
          clear ho hlt hd hi0
          have zz := row5_facts (Ok.row' hO rb.out)
          have bb0 := zz.1
          have bb1 := zz.2.1
          have bb2 := zz.2.2.1
          have bb3 := zz.2.2.2.1
          have bb4 := zz.2.2.2.2.1
          have bb5 := zz.2.2.2.2.2.1
          have bb6 := zz.2.2.2.2.2.2.1
          have bb7 := zz.2.2.2.2.2.2.2.1
          have bb8 := zz.2.2.2.2.2.2.2.2.1
          have bb9 := zz.2.2.2.2.2.2.2.2.2
          clear zz
          (try simp only [Act.put, List.getElem_toArray, List.getElem_cons_succ, List.getElem_cons_zero, List.setIfInBounds_toArray, List.set_cons_zero, List.set_cons_succ])
          go_simp
          refine hK.out _ _ ?_
          exact ⟨b0, b1, true, b3, b4, b5, b6, b7, s20, s21, nv b, s23, s9, s10, g4, g5, rfl, (by (try simp only [Act.put, List.setIfInBounds_toArray, List.set_cons_zero, List.set_cons_succ]); try rfl), hO, q0, q1, (fun _ => rfl), q3, p4, l4, q4, q6, m6, p5, l5, q5, q7, m7, d4_5⟩
        · have ho2 := Option.some.inj ho
          subst ho2
          have f3 : b3 = false := hi0
          have t2 : b2 = true := hd ⟨2, .data⟩ (by simp) rfl
          clear ho hlt hd hi0
          have e2 := q2 t2
          subst e2
          (try simp only [Act.put, List.getElem_toArray, List.getElem_cons_succ, List.getElem_cons_zero, List.setIfInBounds_toArray, List.set_cons_zero, List.set_cons_succ])
          go_simp
          refine (nnorm_any b HU.out.2.1 u _ (Ok.refl _)).mono ?_
          rintro e u' ⟨rfl, hb⟩
          rw [← HY.out]
          dsimp only
          refine hK.out _ _ ?_
          exact ⟨b0, b1, b2, true, b4, b5, b6, b7, s20, s21, nv b, nv y, s9, s10, g4, g5, rfl, (by (try simp only [Act.put, List.setIfInBounds_toArray, List.set_cons_zero, List.set_cons_succ]); try rfl), hO.step hb, q0, q1, q2, (fun _ => rfl), p4, l4, (fun h1 h2 => Ok.row' hb (q4 h1 h2)), (fun h1 => Ok.row' hb (q6 h1)), m6, p5, l5, (fun h1 h2 => Ok.row' hb (q5 h1 h2)), (fun h1 => Ok.row' hb (q7 h1)), m7, d4_5⟩
        · have ho2 := Option.some.inj ho
          subst ho2
          have f4 : b4 = false := hi0
          clear ho hlt hd hi0
          (try simp only [Act.put, List.getElem_toArray, List.getElem_cons_succ, List.getElem_cons_zero, List.setIfInBounds_toArray, List.set_cons_zero, List.set_cons_succ])
          go_simp
          refine hK.out _ _ ?_
          exact ⟨b0, b1, b2, b3, true, b5, b6, b7, s20, s21, s22, s23, .pointer (some ⟨u.heap.size, 0, none⟩), s10, u.heap.size, g5, rfl, (by (try simp only [Act.put, List.setIfInBounds_toArray, List.set_cons_zero, List.set_cons_succ]); try rfl), hO.alloc _, q0, q1, q2, q3, (fun _ => rfl), (fun _ => hO.le), (fun _ _ => heap_new0 _ _), (fun h => by rw [m6 h] at f4; cases f4), (fun _ => rfl), p5, l5, (fun h1 h2 => Ok.row' ((Ok.refl u).alloc _) (q5 h1 h2)), (fun h1 => Ok.row' ((Ok.refl u).alloc _) (q7 h1)), m7, (fun _ h => Ne.symm (by cases c : b7; exact Nat.ne_of_lt (lt_row (q5 h c)); exact Nat.ne_of_lt (lt_row (q7 c))))⟩
        · have ho2 := Option.some.inj ho
          subst ho2
          have f5 : b5 = false := hi0
          clear ho hlt hd hi0
          (try simp only [Act.put, List.getElem_toArray, List.getElem_cons_succ, List.getElem_cons_zero, List.setIfInBounds_toArray, List.set_cons_zero, List.set_cons_succ])
          go_simp
          refine hK.out _ _ ?_
          exact ⟨b0, b1, b2, b3, b4, true, b6, b7, s20, s21, s22, s23, s9, .pointer (some ⟨u.heap.size, 0, none⟩), g4, u.heap.size, rfl, (by (try simp only [Act.put, List.setIfInBounds_toArray, List.set_cons_zero, List.set_cons_succ]); try rfl), hO.alloc _, q0, q1, q2, q3, p4, l4, (fun h1 h2 => Ok.row' ((Ok.refl u).alloc _) (q4 h1 h2)), (fun h1 => Ok.row' ((Ok.refl u).alloc _) (q6 h1)), m6, (fun _ => rfl), (fun _ => hO.le), (fun _ _ => heap_new0 _ _), (fun h => by rw [m7 h] at f5; cases f5), (fun _ => rfl), (fun h _ => (by cases c : b6; exact Nat.ne_of_lt (lt_row (q4 h c)); exact Nat.ne_of_lt (lt_row (q6 c))))⟩
        · have ho2 := Option.some.inj ho
          subst ho2
          have f6 : b6 = false := hi0
          have t1 : b1 = true := hd ⟨1, .data⟩ (by simp) rfl
          have t4 : b4 = true := hd ⟨4, .data⟩ (by simp) rfl
          have t5 : b5 = true := hd ⟨5, .phase⟩ (by simp) rfl
          clear ho hlt hd hi0
          have e1 := q1 t1
          subst e1
          have e4 := p4 t4
          subst e4
          have e5 := p5 t5
          subst e5
          have rg := q4 t4 f6
          (try unfold nv)
          have zz := row5_facts (rg)
          have y0 := zz.1
          have y1 := zz.2.1
          have y2 := zz.2.2.1
          have y3 := zz.2.2.2.1
          have y4 := zz.2.2.2.2.1
          have y5 := zz.2.2.2.2.2.1
          have y6 := zz.2.2.2.2.2.2.1
          have y7 := zz.2.2.2.2.2.2.2.1
          have y8 := zz.2.2.2.2.2.2.2.2.1
          have y9 := zz.2.2.2.2.2.2.2.2.2
          clear zz
          (try simp only [Act.put, List.getElem_toArray, List.getElem_cons_succ, List.getElem_cons_zero, List.setIfInBounds_toArray, List.set_cons_zero, List.set_cons_succ])
          go_simp
          have hrp := rows_put1 (Z := (((((u.setCell ⟨g4, 0, none⟩ (.bool x.2.2.2.2)).setCell ⟨g4, 1, none⟩ (.int .i64 x.1)).setCell ⟨g4, 2, none⟩ (.int .i64 x.2.1)).setCell ⟨g4, 3, none⟩ (.int .u64 (x.2.2.1 : Int))).setCell ⟨g4, 4, none⟩ (.int .u64 (x.2.2.2.1 : Int)))) rg hO (l4 t4) _ _ _ _ _ rfl
          refine hK.out _ _ ?_
          exact ⟨b0, b1, b2, b3, b4, b5, true, b7, s20, nv x, s22, s23, .pointer (some ⟨g4, 0, none⟩), .pointer (some ⟨g5, 0, none⟩), g4, g5, rfl, (by (try simp only [Act.put, List.setIfInBounds_toArray, List.set_cons_zero, List.set_cons_succ]); try rfl), hrp.out.1, q0, q1, q2, q3, (fun _ => rfl), l4, (fun _ h => by cases h), (fun _ => hrp.out.2.1), (fun _ => t4), (fun _ => rfl), l5, (fun h1 h2 => hrp.out.2.2 _ _ (d4_5 t4 t5).symm (q5 h1 h2)), (fun h1 => hrp.out.2.2 _ _ (d4_5 t4 t5).symm (q7 h1)), m7, d4_5⟩
        · have ho2 := Option.some.inj ho
          subst ho2
          have f7 : b7 = false := hi0
          have t3 : b3 = true := hd ⟨3, .data⟩ (by simp) rfl
          have t4 : b4 = true := hd ⟨4, .phase⟩ (by simp) rfl
          have t5 : b5 = true := hd ⟨5, .data⟩ (by simp) rfl
          clear ho hlt hd hi0
          have e3 := q3 t3
          subst e3
          have e4 := p4 t4
          subst e4
          have e5 := p5 t5
          subst e5
          have rg := q5 t5 f7
          (try unfold nv)
          have zz := row5_facts (rg)
          have y0 := zz.1
          have y1 := zz.2.1
          have y2 := zz.2.2.1
          have y3 := zz.2.2.2.1
          have y4 := zz.2.2.2.2.1
          have y5 := zz.2.2.2.2.2.1
          have y6 := zz.2.2.2.2.2.2.1
          have y7 := zz.2.2.2.2.2.2.2.1
          have y8 := zz.2.2.2.2.2.2.2.2.1
          have y9 := zz.2.2.2.2.2.2.2.2.2
          clear zz
          (try simp only [Act.put, List.getElem_toArray, List.getElem_cons_succ, List.getElem_cons_zero, List.setIfInBounds_toArray, List.set_cons_zero, List.set_cons_succ])
          go_simp
          have hrp := rows_put1 (Z := (((((u.setCell ⟨g5, 0, none⟩ (.bool y.2.2.2.2)).setCell ⟨g5, 1, none⟩ (.int .i64 y.1)).setCell ⟨g5, 2, none⟩ (.int .i64 y.2.1)).setCell ⟨g5, 3, none⟩ (.int .u64 (y.2.2.1 : Int))).setCell ⟨g5, 4, none⟩ (.int .u64 (y.2.2.2.1 : Int)))) rg hO (l5 t5) _ _ _ _ _ rfl
          refine hK.out _ _ ?_
          exact ⟨b0, b1, b2, b3, b4, b5, b6, true, s20, s21, s22, nv y, .pointer (some ⟨g4, 0, none⟩), .pointer (some ⟨g5, 0, none⟩), g4, g5, rfl, (by (try simp only [Act.put, List.setIfInBounds_toArray, List.set_cons_zero, List.set_cons_succ]); try rfl), hrp.out.1, q0, q1, q2, q3, (fun _ => rfl), l4, (fun h1 h2 => hrp.out.2.2 _ _ (d4_5 t4 t5) (q4 h1 h2)), (fun h1 => hrp.out.2.2 _ _ (d4_5 t4 t5) (q6 h1)), m6, (fun _ => rfl), l5, (fun _ h => by cases h), (fun _ => hrp.out.2.1), (fun _ => t5), d4_5⟩
      case fin =>
        intro l fr V1 hI hr
        obtain ⟨b0, b1, b2, b3, b4, b5, b6, b7, s20, s21, s22, s23, s9, s10, g4, g5, rfl, rfl, hO, q0, q1, q2, q3, p4, l4, q4, q6, m6, p5, l5, q5, q7, m7, d4_5⟩ := hI
        have hall := all_listed (by kernel_rfl) rfl hr
        clear hr
        have t0 : b0 = true := hall 0 (by decide)
        have t1 : b1 = true := hall 1 (by decide)
        have t2 : b2 = true := hall 2 (by decide)
        have t3 : b3 = true := hall 3 (by decide)
        have t4 : b4 = true := hall 4 (by decide)
        have t5 : b5 = true := hall 5 (by decide)
        have t6 : b6 = true := hall 6 (by decide)
        have t7 : b7 = true := hall 7 (by decide)
        have e0 := q0 t0
        subst e0
        have e1 := q1 t1
        subst e1
        have e2 := q2 t2
        subst e2
        have e3 := q3 t3
        subst e3
        have e4 := p4 t4
        subst e4
        have r4 := q6 t6
        replace l4 := l4 t4
        have e5 := p5 t5
        subst e5
        have r5 := q7 t7
        replace l5 := l5 t5
        replace d4_5 := d4_5 t4 t5
        clear hall t0 t1 t2 t3 t4 t5 t6 t7 q0 q1 q2 q3 p4 q4 q6 m6 p5 q5 q7 m7
        (try simp only [Act.put, List.getElem_toArray, List.getElem_cons_succ, List.getElem_cons_zero, List.setIfInBounds_toArray, List.set_cons_zero, List.set_cons_succ])
        go_wp2_with fail
        go_meet
        case rel => exact ⟨g4, g5, rfl, rfl, r4, r5, hO⟩
  case rest =>
    obtain ⟨gx, gy, h9, h10, rx0, ry0, hO⟩ := hcut.out
    subst h9
    subst h10
    obtain ⟨V1, ew⟩ : ∃ t, t = wc := ⟨_, rfl⟩
    rw [← ew] at rx0 ry0 hO ⊢
    clear hcut ew
    have rx : Hid _ := rx0
    clear rx0
    have ry : Hid _ := ry0
    clear ry0
    replace ra : Hid _ := Ok.row' hO ra.out
    replace rb : Hid _ := Ok.row' hO rb.out
    replace rc : Hid _ := Ok.row' hO rc.out
    have HV1 : Hid (Ok w0 V1) := HW.out.step hO
    clear hO HW
    go_wp2_with fail
    go_cut [11, 12, 13] from 24 to 31 (fun s11 s12 s13 u => Hid (∃ gj gm gz : Nat, s11 = .pointer (some ⟨gj, 0, none⟩) ∧ s12 = .pointer (some ⟨gm, 0, none⟩) ∧ s13 = .pointer (some ⟨gz, 0, none⟩) ∧ u.heap[gj]? = some (.cells #[.bool j.2.2.2.2, .int .i64 j.1, .int .i64 j.2.1, .int .u64 (j.2.2.1 : Int), .int .u64 (j.2.2.2.1 : Int)] 28) ∧ u.heap[gm]? = some (.cells #[.bool m.2.2.2.2, .int .i64 m.1, .int .i64 m.2.1, .int .u64 (m.2.2.1 : Int), .int .u64 (m.2.2.2.1 : Int)] 28) ∧ u.heap[gz]? = some (.cells #[.bool z.2.2.2.2, .int .i64 z.1, .int .i64 z.2.1, .int .u64 (z.2.2.1 : Int), .int .u64 (z.2.2.2.1 : Int)] 28) ∧ Ok V1 u))
    case first =>
      as_aux_lemma =>
        refine wp_region_inv (by kernel_rfl) (by kernel_rfl) (fun F l fr u => ∃ (b0 b1 b2 b3 b4 b5 b6 b7 b8 b9 b10 b11 b12 b13 : Bool) (s24 s25 s26 s27 s28 s29 s30 s31 s11 s12 s13 : Value) (g8 g9 g10 : Nat), l = #[b0, b1, b2, b3, b4, b5, b6, b7, b8, b9, b10, b11, b12, b13] ∧ fr = (((((((((((F.put (some 24) s24).put (some 25) s25).put (some 26) s26).put (some 27) s27).put (some 28) s28).put (some 29) s29).put (some 30) s30).put (some 31) s31).put (some 11) s11).put (some 12) s12).put (some 13) s13) ∧ Ok V1 u ∧ (b0 = true → s24 = nv a) ∧ (b1 = true → s25 = nv b) ∧ (b2 = true → s26 = nv j) ∧ (b3 = true → s27 = nv a) ∧ (b4 = true → s28 = nv b) ∧ (b5 = true → s29 = nv m) ∧ (b6 = true → s30 = nv a) ∧ (b7 = true → s31 = nv z) ∧ (b8 = true → s11 = .pointer (some ⟨g8, 0, none⟩)) ∧ (b8 = true → V1.heap.size ≤ g8) ∧ (b8 = true → b11 = false → u.heap[g8]? = some (.cells #[.bool false, .int .i64 0, .int .i64 0, .int .u64 0, .int .u64 0] 28 (0, 0))) ∧ (b11 = true → u.heap[g8]? = some (.cells #[.bool j.2.2.2.2, .int .i64 j.1, .int .i64 j.2.1, .int .u64 (j.2.2.1 : Int), .int .u64 (j.2.2.2.1 : Int)] 28 (0, 0))) ∧ (b11 = true → b8 = true) ∧ (b9 = true → s12 = .pointer (some ⟨g9, 0, none⟩)) ∧ (b9 = true → V1.heap.size ≤ g9) ∧ (b9 = true → b12 = false → u.heap[g9]? = some (.cells #[.bool false, .int .i64 0, .int .i64 0, .int .u64 0, .int .u64 0] 28 (0, 0))) ∧ (b12 = true → u.heap[g9]? = some (.cells #[.bool m.2.2.2.2, .int .i64 m.1, .int .i64 m.2.1, .int .u64 (m.2.2.1 : Int), .int .u64 (m.2.2.2.1 : Int)] 28 (0, 0))) ∧ (b12 = true → b9 = true) ∧ (b10 = true → s13 = .pointer (some ⟨g10, 0, none⟩)) ∧ (b10 = true → V1.heap.size ≤ g10) ∧ (b10 = true → b13 = false → u.heap[g10]? = some (.cells #[.bool false, .int .i64 0, .int .i64 0, .int .u64 0, .int .u64 0] 28 (0, 0))) ∧ (b13 = true → u.heap[g10]? = some (.cells #[.bool z.2.2.2.2, .int .i64 z.1, .int .i64 z.2.1, .int .u64 (z.2.2.1 : Int), .int .u64 (z.2.2.2.1 : Int)] 28 (0, 0))) ∧ (b13 = true → b10 = true) ∧ (b8 = true → b9 = true → g8 ≠ g9) ∧ (b8 = true → b10 = true → g8 ≠ g10) ∧ (b9 = true → b10 = true → g9 ≠ g10)) ?start ?step ?fin
        case start => exact ⟨false, false, false, false, false, false, false, false, false, false, false, false, false, false, undef, undef, undef, undef, undef, undef, undef, undef, undef, undef, undef, 0, 0, 0, rfl, (by (try simp only [Act.put, List.setIfInBounds_toArray, List.set_cons_zero, List.set_cons_succ]); try rfl), Ok.draws (Ok.refl _) 1, (fun h => by cases h), (fun h => by cases h), (fun h => by cases h), (fun h => by cases h), (fun h => by cases h), (fun h => by cases h), (fun h => by cases h), (fun h => by cases h), (fun h => by cases h), (fun h => by cases h), (fun h => by cases h), (fun h => by cases h), (fun h => by cases h), (fun h => by cases h), (fun h => by cases h), (fun h => by cases h), (fun h => by cases h), (fun h => by cases h), (fun h => by cases h), (fun h => by cases h), (fun h => by cases h), (fun h => by cases h), (fun h => by cases h), (fun h => by cases h), (fun h => by cases h), (fun h => by cases h)⟩
        case step =>
          intro l fr u i o hI hi0 ho hd K hK
          obtain ⟨b0, b1, b2, b3, b4, b5, b6, b7, b8, b9, b10, b11, b12, b13, s24, s25, s26, s27, s28, s29, s30, s31, s11, s12, s13, g8, g9, g10, rfl, rfl, hO, q0, q1, q2, q3, q4, q5, q6, q7, p8, l8, q8, q11, m11, p9, l9, q9, q12, m12, p10, l10, q10, q13, m13, d8_9, d8_10, d9_10⟩ := hI
          have hlt : i < 14 := (Array.getElem?_eq_some_iff.1 ho).1
          rcases (show i = 0 ∨ i = 1 ∨ i = 2 ∨ i = 3 ∨ i = 4 ∨ i = 5 ∨ i = 6 ∨ i = 7 ∨ i = 8 ∨ i = 9 ∨ i = 10 ∨ i = 11 ∨ i = 12 ∨ i = 13 by omega) with rfl | rfl | rfl | rfl | rfl | rfl | rfl | rfl | rfl | rfl | rfl | rfl | rfl | rfl
          · have ho2 := Option.some.inj ho
            subst ho2
            have f0 : b0 = false := hi0
            clear ho hlt hd hi0
            have zz := row5_facts (Ok.row' hO ra.out)
            have aa0 := zz.1
            have aa1 := zz.2.1
            have aa2 := zz.2.2.1
            have aa3 := zz.2.2.2.1
            have aa4 := zz.2.2.2.2.1
            have aa5 := zz.2.2.2.2.2.1
            have aa6 := zz.2.2.2.2.2.2.1
            have aa7 := zz.2.2.2.2.2.2.2.1
            have aa8 := zz.2.2.2.2.2.2.2.2.1
            have aa9 := zz.2.2.2.2.2.2.2.2.2
            clear zz
            (try simp only [Act.put, List.getElem_toArray, List.getElem_cons_succ, List.getElem_cons_zero, List.setIfInBounds_toArray, List.set_cons_zero, List.set_cons_succ])
            go_simp
            refine hK.out _ _ ?_
            exact ⟨true, b1, b2, b3, b4, b5, b6, b7, b8, b9, b10, b11, b12, b13, nv a, s25, s26, s27, s28, s29, s30, s31, s11, s12, s13, g8, g9, g10, rfl, (by (try simp only [Act.put, List.setIfInBounds_toArray, List.set_cons_zero, List.set_cons_succ]); try rfl), hO, (fun _ => rfl), q1, q2, q3, q4, q5, q6, q7, p8, l8, q8, q11, m11, p9, l9, q9, q12, m12, p10, l10, q10, q13, m13, d8_9, d8_10, d9_10⟩
          · have ho2 := Option.some.inj ho
            subst ho2
            have f1 : b1 = false := hi0
            clear ho hlt hd hi0
            have zz := row5_facts (Ok.row' hO rb.out)
            have bb0 := zz.1
            have bb1 := zz.2.1
            have bb2 := zz.2.2.1
            have bb3 := zz.2.2.2.1
            have bb4 := zz.2.2.2.2.1
            have bb5 := zz.2.2.2.2.2.1
            have bb6 := zz.2.2.2.2.2.2.1
            have bb7 := zz.2.2.2.2.2.2.2.1
            have bb8 := zz.2.2.2.2.2.2.2.2.1
            have bb9 := zz.2.2.2.2.2.2.2.2.2
            clear zz
            (try simp only [Act.put, List.getElem_toArray, List.getElem_cons_succ, List.getElem_cons_zero, List.setIfInBounds_toArray, List.set_cons_zero, List.set_cons_succ])
            go_simp
            refine hK.out _ _ ?_
            exact ⟨b0, true, b2, b3, b4, b5, b6, b7, b8, b9, b10, b11, b12, b13, s24, nv b, s26, s27, s28, s29, s30, s31, s11, s12, s13, g8, g9, g10, rfl, (by (try simp only [Act.put, List.setIfInBounds_toArray, List.set_cons_zero, List.set_cons_succ]); try rfl), hO, q0, (fun _ => rfl), q2, q3, q4, q5, q6, q7, p8, l8, q8, q11, m11, p9, l9, q9, q12, m12, p10, l10, q10, q13, m13, d8_9, d8_10, d9_10⟩
          · have ho2 := Option.some.inj ho
            subst ho2
            have f2 : b2 = false := hi0
            have t0 : b0 = true := hd ⟨0, .data⟩ (by simp) rfl
            have t1 : b1 = true := hd ⟨1, .data⟩ (by simp) rfl
            clear ho hlt hd hi0
            have e0 := q0 t0
            subst e0
            have e1 := q1 t1
            subst e1
            (try simp only [Act.put, List.getElem_toArray, List.getElem_cons_succ, List.getElem_cons_zero, List.setIfInBounds_toArray, List.set_cons_zero, List.set_cons_succ])
            go_simp
            refine (njoin_any a b HU.out.1 HU.out.2.1 u _ (Ok.refl _)).mono ?_
            rintro e u' ⟨rfl, hb⟩
            rw [← HJ.out]
            dsimp only
            refine hK.out _ _ ?_
            exact ⟨b0, b1, true, b3, b4, b5, b6, b7, b8, b9, b10, b11, b12, b13, nv a, nv b, nv j, s27, s28, s29, s30, s31, s11, s12, s13, g8, g9, g10, rfl, (by (try simp only [Act.put, List.setIfInBounds_toArray, List.set_cons_zero, List.set_cons_succ]); try rfl), hO.step hb, q0, q1, (fun _ => rfl), q3, q4, q5, q6, q7, p8, l8, (fun h1 h2 => Ok.row' hb (q8 h1 h2)), (fun h1 => Ok.row' hb (q11 h1)), m11, p9, l9, (fun h1 h2 => Ok.row' hb (q9 h1 h2)), (fun h1 => Ok.row' hb (q12 h1)), m12, p10, l10, (fun h1 h2 => Ok.row' hb (q10 h1 h2)), (fun h1 => Ok.row' hb (q13 h1)), m13, d8_9, d8_10, d9_10⟩
          · have ho2 := Option.some.inj ho
            subst ho2
            have f3 : b3 = false := hi0
            clear ho hlt hd hi0
            have zz := row5_facts (Ok.row' hO ra.out)
            have aa0 := zz.1
            have aa1 := zz.2.1
            have aa2 := zz.2.2.1
            have aa3 := zz.2.2.2.1
            have aa4 := zz.2.2.2.2.1
            have aa5 := zz.2.2.2.2.2.1
            have aa6 := zz.2.2.2.2.2.2.1
            have aa7 := zz.2.2.2.2.2.2.2.1
            have aa8 := zz.2.2.2.2.2.2.2.2.1
            have aa9 := zz.2.2.2.2.2.2.2.2.2
            clear zz
            (try simp only [Act.put, List.getElem_toArray, List.getElem_cons_succ, List.getElem_cons_zero, List.setIfInBounds_toArray, List.set_cons_zero, List.set_cons_succ])
            go_simp
            refine hK.out _ _ ?_
            exact ⟨b0, b1, b2, true, b4, b5, b6, b7, b8, b9, b10, b11, b12, b13, s24, s25, s26, nv a, s28, s29, s30, s31, s11, s12, s13, g8, g9, g10, rfl, (by (try simp only [Act.put, List.setIfInBounds_toArray, List.set_cons_zero, List.set_cons_succ]); try rfl), hO, q0, q1, q2, (fun _ => rfl), q4, q5, q6, q7, p8, l8, q8, q11, m11, p9, l9, q9, q12, m12, p10, l10, q10, q13, m13, d8_9, d8_10, d9_10⟩
          · have ho2 := Option.some.inj ho
            subst ho2
            have f4 : b4 = false := hi0
            clear ho hlt hd hi0
            have zz := row5_facts (Ok.row' hO rb.out)
            have bb0 := zz.1
            have bb1 := zz.2.1
            have bb2 := zz.2.2.1
            have bb3 := zz.2.2.2.1
            have bb4 := zz.2.2.2.2.1
            have bb5 := zz.2.2.2.2.2.1
            have bb6 := zz.2.2.2.2.2.2.1
            have bb7 := zz.2.2.2.2.2.2.2.1
            have bb8 := zz.2.2.2.2.2.2.2.2.1
            have bb9 := zz.2.2.2.2.2.2.2.2.2
            clear zz
            (try simp only [Act.put, List.getElem_toArray, List.getElem_cons_succ, List.getElem_cons_zero, List.setIfInBounds_toArray, List.set_cons_zero, List.set_cons_succ])
            go_simp
            refine hK.out _ _ ?_
            exact ⟨b0, b1, b2, b3, true, b5, b6, b7, b8, b9, b10, b11, b12, b13, s24, s25, s26, s27, nv b, s29, s30, s31, s11, s12, s13, g8, g9, g10, rfl, (by (try simp only [Act.put, List.setIfInBounds_toArray, List.set_cons_zero, List.set_cons_succ]); try rfl), hO, q0, q1, q2, q3, (fun _ => rfl), q5, q6, q7, p8, l8, q8, q11, m11, p9, l9, q9, q12, m12, p10, l10, q10, q13, m13, d8_9, d8_10, d9_10⟩
          · have ho2 := Option.some.inj ho
            subst ho2
            have f5 : b5 = false := hi0
            have t3 : b3 = true := hd ⟨3, .data⟩ (by simp) rfl
            have t4 : b4 = true := hd ⟨4, .data⟩ (by simp) rfl
            clear ho hlt hd hi0
            have e3 := q3 t3
            subst e3
            have e4 := q4 t4
            subst e4
            (try simp only [Act.put, List.getElem_toArray, List.getElem_cons_succ, List.getElem_cons_zero, List.setIfInBounds_toArray, List.set_cons_zero, List.set_cons_succ])
            go_simp
            refine (nmeet_any a b HU.out.1 HU.out.2.1 u _ (Ok.refl _)).mono ?_
            rintro e u' ⟨rfl, hb⟩
            rw [← HM.out]
            dsimp only
            refine hK.out _ _ ?_
            exact ⟨b0, b1, b2, b3, b4, true, b6, b7, b8, b9, b10, b11, b12, b13, s24, s25, s26, nv a, nv b, nv m, s30, s31, s11, s12, s13, g8, g9, g10, rfl, (by (try simp only [Act.put, List.setIfInBounds_toArray, List.set_cons_zero, List.set_cons_succ]); try rfl), hO.step hb, q0, q1, q2, q3, q4, (fun _ => rfl), q6, q7, p8, l8, (fun h1 h2 => Ok.row' hb (q8 h1 h2)), (fun h1 => Ok.row' hb (q11 h1)), m11, p9, l9, (fun h1 h2 => Ok.row' hb (q9 h1 h2)), (fun h1 => Ok.row' hb (q12 h1)), m12, p10, l10, (fun h1 h2 => Ok.row' hb (q10 h1 h2)), (fun h1 => Ok.row' hb (q13 h1)), m13, d8_9, d8_10, d9_10⟩
          · have ho2 := Option.some.inj ho
            subst ho2
            have f6 : b6 = false := hi0
            clear ho hlt hd hi0
            have zz := row5_facts (Ok.row' hO ra.out)
            have aa0 := zz.1
            have aa1 := zz.2.1
            have aa2 := zz.2.2.1
            have aa3 := zz.2.2.2.1
            have aa4 := zz.2.2.2.2.1
            have aa5 := zz.2.2.2.2.2.1
            have aa6 := zz.2.2.2.2.2.2.1
            have aa7 := zz.2.2.2.2.2.2.2.1
            have aa8 := zz.2.2.2.2.2.2.2.2.1
            have aa9 := zz.2.2.2.2.2.2.2.2.2
            clear zz
            (try simp only [Act.put, List.getElem_toArray, List.getElem_cons_succ, List.getElem_cons_zero, List.setIfInBounds_toArray, List.set_cons_zero, List.set_cons_succ])
            go_simp
            refine hK.out _ _ ?_
            exact ⟨b0, b1, b2, b3, b4, b5, true, b7, b8, b9, b10, b11, b12, b13, s24, s25, s26, s27, s28, s29, nv a, s31, s11, s12, s13, g8, g9, g10, rfl, (by (try simp only [Act.put, List.setIfInBounds_toArray, List.set_cons_zero, List.set_cons_succ]); try rfl), hO, q0, q1, q2, q3, q4, q5, (fun _ => rfl), q7, p8, l8, q8, q11, m11, p9, l9, q9, q12, m12, p10, l10, q10, q13, m13, d8_9, d8_10, d9_10⟩
          · have ho2 := Option.some.inj ho
            subst ho2
            have f7 : b7 = false := hi0
            have t6 : b6 = true := hd ⟨6, .data⟩ (by simp) rfl
            clear ho hlt hd hi0
            have e6 := q6 t6
            subst e6
            (try simp only [Act.put, List.getElem_toArray, List.getElem_cons_succ, List.getElem_cons_zero, List.setIfInBounds_toArray, List.set_cons_zero, List.set_cons_succ])
            go_simp
            refine (nnz_any a HU.out.1 u _ (Ok.refl _)).mono ?_
            rintro e u' ⟨rfl, hb⟩
            rw [← HZ.out]
            dsimp only
            refine hK.out _ _ ?_
            exact ⟨b0, b1, b2, b3, b4, b5, b6, true, b8, b9, b10, b11, b12, b13, s24, s25, s26, s27, s28, s29, nv a, nv z, s11, s12, s13, g8, g9, g10, rfl, (by (try simp only [Act.put, List.setIfInBounds_toArray, List.set_cons_zero, List.set_cons_succ]); try rfl), hO.step hb, q0, q1, q2, q3, q4, q5, q6, (fun _ => rfl), p8, l8, (fun h1 h2 => Ok.row' hb (q8 h1 h2)), (fun h1 => Ok.row' hb (q11 h1)), m11, p9, l9, (fun h1 h2 => Ok.row' hb (q9 h1 h2)), (fun h1 => Ok.row' hb (q12 h1)), m12, p10, l10, (fun h1 h2 => Ok.row' hb (q10 h1 h2)), (fun h1 => Ok.row' hb (q13 h1)), m13, d8_9, d8_10, d9_10⟩
          · have ho2 := Option.some.inj ho
            subst ho2
            have f8 : b8 = false := hi0
            clear ho hlt hd hi0
            (try simp only [Act.put, List.getElem_toArray, List.getElem_cons_succ, List.getElem_cons_zero, List.setIfInBounds_toArray, List.set_cons_zero, List.set_cons_succ])
            go_simp
            refine hK.out _ _ ?_
            exact ⟨b0, b1, b2, b3, b4, b5, b6, b7, true, b9, b10, b11, b12, b13, s24, s25, s26, s27, s28, s29, s30, s31, .pointer (some ⟨u.heap.size, 0, none⟩), s12, s13, u.heap.size, g9, g10, rfl, (by (try simp only [Act.put, List.setIfInBounds_toArray, List.set_cons_zero, List.set_cons_succ]); try rfl), hO.alloc _, q0, q1, q2, q3, q4, q5, q6, q7, (fun _ => rfl), (fun _ => hO.le), (fun _ _ => heap_new0 _ _), (fun h => by rw [m11 h] at f8; cases f8), (fun _ => rfl), p9, l9, (fun h1 h2 => Ok.row' ((Ok.refl u).alloc _) (q9 h1 h2)), (fun h1 => Ok.row' ((Ok.refl u).alloc _) (q12 h1)), m12, p10, l10, (fun h1 h2 => Ok.row' ((Ok.refl u).alloc _) (q10 h1 h2)), (fun h1 => Ok.row' ((Ok.refl u).alloc _) (q13 h1)), m13, (fun _ h => Ne.symm (by cases c : b12; exact Nat.ne_of_lt (lt_row (q9 h c)); exact Nat.ne_of_lt (lt_row (q12 c)))), (fun _ h => Ne.symm (by cases c : b13; exact Nat.ne_of_lt (lt_row (q10 h c)); exact Nat.ne_of_lt (lt_row (q13 c)))), d9_10⟩
          · have ho2 := Option.some.inj ho
            subst ho2
            have f9 : b9 = false := hi0
            clear ho hlt hd hi0
            (try simp only [Act.put, List.getElem_toArray, List.getElem_cons_succ, List.getElem_cons_zero, List.setIfInBounds_toArray, List.set_cons_zero, List.set_cons_succ])
            go_simp
            refine hK.out _ _ ?_
            exact ⟨b0, b1, b2, b3, b4, b5, b6, b7, b8, true, b10, b11, b12, b13, s24, s25, s26, s27, s28, s29, s30, s31, s11, .pointer (some ⟨u.heap.size, 0, none⟩), s13, g8, u.heap.size, g10, rfl, (by (try simp only [Act.put, List.setIfInBounds_toArray, List.set_cons_zero, List.set_cons_succ]); try rfl), hO.alloc _, q0, q1, q2, q3, q4, q5, q6, q7, p8, l8, (fun h1 h2 => Ok.row' ((Ok.refl u).alloc _) (q8 h1 h2)), (fun h1 => Ok.row' ((Ok.refl u).alloc _) (q11 h1)), m11, (fun _ => rfl), (fun _ => hO.le), (fun _ _ => heap_new0 _ _), (fun h => by rw [m12 h] at f9; cases f9), (fun _ => rfl), p10, l10, (fun h1 h2 => Ok.row' ((Ok.refl u).alloc _) (q10 h1 h2)), (fun h1 => Ok.row' ((Ok.refl u).alloc _) (q13 h1)), m13, (fun h _ => (by cases c : b11; exact Nat.ne_of_lt (lt_row (q8 h c)); exact Nat.ne_of_lt (lt_row (q11 c)))), d8_10, (fun _ h => Ne.symm (by cases c : b13; exact Nat.ne_of_lt (lt_row (q10 h c)); exact Nat.ne_of_lt (lt_row (q13 c))))⟩
          · have ho2 := Option.some.inj ho
            subst ho2
            have f10 : b10 = false := hi0
            clear ho hlt hd hi0
            (try simp only [Act.put, List.getElem_toArray, List.getElem_cons_succ, List.getElem_cons_zero, List.setIfInBounds_toArray, List.set_cons_zero, List.set_cons_succ])
            go_simp
            refine hK.out _ _ ?_
            exact ⟨b0, b1, b2, b3, b4, b5, b6, b7, b8, b9, true, b11, b12, b13, s24, s25, s26, s27, s28, s29, s30, s31, s11, s12, .pointer (some ⟨u.heap.size, 0, none⟩), g8, g9, u.heap.size, rfl, (by (try simp only [Act.put, List.setIfInBounds_toArray, List.set_cons_zero, List.set_cons_succ]); try rfl), hO.alloc _, q0, q1, q2, q3, q4, q5, q6, q7, p8, l8, (fun h1 h2 => Ok.row' ((Ok.refl u).alloc _) (q8 h1 h2)), (fun h1 => Ok.row' ((Ok.refl u).alloc _) (q11 h1)), m11, p9, l9, (fun h1 h2 => Ok.row' ((Ok.refl u).alloc _) (q9 h1 h2)), (fun h1 => Ok.row' ((Ok.refl u).alloc _) (q12 h1)), m12, (fun _ => rfl), (fun _ => hO.le), (fun _ _ => heap_new0 _ _), (fun h => by rw [m13 h] at f10; cases f10), (fun _ => rfl), d8_9, (fun h _ => (by cases c : b11; exact Nat.ne_of_lt (lt_row (q8 h c)); exact Nat.ne_of_lt (lt_row (q11 c)))), (fun h _ => (by cases c : b12; exact Nat.ne_of_lt (lt_row (q9 h c)); exact Nat.ne_of_lt (lt_row (q12 c))))⟩
          · have ho2 := Option.some.inj ho
            subst ho2
            have f11 : b11 = false := hi0
            have t2 : b2 = true := hd ⟨2, .data⟩ (by simp) rfl
            have t8 : b8 = true := hd ⟨8, .data⟩ (by simp) rfl
            have t9 : b9 = true := hd ⟨9, .phase⟩ (by simp) rfl
            have t10 : b10 = true := hd ⟨10, .phase⟩ (by simp) rfl
            clear ho hlt hd hi0
            have e2 := q2 t2
            subst e2
            have e8 := p8 t8
            subst e8
            have e9 := p9 t9
            subst e9
            have e10 := p10 t10
            subst e10
            have rg := q8 t8 f11
            (try unfold nv)
            have zz := row5_facts (rg)
            have y0 := zz.1
            have y1 := zz.2.1
            have y2 := zz.2.2.1
            have y3 := zz.2.2.2.1
            have y4 := zz.2.2.2.2.1
            have y5 := zz.2.2.2.2.2.1
            have y6 := zz.2.2.2.2.2.2.1
            have y7 := zz.2.2.2.2.2.2.2.1
            have y8 := zz.2.2.2.2.2.2.2.2.1
            have y9 := zz.2.2.2.2.2.2.2.2.2
            clear zz
            (try simp only [Act.put, List.getElem_toArray, List.getElem_cons_succ, List.getElem_cons_zero, List.setIfInBounds_toArray, List.set_cons_zero, List.set_cons_succ])
            go_simp
            have hrp := rows_put1 (Z := (((((u.setCell ⟨g8, 0, none⟩ (.bool j.2.2.2.2)).setCell ⟨g8, 1, none⟩ (.int .i64 j.1)).setCell ⟨g8, 2, none⟩ (.int .i64 j.2.1)).setCell ⟨g8, 3, none⟩ (.int .u64 (j.2.2.1 : Int))).setCell ⟨g8, 4, none⟩ (.int .u64 (j.2.2.2.1 : Int)))) rg hO (l8 t8) _ _ _ _ _ rfl
            refine hK.out _ _ ?_
            exact ⟨b0, b1, b2, b3, b4, b5, b6, b7, b8, b9, b10, true, b12, b13, s24, s25, nv j, s27, s28, s29, s30, s31, .pointer (some ⟨g8, 0, none⟩), .pointer (some ⟨g9, 0, none⟩), .pointer (some ⟨g10, 0, none⟩), g8, g9, g10, rfl, (by (try simp only [Act.put, List.setIfInBounds_toArray, List.set_cons_zero, List.set_cons_succ]); try rfl), hrp.out.1, q0, q1, q2, q3, q4, q5, q6, q7, (fun _ => rfl), l8, (fun _ h => by cases h), (fun _ => hrp.out.2.1), (fun _ => t8), (fun _ => rfl), l9, (fun h1 h2 => hrp.out.2.2 _ _ (d8_9 t8 t9).symm (q9 h1 h2)), (fun h1 => hrp.out.2.2 _ _ (d8_9 t8 t9).symm (q12 h1)), m12, (fun _ => rfl), l10, (fun h1 h2 => hrp.out.2.2 _ _ (d8_10 t8 t10).symm (q10 h1 h2)), (fun h1 => hrp.out.2.2 _ _ (d8_10 t8 t10).symm (q13 h1)), m13, d8_9, d8_10, d9_10⟩
          · have ho2 := Option.some.inj ho
            subst ho2
            have f12 : b12 = false := hi0
            have t5 : b5 = true := hd ⟨5, .data⟩ (by simp) rfl
            have t8 : b8 = true := hd ⟨8, .phase⟩ (by simp) rfl
            have t9 : b9 = true := hd ⟨9, .data⟩ (by simp) rfl
            have t10 : b10 = true := hd ⟨10, .phase⟩ (by simp) rfl
            clear ho hlt hd hi0
            have e5 := q5 t5
            subst e5
            have e8 := p8 t8
            subst e8
            have e9 := p9 t9
            subst e9
            have e10 := p10 t10
            subst e10
            have rg := q9 t9 f12
            (try unfold nv)
            have zz := row5_facts (rg)
            have y0 := zz.1
            have y1 := zz.2.1
            have y2 := zz.2.2.1
            have y3 := zz.2.2.2.1
            have y4 := zz.2.2.2.2.1
            have y5 := zz.2.2.2.2.2.1
            have y6 := zz.2.2.2.2.2.2.1
            have y7 := zz.2.2.2.2.2.2.2.1
            have y8 := zz.2.2.2.2.2.2.2.2.1
            have y9 := zz.2.2.2.2.2.2.2.2.2
            clear zz
            (try simp only [Act.put, List.getElem_toArray, List.getElem_cons_succ, List.getElem_cons_zero, List.setIfInBounds_toArray, List.set_cons_zero, List.set_cons_succ])
            go_simp
            have hrp := rows_put1 (Z := (((((u.setCell ⟨g9, 0, none⟩ (.bool m.2.2.2.2)).setCell ⟨g9, 1, none⟩ (.int .i64 m.1)).setCell ⟨g9, 2, none⟩ (.int .i64 m.2.1)).setCell ⟨g9, 3, none⟩ (.int .u64 (m.2.2.1 : Int))).setCell ⟨g9, 4, none⟩ (.int .u64 (m.2.2.2.1 : Int)))) rg hO (l9 t9) _ _ _ _ _ rfl
            refine hK.out _ _ ?_
            exact ⟨b0, b1, b2, b3, b4, b5, b6, b7, b8, b9, b10, b11, true, b13, s24, s25, s26, s27, s28, nv m, s30, s31, .pointer (some ⟨g8, 0, none⟩), .pointer (some ⟨g9, 0, none⟩), .pointer (some ⟨g10, 0, none⟩), g8, g9, g10, rfl, (by (try simp only [Act.put, List.setIfInBounds_toArray, List.set_cons_zero, List.set_cons_succ]); try rfl), hrp.out.1, q0, q1, q2, q3, q4, q5, q6, q7, (fun _ => rfl), l8, (fun h1 h2 => hrp.out.2.2 _ _ (d8_9 t8 t9) (q8 h1 h2)), (fun h1 => hrp.out.2.2 _ _ (d8_9 t8 t9) (q11 h1)), m11, (fun _ => rfl), l9, (fun _ h => by cases h), (fun _ => hrp.out.2.1), (fun _ => t9), (fun _ => rfl), l10, (fun h1 h2 => hrp.out.2.2 _ _ (d9_10 t9 t10).symm (q10 h1 h2)), (fun h1 => hrp.out.2.2 _ _ (d9_10 t9 t10).symm (q13 h1)), m13, d8_9, d8_10, d9_10⟩
          · have ho2 := Option.some.inj ho
            subst ho2
            have f13 : b13 = false := hi0
            have t7 : b7 = true := hd ⟨7, .data⟩ (by simp) rfl
            have t8 : b8 = true := hd ⟨8, .phase⟩ (by simp) rfl
            have t9 : b9 = true := hd ⟨9, .phase⟩ (by simp) rfl
            have t10 : b10 = true := hd ⟨10, .data⟩ (by simp) rfl
            clear ho hlt hd hi0
            have e7 := q7 t7
            subst e7
            have e8 := p8 t8
            subst e8
            have e9 := p9 t9
            subst e9
            have e10 := p10 t10
            subst e10
            have rg := q10 t10 f13
            (try unfold nv)
            have zz := row5_facts (rg)
            have y0 := zz.1
            have y1 := zz.2.1
            have y2 := zz.2.2.1
            have y3 := zz.2.2.2.1
            have y4 := zz.2.2.2.2.1
            have y5 := zz.2.2.2.2.2.1
            have y6 := zz.2.2.2.2.2.2.1
            have y7 := zz.2.2.2.2.2.2.2.1
            have y8 := zz.2.2.2.2.2.2.2.2.1
            have y9 := zz.2.2.2.2.2.2.2.2.2
            clear zz
            (try simp only [Act.put, List.getElem_toArray, List.getElem_cons_succ, List.getElem_cons_zero, List.setIfInBounds_toArray, List.set_cons_zero, List.set_cons_succ])
            go_simp
            have hrp := rows_put1 (Z := (((((u.setCell ⟨g10, 0, none⟩ (.bool z.2.2.2.2)).setCell ⟨g10, 1, none⟩ (.int .i64 z.1)).setCell ⟨g10, 2, none⟩ (.int .i64 z.2.1)).setCell ⟨g10, 3, none⟩ (.int .u64 (z.2.2.1 : Int))).setCell ⟨g10, 4, none⟩ (.int .u64 (z.2.2.2.1 : Int)))) rg hO (l10 t10) _ _ _ _ _ rfl
            refine hK.out _ _ ?_
            exact ⟨b0, b1, b2, b3, b4, b5, b6, b7, b8, b9, b10, b11, b12, true, s24, s25, s26, s27, s28, s29, s30, nv z, .pointer (some ⟨g8, 0, none⟩), .pointer (some ⟨g9, 0, none⟩), .pointer (some ⟨g10, 0, none⟩), g8, g9, g10, rfl, (by (try simp only [Act.put, List.setIfInBounds_toArray, List.set_cons_zero, List.set_cons_succ]); try rfl), hrp.out.1, q0, q1, q2, q3, q4, q5, q6, q7, (fun _ => rfl), l8, (fun h1 h2 => hrp.out.2.2 _ _ (d8_10 t8 t10) (q8 h1 h2)), (fun h1 => hrp.out.2.2 _ _ (d8_10 t8 t10) (q11 h1)), m11, (fun _ => rfl), l9, (fun h1 h2 => hrp.out.2.2 _ _ (d9_10 t9 t10) (q9 h1 h2)), (fun h1 => hrp.out.2.2 _ _ (d9_10 t9 t10) (q12 h1)), m12, (fun _ => rfl), l10, (fun _ h => by cases h), (fun _ => hrp.out.2.1), (fun _ => t10), d8_9, d8_10, d9_10⟩
        case fin =>
          intro l fr V2 hI hr
          obtain ⟨b0, b1, b2, b3, b4, b5, b6, b7, b8, b9, b10, b11, b12, b13, s24, s25, s26, s27, s28, s29, s30, s31, s11, s12, s13, g8, g9, g10, rfl, rfl, hO, q0, q1, q2, q3, q4, q5, q6, q7, p8, l8, q8, q11, m11, p9, l9, q9, q12, m12, p10, l10, q10, q13, m13, d8_9, d8_10, d9_10⟩ := hI
          have hall := all_listed (by kernel_rfl) rfl hr
          clear hr
          have t0 : b0 = true := hall 0 (by decide)
          have t1 : b1 = true := hall 1 (by decide)
          have t2 : b2 = true := hall 2 (by decide)
          have t3 : b3 = true := hall 3 (by decide)
          have t4 : b4 = true := hall 4 (by decide)
          have t5 : b5 = true := hall 5 (by decide)
          have t6 : b6 = true := hall 6 (by decide)
          have t7 : b7 = true := hall 7 (by decide)
          have t8 : b8 = true := hall 8 (by decide)
          have t9 : b9 = true := hall 9 (by decide)
          have t10 : b10 = true := hall 10 (by decide)
          have t11 : b11 = true := hall 11 (by decide)
          have t12 : b12 = true := hall 12 (by decide)
          have t13 : b13 = true := hall 13 (by decide)
          have e0 := q0 t0
          subst e0
          have e1 := q1 t1
          subst e1
          have e2 := q2 t2
          subst e2
          have e3 := q3 t3
          subst e3
          have e4 := q4 t4
          subst e4
          have e5 := q5 t5
          subst e5
          have e6 := q6 t6
          subst e6
          have e7 := q7 t7
          subst e7
          have e8 := p8 t8
          subst e8
          have r8 := q11 t11
          replace l8 := l8 t8
          have e9 := p9 t9
          subst e9
          have r9 := q12 t12
          replace l9 := l9 t9
          have e10 := p10 t10
          subst e10
          have r10 := q13 t13
          replace l10 := l10 t10
          replace d8_9 := d8_9 t8 t9
          replace d8_10 := d8_10 t8 t10
          replace d9_10 := d9_10 t9 t10
          clear hall t0 t1 t2 t3 t4 t5 t6 t7 t8 t9 t10 t11 t12 t13 q0 q1 q2 q3 q4 q5 q6 q7 p8 q8 q11 m11 p9 q9 q12 m12 p10 q10 q13 m13
          (try simp only [Act.put, List.getElem_toArray, List.getElem_cons_succ, List.getElem_cons_zero, List.setIfInBounds_toArray, List.set_cons_zero, List.set_cons_succ])
          go_wp2_with fail
          go_meet
          case rel => exact ⟨g8, g9, g10, rfl, rfl, rfl, r8, r9, r10, hO⟩
    case rest =>
      obtain ⟨gj, gm, gz, h11, h12, h13, rj0, rm0, rz0, hO⟩ := hcut.out
      subst h11
      subst h12
      subst h13
      obtain ⟨V2, ew⟩ : ∃ t, t = wc := ⟨_, rfl⟩
      rw [← ew] at rj0 rm0 rz0 hO ⊢
      clear hcut ew
      have rj : Hid _ := rj0
      clear rj0
      have rm : Hid _ := rm0
      clear rm0
      have rz : Hid _ := rz0
      clear rz0
      replace ra : Hid _ := Ok.row' hO ra.out
      replace rb : Hid _ := Ok.row' hO rb.out
      replace rc : Hid _ := Ok.row' hO rc.out
      replace rx : Hid _ := Ok.row' hO rx.out
      replace ry : Hid _ := Ok.row' hO ry.out
      have HV2 : Hid (Ok w0 V2) := HV1.out.step hO
      clear hO HV1
      go_wp2_with fail
      go_cut [69] from 32 to 69 (fun s69 u => Hid (s69 = .bool false ∧ Ok V2 u))
      case first =>
        as_aux_lemma =>
          have zz := row5_facts (ra.out)
          have aa0 := zz.1
          have aa1 := zz.2.1
          have aa2 := zz.2.2.1
          have aa3 := zz.2.2.2.1
          have aa4 := zz.2.2.2.2.1
          have aa5 := zz.2.2.2.2.2.1
          have aa6 := zz.2.2.2.2.2.2.1
          have aa7 := zz.2.2.2.2.2.2.2.1
          have aa8 := zz.2.2.2.2.2.2.2.2.1
          have aa9 := zz.2.2.2.2.2.2.2.2.2
          clear zz
          have za := lt_row ra.out
          have zz := row5_facts (rx.out)
          have xx0 := zz.1
          have xx1 := zz.2.1
          have xx2 := zz.2.2.1
          have xx3 := zz.2.2.2.1
          have xx4 := zz.2.2.2.2.1
          have xx5 := zz.2.2.2.2.2.1
          have xx6 := zz.2.2.2.2.2.2.1
          have xx7 := zz.2.2.2.2.2.2.2.1
          have xx8 := zz.2.2.2.2.2.2.2.2.1
          have xx9 := zz.2.2.2.2.2.2.2.2.2
          clear zz
          have zx := lt_row rx.out
          have zz := row5_facts (ry.out)
          have yy0 := zz.1
          have yy1 := zz.2.1
          have yy2 := zz.2.2.1
          have yy3 := zz.2.2.2.1
          have yy4 := zz.2.2.2.2.1
          have yy5 := zz.2.2.2.2.2.1
          have yy6 := zz.2.2.2.2.2.2.1
          have yy7 := zz.2.2.2.2.2.2.2.1
          have yy8 := zz.2.2.2.2.2.2.2.2.1
          have yy9 := zz.2.2.2.2.2.2.2.2.2
          clear zz
          have zy := lt_row ry.out
          have zz := row5_facts (rj.out)
          have jj0 := zz.1
          have jj1 := zz.2.1
          have jj2 := zz.2.2.1
          have jj3 := zz.2.2.2.1
          have jj4 := zz.2.2.2.2.1
          have jj5 := zz.2.2.2.2.2.1
          have jj6 := zz.2.2.2.2.2.2.1
          have jj7 := zz.2.2.2.2.2.2.2.1
          have jj8 := zz.2.2.2.2.2.2.2.2.1
          have jj9 := zz.2.2.2.2.2.2.2.2.2
          clear zz
          have zj := lt_row rj.out
          have zz := row5_facts (rm.out)
          have mm0 := zz.1
          have mm1 := zz.2.1
          have mm2 := zz.2.2.1
          have mm3 := zz.2.2.2.1
          have mm4 := zz.2.2.2.2.1
          have mm5 := zz.2.2.2.2.2.1
          have mm6 := zz.2.2.2.2.2.2.1
          have mm7 := zz.2.2.2.2.2.2.2.1
          have mm8 := zz.2.2.2.2.2.2.2.2.1
          have mm9 := zz.2.2.2.2.2.2.2.2.2
          clear zz
          have zm := lt_row rm.out
          have zz := row5_facts (rz.out)
          have zz0 := zz.1
          have zz1 := zz.2.1
          have zz2 := zz.2.2.1
          have zz3 := zz.2.2.2.1
          have zz4 := zz.2.2.2.2.1
          have zz5 := zz.2.2.2.2.2.1
          have zz6 := zz.2.2.2.2.2.2.1
          have zz7 := zz.2.2.2.2.2.2.2.1
          have zz8 := zz.2.2.2.2.2.2.2.2.1
          have zz9 := zz.2.2.2.2.2.2.2.2.2
          clear zz
          have zz := lt_row rz.out
          have bz : Ok V2 V2 := Ok.refl _
          go_region_held3 (fun w' => w'.cell? ⟨ga, 0, none⟩ = some (.bool a.2.2.2.2) ∧ w'.cell? ⟨ga, 1, none⟩ = some (.int .i64 a.1) ∧ w'.cell? ⟨ga, 2, none⟩ = some (.int .i64 a.2.1) ∧ w'.cell? ⟨ga, 3, none⟩ = some (.int .u64 (a.2.2.1 : Int)) ∧ w'.cell? ⟨ga, 4, none⟩ = some (.int .u64 (a.2.2.2.1 : Int)) ∧ w'.cell? ⟨gx, 0, none⟩ = some (.bool x.2.2.2.2) ∧ w'.cell? ⟨gx, 1, none⟩ = some (.int .i64 x.1) ∧ w'.cell? ⟨gx, 2, none⟩ = some (.int .i64 x.2.1) ∧ w'.cell? ⟨gx, 3, none⟩ = some (.int .u64 (x.2.2.1 : Int)) ∧ w'.cell? ⟨gx, 4, none⟩ = some (.int .u64 (x.2.2.2.1 : Int)) ∧ w'.cell? ⟨gy, 0, none⟩ = some (.bool y.2.2.2.2) ∧ w'.cell? ⟨gy, 1, none⟩ = some (.int .i64 y.1) ∧ w'.cell? ⟨gy, 2, none⟩ = some (.int .i64 y.2.1) ∧ w'.cell? ⟨gy, 3, none⟩ = some (.int .u64 (y.2.2.1 : Int)) ∧ w'.cell? ⟨gy, 4, none⟩ = some (.int .u64 (y.2.2.2.1 : Int)) ∧ w'.cell? ⟨gj, 0, none⟩ = some (.bool j.2.2.2.2) ∧ w'.cell? ⟨gj, 1, none⟩ = some (.int .i64 j.1) ∧ w'.cell? ⟨gj, 2, none⟩ = some (.int .i64 j.2.1) ∧ w'.cell? ⟨gj, 3, none⟩ = some (.int .u64 (j.2.2.1 : Int)) ∧ w'.cell? ⟨gj, 4, none⟩ = some (.int .u64 (j.2.2.2.1 : Int)) ∧ w'.cell? ⟨gm, 0, none⟩ = some (.bool m.2.2.2.2) ∧ w'.cell? ⟨gm, 1, none⟩ = some (.int .i64 m.1) ∧ w'.cell? ⟨gm, 2, none⟩ = some (.int .i64 m.2.1) ∧ w'.cell? ⟨gm, 3, none⟩ = some (.int .u64 (m.2.2.1 : Int)) ∧ w'.cell? ⟨gm, 4, none⟩ = some (.int .u64 (m.2.2.2.1 : Int)) ∧ w'.cell? ⟨gz, 0, none⟩ = some (.bool z.2.2.2.2) ∧ w'.cell? ⟨gz, 1, none⟩ = some (.int .i64 z.1) ∧ w'.cell? ⟨gz, 2, none⟩ = some (.int .i64 z.2.1) ∧ w'.cell? ⟨gz, 3, none⟩ = some (.int .u64 (z.2.2.1 : Int)) ∧ w'.cell? ⟨gz, 4, none⟩ = some (.int .u64 (z.2.2.2.1 : Int))) (go_keep)
            (first
            | (go_at_call 14; refine (wnormal_any _ (by first | exact HU.out.1 | exact HU.out.2.1 | exact HU.out.2.2.1 | exact RX.out.1 | exact RY.out.1 | exact RJ.out.1 | exact RM.out.1 | exact RZ.out.1) (by first | exact RX.out.2 | exact RY.out.2 | exact RJ.out.2 | exact RM.out.2 | exact RZ.out.2) V2 _ (by repeat (first | assumption | refine Ok.alloc ?_ _ | refine Below.drew ?_))).mono ?_; rintro e w' ⟨rfl, hb⟩; have q0 := Ok.cell hb za aa0; have q1 := Ok.cell hb za aa1; have q2 := Ok.cell hb za aa2; have q3 := Ok.cell hb za aa3; have q4 := Ok.cell hb za aa4; have q5 := Ok.cell hb zx xx0; have q6 := Ok.cell hb zx xx1; have q7 := Ok.cell hb zx xx2; have q8 := Ok.cell hb zx xx3; have q9 := Ok.cell hb zx xx4; have q10 := Ok.cell hb zy yy0; have q11 := Ok.cell hb zy yy1; have q12 := Ok.cell hb zy yy2; have q13 := Ok.cell hb zy yy3; have q14 := Ok.cell hb zy yy4; have q15 := Ok.cell hb zj jj0; have q16 := Ok.cell hb zj jj1; have q17 := Ok.cell hb zj jj2; have q18 := Ok.cell hb zj jj3; have q19 := Ok.cell hb zj jj4; have q20 := Ok.cell hb zm mm0; have q21 := Ok.cell hb zm mm1; have q22 := Ok.cell hb zm mm2; have q23 := Ok.cell hb zm mm3; have q24 := Ok.cell hb zm mm4; have q25 := Ok.cell hb zz zz0; have q26 := Ok.cell hb zz zz1; have q27 := Ok.cell hb zz zz2; have q28 := Ok.cell hb zz zz3; have q29 := Ok.cell hb zz zz4)
            | (go_at_call 10; refine (nnorm_any x RX.out.1 V2 _ (by repeat (first | assumption | refine Ok.alloc ?_ _ | refine Below.drew ?_))).mono ?_; rintro e w' ⟨rfl, hb⟩; rw [normN_id RX.out.1 RX.out.2]; unfold nv; have q0 := Ok.cell hb za aa0; have q1 := Ok.cell hb za aa1; have q2 := Ok.cell hb za aa2; have q3 := Ok.cell hb za aa3; have q4 := Ok.cell hb za aa4; have q5 := Ok.cell hb zx xx0; have q6 := Ok.cell hb zx xx1; have q7 := Ok.cell hb zx xx2; have q8 := Ok.cell hb zx xx3; have q9 := Ok.cell hb zx xx4; have q10 := Ok.cell hb zy yy0; have q11 := Ok.cell hb zy yy1; have q12 := Ok.cell hb zy yy2; have q13 := Ok.cell hb zy yy3; have q14 := Ok.cell hb zy yy4; have q15 := Ok.cell hb zj jj0; have q16 := Ok.cell hb zj jj1; have q17 := Ok.cell hb zj jj2; have q18 := Ok.cell hb zj jj3; have q19 := Ok.cell hb zj jj4; have q20 := Ok.cell hb zm mm0; have q21 := Ok.cell hb zm mm1; have q22 := Ok.cell hb zm mm2; have q23 := Ok.cell hb zm mm3; have q24 := Ok.cell hb zm mm4; have q25 := Ok.cell hb zz zz0; have q26 := Ok.cell hb zz zz1; have q27 := Ok.cell hb zz zz2; have q28 := Ok.cell hb zz zz3; have q29 := Ok.cell hb zz zz4)
            | (go_at_call 15; refine (nhas_any a v HU.out.1 V2 _ (by repeat (first | assumption | refine Ok.alloc ?_ _ | refine Below.drew ?_))).mono ?_; rintro e w' ⟨rfl, hb⟩; rw [← HPV.out]; have q0 := Ok.cell hb za aa0; have q1 := Ok.cell hb za aa1; have q2 := Ok.cell hb za aa2; have q3 := Ok.cell hb za aa3; have q4 := Ok.cell hb za aa4; have q5 := Ok.cell hb zx xx0; have q6 := Ok.cell hb zx xx1; have q7 := Ok.cell hb zx xx2; have q8 := Ok.cell hb zx xx3; have q9 := Ok.cell hb zx xx4; have q10 := Ok.cell hb zy yy0; have q11 := Ok.cell hb zy yy1; have q12 := Ok.cell hb zy yy2; have q13 := Ok.cell hb zy yy3; have q14 := Ok.cell hb zy yy4; have q15 := Ok.cell hb zj jj0; have q16 := Ok.cell hb zj jj1; have q17 := Ok.cell hb zj jj2; have q18 := Ok.cell hb zj jj3; have q19 := Ok.cell hb zj jj4; have q20 := Ok.cell hb zm mm0; have q21 := Ok.cell hb zm mm1; have q22 := Ok.cell hb zm mm2; have q23 := Ok.cell hb zm mm3; have q24 := Ok.cell hb zm mm4; have q25 := Ok.cell hb zz zz0; have q26 := Ok.cell hb zz zz1; have q27 := Ok.cell hb zz zz2; have q28 := Ok.cell hb zz zz3; have q29 := Ok.cell hb zz zz4)
            | (go_at_call 16; refine (win_any a v HU.out.1 HU.out.2.2.2 V2 _ (by repeat (first | assumption | refine Ok.alloc ?_ _ | refine Below.drew ?_))).mono ?_; rintro e w' ⟨rfl, hb⟩; rw [← HPV.out]; have q0 := Ok.cell hb za aa0; have q1 := Ok.cell hb za aa1; have q2 := Ok.cell hb za aa2; have q3 := Ok.cell hb za aa3; have q4 := Ok.cell hb za aa4; have q5 := Ok.cell hb zx xx0; have q6 := Ok.cell hb zx xx1; have q7 := Ok.cell hb zx xx2; have q8 := Ok.cell hb zx xx3; have q9 := Ok.cell hb zx xx4; have q10 := Ok.cell hb zy yy0; have q11 := Ok.cell hb zy yy1; have q12 := Ok.cell hb zy yy2; have q13 := Ok.cell hb zy yy3; have q14 := Ok.cell hb zy yy4; have q15 := Ok.cell hb zj jj0; have q16 := Ok.cell hb zj jj1; have q17 := Ok.cell hb zj jj2; have q18 := Ok.cell hb zj jj3; have q19 := Ok.cell hb zj jj4; have q20 := Ok.cell hb zm mm0; have q21 := Ok.cell hb zm mm1; have q22 := Ok.cell hb zm mm2; have q23 := Ok.cell hb zm mm3; have q24 := Ok.cell hb zm mm4; have q25 := Ok.cell hb zz zz0; have q26 := Ok.cell hb zz zz1; have q27 := Ok.cell hb zz zz2; have q28 := Ok.cell hb zz zz3; have q29 := Ok.cell hb zz zz4)
            | fail)
          go_wp2_with fail
          go_meet
          case rel => exact ⟨rfl, hb⟩
      case rest =>
        obtain ⟨h69, hO⟩ := hcut.out
        subst h69
        obtain ⟨V3, ew⟩ : ∃ t, t = wc := ⟨_, rfl⟩
        rw [← ew] at hO ⊢
        clear hcut ew
        replace ra : Hid _ := Ok.row' hO ra.out
        replace rb : Hid _ := Ok.row' hO rb.out
        replace rc : Hid _ := Ok.row' hO rc.out
        replace rx : Hid _ := Ok.row' hO rx.out
        replace ry : Hid _ := Ok.row' hO ry.out
        replace rj : Hid _ := Ok.row' hO rj.out
        replace rm : Hid _ := Ok.row' hO rm.out
        replace rz : Hid _ := Ok.row' hO rz.out
        have HV3 : Hid (Ok w0 V3) := HV2.out.step hO
        clear hO HV2
        go_wp2_with fail
        go_cut [14, 15] from 70 to 75 (fun s14 s15 u => Hid (s14 = .bool p ∧ s15 = .bool q ∧ Ok V3 u))
        case first =>
          as_aux_lemma =>
            have zz := row5_facts (ra.out)
            have aa0 := zz.1
            have aa1 := zz.2.1
            have aa2 := zz.2.2.1
            have aa3 := zz.2.2.2.1
            have aa4 := zz.2.2.2.2.1
            have aa5 := zz.2.2.2.2.2.1
            have aa6 := zz.2.2.2.2.2.2.1
            have aa7 := zz.2.2.2.2.2.2.2.1
            have aa8 := zz.2.2.2.2.2.2.2.2.1
            have aa9 := zz.2.2.2.2.2.2.2.2.2
            clear zz
            have za := lt_row ra.out
            have zz := row5_facts (rb.out)
            have bb0 := zz.1
            have bb1 := zz.2.1
            have bb2 := zz.2.2.1
            have bb3 := zz.2.2.2.1
            have bb4 := zz.2.2.2.2.1
            have bb5 := zz.2.2.2.2.2.1
            have bb6 := zz.2.2.2.2.2.2.1
            have bb7 := zz.2.2.2.2.2.2.2.1
            have bb8 := zz.2.2.2.2.2.2.2.2.1
            have bb9 := zz.2.2.2.2.2.2.2.2.2
            clear zz
            have zb := lt_row rb.out
            have bz : Ok V3 V3 := Ok.refl _
            go_region_held3 (fun w' => w'.cell? ⟨ga, 0, none⟩ = some (.bool a.2.2.2.2) ∧ w'.cell? ⟨ga, 1, none⟩ = some (.int .i64 a.1) ∧ w'.cell? ⟨ga, 2, none⟩ = some (.int .i64 a.2.1) ∧ w'.cell? ⟨ga, 3, none⟩ = some (.int .u64 (a.2.2.1 : Int)) ∧ w'.cell? ⟨ga, 4, none⟩ = some (.int .u64 (a.2.2.2.1 : Int)) ∧ w'.cell? ⟨gb, 0, none⟩ = some (.bool b.2.2.2.2) ∧ w'.cell? ⟨gb, 1, none⟩ = some (.int .i64 b.1) ∧ w'.cell? ⟨gb, 2, none⟩ = some (.int .i64 b.2.1) ∧ w'.cell? ⟨gb, 3, none⟩ = some (.int .u64 (b.2.2.1 : Int)) ∧ w'.cell? ⟨gb, 4, none⟩ = some (.int .u64 (b.2.2.2.1 : Int))) (go_keep)
              (first
              | (go_at_call 16; refine (win_any _ v (by first | exact HU.out.1 | exact HU.out.2.1 | exact HU.out.2.2.1 | exact RX.out.1 | exact RY.out.1 | exact RJ.out.1 | exact RM.out.1 | exact RZ.out.1) HU.out.2.2.2 V3 _ (by repeat (first | assumption | refine Ok.alloc ?_ _ | refine Below.drew ?_))).mono ?_; rintro e w' ⟨rfl, hb⟩; (first | rw [← HPV.out] | rw [← HQV.out]); have q0 := Ok.cell hb za aa0; have q1 := Ok.cell hb za aa1; have q2 := Ok.cell hb za aa2; have q3 := Ok.cell hb za aa3; have q4 := Ok.cell hb za aa4; have q5 := Ok.cell hb zb bb0; have q6 := Ok.cell hb zb bb1; have q7 := Ok.cell hb zb bb2; have q8 := Ok.cell hb zb bb3; have q9 := Ok.cell hb zb bb4)
              | fail)
            go_wp2_with fail
            go_meet
            case rel => exact ⟨rfl, rfl, hb⟩
        case rest =>
          obtain ⟨h14, h15, hO⟩ := hcut.out
          subst h14
          subst h15
          obtain ⟨V4, ew⟩ : ∃ t, t = wc := ⟨_, rfl⟩
          rw [← ew] at hO ⊢
          clear hcut ew
          replace ra : Hid _ := Ok.row' hO ra.out
          replace rb : Hid _ := Ok.row' hO rb.out
          replace rc : Hid _ := Ok.row' hO rc.out
          replace rx : Hid _ := Ok.row' hO rx.out
          replace ry : Hid _ := Ok.row' hO ry.out
          replace rj : Hid _ := Ok.row' hO rj.out
          replace rm : Hid _ := Ok.row' hO rm.out
          replace rz : Hid _ := Ok.row' hO rz.out
          have HV4 : Hid (Ok w0 V4) := HV3.out.step hO
          clear hO HV3
          go_upto_region 8 with (fail)
          go_cut [122] from 76 to 122 (fun s122 u => Hid (s122 = .bool false ∧ Ok V4 u))
          case first =>
            as_aux_lemma =>
              have IX : Hid (insN x v = p) := by unfold Hid; rw [HX.out, HPV.out]; exact ins_norm HU.out.1 HU.out.2.2.2
              have IM : Hid (insN m v = (p && q)) := by unfold Hid; rw [HM.out, HPV.out, HQV.out]; exact ins_meet HU.out.1 HU.out.2.1 HU.out.2.2.2
              have IJ : Hid (p = true ∨ q = true → insN j v = true) := by unfold Hid; rw [HJ.out, HPV.out, HQV.out]; exact ins_join HU.out.1 HU.out.2.1 HU.out.2.2.2
              have IZ0 : Hid (v ≠ 0 → insN z v = p) := by unfold Hid; rw [HZ.out, HPV.out]; exact ins_nz HU.out.1 HU.out.2.2.2
              have ITV : Hid (insN topN v = true) := ins_top HU.out.2.2.2
              clear HPV HQV
              obtain ⟨t, ht⟩ : ∃ t, t = !(decide (v = 0)) := ⟨_, rfl⟩
              have HT : Hid _ := ht
              have IZ : Hid (t = true → insN z v = p) := fun c => IZ0.out (fun d => by rw [ht, d] at c; simp at c)
              clear ht IZ0
              cases p
              · cases q
                · refine wp_region ?_
                  show wpOps _ _ _ [0, 1, 2, 3, 4, 5, 6, 7, 8, 9, 10, 11, 12, 13, 14, 15, 16, 17, 18, 19, 20, 21, 22, 23, 24, 25, 26, 27, 28, 29, 30, 31, 32, 33, 34, 35, 36, 37, 38, 39, 40, 41, 42, 43, 44, 45, 46] _ _
                  have hHeld : Ok V4 V4 := Ok.refl _
                  refine seq_begin (fun f hf => ?_)
                  refine seq_take hf (v := .agg #[.bool x.2.2.2.2, .int .i64 x.1, .int .i64 x.2.1, .int .u64 (x.2.2.1 : Int), .int .u64 (x.2.2.2.1 : Int)]) (S := fun w' => Ok V4 w') rfl (Or.inl ⟨by rfl, ?_⟩) hHeld ?_
                  · intro w hSw; (try dsimp only at hSw); obtain ⟨c0, c1, c2, c3, c4, -⟩ := row5_facts (Ok.row' hSw rx.out); (go_simp; try with_reducible rfl)
                  (try simp only [Act.put, lq1, lq2, lq3, lq4, lq5, lq6])
                  refine seq_take hf (v := .int .i64 v) (S := fun w' => Ok V4 w') rfl (Or.inl ⟨by rfl, ?_⟩) hHeld ?_
                  · intro w hSw; (try dsimp only at hSw); first | rfl | (go_simp; try with_reducible rfl)
                  (try simp only [Act.put, lq1, lq2, lq3, lq4, lq5, lq6])
                  refine seq_call hf rfl (by rfl) (fun K hK => ?_)
                  go_simp
                  refine (win_any x v RX.out.1 HU.out.2.2.2 V4 _ hHeld).mono ?_
                  rintro e1 w' ⟨rfl, hb⟩
                  rw [IX.out]
                  (try dsimp only)
                  refine hK.out _ _ ?_
                  clear hK K hHeld
                  have hHeld := hb
                  clear hb
                  (try simp only [Act.put, lq1, lq2, lq3, lq4, lq5, lq6])
                  refine seq_take hf (v := .bool false) (S := fun w' => Ok V4 w') rfl (Or.inl ⟨by rfl, ?_⟩) hHeld ?_
                  · intro w hSw; (try dsimp only at hSw); first | rfl | (go_simp; try with_reducible rfl)
                  (try simp only [Act.put, lq1, lq2, lq3, lq4, lq5, lq6])
                  refine seq_take hf (v := .bool false) (S := fun w' => Ok V4 w') rfl (Or.inl ⟨by rfl, ?_⟩) hHeld ?_
                  · intro w hSw; (try dsimp only at hSw); (go_simp; try with_reducible rfl)
                  (try simp only [Act.put, lq1, lq2, lq3, lq4, lq5, lq6])
                  refine seq_take hf (v := .bool false) (S := fun w' => Ok V4 w') rfl (Or.inl ⟨by rfl, ?_⟩) hHeld ?_
                  · intro w hSw; (try dsimp only at hSw); first | rfl | (go_simp; try with_reducible rfl)
                  (try simp only [Act.put, lq1, lq2, lq3, lq4, lq5, lq6])
                  refine seq_take hf (v := .agg #[.bool m.2.2.2.2, .int .i64 m.1, .int .i64 m.2.1, .int .u64 (m.2.2.1 : Int), .int .u64 (m.2.2.2.1 : Int)]) (S := fun w' => Ok V4 w') rfl (Or.inl ⟨by rfl, ?_⟩) hHeld ?_
                  · intro w hSw; (try dsimp only at hSw); obtain ⟨c0, c1, c2, c3, c4, -⟩ := row5_facts (Ok.row' hSw rm.out); (go_simp; try with_reducible rfl)
                  (try simp only [Act.put, lq1, lq2, lq3, lq4, lq5, lq6])
                  refine seq_take hf (v := .int .i64 v) (S := fun w' => Ok V4 w') rfl (Or.inl ⟨by rfl, ?_⟩) hHeld ?_
                  · intro w hSw; (try dsimp only at hSw); first | rfl | (go_simp; try with_reducible rfl)
                  (try simp only [Act.put, lq1, lq2, lq3, lq4, lq5, lq6])
                  refine seq_call hf rfl (by rfl) (fun K hK => ?_)
                  go_simp
                  refine (win_any m v RM.out.1 HU.out.2.2.2 V4 _ hHeld).mono ?_
                  rintro e1 w' ⟨rfl, hb⟩
                  rw [IM.out]
                  (try simp only [Bool.and_true, Bool.and_false, Bool.true_and, Bool.false_and])
                  (try dsimp only)
                  refine hK.out _ _ ?_
                  clear hK K hHeld
                  have hHeld := hb
                  clear hb
                  (try simp only [Act.put, lq1, lq2, lq3, lq4, lq5, lq6])
                  refine seq_take hf (v := .bool false) (S := fun w' => Ok V4 w') rfl (Or.inl ⟨by rfl, ?_⟩) hHeld ?_
                  · intro w hSw; (try dsimp only at hSw); first | rfl | (go_simp; try with_reducible rfl)
                  (try simp only [Act.put, lq1, lq2, lq3, lq4, lq5, lq6])
                  refine seq_take hf (v := .bool false) (S := fun w' => Ok V4 w') rfl (Or.inl ⟨by rfl, ?_⟩) hHeld ?_
                  · intro w hSw; (try dsimp only at hSw); first | rfl | (go_simp; try with_reducible rfl)
                  (try simp only [Act.put, lq1, lq2, lq3, lq4, lq5, lq6])
                  refine seq_no hf rfl (by rfl) ?_
                  (try simp only [Act.put, lq1, lq2, lq3, lq4, lq5, lq6])
                  refine seq_take hf (v := .bool false) (S := fun w' => Ok V4 w') rfl (Or.inl ⟨by rfl, ?_⟩) hHeld ?_
                  · intro w hSw; (try dsimp only at hSw); first | rfl | (go_simp; try with_reducible rfl)
                  (try simp only [Act.put, lq1, lq2, lq3, lq4, lq5, lq6])
                  refine seq_take hf (v := .bool false) (S := fun w' => Ok V4 w') rfl (Or.inl ⟨by rfl, ?_⟩) hHeld ?_
                  · intro w hSw; (try dsimp only at hSw); (go_simp; try with_reducible rfl)
                  (try simp only [Act.put, lq1, lq2, lq3, lq4, lq5, lq6])
                  refine seq_take hf (v := .bool false) (S := fun w' => Ok V4 w') rfl (Or.inl ⟨by rfl, ?_⟩) hHeld ?_
                  · intro w hSw; (try dsimp only at hSw); first | rfl | (go_simp; try with_reducible rfl)
                  (try simp only [Act.put, lq1, lq2, lq3, lq4, lq5, lq6])
                  refine seq_take hf (v := .bool false) (S := fun w' => Ok V4 w') rfl (Or.inl ⟨by rfl, ?_⟩) hHeld ?_
                  · intro w hSw; (try dsimp only at hSw); first | rfl | (go_simp; try with_reducible rfl)
                  (try simp only [Act.put, lq1, lq2, lq3, lq4, lq5, lq6])
                  refine seq_take hf (v := .bool false) (S := fun w' => Ok V4 w') rfl (Or.inl ⟨by rfl, ?_⟩) hHeld ?_
                  · intro w hSw; (try dsimp only at hSw); first | rfl | (go_simp; try with_reducible rfl)
                  (try simp only [Act.put, lq1, lq2, lq3, lq4, lq5, lq6])
                  refine seq_take hf (v := .bool false) (S := fun w' => Ok V4 w') rfl (Or.inl ⟨by rfl, ?_⟩) hHeld ?_
                  · intro w hSw; (try dsimp only at hSw); first | rfl | (go_simp; try with_reducible rfl)
                  (try simp only [Act.put, lq1, lq2, lq3, lq4, lq5, lq6])
                  refine seq_take hf (v := .bool false) (S := fun w' => Ok V4 w') rfl (Or.inl ⟨by rfl, ?_⟩) hHeld ?_
                  · intro w hSw; (try dsimp only at hSw); first | rfl | (go_simp; try with_reducible rfl)
                  (try simp only [Act.put, lq1, lq2, lq3, lq4, lq5, lq6])
                  refine seq_take hf (v := .bool false) (S := fun w' => Ok V4 w') rfl (Or.inl ⟨by rfl, ?_⟩) hHeld ?_
                  · intro w hSw; (try dsimp only at hSw); first | rfl | (go_simp; try with_reducible rfl)
                  (try simp only [Act.put, lq1, lq2, lq3, lq4, lq5, lq6])
                  refine seq_take hf (v := .bool false) (S := fun w' => Ok V4 w') rfl (Or.inl ⟨by rfl, ?_⟩) hHeld ?_
                  · intro w hSw; (try dsimp only at hSw); first | rfl | (go_simp; try with_reducible rfl)
                  (try simp only [Act.put, lq1, lq2, lq3, lq4, lq5, lq6])
                  refine seq_no hf rfl (by rfl) ?_
                  (try simp only [Act.put, lq1, lq2, lq3, lq4, lq5, lq6])
                  refine seq_no hf rfl (by rfl) ?_
                  (try simp only [Act.put, lq1, lq2, lq3, lq4, lq5, lq6])
                  refine seq_no hf rfl (by rfl) ?_
                  (try simp only [Act.put, lq1, lq2, lq3, lq4, lq5, lq6])
                  refine seq_no hf rfl (by rfl) ?_
                  (try simp only [Act.put, lq1, lq2, lq3, lq4, lq5, lq6])
                  refine seq_take hf (v := .bool false) (S := fun w' => Ok V4 w') rfl (Or.inl ⟨by rfl, ?_⟩) hHeld ?_
                  · intro w hSw; (try dsimp only at hSw); first | rfl | (go_simp; try with_reducible rfl)
                  (try simp only [Act.put, lq1, lq2, lq3, lq4, lq5, lq6])
                  refine seq_take hf (v := .bool false) (S := fun w' => Ok V4 w') rfl (Or.inl ⟨by rfl, ?_⟩) hHeld ?_
                  · intro w hSw; (try dsimp only at hSw); first | rfl | (go_simp; try with_reducible rfl)
                  (try simp only [Act.put, lq1, lq2, lq3, lq4, lq5, lq6])
                  refine seq_take hf (v := .bool false) (S := fun w' => Ok V4 w') rfl (Or.inl ⟨by rfl, ?_⟩) hHeld ?_
                  · intro w hSw; (try dsimp only at hSw); first | rfl | (go_simp; try with_reducible rfl)
                  (try simp only [Act.put, lq1, lq2, lq3, lq4, lq5, lq6])
                  refine seq_take hf (v := .int .i64 v) (S := fun w' => Ok V4 w') rfl (Or.inl ⟨by rfl, ?_⟩) hHeld ?_
                  · intro w hSw; (try dsimp only at hSw); first | rfl | (go_simp; try with_reducible rfl)
                  (try simp only [Act.put, lq1, lq2, lq3, lq4, lq5, lq6])
                  refine seq_take hf (v := .bool t) (S := fun w' => Ok V4 w') rfl (Or.inl ⟨by rfl, ?_⟩) hHeld ?_
                  · intro w hSw; (try dsimp only at hSw); (by_cases hz : v = 0 <;> simp only [HT.out, hz] <;> go_simp <;> first | done | rfl | (simp [hz]; done))
                  (try simp only [Act.put, lq1, lq2, lq3, lq4, lq5, lq6])
                  clear HT
                  cases t
                  · refine seq_take hf (v := .bool false) (S := fun w' => Ok V4 w') rfl (Or.inl ⟨by rfl, ?_⟩) hHeld ?_
                    · intro w hSw; (try dsimp only at hSw); first | rfl | (go_simp; try with_reducible rfl)
                    (try simp only [Act.put, lq1, lq2, lq3, lq4, lq5, lq6])
                    refine seq_no hf rfl (by rfl) ?_
                    (try simp only [Act.put, lq1, lq2, lq3, lq4, lq5, lq6])
                    refine seq_no hf rfl (by rfl) ?_
                    (try simp only [Act.put, lq1, lq2, lq3, lq4, lq5, lq6])
                    refine seq_no hf rfl (by rfl) ?_
                    (try simp only [Act.put, lq1, lq2, lq3, lq4, lq5, lq6])
                    refine seq_no hf rfl (by rfl) ?_
                    (try simp only [Act.put, lq1, lq2, lq3, lq4, lq5, lq6])
                    refine seq_no hf rfl (by rfl) ?_
                    (try simp only [Act.put, lq1, lq2, lq3, lq4, lq5, lq6])
                    refine seq_take hf (v := .bool false) (S := fun w' => Ok V4 w') rfl (Or.inl ⟨by rfl, ?_⟩) hHeld ?_
                    · intro w hSw; (try dsimp only at hSw); first | rfl | (go_simp; try with_reducible rfl)
                    (try simp only [Act.put, lq1, lq2, lq3, lq4, lq5, lq6])
                    refine seq_take hf (v := .bool false) (S := fun w' => Ok V4 w') rfl (Or.inl ⟨by rfl, ?_⟩) hHeld ?_
                    · intro w hSw; (try dsimp only at hSw); first | rfl | (go_simp; try with_reducible rfl)
                    (try simp only [Act.put, lq1, lq2, lq3, lq4, lq5, lq6])
                    refine seq_take hf (v := .bool false) (S := fun w' => Ok V4 w') rfl (Or.inl ⟨by rfl, ?_⟩) hHeld ?_
                    · intro w hSw; (try dsimp only at hSw); first | rfl | (go_simp; try with_reducible rfl)
                    (try simp only [Act.put, lq1, lq2, lq3, lq4, lq5, lq6])
                    refine seq_take hf (v := .bool false) (S := fun w' => Ok V4 w') rfl (Or.inl ⟨by rfl, ?_⟩) hHeld ?_
                    · intro w hSw; (try dsimp only at hSw); first | rfl | (go_simp; try with_reducible rfl)
                    (try simp only [Act.put, lq1, lq2, lq3, lq4, lq5, lq6])
                    refine seq_take hf (v := .bool false) (S := fun w' => Ok V4 w') rfl (Or.inl ⟨by rfl, ?_⟩) hHeld ?_
                    · intro w hSw; (try dsimp only at hSw); first | rfl | (go_simp; try with_reducible rfl)
                    (try simp only [Act.put, lq1, lq2, lq3, lq4, lq5, lq6])
                    refine seq_no hf rfl (by rfl) ?_
                    (try simp only [Act.put, lq1, lq2, lq3, lq4, lq5, lq6])
                    refine seq_no hf rfl (by rfl) ?_
                    (try simp only [Act.put, lq1, lq2, lq3, lq4, lq5, lq6])
                    refine seq_no hf rfl (by rfl) ?_
                    (try simp only [Act.put, lq1, lq2, lq3, lq4, lq5, lq6])
                    refine seq_no hf rfl (by rfl) ?_
                    (try simp only [Act.put, lq1, lq2, lq3, lq4, lq5, lq6])
                    refine seq_take hf (v := .bool false) (S := fun w' => Ok V4 w') rfl (Or.inl ⟨by rfl, ?_⟩) hHeld ?_
                    · intro w hSw; (try dsimp only at hSw); first | rfl | (go_simp; try with_reducible rfl)
                    (try simp only [Act.put, lq1, lq2, lq3, lq4, lq5, lq6])
                    refine seq_take hf (v := .bool false) (S := fun w' => Ok V4 w') rfl (Or.inl ⟨by rfl, ?_⟩) hHeld ?_
                    · intro w hSw; (try dsimp only at hSw); first | rfl | (go_simp; try with_reducible rfl)
                    (try simp only [Act.put, lq1, lq2, lq3, lq4, lq5, lq6])
                    refine seq_done hf ?_
                    go_wp2_with fail
                    go_meet
                    case rel => exact ⟨rfl, hHeld⟩
                  · refine seq_take hf (v := .bool true) (S := fun w' => Ok V4 w') rfl (Or.inl ⟨by rfl, ?_⟩) hHeld ?_
                    · intro w hSw; (try dsimp only at hSw); first | rfl | (go_simp; try with_reducible rfl)
                    (try simp only [Act.put, lq1, lq2, lq3, lq4, lq5, lq6])
                    refine seq_take hf (v := .agg #[.bool z.2.2.2.2, .int .i64 z.1, .int .i64 z.2.1, .int .u64 (z.2.2.1 : Int), .int .u64 (z.2.2.2.1 : Int)]) (S := fun w' => Ok V4 w') rfl (Or.inl ⟨by rfl, ?_⟩) hHeld ?_
                    · intro w hSw; (try dsimp only at hSw); obtain ⟨c0, c1, c2, c3, c4, -⟩ := row5_facts (Ok.row' hSw rz.out); (go_simp; try with_reducible rfl)
                    (try simp only [Act.put, lq1, lq2, lq3, lq4, lq5, lq6])
                    refine seq_take hf (v := .int .i64 v) (S := fun w' => Ok V4 w') rfl (Or.inl ⟨by rfl, ?_⟩) hHeld ?_
                    · intro w hSw; (try dsimp only at hSw); first | rfl | (go_simp; try with_reducible rfl)
                    (try simp only [Act.put, lq1, lq2, lq3, lq4, lq5, lq6])
                    refine seq_call hf rfl (by rfl) (fun K hK => ?_)
                    go_simp
                    refine (win_any z v RZ.out.1 HU.out.2.2.2 V4 _ hHeld).mono ?_
                    rintro e1 w' ⟨rfl, hb⟩
                    rw [IZ.out rfl]
                    (try dsimp only)
                    refine hK.out _ _ ?_
                    clear hK K hHeld
                    have hHeld := hb
                    clear hb
                    (try simp only [Act.put, lq1, lq2, lq3, lq4, lq5, lq6])
                    refine seq_take hf (v := .bool false) (S := fun w' => Ok V4 w') rfl (Or.inl ⟨by rfl, ?_⟩) hHeld ?_
                    · intro w hSw; (try dsimp only at hSw); first | rfl | (go_simp; try with_reducible rfl)
                    (try simp only [Act.put, lq1, lq2, lq3, lq4, lq5, lq6])
                    refine seq_take hf (v := .bool false) (S := fun w' => Ok V4 w') rfl (Or.inl ⟨by rfl, ?_⟩) hHeld ?_
                    · intro w hSw; (try dsimp only at hSw); (go_simp; try with_reducible rfl)
                    (try simp only [Act.put, lq1, lq2, lq3, lq4, lq5, lq6])
                    refine seq_take hf (v := .bool false) (S := fun w' => Ok V4 w') rfl (Or.inl ⟨by rfl, ?_⟩) hHeld ?_
                    · intro w hSw; (try dsimp only at hSw); first | rfl | (go_simp; try with_reducible rfl)
                    (try simp only [Act.put, lq1, lq2, lq3, lq4, lq5, lq6])
                    refine seq_take hf (v := .bool false) (S := fun w' => Ok V4 w') rfl (Or.inl ⟨by rfl, ?_⟩) hHeld ?_
                    · intro w hSw; (try dsimp only at hSw); first | rfl | (go_simp; try with_reducible rfl)
                    (try simp only [Act.put, lq1, lq2, lq3, lq4, lq5, lq6])
                    refine seq_take hf (v := .bool false) (S := fun w' => Ok V4 w') rfl (Or.inl ⟨by rfl, ?_⟩) hHeld ?_
                    · intro w hSw; (try dsimp only at hSw); first | rfl | (go_simp; try with_reducible rfl)
                    (try simp only [Act.put, lq1, lq2, lq3, lq4, lq5, lq6])
                    refine seq_take hf (v := .bool false) (S := fun w' => Ok V4 w') rfl (Or.inl ⟨by rfl, ?_⟩) hHeld ?_
                    · intro w hSw; (try dsimp only at hSw); first | rfl | (go_simp; try with_reducible rfl)
                    (try simp only [Act.put, lq1, lq2, lq3, lq4, lq5, lq6])
                    refine seq_take hf (v := .bool false) (S := fun w' => Ok V4 w') rfl (Or.inl ⟨by rfl, ?_⟩) hHeld ?_
                    · intro w hSw; (try dsimp only at hSw); first | rfl | (go_simp; try with_reducible rfl)
                    (try simp only [Act.put, lq1, lq2, lq3, lq4, lq5, lq6])
                    refine seq_no hf rfl (by rfl) ?_
                    (try simp only [Act.put, lq1, lq2, lq3, lq4, lq5, lq6])
                    refine seq_no hf rfl (by rfl) ?_
                    (try simp only [Act.put, lq1, lq2, lq3, lq4, lq5, lq6])
                    refine seq_no hf rfl (by rfl) ?_
                    (try simp only [Act.put, lq1, lq2, lq3, lq4, lq5, lq6])
                    refine seq_no hf rfl (by rfl) ?_
                    (try simp only [Act.put, lq1, lq2, lq3, lq4, lq5, lq6])
                    refine seq_take hf (v := .bool false) (S := fun w' => Ok V4 w') rfl (Or.inl ⟨by rfl, ?_⟩) hHeld ?_
                    · intro w hSw; (try dsimp only at hSw); first | rfl | (go_simp; try with_reducible rfl)
                    (try simp only [Act.put, lq1, lq2, lq3, lq4, lq5, lq6])
                    refine seq_take hf (v := .bool false) (S := fun w' => Ok V4 w') rfl (Or.inl ⟨by rfl, ?_⟩) hHeld ?_
                    · intro w hSw; (try dsimp only at hSw); first | rfl | (go_simp; try with_reducible rfl)
                    (try simp only [Act.put, lq1, lq2, lq3, lq4, lq5, lq6])
                    refine seq_done hf ?_
                    go_wp2_with fail
                    go_meet
                    case rel => exact ⟨rfl, hHeld⟩
                · refine wp_region ?_
                  show wpOps _ _ _ [0, 1, 2, 3, 4, 5, 6, 7, 8, 9, 10, 11, 12, 13, 14, 15, 16, 17, 18, 19, 20, 21, 22, 23, 24, 25, 26, 27, 28, 29, 30, 31, 32, 33, 34, 35, 36, 37, 38, 39, 40, 41, 42, 43, 44, 45, 46] _ _
                  have hHeld : Ok V4 V4 := Ok.refl _
                  refine seq_begin (fun f hf => ?_)
                  refine seq_take hf (v := .agg #[.bool x.2.2.2.2, .int .i64 x.1, .int .i64 x.2.1, .int .u64 (x.2.2.1 : Int), .int .u64 (x.2.2.2.1 : Int)]) (S := fun w' => Ok V4 w') rfl (Or.inl ⟨by rfl, ?_⟩) hHeld ?_
                  · intro w hSw; (try dsimp only at hSw); obtain ⟨c0, c1, c2, c3, c4, -⟩ := row5_facts (Ok.row' hSw rx.out); (go_simp; try with_reducible rfl)
                  (try simp only [Act.put, lq1, lq2, lq3, lq4, lq5, lq6])
                  refine seq_take hf (v := .int .i64 v) (S := fun w' => Ok V4 w') rfl (Or.inl ⟨by rfl, ?_⟩) hHeld ?_
                  · intro w hSw; (try dsimp only at hSw); first | rfl | (go_simp; try with_reducible rfl)
                  (try simp only [Act.put, lq1, lq2, lq3, lq4, lq5, lq6])
                  refine seq_call hf rfl (by rfl) (fun K hK => ?_)
                  go_simp
                  refine (win_any x v RX.out.1 HU.out.2.2.2 V4 _ hHeld).mono ?_
                  rintro e1 w' ⟨rfl, hb⟩
                  rw [IX.out]
                  (try dsimp only)
                  refine hK.out _ _ ?_
                  clear hK K hHeld
                  have hHeld := hb
                  clear hb
                  (try simp only [Act.put, lq1, lq2, lq3, lq4, lq5, lq6])
                  refine seq_take hf (v := .bool false) (S := fun w' => Ok V4 w') rfl (Or.inl ⟨by rfl, ?_⟩) hHeld ?_
                  · intro w hSw; (try dsimp only at hSw); first | rfl | (go_simp; try with_reducible rfl)
                  (try simp only [Act.put, lq1, lq2, lq3, lq4, lq5, lq6])
                  refine seq_take hf (v := .bool false) (S := fun w' => Ok V4 w') rfl (Or.inl ⟨by rfl, ?_⟩) hHeld ?_
                  · intro w hSw; (try dsimp only at hSw); (go_simp; try with_reducible rfl)
                  (try simp only [Act.put, lq1, lq2, lq3, lq4, lq5, lq6])
                  refine seq_take hf (v := .bool false) (S := fun w' => Ok V4 w') rfl (Or.inl ⟨by rfl, ?_⟩) hHeld ?_
                  · intro w hSw; (try dsimp only at hSw); first | rfl | (go_simp; try with_reducible rfl)
                  (try simp only [Act.put, lq1, lq2, lq3, lq4, lq5, lq6])
                  refine seq_take hf (v := .agg #[.bool m.2.2.2.2, .int .i64 m.1, .int .i64 m.2.1, .int .u64 (m.2.2.1 : Int), .int .u64 (m.2.2.2.1 : Int)]) (S := fun w' => Ok V4 w') rfl (Or.inl ⟨by rfl, ?_⟩) hHeld ?_
                  · intro w hSw; (try dsimp only at hSw); obtain ⟨c0, c1, c2, c3, c4, -⟩ := row5_facts (Ok.row' hSw rm.out); (go_simp; try with_reducible rfl)
                  (try simp only [Act.put, lq1, lq2, lq3, lq4, lq5, lq6])
                  refine seq_take hf (v := .int .i64 v) (S := fun w' => Ok V4 w') rfl (Or.inl ⟨by rfl, ?_⟩) hHeld ?_
                  · intro w hSw; (try dsimp only at hSw); first | rfl | (go_simp; try with_reducible rfl)
                  (try simp only [Act.put, lq1, lq2, lq3, lq4, lq5, lq6])
                  refine seq_call hf rfl (by rfl) (fun K hK => ?_)
                  go_simp
                  refine (win_any m v RM.out.1 HU.out.2.2.2 V4 _ hHeld).mono ?_
                  rintro e1 w' ⟨rfl, hb⟩
                  rw [IM.out]
                  (try simp only [Bool.and_true, Bool.and_false, Bool.true_and, Bool.false_and])
                  (try dsimp only)
                  refine hK.out _ _ ?_
                  clear hK K hHeld
                  have hHeld := hb
                  clear hb
                  (try simp only [Act.put, lq1, lq2, lq3, lq4, lq5, lq6])
                  refine seq_take hf (v := .bool false) (S := fun w' => Ok V4 w') rfl (Or.inl ⟨by rfl, ?_⟩) hHeld ?_
                  · intro w hSw; (try dsimp only at hSw); first | rfl | (go_simp; try with_reducible rfl)
                  (try simp only [Act.put, lq1, lq2, lq3, lq4, lq5, lq6])
                  refine seq_take hf (v := .bool false) (S := fun w' => Ok V4 w') rfl (Or.inl ⟨by rfl, ?_⟩) hHeld ?_
                  · intro w hSw; (try dsimp only at hSw); first | rfl | (go_simp; try with_reducible rfl)
                  (try simp only [Act.put, lq1, lq2, lq3, lq4, lq5, lq6])
                  refine seq_no hf rfl (by rfl) ?_
                  (try simp only [Act.put, lq1, lq2, lq3, lq4, lq5, lq6])
                  refine seq_take hf (v := .bool false) (S := fun w' => Ok V4 w') rfl (Or.inl ⟨by rfl, ?_⟩) hHeld ?_
                  · intro w hSw; (try dsimp only at hSw); first | rfl | (go_simp; try with_reducible rfl)
                  (try simp only [Act.put, lq1, lq2, lq3, lq4, lq5, lq6])
                  refine seq_take hf (v := .bool false) (S := fun w' => Ok V4 w') rfl (Or.inl ⟨by rfl, ?_⟩) hHeld ?_
                  · intro w hSw; (try dsimp only at hSw); (go_simp; try with_reducible rfl)
                  (try simp only [Act.put, lq1, lq2, lq3, lq4, lq5, lq6])
                  refine seq_take hf (v := .bool false) (S := fun w' => Ok V4 w') rfl (Or.inl ⟨by rfl, ?_⟩) hHeld ?_
                  · intro w hSw; (try dsimp only at hSw); first | rfl | (go_simp; try with_reducible rfl)
                  (try simp only [Act.put, lq1, lq2, lq3, lq4, lq5, lq6])
                  refine seq_take hf (v := .bool false) (S := fun w' => Ok V4 w') rfl (Or.inl ⟨by rfl, ?_⟩) hHeld ?_
                  · intro w hSw; (try dsimp only at hSw); first | rfl | (go_simp; try with_reducible rfl)
                  (try simp only [Act.put, lq1, lq2, lq3, lq4, lq5, lq6])
                  refine seq_take hf (v := .bool false) (S := fun w' => Ok V4 w') rfl (Or.inl ⟨by rfl, ?_⟩) hHeld ?_
                  · intro w hSw; (try dsimp only at hSw); first | rfl | (go_simp; try with_reducible rfl)
                  (try simp only [Act.put, lq1, lq2, lq3, lq4, lq5, lq6])
                  refine seq_take hf (v := .bool false) (S := fun w' => Ok V4 w') rfl (Or.inl ⟨by rfl, ?_⟩) hHeld ?_
                  · intro w hSw; (try dsimp only at hSw); first | rfl | (go_simp; try with_reducible rfl)
                  (try simp only [Act.put, lq1, lq2, lq3, lq4, lq5, lq6])
                  refine seq_take hf (v := .bool true) (S := fun w' => Ok V4 w') rfl (Or.inl ⟨by rfl, ?_⟩) hHeld ?_
                  · intro w hSw; (try dsimp only at hSw); first | rfl | (go_simp; try with_reducible rfl)
                  (try simp only [Act.put, lq1, lq2, lq3, lq4, lq5, lq6])
                  refine seq_take hf (v := .bool true) (S := fun w' => Ok V4 w') rfl (Or.inl ⟨by rfl, ?_⟩) hHeld ?_
                  · intro w hSw; (try dsimp only at hSw); first | rfl | (go_simp; try with_reducible rfl)
                  (try simp only [Act.put, lq1, lq2, lq3, lq4, lq5, lq6])
                  refine seq_take hf (v := .bool true) (S := fun w' => Ok V4 w') rfl (Or.inl ⟨by rfl, ?_⟩) hHeld ?_
                  · intro w hSw; (try dsimp only at hSw); first | rfl | (go_simp; try with_reducible rfl)
                  (try simp only [Act.put, lq1, lq2, lq3, lq4, lq5, lq6])
                  refine seq_take hf (v := .agg #[.bool j.2.2.2.2, .int .i64 j.1, .int .i64 j.2.1, .int .u64 (j.2.2.1 : Int), .int .u64 (j.2.2.2.1 : Int)]) (S := fun w' => Ok V4 w') rfl (Or.inl ⟨by rfl, ?_⟩) hHeld ?_
                  · intro w hSw; (try dsimp only at hSw); obtain ⟨c0, c1, c2, c3, c4, -⟩ := row5_facts (Ok.row' hSw rj.out); (go_simp; try with_reducible rfl)
                  (try simp only [Act.put, lq1, lq2, lq3, lq4, lq5, lq6])
                  refine seq_take hf (v := .int .i64 v) (S := fun w' => Ok V4 w') rfl (Or.inl ⟨by rfl, ?_⟩) hHeld ?_
                  · intro w hSw; (try dsimp only at hSw); first | rfl | (go_simp; try with_reducible rfl)
                  (try simp only [Act.put, lq1, lq2, lq3, lq4, lq5, lq6])
                  refine seq_call hf rfl (by rfl) (fun K hK => ?_)
                  go_simp
                  refine (win_any j v RJ.out.1 HU.out.2.2.2 V4 _ hHeld).mono ?_
                  rintro e1 w' ⟨rfl, hb⟩
                  rw [IJ.out (by first | exact Or.inl rfl | exact Or.inr rfl)]
                  (try dsimp only)
                  refine hK.out _ _ ?_
                  clear hK K hHeld
                  have hHeld := hb
                  clear hb
                  (try simp only [Act.put, lq1, lq2, lq3, lq4, lq5, lq6])
                  refine seq_take hf (v := .bool false) (S := fun w' => Ok V4 w') rfl (Or.inl ⟨by rfl, ?_⟩) hHeld ?_
                  · intro w hSw; (try dsimp only at hSw); first | rfl | (go_simp; try with_reducible rfl)
                  (try simp only [Act.put, lq1, lq2, lq3, lq4, lq5, lq6])
                  refine seq_take hf (v := .bool false) (S := fun w' => Ok V4 w') rfl (Or.inl ⟨by rfl, ?_⟩) hHeld ?_
                  · intro w hSw; (try dsimp only at hSw); first | rfl | (go_simp; try with_reducible rfl)
                  (try simp only [Act.put, lq1, lq2, lq3, lq4, lq5, lq6])
                  refine seq_take hf (v := .bool false) (S := fun w' => Ok V4 w') rfl (Or.inl ⟨by rfl, ?_⟩) hHeld ?_
                  · intro w hSw; (try dsimp only at hSw); first | rfl | (go_simp; try with_reducible rfl)
                  (try simp only [Act.put, lq1, lq2, lq3, lq4, lq5, lq6])
                  refine seq_take hf (v := .bool false) (S := fun w' => Ok V4 w') rfl (Or.inl ⟨by rfl, ?_⟩) hHeld ?_
                  · intro w hSw; (try dsimp only at hSw); first | rfl | (go_simp; try with_reducible rfl)
                  (try simp only [Act.put, lq1, lq2, lq3, lq4, lq5, lq6])
                  refine seq_take hf (v := .int .i64 v) (S := fun w' => Ok V4 w') rfl (Or.inl ⟨by rfl, ?_⟩) hHeld ?_
                  · intro w hSw; (try dsimp only at hSw); first | rfl | (go_simp; try with_reducible rfl)
                  (try simp only [Act.put, lq1, lq2, lq3, lq4, lq5, lq6])
                  refine seq_take hf (v := .bool t) (S := fun w' => Ok V4 w') rfl (Or.inl ⟨by rfl, ?_⟩) hHeld ?_
                  · intro w hSw; (try dsimp only at hSw); (by_cases hz : v = 0 <;> simp only [HT.out, hz] <;> go_simp <;> first | done | rfl | (simp [hz]; done))
                  (try simp only [Act.put, lq1, lq2, lq3, lq4, lq5, lq6])
                  clear HT
                  cases t
                  · refine seq_take hf (v := .bool false) (S := fun w' => Ok V4 w') rfl (Or.inl ⟨by rfl, ?_⟩) hHeld ?_
                    · intro w hSw; (try dsimp only at hSw); first | rfl | (go_simp; try with_reducible rfl)
                    (try simp only [Act.put, lq1, lq2, lq3, lq4, lq5, lq6])
                    refine seq_no hf rfl (by rfl) ?_
                    (try simp only [Act.put, lq1, lq2, lq3, lq4, lq5, lq6])
                    refine seq_no hf rfl (by rfl) ?_
                    (try simp only [Act.put, lq1, lq2, lq3, lq4, lq5, lq6])
                    refine seq_no hf rfl (by rfl) ?_
                    (try simp only [Act.put, lq1, lq2, lq3, lq4, lq5, lq6])
                    refine seq_no hf rfl (by rfl) ?_
                    (try simp only [Act.put, lq1, lq2, lq3, lq4, lq5, lq6])
                    refine seq_no hf rfl (by rfl) ?_
                    (try simp only [Act.put, lq1, lq2, lq3, lq4, lq5, lq6])
                    refine seq_take hf (v := .bool false) (S := fun w' => Ok V4 w') rfl (Or.inl ⟨by rfl, ?_⟩) hHeld ?_
                    · intro w hSw; (try dsimp only at hSw); first | rfl | (go_simp; try with_reducible rfl)
                    (try simp only [Act.put, lq1, lq2, lq3, lq4, lq5, lq6])
                    refine seq_take hf (v := .bool false) (S := fun w' => Ok V4 w') rfl (Or.inl ⟨by rfl, ?_⟩) hHeld ?_
                    · intro w hSw; (try dsimp only at hSw); first | rfl | (go_simp; try with_reducible rfl)
                    (try simp only [Act.put, lq1, lq2, lq3, lq4, lq5, lq6])
                    refine seq_take hf (v := .bool false) (S := fun w' => Ok V4 w') rfl (Or.inl ⟨by rfl, ?_⟩) hHeld ?_
                    · intro w hSw; (try dsimp only at hSw); first | rfl | (go_simp; try with_reducible rfl)
                    (try simp only [Act.put, lq1, lq2, lq3, lq4, lq5, lq6])
                    refine seq_take hf (v := .bool false) (S := fun w' => Ok V4 w') rfl (Or.inl ⟨by rfl, ?_⟩) hHeld ?_
                    · intro w hSw; (try dsimp only at hSw); first | rfl | (go_simp; try with_reducible rfl)
                    (try simp only [Act.put, lq1, lq2, lq3, lq4, lq5, lq6])
                    refine seq_take hf (v := .bool false) (S := fun w' => Ok V4 w') rfl (Or.inl ⟨by rfl, ?_⟩) hHeld ?_
                    · intro w hSw; (try dsimp only at hSw); first | rfl | (go_simp; try with_reducible rfl)
                    (try simp only [Act.put, lq1, lq2, lq3, lq4, lq5, lq6])
                    refine seq_no hf rfl (by rfl) ?_
                    (try simp only [Act.put, lq1, lq2, lq3, lq4, lq5, lq6])
                    refine seq_no hf rfl (by rfl) ?_
                    (try simp only [Act.put, lq1, lq2, lq3, lq4, lq5, lq6])
                    refine seq_no hf rfl (by rfl) ?_
                    (try simp only [Act.put, lq1, lq2, lq3, lq4, lq5, lq6])
                    refine seq_no hf rfl (by rfl) ?_
                    (try simp only [Act.put, lq1, lq2, lq3, lq4, lq5, lq6])
                    refine seq_take hf (v := .bool false) (S := fun w' => Ok V4 w') rfl (Or.inl ⟨by rfl, ?_⟩) hHeld ?_
                    · intro w hSw; (try dsimp only at hSw); first | rfl | (go_simp; try with_reducible rfl)
                    (try simp only [Act.put, lq1, lq2, lq3, lq4, lq5, lq6])
                    refine seq_take hf (v := .bool false) (S := fun w' => Ok V4 w') rfl (Or.inl ⟨by rfl, ?_⟩) hHeld ?_
                    · intro w hSw; (try dsimp only at hSw); first | rfl | (go_simp; try with_reducible rfl)
                    (try simp only [Act.put, lq1, lq2, lq3, lq4, lq5, lq6])
                    refine seq_done hf ?_
                    go_wp2_with fail
                    go_meet
                    case rel => exact ⟨rfl, hHeld⟩
                  · refine seq_take hf (v := .bool true) (S := fun w' => Ok V4 w') rfl (Or.inl ⟨by rfl, ?_⟩) hHeld ?_
                    · intro w hSw; (try dsimp only at hSw); first | rfl | (go_simp; try with_reducible rfl)
                    (try simp only [Act.put, lq1, lq2, lq3, lq4, lq5, lq6])
                    refine seq_take hf (v := .agg #[.bool z.2.2.2.2, .int .i64 z.1, .int .i64 z.2.1, .int .u64 (z.2.2.1 : Int), .int .u64 (z.2.2.2.1 : Int)]) (S := fun w' => Ok V4 w') rfl (Or.inl ⟨by rfl, ?_⟩) hHeld ?_
                    · intro w hSw; (try dsimp only at hSw); obtain ⟨c0, c1, c2, c3, c4, -⟩ := row5_facts (Ok.row' hSw rz.out); (go_simp; try with_reducible rfl)
                    (try simp only [Act.put, lq1, lq2, lq3, lq4, lq5, lq6])
                    refine seq_take hf (v := .int .i64 v) (S := fun w' => Ok V4 w') rfl (Or.inl ⟨by rfl, ?_⟩) hHeld ?_
                    · intro w hSw; (try dsimp only at hSw); first | rfl | (go_simp; try with_reducible rfl)
                    (try simp only [Act.put, lq1, lq2, lq3, lq4, lq5, lq6])
                    refine seq_call hf rfl (by rfl) (fun K hK => ?_)
                    go_simp
                    refine (win_any z v RZ.out.1 HU.out.2.2.2 V4 _ hHeld).mono ?_
                    rintro e1 w' ⟨rfl, hb⟩
                    rw [IZ.out rfl]
                    (try dsimp only)
                    refine hK.out _ _ ?_
                    clear hK K hHeld
                    have hHeld := hb
                    clear hb
                    (try simp only [Act.put, lq1, lq2, lq3, lq4, lq5, lq6])
                    refine seq_take hf (v := .bool false) (S := fun w' => Ok V4 w') rfl (Or.inl ⟨by rfl, ?_⟩) hHeld ?_
                    · intro w hSw; (try dsimp only at hSw); first | rfl | (go_simp; try with_reducible rfl)
                    (try simp only [Act.put, lq1, lq2, lq3, lq4, lq5, lq6])
                    refine seq_take hf (v := .bool false) (S := fun w' => Ok V4 w') rfl (Or.inl ⟨by rfl, ?_⟩) hHeld ?_
                    · intro w hSw; (try dsimp only at hSw); (go_simp; try with_reducible rfl)
                    (try simp only [Act.put, lq1, lq2, lq3, lq4, lq5, lq6])
                    refine seq_take hf (v := .bool false) (S := fun w' => Ok V4 w') rfl (Or.inl ⟨by rfl, ?_⟩) hHeld ?_
                    · intro w hSw; (try dsimp only at hSw); first | rfl | (go_simp; try with_reducible rfl)
                    (try simp only [Act.put, lq1, lq2, lq3, lq4, lq5, lq6])
                    refine seq_take hf (v := .bool false) (S := fun w' => Ok V4 w') rfl (Or.inl ⟨by rfl, ?_⟩) hHeld ?_
                    · intro w hSw; (try dsimp only at hSw); first | rfl | (go_simp; try with_reducible rfl)
                    (try simp only [Act.put, lq1, lq2, lq3, lq4, lq5, lq6])
                    refine seq_take hf (v := .bool false) (S := fun w' => Ok V4 w') rfl (Or.inl ⟨by rfl, ?_⟩) hHeld ?_
                    · intro w hSw; (try dsimp only at hSw); first | rfl | (go_simp; try with_reducible rfl)
                    (try simp only [Act.put, lq1, lq2, lq3, lq4, lq5, lq6])
                    refine seq_take hf (v := .bool false) (S := fun w' => Ok V4 w') rfl (Or.inl ⟨by rfl, ?_⟩) hHeld ?_
                    · intro w hSw; (try dsimp only at hSw); first | rfl | (go_simp; try with_reducible rfl)
                    (try simp only [Act.put, lq1, lq2, lq3, lq4, lq5, lq6])
                    refine seq_take hf (v := .bool false) (S := fun w' => Ok V4 w') rfl (Or.inl ⟨by rfl, ?_⟩) hHeld ?_
                    · intro w hSw; (try dsimp only at hSw); first | rfl | (go_simp; try with_reducible rfl)
                    (try simp only [Act.put, lq1, lq2, lq3, lq4, lq5, lq6])
                    refine seq_no hf rfl (by rfl) ?_
                    (try simp only [Act.put, lq1, lq2, lq3, lq4, lq5, lq6])
                    refine seq_no hf rfl (by rfl) ?_
                    (try simp only [Act.put, lq1, lq2, lq3, lq4, lq5, lq6])
                    refine seq_no hf rfl (by rfl) ?_
                    (try simp only [Act.put, lq1, lq2, lq3, lq4, lq5, lq6])
                    refine seq_no hf rfl (by rfl) ?_
                    (try simp only [Act.put, lq1, lq2, lq3, lq4, lq5, lq6])
                    refine seq_take hf (v := .bool false) (S := fun w' => Ok V4 w') rfl (Or.inl ⟨by rfl, ?_⟩) hHeld ?_
                    · intro w hSw; (try dsimp only at hSw); first | rfl | (go_simp; try with_reducible rfl)
                    (try simp only [Act.put, lq1, lq2, lq3, lq4, lq5, lq6])
                    refine seq_take hf (v := .bool false) (S := fun w' => Ok V4 w') rfl (Or.inl ⟨by rfl, ?_⟩) hHeld ?_
                    · intro w hSw; (try dsimp only at hSw); first | rfl | (go_simp; try with_reducible rfl)
                    (try simp only [Act.put, lq1, lq2, lq3, lq4, lq5, lq6])
                    refine seq_done hf ?_
                    go_wp2_with fail
                    go_meet
                    case rel => exact ⟨rfl, hHeld⟩
              · cases q
                · refine wp_region ?_
                  show wpOps _ _ _ [0, 1, 2, 3, 4, 5, 6, 7, 8, 9, 10, 11, 12, 13, 14, 15, 16, 17, 18, 19, 20, 21, 22, 23, 24, 25, 26, 27, 28, 29, 30, 31, 32, 33, 34, 35, 36, 37, 38, 39, 40, 41, 42, 43, 44, 45, 46] _ _
                  have hHeld : Ok V4 V4 := Ok.refl _
                  refine seq_begin (fun f hf => ?_)
                  refine seq_take hf (v := .agg #[.bool x.2.2.2.2, .int .i64 x.1, .int .i64 x.2.1, .int .u64 (x.2.2.1 : Int), .int .u64 (x.2.2.2.1 : Int)]) (S := fun w' => Ok V4 w') rfl (Or.inl ⟨by rfl, ?_⟩) hHeld ?_
                  · intro w hSw; (try dsimp only at hSw); obtain ⟨c0, c1, c2, c3, c4, -⟩ := row5_facts (Ok.row' hSw rx.out); (go_simp; try with_reducible rfl)
                  (try simp only [Act.put, lq1, lq2, lq3, lq4, lq5, lq6])
                  refine seq_take hf (v := .int .i64 v) (S := fun w' => Ok V4 w') rfl (Or.inl ⟨by rfl, ?_⟩) hHeld ?_
                  · intro w hSw; (try dsimp only at hSw); first | rfl | (go_simp; try with_reducible rfl)
                  (try simp only [Act.put, lq1, lq2, lq3, lq4, lq5, lq6])
                  refine seq_call hf rfl (by rfl) (fun K hK => ?_)
                  go_simp
                  refine (win_any x v RX.out.1 HU.out.2.2.2 V4 _ hHeld).mono ?_
                  rintro e1 w' ⟨rfl, hb⟩
                  rw [IX.out]
                  (try dsimp only)
                  refine hK.out _ _ ?_
                  clear hK K hHeld
                  have hHeld := hb
                  clear hb
                  (try simp only [Act.put, lq1, lq2, lq3, lq4, lq5, lq6])
                  refine seq_take hf (v := .bool true) (S := fun w' => Ok V4 w') rfl (Or.inl ⟨by rfl, ?_⟩) hHeld ?_
                  · intro w hSw; (try dsimp only at hSw); first | rfl | (go_simp; try with_reducible rfl)
                  (try simp only [Act.put, lq1, lq2, lq3, lq4, lq5, lq6])
                  refine seq_take hf (v := .bool false) (S := fun w' => Ok V4 w') rfl (Or.inl ⟨by rfl, ?_⟩) hHeld ?_
                  · intro w hSw; (try dsimp only at hSw); (go_simp; try with_reducible rfl)
                  (try simp only [Act.put, lq1, lq2, lq3, lq4, lq5, lq6])
                  refine seq_take hf (v := .bool false) (S := fun w' => Ok V4 w') rfl (Or.inl ⟨by rfl, ?_⟩) hHeld ?_
                  · intro w hSw; (try dsimp only at hSw); first | rfl | (go_simp; try with_reducible rfl)
                  (try simp only [Act.put, lq1, lq2, lq3, lq4, lq5, lq6])
                  refine seq_take hf (v := .agg #[.bool m.2.2.2.2, .int .i64 m.1, .int .i64 m.2.1, .int .u64 (m.2.2.1 : Int), .int .u64 (m.2.2.2.1 : Int)]) (S := fun w' => Ok V4 w') rfl (Or.inl ⟨by rfl, ?_⟩) hHeld ?_
                  · intro w hSw; (try dsimp only at hSw); obtain ⟨c0, c1, c2, c3, c4, -⟩ := row5_facts (Ok.row' hSw rm.out); (go_simp; try with_reducible rfl)
                  (try simp only [Act.put, lq1, lq2, lq3, lq4, lq5, lq6])
                  refine seq_take hf (v := .int .i64 v) (S := fun w' => Ok V4 w') rfl (Or.inl ⟨by rfl, ?_⟩) hHeld ?_
                  · intro w hSw; (try dsimp only at hSw); first | rfl | (go_simp; try with_reducible rfl)
                  (try simp only [Act.put, lq1, lq2, lq3, lq4, lq5, lq6])
                  refine seq_call hf rfl (by rfl) (fun K hK => ?_)
                  go_simp
                  refine (win_any m v RM.out.1 HU.out.2.2.2 V4 _ hHeld).mono ?_
                  rintro e1 w' ⟨rfl, hb⟩
                  rw [IM.out]
                  (try simp only [Bool.and_true, Bool.and_false, Bool.true_and, Bool.false_and])
                  (try dsimp only)
                  refine hK.out _ _ ?_
                  clear hK K hHeld
                  have hHeld := hb
                  clear hb
                  (try simp only [Act.put, lq1, lq2, lq3, lq4, lq5, lq6])
                  refine seq_take hf (v := .bool true) (S := fun w' => Ok V4 w') rfl (Or.inl ⟨by rfl, ?_⟩) hHeld ?_
                  · intro w hSw; (try dsimp only at hSw); first | rfl | (go_simp; try with_reducible rfl)
                  (try simp only [Act.put, lq1, lq2, lq3, lq4, lq5, lq6])
                  refine seq_take hf (v := .bool true) (S := fun w' => Ok V4 w') rfl (Or.inl ⟨by rfl, ?_⟩) hHeld ?_
                  · intro w hSw; (try dsimp only at hSw); first | rfl | (go_simp; try with_reducible rfl)
                  (try simp only [Act.put, lq1, lq2, lq3, lq4, lq5, lq6])
                  refine seq_take hf (v := .bool false) (S := fun w' => Ok V4 w') rfl (Or.inl ⟨by rfl, ?_⟩) hHeld ?_
                  · intro w hSw; (try dsimp only at hSw); first | rfl | (go_simp; try with_reducible rfl)
                  (try simp only [Act.put, lq1, lq2, lq3, lq4, lq5, lq6])
                  refine seq_take hf (v := .bool false) (S := fun w' => Ok V4 w') rfl (Or.inl ⟨by rfl, ?_⟩) hHeld ?_
                  · intro w hSw; (try dsimp only at hSw); first | rfl | (go_simp; try with_reducible rfl)
                  (try simp only [Act.put, lq1, lq2, lq3, lq4, lq5, lq6])
                  refine seq_take hf (v := .bool false) (S := fun w' => Ok V4 w') rfl (Or.inl ⟨by rfl, ?_⟩) hHeld ?_
                  · intro w hSw; (try dsimp only at hSw); (go_simp; try with_reducible rfl)
                  (try simp only [Act.put, lq1, lq2, lq3, lq4, lq5, lq6])
                  refine seq_take hf (v := .bool false) (S := fun w' => Ok V4 w') rfl (Or.inl ⟨by rfl, ?_⟩) hHeld ?_
                  · intro w hSw; (try dsimp only at hSw); first | rfl | (go_simp; try with_reducible rfl)
                  (try simp only [Act.put, lq1, lq2, lq3, lq4, lq5, lq6])
                  refine seq_take hf (v := .bool false) (S := fun w' => Ok V4 w') rfl (Or.inl ⟨by rfl, ?_⟩) hHeld ?_
                  · intro w hSw; (try dsimp only at hSw); first | rfl | (go_simp; try with_reducible rfl)
                  (try simp only [Act.put, lq1, lq2, lq3, lq4, lq5, lq6])
                  refine seq_take hf (v := .bool true) (S := fun w' => Ok V4 w') rfl (Or.inl ⟨by rfl, ?_⟩) hHeld ?_
                  · intro w hSw; (try dsimp only at hSw); first | rfl | (go_simp; try with_reducible rfl)
                  (try simp only [Act.put, lq1, lq2, lq3, lq4, lq5, lq6])
                  refine seq_take hf (v := .bool true) (S := fun w' => Ok V4 w') rfl (Or.inl ⟨by rfl, ?_⟩) hHeld ?_
                  · intro w hSw; (try dsimp only at hSw); first | rfl | (go_simp; try with_reducible rfl)
                  (try simp only [Act.put, lq1, lq2, lq3, lq4, lq5, lq6])
                  refine seq_no hf rfl (by rfl) ?_
                  (try simp only [Act.put, lq1, lq2, lq3, lq4, lq5, lq6])
                  refine seq_take hf (v := .bool true) (S := fun w' => Ok V4 w') rfl (Or.inl ⟨by rfl, ?_⟩) hHeld ?_
                  · intro w hSw; (try dsimp only at hSw); first | rfl | (go_simp; try with_reducible rfl)
                  (try simp only [Act.put, lq1, lq2, lq3, lq4, lq5, lq6])
                  refine seq_take hf (v := .bool true) (S := fun w' => Ok V4 w') rfl (Or.inl ⟨by rfl, ?_⟩) hHeld ?_
                  · intro w hSw; (try dsimp only at hSw); first | rfl | (go_simp; try with_reducible rfl)
                  (try simp only [Act.put, lq1, lq2, lq3, lq4, lq5, lq6])
                  refine seq_take hf (v := .agg #[.bool j.2.2.2.2, .int .i64 j.1, .int .i64 j.2.1, .int .u64 (j.2.2.1 : Int), .int .u64 (j.2.2.2.1 : Int)]) (S := fun w' => Ok V4 w') rfl (Or.inl ⟨by rfl, ?_⟩) hHeld ?_
                  · intro w hSw; (try dsimp only at hSw); obtain ⟨c0, c1, c2, c3, c4, -⟩ := row5_facts (Ok.row' hSw rj.out); (go_simp; try with_reducible rfl)
                  (try simp only [Act.put, lq1, lq2, lq3, lq4, lq5, lq6])
                  refine seq_take hf (v := .int .i64 v) (S := fun w' => Ok V4 w') rfl (Or.inl ⟨by rfl, ?_⟩) hHeld ?_
                  · intro w hSw; (try dsimp only at hSw); first | rfl | (go_simp; try with_reducible rfl)
                  (try simp only [Act.put, lq1, lq2, lq3, lq4, lq5, lq6])
                  refine seq_call hf rfl (by rfl) (fun K hK => ?_)
                  go_simp
                  refine (win_any j v RJ.out.1 HU.out.2.2.2 V4 _ hHeld).mono ?_
                  rintro e1 w' ⟨rfl, hb⟩
                  rw [IJ.out (by first | exact Or.inl rfl | exact Or.inr rfl)]
                  (try dsimp only)
                  refine hK.out _ _ ?_
                  clear hK K hHeld
                  have hHeld := hb
                  clear hb
                  (try simp only [Act.put, lq1, lq2, lq3, lq4, lq5, lq6])
                  refine seq_take hf (v := .bool false) (S := fun w' => Ok V4 w') rfl (Or.inl ⟨by rfl, ?_⟩) hHeld ?_
                  · intro w hSw; (try dsimp only at hSw); first | rfl | (go_simp; try with_reducible rfl)
                  (try simp only [Act.put, lq1, lq2, lq3, lq4, lq5, lq6])
                  refine seq_take hf (v := .bool false) (S := fun w' => Ok V4 w') rfl (Or.inl ⟨by rfl, ?_⟩) hHeld ?_
                  · intro w hSw; (try dsimp only at hSw); first | rfl | (go_simp; try with_reducible rfl)
                  (try simp only [Act.put, lq1, lq2, lq3, lq4, lq5, lq6])
                  refine seq_take hf (v := .bool false) (S := fun w' => Ok V4 w') rfl (Or.inl ⟨by rfl, ?_⟩) hHeld ?_
                  · intro w hSw; (try dsimp only at hSw); first | rfl | (go_simp; try with_reducible rfl)
                  (try simp only [Act.put, lq1, lq2, lq3, lq4, lq5, lq6])
                  refine seq_take hf (v := .bool false) (S := fun w' => Ok V4 w') rfl (Or.inl ⟨by rfl, ?_⟩) hHeld ?_
                  · intro w hSw; (try dsimp only at hSw); first | rfl | (go_simp; try with_reducible rfl)
                  (try simp only [Act.put, lq1, lq2, lq3, lq4, lq5, lq6])
                  refine seq_take hf (v := .int .i64 v) (S := fun w' => Ok V4 w') rfl (Or.inl ⟨by rfl, ?_⟩) hHeld ?_
                  · intro w hSw; (try dsimp only at hSw); first | rfl | (go_simp; try with_reducible rfl)
                  (try simp only [Act.put, lq1, lq2, lq3, lq4, lq5, lq6])
                  refine seq_take hf (v := .bool t) (S := fun w' => Ok V4 w') rfl (Or.inl ⟨by rfl, ?_⟩) hHeld ?_
                  · intro w hSw; (try dsimp only at hSw); (by_cases hz : v = 0 <;> simp only [HT.out, hz] <;> go_simp <;> first | done | rfl | (simp [hz]; done))
                  (try simp only [Act.put, lq1, lq2, lq3, lq4, lq5, lq6])
                  clear HT
                  cases t
                  · refine seq_take hf (v := .bool false) (S := fun w' => Ok V4 w') rfl (Or.inl ⟨by rfl, ?_⟩) hHeld ?_
                    · intro w hSw; (try dsimp only at hSw); first | rfl | (go_simp; try with_reducible rfl)
                    (try simp only [Act.put, lq1, lq2, lq3, lq4, lq5, lq6])
                    refine seq_no hf rfl (by rfl) ?_
                    (try simp only [Act.put, lq1, lq2, lq3, lq4, lq5, lq6])
                    refine seq_no hf rfl (by rfl) ?_
                    (try simp only [Act.put, lq1, lq2, lq3, lq4, lq5, lq6])
                    refine seq_no hf rfl (by rfl) ?_
                    (try simp only [Act.put, lq1, lq2, lq3, lq4, lq5, lq6])
                    refine seq_no hf rfl (by rfl) ?_
                    (try simp only [Act.put, lq1, lq2, lq3, lq4, lq5, lq6])
                    refine seq_no hf rfl (by rfl) ?_
                    (try simp only [Act.put, lq1, lq2, lq3, lq4, lq5, lq6])
                    refine seq_take hf (v := .bool false) (S := fun w' => Ok V4 w') rfl (Or.inl ⟨by rfl, ?_⟩) hHeld ?_
                    · intro w hSw; (try dsimp only at hSw); first | rfl | (go_simp; try with_reducible rfl)
                    (try simp only [Act.put, lq1, lq2, lq3, lq4, lq5, lq6])
                    refine seq_take hf (v := .bool false) (S := fun w' => Ok V4 w') rfl (Or.inl ⟨by rfl, ?_⟩) hHeld ?_
                    · intro w hSw; (try dsimp only at hSw); first | rfl | (go_simp; try with_reducible rfl)
                    (try simp only [Act.put, lq1, lq2, lq3, lq4, lq5, lq6])
                    refine seq_take hf (v := .bool false) (S := fun w' => Ok V4 w') rfl (Or.inl ⟨by rfl, ?_⟩) hHeld ?_
                    · intro w hSw; (try dsimp only at hSw); first | rfl | (go_simp; try with_reducible rfl)
                    (try simp only [Act.put, lq1, lq2, lq3, lq4, lq5, lq6])
                    refine seq_take hf (v := .bool true) (S := fun w' => Ok V4 w') rfl (Or.inl ⟨by rfl, ?_⟩) hHeld ?_
                    · intro w hSw; (try dsimp only at hSw); first | rfl | (go_simp; try with_reducible rfl)
                    (try simp only [Act.put, lq1, lq2, lq3, lq4, lq5, lq6])
                    refine seq_take hf (v := .bool true) (S := fun w' => Ok V4 w') rfl (Or.inl ⟨by rfl, ?_⟩) hHeld ?_
                    · intro w hSw; (try dsimp only at hSw); first | rfl | (go_simp; try with_reducible rfl)
                    (try simp only [Act.put, lq1, lq2, lq3, lq4, lq5, lq6])
                    refine seq_call hf rfl (by rfl) (fun K hK => ?_)
                    go_simp
                    refine (ntop_any V4 _ hHeld).mono ?_
                    rintro e1 w' ⟨rfl, hb⟩
                    (try dsimp only)
                    refine hK.out _ _ ?_
                    clear hK K hHeld
                    have hHeld := hb
                    clear hb
                    (try simp only [Act.put, lq1, lq2, lq3, lq4, lq5, lq6])
                    refine seq_take hf (v := .int .i64 v) (S := fun w' => Ok V4 w') rfl (Or.inl ⟨by rfl, ?_⟩) hHeld ?_
                    · intro w hSw; (try dsimp only at hSw); first | rfl | (go_simp; try with_reducible rfl)
                    (try simp only [Act.put, lq1, lq2, lq3, lq4, lq5, lq6])
                    refine seq_call hf rfl (by rfl) (fun K hK => ?_)
                    go_simp
                    refine (win_any topN v top_raw HU.out.2.2.2 V4 _ hHeld).mono ?_
                    rintro e1 w' ⟨rfl, hb⟩
                    rw [ITV.out]
                    (try dsimp only)
                    refine hK.out _ _ ?_
                    clear hK K hHeld
                    have hHeld := hb
                    clear hb
                    (try simp only [Act.put, lq1, lq2, lq3, lq4, lq5, lq6])
                    refine seq_take hf (v := .bool false) (S := fun w' => Ok V4 w') rfl (Or.inl ⟨by rfl, ?_⟩) hHeld ?_
                    · intro w hSw; (try dsimp only at hSw); first | rfl | (go_simp; try with_reducible rfl)
                    (try simp only [Act.put, lq1, lq2, lq3, lq4, lq5, lq6])
                    refine seq_take hf (v := .bool false) (S := fun w' => Ok V4 w') rfl (Or.inl ⟨by rfl, ?_⟩) hHeld ?_
                    · intro w hSw; (try dsimp only at hSw); first | rfl | (go_simp; try with_reducible rfl)
                    (try simp only [Act.put, lq1, lq2, lq3, lq4, lq5, lq6])
                    refine seq_take hf (v := .bool false) (S := fun w' => Ok V4 w') rfl (Or.inl ⟨by rfl, ?_⟩) hHeld ?_
                    · intro w hSw; (try dsimp only at hSw); first | rfl | (go_simp; try with_reducible rfl)
                    (try simp only [Act.put, lq1, lq2, lq3, lq4, lq5, lq6])
                    refine seq_done hf ?_
                    go_wp2_with fail
                    go_meet
                    case rel => exact ⟨rfl, hHeld⟩
                  · refine seq_take hf (v := .bool true) (S := fun w' => Ok V4 w') rfl (Or.inl ⟨by rfl, ?_⟩) hHeld ?_
                    · intro w hSw; (try dsimp only at hSw); first | rfl | (go_simp; try with_reducible rfl)
                    (try simp only [Act.put, lq1, lq2, lq3, lq4, lq5, lq6])
                    refine seq_take hf (v := .agg #[.bool z.2.2.2.2, .int .i64 z.1, .int .i64 z.2.1, .int .u64 (z.2.2.1 : Int), .int .u64 (z.2.2.2.1 : Int)]) (S := fun w' => Ok V4 w') rfl (Or.inl ⟨by rfl, ?_⟩) hHeld ?_
                    · intro w hSw; (try dsimp only at hSw); obtain ⟨c0, c1, c2, c3, c4, -⟩ := row5_facts (Ok.row' hSw rz.out); (go_simp; try with_reducible rfl)
                    (try simp only [Act.put, lq1, lq2, lq3, lq4, lq5, lq6])
                    refine seq_take hf (v := .int .i64 v) (S := fun w' => Ok V4 w') rfl (Or.inl ⟨by rfl, ?_⟩) hHeld ?_
                    · intro w hSw; (try dsimp only at hSw); first | rfl | (go_simp; try with_reducible rfl)
                    (try simp only [Act.put, lq1, lq2, lq3, lq4, lq5, lq6])
                    refine seq_call hf rfl (by rfl) (fun K hK => ?_)
                    go_simp
                    refine (win_any z v RZ.out.1 HU.out.2.2.2 V4 _ hHeld).mono ?_
                    rintro e1 w' ⟨rfl, hb⟩
                    rw [IZ.out rfl]
                    (try dsimp only)
                    refine hK.out _ _ ?_
                    clear hK K hHeld
                    have hHeld := hb
                    clear hb
                    (try simp only [Act.put, lq1, lq2, lq3, lq4, lq5, lq6])
                    refine seq_take hf (v := .bool true) (S := fun w' => Ok V4 w') rfl (Or.inl ⟨by rfl, ?_⟩) hHeld ?_
                    · intro w hSw; (try dsimp only at hSw); first | rfl | (go_simp; try with_reducible rfl)
                    (try simp only [Act.put, lq1, lq2, lq3, lq4, lq5, lq6])
                    refine seq_take hf (v := .bool false) (S := fun w' => Ok V4 w') rfl (Or.inl ⟨by rfl, ?_⟩) hHeld ?_
                    · intro w hSw; (try dsimp only at hSw); (go_simp; try with_reducible rfl)
                    (try simp only [Act.put, lq1, lq2, lq3, lq4, lq5, lq6])
                    refine seq_take hf (v := .bool false) (S := fun w' => Ok V4 w') rfl (Or.inl ⟨by rfl, ?_⟩) hHeld ?_
                    · intro w hSw; (try dsimp only at hSw); first | rfl | (go_simp; try with_reducible rfl)
                    (try simp only [Act.put, lq1, lq2, lq3, lq4, lq5, lq6])
                    refine seq_take hf (v := .bool false) (S := fun w' => Ok V4 w') rfl (Or.inl ⟨by rfl, ?_⟩) hHeld ?_
                    · intro w hSw; (try dsimp only at hSw); first | rfl | (go_simp; try with_reducible rfl)
                    (try simp only [Act.put, lq1, lq2, lq3, lq4, lq5, lq6])
                    refine seq_take hf (v := .bool false) (S := fun w' => Ok V4 w') rfl (Or.inl ⟨by rfl, ?_⟩) hHeld ?_
                    · intro w hSw; (try dsimp only at hSw); first | rfl | (go_simp; try with_reducible rfl)
                    (try simp only [Act.put, lq1, lq2, lq3, lq4, lq5, lq6])
                    refine seq_take hf (v := .bool true) (S := fun w' => Ok V4 w') rfl (Or.inl ⟨by rfl, ?_⟩) hHeld ?_
                    · intro w hSw; (try dsimp only at hSw); first | rfl | (go_simp; try with_reducible rfl)
                    (try simp only [Act.put, lq1, lq2, lq3, lq4, lq5, lq6])
                    refine seq_take hf (v := .bool true) (S := fun w' => Ok V4 w') rfl (Or.inl ⟨by rfl, ?_⟩) hHeld ?_
                    · intro w hSw; (try dsimp only at hSw); first | rfl | (go_simp; try with_reducible rfl)
                    (try simp only [Act.put, lq1, lq2, lq3, lq4, lq5, lq6])
                    refine seq_call hf rfl (by rfl) (fun K hK => ?_)
                    go_simp
                    refine (ntop_any V4 _ hHeld).mono ?_
                    rintro e1 w' ⟨rfl, hb⟩
                    (try dsimp only)
                    refine hK.out _ _ ?_
                    clear hK K hHeld
                    have hHeld := hb
                    clear hb
                    (try simp only [Act.put, lq1, lq2, lq3, lq4, lq5, lq6])
                    refine seq_take hf (v := .int .i64 v) (S := fun w' => Ok V4 w') rfl (Or.inl ⟨by rfl, ?_⟩) hHeld ?_
                    · intro w hSw; (try dsimp only at hSw); first | rfl | (go_simp; try with_reducible rfl)
                    (try simp only [Act.put, lq1, lq2, lq3, lq4, lq5, lq6])
                    refine seq_call hf rfl (by rfl) (fun K hK => ?_)
                    go_simp
                    refine (win_any topN v top_raw HU.out.2.2.2 V4 _ hHeld).mono ?_
                    rintro e1 w' ⟨rfl, hb⟩
                    rw [ITV.out]
                    (try dsimp only)
                    refine hK.out _ _ ?_
                    clear hK K hHeld
                    have hHeld := hb
                    clear hb
                    (try simp only [Act.put, lq1, lq2, lq3, lq4, lq5, lq6])
                    refine seq_take hf (v := .bool false) (S := fun w' => Ok V4 w') rfl (Or.inl ⟨by rfl, ?_⟩) hHeld ?_
                    · intro w hSw; (try dsimp only at hSw); first | rfl | (go_simp; try with_reducible rfl)
                    (try simp only [Act.put, lq1, lq2, lq3, lq4, lq5, lq6])
                    refine seq_take hf (v := .bool false) (S := fun w' => Ok V4 w') rfl (Or.inl ⟨by rfl, ?_⟩) hHeld ?_
                    · intro w hSw; (try dsimp only at hSw); first | rfl | (go_simp; try with_reducible rfl)
                    (try simp only [Act.put, lq1, lq2, lq3, lq4, lq5, lq6])
                    refine seq_take hf (v := .bool false) (S := fun w' => Ok V4 w') rfl (Or.inl ⟨by rfl, ?_⟩) hHeld ?_
                    · intro w hSw; (try dsimp only at hSw); first | rfl | (go_simp; try with_reducible rfl)
                    (try simp only [Act.put, lq1, lq2, lq3, lq4, lq5, lq6])
                    refine seq_done hf ?_
                    go_wp2_with fail
                    go_meet
                    case rel => exact ⟨rfl, hHeld⟩
                · refine wp_region ?_
                  show wpOps _ _ _ [0, 1, 2, 3, 4, 5, 6, 7, 8, 9, 10, 11, 12, 13, 14, 15, 16, 17, 18, 19, 20, 21, 22, 23, 24, 25, 26, 27, 28, 29, 30, 31, 32, 33, 34, 35, 36, 37, 38, 39, 40, 41, 42, 43, 44, 45, 46] _ _
                  have hHeld : Ok V4 V4 := Ok.refl _
                  refine seq_begin (fun f hf => ?_)
                  refine seq_take hf (v := .agg #[.bool x.2.2.2.2, .int .i64 x.1, .int .i64 x.2.1, .int .u64 (x.2.2.1 : Int), .int .u64 (x.2.2.2.1 : Int)]) (S := fun w' => Ok V4 w') rfl (Or.inl ⟨by rfl, ?_⟩) hHeld ?_
                  · intro w hSw; (try dsimp only at hSw); obtain ⟨c0, c1, c2, c3, c4, -⟩ := row5_facts (Ok.row' hSw rx.out); (go_simp; try with_reducible rfl)
                  (try simp only [Act.put, lq1, lq2, lq3, lq4, lq5, lq6])
                  refine seq_take hf (v := .int .i64 v) (S := fun w' => Ok V4 w') rfl (Or.inl ⟨by rfl, ?_⟩) hHeld ?_
                  · intro w hSw; (try dsimp only at hSw); first | rfl | (go_simp; try with_reducible rfl)
                  (try simp only [Act.put, lq1, lq2, lq3, lq4, lq5, lq6])
                  refine seq_call hf rfl (by rfl) (fun K hK => ?_)
                  go_simp
                  refine (win_any x v RX.out.1 HU.out.2.2.2 V4 _ hHeld).mono ?_
                  rintro e1 w' ⟨rfl, hb⟩
                  rw [IX.out]
                  (try dsimp only)
                  refine hK.out _ _ ?_
                  clear hK K hHeld
                  have hHeld := hb
                  clear hb
                  (try simp only [Act.put, lq1, lq2, lq3, lq4, lq5, lq6])
                  refine seq_take hf (v := .bool true) (S := fun w' => Ok V4 w') rfl (Or.inl ⟨by rfl, ?_⟩) hHeld ?_
                  · intro w hSw; (try dsimp only at hSw); first | rfl | (go_simp; try with_reducible rfl)
                  (try simp only [Act.put, lq1, lq2, lq3, lq4, lq5, lq6])
                  refine seq_take hf (v := .bool false) (S := fun w' => Ok V4 w') rfl (Or.inl ⟨by rfl, ?_⟩) hHeld ?_
                  · intro w hSw; (try dsimp only at hSw); (go_simp; try with_reducible rfl)
                  (try simp only [Act.put, lq1, lq2, lq3, lq4, lq5, lq6])
                  refine seq_take hf (v := .bool false) (S := fun w' => Ok V4 w') rfl (Or.inl ⟨by rfl, ?_⟩) hHeld ?_
                  · intro w hSw; (try dsimp only at hSw); first | rfl | (go_simp; try with_reducible rfl)
                  (try simp only [Act.put, lq1, lq2, lq3, lq4, lq5, lq6])
                  refine seq_take hf (v := .agg #[.bool m.2.2.2.2, .int .i64 m.1, .int .i64 m.2.1, .int .u64 (m.2.2.1 : Int), .int .u64 (m.2.2.2.1 : Int)]) (S := fun w' => Ok V4 w') rfl (Or.inl ⟨by rfl, ?_⟩) hHeld ?_
                  · intro w hSw; (try dsimp only at hSw); obtain ⟨c0, c1, c2, c3, c4, -⟩ := row5_facts (Ok.row' hSw rm.out); (go_simp; try with_reducible rfl)
                  (try simp only [Act.put, lq1, lq2, lq3, lq4, lq5, lq6])
                  refine seq_take hf (v := .int .i64 v) (S := fun w' => Ok V4 w') rfl (Or.inl ⟨by rfl, ?_⟩) hHeld ?_
                  · intro w hSw; (try dsimp only at hSw); first | rfl | (go_simp; try with_reducible rfl)
                  (try simp only [Act.put, lq1, lq2, lq3, lq4, lq5, lq6])
                  refine seq_call hf rfl (by rfl) (fun K hK => ?_)
                  go_simp
                  refine (win_any m v RM.out.1 HU.out.2.2.2 V4 _ hHeld).mono ?_
                  rintro e1 w' ⟨rfl, hb⟩
                  rw [IM.out]
                  (try simp only [Bool.and_true, Bool.and_false, Bool.true_and, Bool.false_and])
                  (try dsimp only)
                  refine hK.out _ _ ?_
                  clear hK K hHeld
                  have hHeld := hb
                  clear hb
                  (try simp only [Act.put, lq1, lq2, lq3, lq4, lq5, lq6])
                  refine seq_take hf (v := .bool true) (S := fun w' => Ok V4 w') rfl (Or.inl ⟨by rfl, ?_⟩) hHeld ?_
                  · intro w hSw; (try dsimp only at hSw); first | rfl | (go_simp; try with_reducible rfl)
                  (try simp only [Act.put, lq1, lq2, lq3, lq4, lq5, lq6])
                  refine seq_take hf (v := .bool true) (S := fun w' => Ok V4 w') rfl (Or.inl ⟨by rfl, ?_⟩) hHeld ?_
                  · intro w hSw; (try dsimp only at hSw); first | rfl | (go_simp; try with_reducible rfl)
                  (try simp only [Act.put, lq1, lq2, lq3, lq4, lq5, lq6])
                  refine seq_take hf (v := .bool true) (S := fun w' => Ok V4 w') rfl (Or.inl ⟨by rfl, ?_⟩) hHeld ?_
                  · intro w hSw; (try dsimp only at hSw); first | rfl | (go_simp; try with_reducible rfl)
                  (try simp only [Act.put, lq1, lq2, lq3, lq4, lq5, lq6])
                  refine seq_take hf (v := .bool true) (S := fun w' => Ok V4 w') rfl (Or.inl ⟨by rfl, ?_⟩) hHeld ?_
                  · intro w hSw; (try dsimp only at hSw); first | rfl | (go_simp; try with_reducible rfl)
                  (try simp only [Act.put, lq1, lq2, lq3, lq4, lq5, lq6])
                  refine seq_take hf (v := .bool false) (S := fun w' => Ok V4 w') rfl (Or.inl ⟨by rfl, ?_⟩) hHeld ?_
                  · intro w hSw; (try dsimp only at hSw); (go_simp; try with_reducible rfl)
                  (try simp only [Act.put, lq1, lq2, lq3, lq4, lq5, lq6])
                  refine seq_take hf (v := .bool false) (S := fun w' => Ok V4 w') rfl (Or.inl ⟨by rfl, ?_⟩) hHeld ?_
                  · intro w hSw; (try dsimp only at hSw); first | rfl | (go_simp; try with_reducible rfl)
                  (try simp only [Act.put, lq1, lq2, lq3, lq4, lq5, lq6])
                  refine seq_take hf (v := .bool false) (S := fun w' => Ok V4 w') rfl (Or.inl ⟨by rfl, ?_⟩) hHeld ?_
                  · intro w hSw; (try dsimp only at hSw); first | rfl | (go_simp; try with_reducible rfl)
                  (try simp only [Act.put, lq1, lq2, lq3, lq4, lq5, lq6])
                  refine seq_take hf (v := .bool true) (S := fun w' => Ok V4 w') rfl (Or.inl ⟨by rfl, ?_⟩) hHeld ?_
                  · intro w hSw; (try dsimp only at hSw); first | rfl | (go_simp; try with_reducible rfl)
                  (try simp only [Act.put, lq1, lq2, lq3, lq4, lq5, lq6])
                  refine seq_take hf (v := .bool true) (S := fun w' => Ok V4 w') rfl (Or.inl ⟨by rfl, ?_⟩) hHeld ?_
                  · intro w hSw; (try dsimp only at hSw); first | rfl | (go_simp; try with_reducible rfl)
                  (try simp only [Act.put, lq1, lq2, lq3, lq4, lq5, lq6])
                  refine seq_no hf rfl (by rfl) ?_
                  (try simp only [Act.put, lq1, lq2, lq3, lq4, lq5, lq6])
                  refine seq_take hf (v := .bool true) (S := fun w' => Ok V4 w') rfl (Or.inl ⟨by rfl, ?_⟩) hHeld ?_
                  · intro w hSw; (try dsimp only at hSw); first | rfl | (go_simp; try with_reducible rfl)
                  (try simp only [Act.put, lq1, lq2, lq3, lq4, lq5, lq6])
                  refine seq_take hf (v := .bool true) (S := fun w' => Ok V4 w') rfl (Or.inl ⟨by rfl, ?_⟩) hHeld ?_
                  · intro w hSw; (try dsimp only at hSw); first | rfl | (go_simp; try with_reducible rfl)
                  (try simp only [Act.put, lq1, lq2, lq3, lq4, lq5, lq6])
                  refine seq_take hf (v := .agg #[.bool j.2.2.2.2, .int .i64 j.1, .int .i64 j.2.1, .int .u64 (j.2.2.1 : Int), .int .u64 (j.2.2.2.1 : Int)]) (S := fun w' => Ok V4 w') rfl (Or.inl ⟨by rfl, ?_⟩) hHeld ?_
                  · intro w hSw; (try dsimp only at hSw); obtain ⟨c0, c1, c2, c3, c4, -⟩ := row5_facts (Ok.row' hSw rj.out); (go_simp; try with_reducible rfl)
                  (try simp only [Act.put, lq1, lq2, lq3, lq4, lq5, lq6])
                  refine seq_take hf (v := .int .i64 v) (S := fun w' => Ok V4 w') rfl (Or.inl ⟨by rfl, ?_⟩) hHeld ?_
                  · intro w hSw; (try dsimp only at hSw); first | rfl | (go_simp; try with_reducible rfl)
                  (try simp only [Act.put, lq1, lq2, lq3, lq4, lq5, lq6])
                  refine seq_call hf rfl (by rfl) (fun K hK => ?_)
                  go_simp
                  refine (win_any j v RJ.out.1 HU.out.2.2.2 V4 _ hHeld).mono ?_
                  rintro e1 w' ⟨rfl, hb⟩
                  rw [IJ.out (by first | exact Or.inl rfl | exact Or.inr rfl)]
                  (try dsimp only)
                  refine hK.out _ _ ?_
                  clear hK K hHeld
                  have hHeld := hb
                  clear hb
                  (try simp only [Act.put, lq1, lq2, lq3, lq4, lq5, lq6])
                  refine seq_take hf (v := .bool false) (S := fun w' => Ok V4 w') rfl (Or.inl ⟨by rfl, ?_⟩) hHeld ?_
                  · intro w hSw; (try dsimp only at hSw); first | rfl | (go_simp; try with_reducible rfl)
                  (try simp only [Act.put, lq1, lq2, lq3, lq4, lq5, lq6])
                  refine seq_take hf (v := .bool false) (S := fun w' => Ok V4 w') rfl (Or.inl ⟨by rfl, ?_⟩) hHeld ?_
                  · intro w hSw; (try dsimp only at hSw); first | rfl | (go_simp; try with_reducible rfl)
                  (try simp only [Act.put, lq1, lq2, lq3, lq4, lq5, lq6])
                  refine seq_take hf (v := .bool false) (S := fun w' => Ok V4 w') rfl (Or.inl ⟨by rfl, ?_⟩) hHeld ?_
                  · intro w hSw; (try dsimp only at hSw); first | rfl | (go_simp; try with_reducible rfl)
                  (try simp only [Act.put, lq1, lq2, lq3, lq4, lq5, lq6])
                  refine seq_take hf (v := .bool false) (S := fun w' => Ok V4 w') rfl (Or.inl ⟨by rfl, ?_⟩) hHeld ?_
                  · intro w hSw; (try dsimp only at hSw); first | rfl | (go_simp; try with_reducible rfl)
                  (try simp only [Act.put, lq1, lq2, lq3, lq4, lq5, lq6])
                  refine seq_take hf (v := .int .i64 v) (S := fun w' => Ok V4 w') rfl (Or.inl ⟨by rfl, ?_⟩) hHeld ?_
                  · intro w hSw; (try dsimp only at hSw); first | rfl | (go_simp; try with_reducible rfl)
                  (try simp only [Act.put, lq1, lq2, lq3, lq4, lq5, lq6])
                  refine seq_take hf (v := .bool t) (S := fun w' => Ok V4 w') rfl (Or.inl ⟨by rfl, ?_⟩) hHeld ?_
                  · intro w hSw; (try dsimp only at hSw); (by_cases hz : v = 0 <;> simp only [HT.out, hz] <;> go_simp <;> first | done | rfl | (simp [hz]; done))
                  (try simp only [Act.put, lq1, lq2, lq3, lq4, lq5, lq6])
                  clear HT
                  cases t
                  · refine seq_take hf (v := .bool false) (S := fun w' => Ok V4 w') rfl (Or.inl ⟨by rfl, ?_⟩) hHeld ?_
                    · intro w hSw; (try dsimp only at hSw); first | rfl | (go_simp; try with_reducible rfl)
                    (try simp only [Act.put, lq1, lq2, lq3, lq4, lq5, lq6])
                    refine seq_no hf rfl (by rfl) ?_
                    (try simp only [Act.put, lq1, lq2, lq3, lq4, lq5, lq6])
                    refine seq_no hf rfl (by rfl) ?_
                    (try simp only [Act.put, lq1, lq2, lq3, lq4, lq5, lq6])
                    refine seq_no hf rfl (by rfl) ?_
                    (try simp only [Act.put, lq1, lq2, lq3, lq4, lq5, lq6])
                    refine seq_no hf rfl (by rfl) ?_
                    (try simp only [Act.put, lq1, lq2, lq3, lq4, lq5, lq6])
                    refine seq_no hf rfl (by rfl) ?_
                    (try simp only [Act.put, lq1, lq2, lq3, lq4, lq5, lq6])
                    refine seq_take hf (v := .bool false) (S := fun w' => Ok V4 w') rfl (Or.inl ⟨by rfl, ?_⟩) hHeld ?_
                    · intro w hSw; (try dsimp only at hSw); first | rfl | (go_simp; try with_reducible rfl)
                    (try simp only [Act.put, lq1, lq2, lq3, lq4, lq5, lq6])
                    refine seq_take hf (v := .bool false) (S := fun w' => Ok V4 w') rfl (Or.inl ⟨by rfl, ?_⟩) hHeld ?_
                    · intro w hSw; (try dsimp only at hSw); first | rfl | (go_simp; try with_reducible rfl)
                    (try simp only [Act.put, lq1, lq2, lq3, lq4, lq5, lq6])
                    refine seq_take hf (v := .bool false) (S := fun w' => Ok V4 w') rfl (Or.inl ⟨by rfl, ?_⟩) hHeld ?_
                    · intro w hSw; (try dsimp only at hSw); first | rfl | (go_simp; try with_reducible rfl)
                    (try simp only [Act.put, lq1, lq2, lq3, lq4, lq5, lq6])
                    refine seq_take hf (v := .bool true) (S := fun w' => Ok V4 w') rfl (Or.inl ⟨by rfl, ?_⟩) hHeld ?_
                    · intro w hSw; (try dsimp only at hSw); first | rfl | (go_simp; try with_reducible rfl)
                    (try simp only [Act.put, lq1, lq2, lq3, lq4, lq5, lq6])
                    refine seq_take hf (v := .bool true) (S := fun w' => Ok V4 w') rfl (Or.inl ⟨by rfl, ?_⟩) hHeld ?_
                    · intro w hSw; (try dsimp only at hSw); first | rfl | (go_simp; try with_reducible rfl)
                    (try simp only [Act.put, lq1, lq2, lq3, lq4, lq5, lq6])
                    refine seq_call hf rfl (by rfl) (fun K hK => ?_)
                    go_simp
                    refine (ntop_any V4 _ hHeld).mono ?_
                    rintro e1 w' ⟨rfl, hb⟩
                    (try dsimp only)
                    refine hK.out _ _ ?_
                    clear hK K hHeld
                    have hHeld := hb
                    clear hb
                    (try simp only [Act.put, lq1, lq2, lq3, lq4, lq5, lq6])
                    refine seq_take hf (v := .int .i64 v) (S := fun w' => Ok V4 w') rfl (Or.inl ⟨by rfl, ?_⟩) hHeld ?_
                    · intro w hSw; (try dsimp only at hSw); first | rfl | (go_simp; try with_reducible rfl)
                    (try simp only [Act.put, lq1, lq2, lq3, lq4, lq5, lq6])
                    refine seq_call hf rfl (by rfl) (fun K hK => ?_)
                    go_simp
                    refine (win_any topN v top_raw HU.out.2.2.2 V4 _ hHeld).mono ?_
                    rintro e1 w' ⟨rfl, hb⟩
                    rw [ITV.out]
                    (try dsimp only)
                    refine hK.out _ _ ?_
                    clear hK K hHeld
                    have hHeld := hb
                    clear hb
                    (try simp only [Act.put, lq1, lq2, lq3, lq4, lq5, lq6])
                    refine seq_take hf (v := .bool false) (S := fun w' => Ok V4 w') rfl (Or.inl ⟨by rfl, ?_⟩) hHeld ?_
                    · intro w hSw; (try dsimp only at hSw); first | rfl | (go_simp; try with_reducible rfl)
                    (try simp only [Act.put, lq1, lq2, lq3, lq4, lq5, lq6])
                    refine seq_take hf (v := .bool false) (S := fun w' => Ok V4 w') rfl (Or.inl ⟨by rfl, ?_⟩) hHeld ?_
                    · intro w hSw; (try dsimp only at hSw); first | rfl | (go_simp; try with_reducible rfl)
                    (try simp only [Act.put, lq1, lq2, lq3, lq4, lq5, lq6])
                    refine seq_take hf (v := .bool false) (S := fun w' => Ok V4 w') rfl (Or.inl ⟨by rfl, ?_⟩) hHeld ?_
                    · intro w hSw; (try dsimp only at hSw); first | rfl | (go_simp; try with_reducible rfl)
                    (try simp only [Act.put, lq1, lq2, lq3, lq4, lq5, lq6])
                    refine seq_done hf ?_
                    go_wp2_with fail
                    go_meet
                    case rel => exact ⟨rfl, hHeld⟩
                  · refine seq_take hf (v := .bool true) (S := fun w' => Ok V4 w') rfl (Or.inl ⟨by rfl, ?_⟩) hHeld ?_
                    · intro w hSw; (try dsimp only at hSw); first | rfl | (go_simp; try with_reducible rfl)
                    (try simp only [Act.put, lq1, lq2, lq3, lq4, lq5, lq6])
                    refine seq_take hf (v := .agg #[.bool z.2.2.2.2, .int .i64 z.1, .int .i64 z.2.1, .int .u64 (z.2.2.1 : Int), .int .u64 (z.2.2.2.1 : Int)]) (S := fun w' => Ok V4 w') rfl (Or.inl ⟨by rfl, ?_⟩) hHeld ?_
                    · intro w hSw; (try dsimp only at hSw); obtain ⟨c0, c1, c2, c3, c4, -⟩ := row5_facts (Ok.row' hSw rz.out); (go_simp; try with_reducible rfl)
                    (try simp only [Act.put, lq1, lq2, lq3, lq4, lq5, lq6])
                    refine seq_take hf (v := .int .i64 v) (S := fun w' => Ok V4 w') rfl (Or.inl ⟨by rfl, ?_⟩) hHeld ?_
                    · intro w hSw; (try dsimp only at hSw); first | rfl | (go_simp; try with_reducible rfl)
                    (try simp only [Act.put, lq1, lq2, lq3, lq4, lq5, lq6])
                    refine seq_call hf rfl (by rfl) (fun K hK => ?_)
                    go_simp
                    refine (win_any z v RZ.out.1 HU.out.2.2.2 V4 _ hHeld).mono ?_
                    rintro e1 w' ⟨rfl, hb⟩
                    rw [IZ.out rfl]
                    (try dsimp only)
                    refine hK.out _ _ ?_
                    clear hK K hHeld
                    have hHeld := hb
                    clear hb
                    (try simp only [Act.put, lq1, lq2, lq3, lq4, lq5, lq6])
                    refine seq_take hf (v := .bool true) (S := fun w' => Ok V4 w') rfl (Or.inl ⟨by rfl, ?_⟩) hHeld ?_
                    · intro w hSw; (try dsimp only at hSw); first | rfl | (go_simp; try with_reducible rfl)
                    (try simp only [Act.put, lq1, lq2, lq3, lq4, lq5, lq6])
                    refine seq_take hf (v := .bool false) (S := fun w' => Ok V4 w') rfl (Or.inl ⟨by rfl, ?_⟩) hHeld ?_
                    · intro w hSw; (try dsimp only at hSw); (go_simp; try with_reducible rfl)
                    (try simp only [Act.put, lq1, lq2, lq3, lq4, lq5, lq6])
                    refine seq_take hf (v := .bool false) (S := fun w' => Ok V4 w') rfl (Or.inl ⟨by rfl, ?_⟩) hHeld ?_
                    · intro w hSw; (try dsimp only at hSw); first | rfl | (go_simp; try with_reducible rfl)
                    (try simp only [Act.put, lq1, lq2, lq3, lq4, lq5, lq6])
                    refine seq_take hf (v := .bool false) (S := fun w' => Ok V4 w') rfl (Or.inl ⟨by rfl, ?_⟩) hHeld ?_
                    · intro w hSw; (try dsimp only at hSw); first | rfl | (go_simp; try with_reducible rfl)
                    (try simp only [Act.put, lq1, lq2, lq3, lq4, lq5, lq6])
                    refine seq_take hf (v := .bool false) (S := fun w' => Ok V4 w') rfl (Or.inl ⟨by rfl, ?_⟩) hHeld ?_
                    · intro w hSw; (try dsimp only at hSw); first | rfl | (go_simp; try with_reducible rfl)
                    (try simp only [Act.put, lq1, lq2, lq3, lq4, lq5, lq6])
                    refine seq_take hf (v := .bool true) (S := fun w' => Ok V4 w') rfl (Or.inl ⟨by rfl, ?_⟩) hHeld ?_
                    · intro w hSw; (try dsimp only at hSw); first | rfl | (go_simp; try with_reducible rfl)
                    (try simp only [Act.put, lq1, lq2, lq3, lq4, lq5, lq6])
                    refine seq_take hf (v := .bool true) (S := fun w' => Ok V4 w') rfl (Or.inl ⟨by rfl, ?_⟩) hHeld ?_
                    · intro w hSw; (try dsimp only at hSw); first | rfl | (go_simp; try with_reducible rfl)
                    (try simp only [Act.put, lq1, lq2, lq3, lq4, lq5, lq6])
                    refine seq_call hf rfl (by rfl) (fun K hK => ?_)
                    go_simp
                    refine (ntop_any V4 _ hHeld).mono ?_
                    rintro e1 w' ⟨rfl, hb⟩
                    (try dsimp only)
                    refine hK.out _ _ ?_
                    clear hK K hHeld
                    have hHeld := hb
                    clear hb
                    (try simp only [Act.put, lq1, lq2, lq3, lq4, lq5, lq6])
                    refine seq_take hf (v := .int .i64 v) (S := fun w' => Ok V4 w') rfl (Or.inl ⟨by rfl, ?_⟩) hHeld ?_
                    · intro w hSw; (try dsimp only at hSw); first | rfl | (go_simp; try with_reducible rfl)
                    (try simp only [Act.put, lq1, lq2, lq3, lq4, lq5, lq6])
                    refine seq_call hf rfl (by rfl) (fun K hK => ?_)
                    go_simp
                    refine (win_any topN v top_raw HU.out.2.2.2 V4 _ hHeld).mono ?_
                    rintro e1 w' ⟨rfl, hb⟩
                    rw [ITV.out]
                    (try dsimp only)
                    refine hK.out _ _ ?_
                    clear hK K hHeld
                    have hHeld := hb
                    clear hb
                    (try simp only [Act.put, lq1, lq2, lq3, lq4, lq5, lq6])
                    refine seq_take hf (v := .bool false) (S := fun w' => Ok V4 w') rfl (Or.inl ⟨by rfl, ?_⟩) hHeld ?_
                    · intro w hSw; (try dsimp only at hSw); first | rfl | (go_simp; try with_reducible rfl)
                    (try simp only [Act.put, lq1, lq2, lq3, lq4, lq5, lq6])
                    refine seq_take hf (v := .bool false) (S := fun w' => Ok V4 w') rfl (Or.inl ⟨by rfl, ?_⟩) hHeld ?_
                    · intro w hSw; (try dsimp only at hSw); first | rfl | (go_simp; try with_reducible rfl)
                    (try simp only [Act.put, lq1, lq2, lq3, lq4, lq5, lq6])
                    refine seq_take hf (v := .bool false) (S := fun w' => Ok V4 w') rfl (Or.inl ⟨by rfl, ?_⟩) hHeld ?_
                    · intro w hSw; (try dsimp only at hSw); first | rfl | (go_simp; try with_reducible rfl)
                    (try simp only [Act.put, lq1, lq2, lq3, lq4, lq5, lq6])
                    refine seq_done hf ?_
                    go_wp2_with fail
                    go_meet
                    case rel => exact ⟨rfl, hHeld⟩
          case rest =>
            obtain ⟨h122, hO⟩ := hcut.out
            subst h122
            obtain ⟨V5, ew⟩ : ∃ t, t = wc := ⟨_, rfl⟩
            rw [← ew] at hO ⊢
            clear hcut ew
            replace ra : Hid _ := Ok.row' hO ra.out
            replace rb : Hid _ := Ok.row' hO rb.out
            replace rc : Hid _ := Ok.row' hO rc.out
            replace rx : Hid _ := Ok.row' hO rx.out
            replace ry : Hid _ := Ok.row' hO ry.out
            replace rj : Hid _ := Ok.row' hO rj.out
            replace rm : Hid _ := Ok.row' hO rm.out
            replace rz : Hid _ := Ok.row' hO rz.out
            have HV5 : Hid (Ok w0 V5) := HV4.out.step hO
            clear hO HV4
            go_wp2_with fail
            obtain ⟨sm, hsm⟩ : ∃ t, t = someN x v := ⟨_, rfl⟩
            have HSM : Hid _ := hsm
            clear hsm
            go_cut [132, 133, 134] from 123 to 134 (fun s132 s133 s134 u => Hid (∃ gl : Nat, s132 = .slice (some ⟨gl, 0, none⟩) 3 3 ∧ s133 = .int .i64 3 ∧ s134 = .int .i64 0 ∧ u.heap[gl]? = some (.cells #[.int .i64 x.1, .int .i64 x.2.1, .int .i64 sm] 2) ∧ Ok V5 u))
            case first =>
              as_aux_lemma =>
                have zz := row5_facts (rx.out)
                have xx0 := zz.1
                have xx1 := zz.2.1
                have xx2 := zz.2.2.1
                have xx3 := zz.2.2.2.1
                have xx4 := zz.2.2.2.2.1
                have xx5 := zz.2.2.2.2.2.1
                have xx6 := zz.2.2.2.2.2.2.1
                have xx7 := zz.2.2.2.2.2.2.2.1
                have xx8 := zz.2.2.2.2.2.2.2.2.1
                have xx9 := zz.2.2.2.2.2.2.2.2.2
                clear zz
                have zx := lt_row rx.out
                have bz : Ok V5 V5 := Ok.refl _
                go_region_held3 (fun w' => w'.cell? ⟨gx, 0, none⟩ = some (.bool x.2.2.2.2) ∧ w'.cell? ⟨gx, 1, none⟩ = some (.int .i64 x.1) ∧ w'.cell? ⟨gx, 2, none⟩ = some (.int .i64 x.2.1) ∧ w'.cell? ⟨gx, 3, none⟩ = some (.int .u64 (x.2.2.1 : Int)) ∧ w'.cell? ⟨gx, 4, none⟩ = some (.int .u64 (x.2.2.2.1 : Int))) (go_keep)
                  (first
                  | (go_at_call 18; refine (wsome_any x v RX.out.1 RX.out.2 HU.out.2.2.2 V5 _ (by repeat (first | assumption | refine Ok.alloc ?_ _ | refine Below.drew ?_))).mono ?_; rintro e w' ⟨rfl, hb⟩; rw [← HSM.out]; have q0 := Ok.cell hb zx xx0; have q1 := Ok.cell hb zx xx1; have q2 := Ok.cell hb zx xx2; have q3 := Ok.cell hb zx xx3; have q4 := Ok.cell hb zx xx4)
                  | fail)
                go_wp2_with fail
                go_meet
                case rel => exact ⟨w'.heap.size, rfl, rfl, rfl, heap_new0 _ _, hb.alloc _⟩
            case rest =>
              obtain ⟨gl, h132, h133, h134, rl0, hO⟩ := hcut.out
              subst h132
              subst h133
              subst h134
              obtain ⟨V6, ew⟩ : ∃ t, t = wc := ⟨_, rfl⟩
              rw [← ew] at rl0 hO ⊢
              clear hcut ew
              have rl : Hid _ := rl0
              clear rl0
              replace ra : Hid _ := Ok.row' hO ra.out
              replace rb : Hid _ := Ok.row' hO rb.out
              replace rc : Hid _ := Ok.row' hO rc.out
              replace rx : Hid _ := Ok.row' hO rx.out
              replace ry : Hid _ := Ok.row' hO ry.out
              replace rj : Hid _ := Ok.row' hO rj.out
              replace rm : Hid _ := Ok.row' hO rm.out
              replace rz : Hid _ := Ok.row' hO rz.out
              have HV6 : Hid (Ok w0 V6) := HV5.out.step hO
              clear hO HV5
              go_wp2_with fail
              have HEL : Hid (∀ e, e = x.1 ∨ e = x.2.1 ∨ e = sm → In64 e ∧ (x.2.2.2.2 = false → insN a e = true ∧ insN m e = insN b e ∧ insN j e = true ∧ (lqN a b = true → insN b e = true))) := by
                unfold Hid
                exact forms_el HU.out.1 HU.out.2.1 HU.out.2.2.2 HX.out HM.out HJ.out HSM.out
              go_loopw [134] (fun s wr => ∃ k : Nat, k ≤ 3 ∧ s = .int .i64 (k : Int) ∧ Hid (Ok V6 wr)) (fun s _ => (3 - intOf s).toNat)
              case atStart => exact ⟨0, by omega, rfl, Ok.refl _⟩
              case round =>
                obtain ⟨k, hk, rfl, HK⟩ := hrel
                replace ra : Hid _ := Ok.row' HK.out ra.out
                replace rb : Hid _ := Ok.row' HK.out rb.out
                replace rc : Hid _ := Ok.row' HK.out rc.out
                replace rx : Hid _ := Ok.row' HK.out rx.out
                replace ry : Hid _ := Ok.row' HK.out ry.out
                replace rj : Hid _ := Ok.row' HK.out rj.out
                replace rm : Hid _ := Ok.row' HK.out rm.out
                replace rz : Hid _ := Ok.row' HK.out rz.out
                replace rl : Hid _ := Ok.row' HK.out rl.out
                by_cases k3 : k < 3
                · have k3i : (k : Int) < 3 := by omega
                  have k0i : (0 : Int) ≤ (k : Int) := by omega
                  obtain ⟨e, he, ce⟩ := forms_cell rl.out k3
                  have IE : Hid _ := HEL.out e he
                  clear he HEL
                  go_upto_region 13 with (fail)
                  go_cut [172] from 138 to 172 (fun s172 u => Hid (s172 = .bool false ∧ Ok wr u))
                  case first =>
                    as_aux_lemma =>
                      have zz := row5_facts (ra.out)
                      have aa0 := zz.1
                      have aa1 := zz.2.1
                      have aa2 := zz.2.2.1
                      have aa3 := zz.2.2.2.1
                      have aa4 := zz.2.2.2.2.1
                      have aa5 := zz.2.2.2.2.2.1
                      have aa6 := zz.2.2.2.2.2.2.1
                      have aa7 := zz.2.2.2.2.2.2.2.1
                      have aa8 := zz.2.2.2.2.2.2.2.2.1
                      have aa9 := zz.2.2.2.2.2.2.2.2.2
                      clear zz
                      have za := lt_row ra.out
                      have zz := row5_facts (rb.out)
                      have bb0 := zz.1
                      have bb1 := zz.2.1
                      have bb2 := zz.2.2.1
                      have bb3 := zz.2.2.2.1
                      have bb4 := zz.2.2.2.2.1
                      have bb5 := zz.2.2.2.2.2.1
                      have bb6 := zz.2.2.2.2.2.2.1
                      have bb7 := zz.2.2.2.2.2.2.2.1
                      have bb8 := zz.2.2.2.2.2.2.2.2.1
                      have bb9 := zz.2.2.2.2.2.2.2.2.2
                      clear zz
                      have zb := lt_row rb.out
                      have zz := row5_facts (rx.out)
                      have xx0 := zz.1
                      have xx1 := zz.2.1
                      have xx2 := zz.2.2.1
                      have xx3 := zz.2.2.2.1
                      have xx4 := zz.2.2.2.2.1
                      have xx5 := zz.2.2.2.2.2.1
                      have xx6 := zz.2.2.2.2.2.2.1
                      have xx7 := zz.2.2.2.2.2.2.2.1
                      have xx8 := zz.2.2.2.2.2.2.2.2.1
                      have xx9 := zz.2.2.2.2.2.2.2.2.2
                      clear zz
                      have zx := lt_row rx.out
                      have zz := row5_facts (rj.out)
                      have jj0 := zz.1
                      have jj1 := zz.2.1
                      have jj2 := zz.2.2.1
                      have jj3 := zz.2.2.2.1
                      have jj4 := zz.2.2.2.2.1
                      have jj5 := zz.2.2.2.2.2.1
                      have jj6 := zz.2.2.2.2.2.2.1
                      have jj7 := zz.2.2.2.2.2.2.2.1
                      have jj8 := zz.2.2.2.2.2.2.2.2.1
                      have jj9 := zz.2.2.2.2.2.2.2.2.2
                      clear zz
                      have zj := lt_row rj.out
                      have zz := row5_facts (rm.out)
                      have mm0 := zz.1
                      have mm1 := zz.2.1
                      have mm2 := zz.2.2.1
                      have mm3 := zz.2.2.2.1
                      have mm4 := zz.2.2.2.2.1
                      have mm5 := zz.2.2.2.2.2.1
                      have mm6 := zz.2.2.2.2.2.2.1
                      have mm7 := zz.2.2.2.2.2.2.2.1
                      have mm8 := zz.2.2.2.2.2.2.2.2.1
                      have mm9 := zz.2.2.2.2.2.2.2.2.2
                      clear zz
                      have zm := lt_row rm.out
                      have bz : Ok wr wr := Ok.refl _
                      cases hxb : x.2.2.2.2
                      · rw [hxb] at xx0
                        obtain ⟨t, ht⟩ : ∃ t, t = insN b e := ⟨_, rfl⟩
                        have HT : Hid _ := ht
                        have IA : Hid _ := (IE.out.2 hxb).1
                        have IMe : Hid (insN m e = t) := by unfold Hid; rw [HT.out]; exact (IE.out.2 hxb).2.1
                        have IJe : Hid _ := (IE.out.2 hxb).2.2.1
                        have IBe : Hid (lqN a b = true → t = true) := by unfold Hid; rw [HT.out]; exact (IE.out.2 hxb).2.2.2
                        clear ht hxb
                        cases hl : lqN a b
                        · have HL : Hid _ := hl
                          clear hl IBe
                          refine wp_region_held_drew (S := (fun w' => w'.cell? ⟨ga, 0, none⟩ = some (.bool a.2.2.2.2) ∧ w'.cell? ⟨ga, 1, none⟩ = some (.int .i64 a.1) ∧ w'.cell? ⟨ga, 2, none⟩ = some (.int .i64 a.2.1) ∧ w'.cell? ⟨ga, 3, none⟩ = some (.int .u64 (a.2.2.1 : Int)) ∧ w'.cell? ⟨ga, 4, none⟩ = some (.int .u64 (a.2.2.2.1 : Int)) ∧ w'.cell? ⟨gb, 0, none⟩ = some (.bool b.2.2.2.2) ∧ w'.cell? ⟨gb, 1, none⟩ = some (.int .i64 b.1) ∧ w'.cell? ⟨gb, 2, none⟩ = some (.int .i64 b.2.1) ∧ w'.cell? ⟨gb, 3, none⟩ = some (.int .u64 (b.2.2.1 : Int)) ∧ w'.cell? ⟨gb, 4, none⟩ = some (.int .u64 (b.2.2.2.1 : Int)) ∧ w'.cell? ⟨gx, 0, none⟩ = some (.bool false) ∧ w'.cell? ⟨gx, 1, none⟩ = some (.int .i64 x.1) ∧ w'.cell? ⟨gx, 2, none⟩ = some (.int .i64 x.2.1) ∧ w'.cell? ⟨gx, 3, none⟩ = some (.int .u64 (x.2.2.1 : Int)) ∧ w'.cell? ⟨gx, 4, none⟩ = some (.int .u64 (x.2.2.2.1 : Int)) ∧ w'.cell? ⟨gj, 0, none⟩ = some (.bool j.2.2.2.2) ∧ w'.cell? ⟨gj, 1, none⟩ = some (.int .i64 j.1) ∧ w'.cell? ⟨gj, 2, none⟩ = some (.int .i64 j.2.1) ∧ w'.cell? ⟨gj, 3, none⟩ = some (.int .u64 (j.2.2.1 : Int)) ∧ w'.cell? ⟨gj, 4, none⟩ = some (.int .u64 (j.2.2.2.1 : Int)) ∧ w'.cell? ⟨gm, 0, none⟩ = some (.bool m.2.2.2.2) ∧ w'.cell? ⟨gm, 1, none⟩ = some (.int .i64 m.1) ∧ w'.cell? ⟨gm, 2, none⟩ = some (.int .i64 m.2.1) ∧ w'.cell? ⟨gm, 3, none⟩ = some (.int .u64 (m.2.2.1 : Int)) ∧ w'.cell? ⟨gm, 4, none⟩ = some (.int .u64 (m.2.2.2.1 : Int)))) (by kernel_rfl) (by (try dsimp only); go_keep) (fun hHeld => ?_)
                          refine wpAnyH_take (i := 0) (v := ?_) rfl (by kernel_rfl) (by kernel_rfl) (by kernel_rfl) (fun _ _ _ h => h) (Or.inl ⟨by rfl, ?_⟩) (by assumption) ?_
                          rotate_left
                          · intro w hSw; (try dsimp only at hSw); first | (go_simp; done) | (go_simp; with_reducible rfl)
                          (try simp only [Act.put, lq1, lq2, lq3, lq4, lq5, lq6])
                          refine wpAnyH_take (i := 1) (v := ?_) rfl (by kernel_rfl) (by kernel_rfl) (by kernel_rfl) (fun _ _ _ h => h) (Or.inl ⟨by rfl, ?_⟩) (by assumption) ?_
                          rotate_left
                          · intro w hSw; (try dsimp only at hSw); first | (go_simp; done) | (go_simp; with_reducible rfl)
                          (try simp only [Act.put, lq1, lq2, lq3, lq4, lq5, lq6])
                          refine wpAnyH_take (i := 2) (v := ?_) rfl (by kernel_rfl) (by kernel_rfl) (by kernel_rfl) (fun _ _ _ h => h) (Or.inl ⟨by rfl, ?_⟩) (by assumption) ?_
                          rotate_left
                          · intro w hSw; (try dsimp only at hSw); first | (go_simp; done) | (go_simp; with_reducible rfl)
                          (try simp only [Act.put, lq1, lq2, lq3, lq4, lq5, lq6])
                          refine wpAnyH_take (i := 3) (v := ?_) rfl (by kernel_rfl) (by kernel_rfl) (by kernel_rfl) (fun _ _ _ h => h) (Or.inl ⟨by rfl, ?_⟩) (by assumption) ?_
                          rotate_left
                          · intro w hSw; (try dsimp only at hSw); first | (go_simp; done) | (go_simp; with_reducible rfl)
                          (try simp only [Act.put, lq1, lq2, lq3, lq4, lq5, lq6])
                          refine wpAnyH_take (i := 4) (v := ?_) rfl (by kernel_rfl) (by kernel_rfl) (by kernel_rfl) (fun _ _ _ h => h) (Or.inl ⟨by rfl, ?_⟩) (by assumption) ?_
                          rotate_left
                          · intro w hSw; (try dsimp only at hSw); first | (go_simp; done) | (go_simp; with_reducible rfl)
                          (try simp only [Act.put, lq1, lq2, lq3, lq4, lq5, lq6])
                          refine wpAnyH_take (i := 5) (v := ?_) rfl (by kernel_rfl) (by kernel_rfl) (by kernel_rfl) (fun _ _ _ h => h) (Or.inl ⟨by rfl, ?_⟩) (by assumption) ?_
                          rotate_left
                          · intro w hSw; (try dsimp only at hSw); first | (go_simp; done) | (go_simp; with_reducible rfl)
                          (try simp only [Act.put, lq1, lq2, lq3, lq4, lq5, lq6])
                          refine wpAnyH_ready (rs := [6]) (by kernel_rfl) (by simp) ?_
                          refine AllReadyH.cons rfl (fun K hK => ?_) AllReadyH.nil
                          go_simp
                          refine (win_any _ e (by first | exact HU.out.1 | exact HU.out.2.1 | exact HU.out.2.2.1 | exact RX.out.1 | exact RY.out.1 | exact RJ.out.1 | exact RM.out.1 | exact RZ.out.1) IE.out.1 wr _ (by repeat (first | assumption | refine Ok.alloc ?_ _ | refine Below.drew ?_))).mono ?_
                          rintro e1 w' ⟨rfl, hb⟩
                          (first | rw [IA.out] | rw [IMe.out] | rw [← HT.out] | rw [IJe.out])
                          have q0 := Ok.cell hb za aa0
                          have q1 := Ok.cell hb za aa1
                          have q2 := Ok.cell hb za aa2
                          have q3 := Ok.cell hb za aa3
                          have q4 := Ok.cell hb za aa4
                          have q5 := Ok.cell hb zb bb0
                          have q6 := Ok.cell hb zb bb1
                          have q7 := Ok.cell hb zb bb2
                          have q8 := Ok.cell hb zb bb3
                          have q9 := Ok.cell hb zb bb4
                          have q10 := Ok.cell hb zx xx0
                          have q11 := Ok.cell hb zx xx1
                          have q12 := Ok.cell hb zx xx2
                          have q13 := Ok.cell hb zx xx3
                          have q14 := Ok.cell hb zx xx4
                          have q15 := Ok.cell hb zj jj0
                          have q16 := Ok.cell hb zj jj1
                          have q17 := Ok.cell hb zj jj2
                          have q18 := Ok.cell hb zj jj3
                          have q19 := Ok.cell hb zj jj4
                          have q20 := Ok.cell hb zm mm0
                          have q21 := Ok.cell hb zm mm1
                          have q22 := Ok.cell hb zm mm2
                          have q23 := Ok.cell hb zm mm3
                          have q24 := Ok.cell hb zm mm4
                          go_wp2_with fail
                          refine hK.out _ _ (by (try dsimp only); go_keep) (fun hHeld => ?_)
                          clear hK K
                          (try simp only [Act.put, lq1, lq2, lq3, lq4, lq5, lq6])
                          refine wpAnyH_take (i := 7) (v := ?_) rfl (by kernel_rfl) (by kernel_rfl) (by kernel_rfl) (fun _ _ _ h => h) (Or.inl ⟨by rfl, ?_⟩) (by assumption) ?_
                          rotate_left
                          · intro w hSw; (try dsimp only at hSw); first | (go_simp; done) | (go_simp; with_reducible rfl)
                          (try simp only [Act.put, lq1, lq2, lq3, lq4, lq5, lq6])
                          refine wpAnyH_take (i := 8) (v := ?_) rfl (by kernel_rfl) (by kernel_rfl) (by kernel_rfl) (fun _ _ _ h => h) (Or.inl ⟨by rfl, ?_⟩) (by assumption) ?_
                          rotate_left
                          · intro w hSw; (try dsimp only at hSw); first | (go_simp; done) | (go_simp; with_reducible rfl)
                          (try simp only [Act.put, lq1, lq2, lq3, lq4, lq5, lq6])
                          refine wpAnyH_take (i := 9) (v := ?_) rfl (by kernel_rfl) (by kernel_rfl) (by kernel_rfl) (fun _ _ _ h => h) (Or.inl ⟨by rfl, ?_⟩) (by assumption) ?_
                          rotate_left
                          · intro w hSw; (try dsimp only at hSw); first | (go_simp; done) | (go_simp; with_reducible rfl)
                          (try simp only [Act.put, lq1, lq2, lq3, lq4, lq5, lq6])
                          refine wpAnyH_take (i := 10) (v := ?_) rfl (by kernel_rfl) (by kernel_rfl) (by kernel_rfl) (fun _ _ _ h => h) (Or.inl ⟨by rfl, ?_⟩) (by assumption) ?_
                          rotate_left
                          · intro w hSw; (try dsimp only at hSw); first | (go_simp; done) | (go_simp; with_reducible rfl)
                          (try simp only [Act.put, lq1, lq2, lq3, lq4, lq5, lq6])
                          refine wpAnyH_ready (rs := [11]) (by kernel_rfl) (by simp) ?_
                          refine AllReadyH.cons rfl (fun K hK => ?_) AllReadyH.nil
                          go_simp
                          refine (nleq_any a b HU.out.1 HU.out.2.1 wr _ (by repeat (first | assumption | refine Ok.alloc ?_ _ | refine Below.drew ?_))).mono ?_
                          rintro e1 w' ⟨rfl, hb⟩
                          rw [HL.out]
                          have q0 := Ok.cell hb za aa0
                          have q1 := Ok.cell hb za aa1
                          have q2 := Ok.cell hb za aa2
                          have q3 := Ok.cell hb za aa3
                          have q4 := Ok.cell hb za aa4
                          have q5 := Ok.cell hb zb bb0
                          have q6 := Ok.cell hb zb bb1
                          have q7 := Ok.cell hb zb bb2
                          have q8 := Ok.cell hb zb bb3
                          have q9 := Ok.cell hb zb bb4
                          have q10 := Ok.cell hb zx xx0
                          have q11 := Ok.cell hb zx xx1
                          have q12 := Ok.cell hb zx xx2
                          have q13 := Ok.cell hb zx xx3
                          have q14 := Ok.cell hb zx xx4
                          have q15 := Ok.cell hb zj jj0
                          have q16 := Ok.cell hb zj jj1
                          have q17 := Ok.cell hb zj jj2
                          have q18 := Ok.cell hb zj jj3
                          have q19 := Ok.cell hb zj jj4
                          have q20 := Ok.cell hb zm mm0
                          have q21 := Ok.cell hb zm mm1
                          have q22 := Ok.cell hb zm mm2
                          have q23 := Ok.cell hb zm mm3
                          have q24 := Ok.cell hb zm mm4
                          go_wp2_with fail
                          refine hK.out _ _ (by (try dsimp only); go_keep) (fun hHeld => ?_)
                          clear hK K
                          (try simp only [Act.put, lq1, lq2, lq3, lq4, lq5, lq6])
                          refine wpAnyH_take (i := 12) (v := ?_) rfl (by kernel_rfl) (by kernel_rfl) (by kernel_rfl) (fun _ _ _ h => h) (Or.inl ⟨by rfl, ?_⟩) (by assumption) ?_
                          rotate_left
                          · intro w hSw; (try dsimp only at hSw); first | (go_simp; done) | (go_simp; with_reducible rfl)
                          (try simp only [Act.put, lq1, lq2, lq3, lq4, lq5, lq6])
                          refine wpAnyH_take (i := 13) (v := undef) rfl (by kernel_rfl) (by kernel_rfl) (by kernel_rfl) (fun _ _ _ h => h) (Or.inr ⟨by rfl, rfl⟩) (by assumption) ?_
                          (try simp only [Act.put, lq1, lq2, lq3, lq4, lq5, lq6])
                          refine wpAnyH_take (i := 14) (v := undef) rfl (by kernel_rfl) (by kernel_rfl) (by kernel_rfl) (fun _ _ _ h => h) (Or.inr ⟨by rfl, rfl⟩) (by assumption) ?_
                          (try simp only [Act.put, lq1, lq2, lq3, lq4, lq5, lq6])
                          refine wpAnyH_take (i := 15) (v := undef) rfl (by kernel_rfl) (by kernel_rfl) (by kernel_rfl) (fun _ _ _ h => h) (Or.inr ⟨by rfl, rfl⟩) (by assumption) ?_
                          (try simp only [Act.put, lq1, lq2, lq3, lq4, lq5, lq6])
                          refine wpAnyH_take (i := 16) (v := undef) rfl (by kernel_rfl) (by kernel_rfl) (by kernel_rfl) (fun _ _ _ h => h) (Or.inr ⟨by rfl, rfl⟩) (by assumption) ?_
                          (try simp only [Act.put, lq1, lq2, lq3, lq4, lq5, lq6])
                          refine wpAnyH_take (i := 17) (v := ?_) rfl (by kernel_rfl) (by kernel_rfl) (by kernel_rfl) (fun _ _ _ h => h) (Or.inl ⟨by rfl, ?_⟩) (by assumption) ?_
                          rotate_left
                          · intro w hSw; (try dsimp only at hSw); first | (go_simp; done) | (go_simp; with_reducible rfl)
                          (try simp only [Act.put, lq1, lq2, lq3, lq4, lq5, lq6])
                          refine wpAnyH_take (i := 18) (v := ?_) rfl (by kernel_rfl) (by kernel_rfl) (by kernel_rfl) (fun _ _ _ h => h) (Or.inl ⟨by rfl, ?_⟩) (by assumption) ?_
                          rotate_left
                          · intro w hSw; (try dsimp only at hSw); first | (go_simp; done) | (go_simp; with_reducible rfl)
                          (try simp only [Act.put, lq1, lq2, lq3, lq4, lq5, lq6])
                          refine wpAnyH_take (i := 19) (v := ?_) rfl (by kernel_rfl) (by kernel_rfl) (by kernel_rfl) (fun _ _ _ h => h) (Or.inl ⟨by rfl, ?_⟩) (by assumption) ?_
                          rotate_left
                          · intro w hSw; (try dsimp only at hSw); first | (go_simp; done) | (go_simp; with_reducible rfl)
                          (try simp only [Act.put, lq1, lq2, lq3, lq4, lq5, lq6])
                          refine wpAnyH_take (i := 20) (v := ?_) rfl (by kernel_rfl) (by kernel_rfl) (by kernel_rfl) (fun _ _ _ h => h) (Or.inl ⟨by rfl, ?_⟩) (by assumption) ?_
                          rotate_left
                          · intro w hSw; (try dsimp only at hSw); first | (go_simp; done) | (go_simp; with_reducible rfl)
                          (try simp only [Act.put, lq1, lq2, lq3, lq4, lq5, lq6])
                          refine wpAnyH_take (i := 21) (v := ?_) rfl (by kernel_rfl) (by kernel_rfl) (by kernel_rfl) (fun _ _ _ h => h) (Or.inl ⟨by rfl, ?_⟩) (by assumption) ?_
                          rotate_left
                          · intro w hSw; (try dsimp only at hSw); first | (go_simp; done) | (go_simp; with_reducible rfl)
                          (try simp only [Act.put, lq1, lq2, lq3, lq4, lq5, lq6])
                          refine wpAnyH_take (i := 23) (v := ?_) rfl (by kernel_rfl) (by kernel_rfl) (by kernel_rfl) (fun _ _ _ h => h) (Or.inl ⟨by rfl, ?_⟩) (by assumption) ?_
                          rotate_left
                          · intro w hSw; (try dsimp only at hSw); first | (go_simp; done) | (go_simp; with_reducible rfl)
                          (try simp only [Act.put, lq1, lq2, lq3, lq4, lq5, lq6])
                          refine wpAnyH_take (i := 24) (v := ?_) rfl (by kernel_rfl) (by kernel_rfl) (by kernel_rfl) (fun _ _ _ h => h) (Or.inl ⟨by rfl, ?_⟩) (by assumption) ?_
                          rotate_left
                          · intro w hSw; (try dsimp only at hSw); first | (go_simp; done) | (go_simp; with_reducible rfl)
                          (try simp only [Act.put, lq1, lq2, lq3, lq4, lq5, lq6])
                          refine wpAnyH_ready (rs := [22]) (by kernel_rfl) (by simp) ?_
                          refine AllReadyH.cons rfl (fun K hK => ?_) AllReadyH.nil
                          go_simp
                          refine (win_any _ e (by first | exact HU.out.1 | exact HU.out.2.1 | exact HU.out.2.2.1 | exact RX.out.1 | exact RY.out.1 | exact RJ.out.1 | exact RM.out.1 | exact RZ.out.1) IE.out.1 wr _ (by repeat (first | assumption | refine Ok.alloc ?_ _ | refine Below.drew ?_))).mono ?_
                          rintro e1 w' ⟨rfl, hb⟩
                          (first | rw [IA.out] | rw [IMe.out] | rw [← HT.out] | rw [IJe.out])
                          have q0 := Ok.cell hb za aa0
                          have q1 := Ok.cell hb za aa1
                          have q2 := Ok.cell hb za aa2
                          have q3 := Ok.cell hb za aa3
                          have q4 := Ok.cell hb za aa4
                          have q5 := Ok.cell hb zb bb0
                          have q6 := Ok.cell hb zb bb1
                          have q7 := Ok.cell hb zb bb2
                          have q8 := Ok.cell hb zb bb3
                          have q9 := Ok.cell hb zb bb4
                          have q10 := Ok.cell hb zx xx0
                          have q11 := Ok.cell hb zx xx1
                          have q12 := Ok.cell hb zx xx2
                          have q13 := Ok.cell hb zx xx3
                          have q14 := Ok.cell hb zx xx4
                          have q15 := Ok.cell hb zj jj0
                          have q16 := Ok.cell hb zj jj1
                          have q17 := Ok.cell hb zj jj2
                          have q18 := Ok.cell hb zj jj3
                          have q19 := Ok.cell hb zj jj4
                          have q20 := Ok.cell hb zm mm0
                          have q21 := Ok.cell hb zm mm1
                          have q22 := Ok.cell hb zm mm2
                          have q23 := Ok.cell hb zm mm3
                          have q24 := Ok.cell hb zm mm4
                          go_wp2_with fail
                          refine hK.out _ _ (by (try dsimp only); go_keep) (fun hHeld => ?_)
                          clear hK K
                          (try simp only [Act.put, lq1, lq2, lq3, lq4, lq5, lq6])
                          refine wpAnyH_ready (rs := [25]) (by kernel_rfl) (by simp) ?_
                          refine AllReadyH.cons rfl (fun K hK => ?_) AllReadyH.nil
                          go_simp
                          refine (win_any _ e (by first | exact HU.out.1 | exact HU.out.2.1 | exact HU.out.2.2.1 | exact RX.out.1 | exact RY.out.1 | exact RJ.out.1 | exact RM.out.1 | exact RZ.out.1) IE.out.1 wr _ (by repeat (first | assumption | refine Ok.alloc ?_ _ | refine Below.drew ?_))).mono ?_
                          rintro e1 w' ⟨rfl, hb⟩
                          (first | rw [IA.out] | rw [IMe.out] | rw [← HT.out] | rw [IJe.out])
                          have q0 := Ok.cell hb za aa0
                          have q1 := Ok.cell hb za aa1
                          have q2 := Ok.cell hb za aa2
                          have q3 := Ok.cell hb za aa3
                          have q4 := Ok.cell hb za aa4
                          have q5 := Ok.cell hb zb bb0
                          have q6 := Ok.cell hb zb bb1
                          have q7 := Ok.cell hb zb bb2
                          have q8 := Ok.cell hb zb bb3
                          have q9 := Ok.cell hb zb bb4
                          have q10 := Ok.cell hb zx xx0
                          have q11 := Ok.cell hb zx xx1
                          have q12 := Ok.cell hb zx xx2
                          have q13 := Ok.cell hb zx xx3
                          have q14 := Ok.cell hb zx xx4
                          have q15 := Ok.cell hb zj jj0
                          have q16 := Ok.cell hb zj jj1
                          have q17 := Ok.cell hb zj jj2
                          have q18 := Ok.cell hb zj jj3
                          have q19 := Ok.cell hb zj jj4
                          have q20 := Ok.cell hb zm mm0
                          have q21 := Ok.cell hb zm mm1
                          have q22 := Ok.cell hb zm mm2
                          have q23 := Ok.cell hb zm mm3
                          have q24 := Ok.cell hb zm mm4
                          go_wp2_with fail
                          refine hK.out _ _ (by (try dsimp only); go_keep) (fun hHeld => ?_)
                          clear hK K
                          (try simp only [Act.put, lq1, lq2, lq3, lq4, lq5, lq6])
                          refine wpAnyH_take (i := 26) (v := ?_) rfl (by kernel_rfl) (by kernel_rfl) (by kernel_rfl) (fun _ _ _ h => h) (Or.inl ⟨by rfl, ?_⟩) (by assumption) ?_
                          rotate_left
                          · intro w hSw; (try dsimp only at hSw); first | (go_simp; done) | (go_simp; with_reducible rfl)
                          (try simp only [Act.put, lq1, lq2, lq3, lq4, lq5, lq6])
                          refine wpAnyH_take (i := 27) (v := ?_) rfl (by kernel_rfl) (by kernel_rfl) (by kernel_rfl) (fun _ _ _ h => h) (Or.inl ⟨by rfl, ?_⟩) (by assumption) ?_
                          rotate_left
                          · intro w hSw; (try dsimp only at hSw); first | (go_simp; done) | (go_simp; with_reducible rfl)
                          (try simp only [Act.put, lq1, lq2, lq3, lq4, lq5, lq6])
                          refine wpAnyH_take (i := 28) (v := ?_) rfl (by kernel_rfl) (by kernel_rfl) (by kernel_rfl) (fun _ _ _ h => h) (Or.inl ⟨by rfl, ?_⟩) (by assumption) ?_
                          rotate_left
                          · intro w hSw; (try dsimp only at hSw); first | (go_simp; done) | (go_simp; with_reducible rfl)
                          (try simp only [Act.put, lq1, lq2, lq3, lq4, lq5, lq6])
                          refine wpAnyH_take (i := 29) (v := ?_) rfl (by kernel_rfl) (by kernel_rfl) (by kernel_rfl) (fun _ _ _ h => h) (Or.inl ⟨by rfl, ?_⟩) (by assumption) ?_
                          rotate_left
                          · intro w hSw; (try dsimp only at hSw); first | (go_simp; done) | (go_simp; with_reducible rfl)
                          (try simp only [Act.put, lq1, lq2, lq3, lq4, lq5, lq6])
                          refine wpAnyH_take (i := 30) (v := ?_) rfl (by kernel_rfl) (by kernel_rfl) (by kernel_rfl) (fun _ _ _ h => h) (Or.inl ⟨by rfl, ?_⟩) (by assumption) ?_
                          rotate_left
                          · intro w hSw; (try dsimp only at hSw); first | (go_simp; done) | (go_simp; with_reducible rfl)
                          (try simp only [Act.put, lq1, lq2, lq3, lq4, lq5, lq6])
                          refine wpAnyH_ready (rs := [31]) (by kernel_rfl) (by simp) ?_
                          refine AllReadyH.cons rfl (fun K hK => ?_) AllReadyH.nil
                          go_simp
                          refine (win_any _ e (by first | exact HU.out.1 | exact HU.out.2.1 | exact HU.out.2.2.1 | exact RX.out.1 | exact RY.out.1 | exact RJ.out.1 | exact RM.out.1 | exact RZ.out.1) IE.out.1 wr _ (by repeat (first | assumption | refine Ok.alloc ?_ _ | refine Below.drew ?_))).mono ?_
                          rintro e1 w' ⟨rfl, hb⟩
                          (first | rw [IA.out] | rw [IMe.out] | rw [← HT.out] | rw [IJe.out])
                          have q0 := Ok.cell hb za aa0
                          have q1 := Ok.cell hb za aa1
                          have q2 := Ok.cell hb za aa2
                          have q3 := Ok.cell hb za aa3
                          have q4 := Ok.cell hb za aa4
                          have q5 := Ok.cell hb zb bb0
                          have q6 := Ok.cell hb zb bb1
                          have q7 := Ok.cell hb zb bb2
                          have q8 := Ok.cell hb zb bb3
                          have q9 := Ok.cell hb zb bb4
                          have q10 := Ok.cell hb zx xx0
                          have q11 := Ok.cell hb zx xx1
                          have q12 := Ok.cell hb zx xx2
                          have q13 := Ok.cell hb zx xx3
                          have q14 := Ok.cell hb zx xx4
                          have q15 := Ok.cell hb zj jj0
                          have q16 := Ok.cell hb zj jj1
                          have q17 := Ok.cell hb zj jj2
                          have q18 := Ok.cell hb zj jj3
                          have q19 := Ok.cell hb zj jj4
                          have q20 := Ok.cell hb zm mm0
                          have q21 := Ok.cell hb zm mm1
                          have q22 := Ok.cell hb zm mm2
                          have q23 := Ok.cell hb zm mm3
                          have q24 := Ok.cell hb zm mm4
                          go_wp2_with fail
                          refine hK.out _ _ (by (try dsimp only); go_keep) (fun hHeld => ?_)
                          clear hK K
                          (try simp only [Act.put, lq1, lq2, lq3, lq4, lq5, lq6])
                          refine wpAnyH_take (i := 32) (v := ?_) rfl (by kernel_rfl) (by kernel_rfl) (by kernel_rfl) (fun _ _ _ h => h) (Or.inl ⟨by rfl, ?_⟩) (by assumption) ?_
                          rotate_left
                          · intro w hSw; (try dsimp only at hSw); first | (go_simp; done) | (go_simp; with_reducible rfl)
                          (try simp only [Act.put, lq1, lq2, lq3, lq4, lq5, lq6])
                          refine wpAnyH_take (i := 33) (v := ?_) rfl (by kernel_rfl) (by kernel_rfl) (by kernel_rfl) (fun _ _ _ h => h) (Or.inl ⟨by rfl, ?_⟩) (by assumption) ?_
                          rotate_left
                          · intro w hSw; (try dsimp only at hSw); first | (go_simp; done) | (go_simp; with_reducible rfl)
                          (try simp only [Act.put, lq1, lq2, lq3, lq4, lq5, lq6])
                          refine wpAnyH_take (i := 34) (v := ?_) rfl (by kernel_rfl) (by kernel_rfl) (by kernel_rfl) (fun _ _ _ h => h) (Or.inl ⟨by rfl, ?_⟩) (by assumption) ?_
                          rotate_left
                          · intro w hSw; (try dsimp only at hSw); first | (go_simp; done) | (go_simp; with_reducible rfl)
                          (try simp only [Act.put, lq1, lq2, lq3, lq4, lq5, lq6])
                          refine wpAnyH_done (by kernel_rfl) ?_ _
                          go_wp2_with fail
                          go_meet
                          case rel => exact ⟨rfl, hb⟩
                        · have HL : Hid _ := hl
                          obtain rfl := IBe.out hl
                          clear hl IBe
                          go_region_held3 (fun w' => w'.cell? ⟨ga, 0, none⟩ = some (.bool a.2.2.2.2) ∧ w'.cell? ⟨ga, 1, none⟩ = some (.int .i64 a.1) ∧ w'.cell? ⟨ga, 2, none⟩ = some (.int .i64 a.2.1) ∧ w'.cell? ⟨ga, 3, none⟩ = some (.int .u64 (a.2.2.1 : Int)) ∧ w'.cell? ⟨ga, 4, none⟩ = some (.int .u64 (a.2.2.2.1 : Int)) ∧ w'.cell? ⟨gb, 0, none⟩ = some (.bool b.2.2.2.2) ∧ w'.cell? ⟨gb, 1, none⟩ = some (.int .i64 b.1) ∧ w'.cell? ⟨gb, 2, none⟩ = some (.int .i64 b.2.1) ∧ w'.cell? ⟨gb, 3, none⟩ = some (.int .u64 (b.2.2.1 : Int)) ∧ w'.cell? ⟨gb, 4, none⟩ = some (.int .u64 (b.2.2.2.1 : Int)) ∧ w'.cell? ⟨gx, 0, none⟩ = some (.bool false) ∧ w'.cell? ⟨gx, 1, none⟩ = some (.int .i64 x.1) ∧ w'.cell? ⟨gx, 2, none⟩ = some (.int .i64 x.2.1) ∧ w'.cell? ⟨gx, 3, none⟩ = some (.int .u64 (x.2.2.1 : Int)) ∧ w'.cell? ⟨gx, 4, none⟩ = some (.int .u64 (x.2.2.2.1 : Int)) ∧ w'.cell? ⟨gj, 0, none⟩ = some (.bool j.2.2.2.2) ∧ w'.cell? ⟨gj, 1, none⟩ = some (.int .i64 j.1) ∧ w'.cell? ⟨gj, 2, none⟩ = some (.int .i64 j.2.1) ∧ w'.cell? ⟨gj, 3, none⟩ = some (.int .u64 (j.2.2.1 : Int)) ∧ w'.cell? ⟨gj, 4, none⟩ = some (.int .u64 (j.2.2.2.1 : Int)) ∧ w'.cell? ⟨gm, 0, none⟩ = some (.bool m.2.2.2.2) ∧ w'.cell? ⟨gm, 1, none⟩ = some (.int .i64 m.1) ∧ w'.cell? ⟨gm, 2, none⟩ = some (.int .i64 m.2.1) ∧ w'.cell? ⟨gm, 3, none⟩ = some (.int .u64 (m.2.2.1 : Int)) ∧ w'.cell? ⟨gm, 4, none⟩ = some (.int .u64 (m.2.2.2.1 : Int))) (go_keep)
                            (first
                            | (go_at_call 16; refine (win_any _ e (by first | exact HU.out.1 | exact HU.out.2.1 | exact HU.out.2.2.1 | exact RX.out.1 | exact RY.out.1 | exact RJ.out.1 | exact RM.out.1 | exact RZ.out.1) IE.out.1 wr _ (by repeat (first | assumption | refine Ok.alloc ?_ _ | refine Below.drew ?_))).mono ?_; rintro e w' ⟨rfl, hb⟩; (first | rw [IA.out] | rw [IMe.out] | rw [← HT.out] | rw [IJe.out]); have q0 := Ok.cell hb za aa0; have q1 := Ok.cell hb za aa1; have q2 := Ok.cell hb za aa2; have q3 := Ok.cell hb za aa3; have q4 := Ok.cell hb za aa4; have q5 := Ok.cell hb zb bb0; have q6 := Ok.cell hb zb bb1; have q7 := Ok.cell hb zb bb2; have q8 := Ok.cell hb zb bb3; have q9 := Ok.cell hb zb bb4; have q10 := Ok.cell hb zx xx0; have q11 := Ok.cell hb zx xx1; have q12 := Ok.cell hb zx xx2; have q13 := Ok.cell hb zx xx3; have q14 := Ok.cell hb zx xx4; have q15 := Ok.cell hb zj jj0; have q16 := Ok.cell hb zj jj1; have q17 := Ok.cell hb zj jj2; have q18 := Ok.cell hb zj jj3; have q19 := Ok.cell hb zj jj4; have q20 := Ok.cell hb zm mm0; have q21 := Ok.cell hb zm mm1; have q22 := Ok.cell hb zm mm2; have q23 := Ok.cell hb zm mm3; have q24 := Ok.cell hb zm mm4)
                            | (go_at_call 19; refine (nleq_any a b HU.out.1 HU.out.2.1 wr _ (by repeat (first | assumption | refine Ok.alloc ?_ _ | refine Below.drew ?_))).mono ?_; rintro e w' ⟨rfl, hb⟩; rw [HL.out]; have q0 := Ok.cell hb za aa0; have q1 := Ok.cell hb za aa1; have q2 := Ok.cell hb za aa2; have q3 := Ok.cell hb za aa3; have q4 := Ok.cell hb za aa4; have q5 := Ok.cell hb zb bb0; have q6 := Ok.cell hb zb bb1; have q7 := Ok.cell hb zb bb2; have q8 := Ok.cell hb zb bb3; have q9 := Ok.cell hb zb bb4; have q10 := Ok.cell hb zx xx0; have q11 := Ok.cell hb zx xx1; have q12 := Ok.cell hb zx xx2; have q13 := Ok.cell hb zx xx3; have q14 := Ok.cell hb zx xx4; have q15 := Ok.cell hb zj jj0; have q16 := Ok.cell hb zj jj1; have q17 := Ok.cell hb zj jj2; have q18 := Ok.cell hb zj jj3; have q19 := Ok.cell hb zj jj4; have q20 := Ok.cell hb zm mm0; have q21 := Ok.cell hb zm mm1; have q22 := Ok.cell hb zm mm2; have q23 := Ok.cell hb zm mm3; have q24 := Ok.cell hb zm mm4)
                            | fail)
                          go_wp2_with fail
                          go_meet
                          case rel => exact ⟨rfl, hb⟩
                      · rw [hxb] at xx0
                        clear hxb
                        refine wp_region_held_drew (S := (fun w' => w'.cell? ⟨gx, 0, none⟩ = some (.bool true))) (by kernel_rfl) (by (try dsimp only); go_keep) (fun hHeld => ?_)
                        refine wpAnyH_take (i := 0) (v := ?_) rfl (by kernel_rfl) (by kernel_rfl) (by kernel_rfl) (fun _ _ _ h => h) (Or.inl ⟨by rfl, ?_⟩) (by assumption) ?_
                        rotate_left
                        · intro w hSw; (try dsimp only at hSw); first | (go_simp; done) | (go_simp; with_reducible rfl)
                        (try simp only [Act.put, lq1, lq2, lq3, lq4, lq5, lq6])
                        refine wpAnyH_take (i := 1) (v := ?_) rfl (by kernel_rfl) (by kernel_rfl) (by kernel_rfl) (fun _ _ _ h => h) (Or.inl ⟨by rfl, ?_⟩) (by assumption) ?_
                        rotate_left
                        · intro w hSw; (try dsimp only at hSw); first | (go_simp; done) | (go_simp; with_reducible rfl)
                        (try simp only [Act.put, lq1, lq2, lq3, lq4, lq5, lq6])
                        refine wpAnyH_take (i := 2) (v := ?_) rfl (by kernel_rfl) (by kernel_rfl) (by kernel_rfl) (fun _ _ _ h => h) (Or.inl ⟨by rfl, ?_⟩) (by assumption) ?_
                        rotate_left
                        · intro w hSw; (try dsimp only at hSw); first | (go_simp; done) | (go_simp; with_reducible rfl)
                        (try simp only [Act.put, lq1, lq2, lq3, lq4, lq5, lq6])
                        refine wpAnyH_take (i := 3) (v := ?_) rfl (by kernel_rfl) (by kernel_rfl) (by kernel_rfl) (fun _ _ _ h => h) (Or.inl ⟨by rfl, ?_⟩) (by assumption) ?_
                        rotate_left
                        · intro w hSw; (try dsimp only at hSw); first | (go_simp; done) | (go_simp; with_reducible rfl)
                        (try simp only [Act.put, lq1, lq2, lq3, lq4, lq5, lq6])
                        refine wpAnyH_take (i := 4) (v := undef) rfl (by kernel_rfl) (by kernel_rfl) (by kernel_rfl) (fun _ _ _ h => h) (Or.inr ⟨by rfl, rfl⟩) (by assumption) ?_
                        (try simp only [Act.put, lq1, lq2, lq3, lq4, lq5, lq6])
                        refine wpAnyH_take (i := 5) (v := undef) rfl (by kernel_rfl) (by kernel_rfl) (by kernel_rfl) (fun _ _ _ h => h) (Or.inr ⟨by rfl, rfl⟩) (by assumption) ?_
                        (try simp only [Act.put, lq1, lq2, lq3, lq4, lq5, lq6])
                        refine wpAnyH_take (i := 6) (v := undef) rfl (by kernel_rfl) (by kernel_rfl) (by kernel_rfl) (fun _ _ _ h => h) (Or.inr ⟨by rfl, rfl⟩) (by assumption) ?_
                        (try simp only [Act.put, lq1, lq2, lq3, lq4, lq5, lq6])
                        refine wpAnyH_take (i := 7) (v := undef) rfl (by kernel_rfl) (by kernel_rfl) (by kernel_rfl) (fun _ _ _ h => h) (Or.inr ⟨by rfl, rfl⟩) (by assumption) ?_
                        (try simp only [Act.put, lq1, lq2, lq3, lq4, lq5, lq6])
                        refine wpAnyH_take (i := 8) (v := undef) rfl (by kernel_rfl) (by kernel_rfl) (by kernel_rfl) (fun _ _ _ h => h) (Or.inr ⟨by rfl, rfl⟩) (by assumption) ?_
                        (try simp only [Act.put, lq1, lq2, lq3, lq4, lq5, lq6])
                        refine wpAnyH_take (i := 9) (v := undef) rfl (by kernel_rfl) (by kernel_rfl) (by kernel_rfl) (fun _ _ _ h => h) (Or.inr ⟨by rfl, rfl⟩) (by assumption) ?_
                        (try simp only [Act.put, lq1, lq2, lq3, lq4, lq5, lq6])
                        refine wpAnyH_take (i := 10) (v := undef) rfl (by kernel_rfl) (by kernel_rfl) (by kernel_rfl) (fun _ _ _ h => h) (Or.inr ⟨by rfl, rfl⟩) (by assumption) ?_
                        (try simp only [Act.put, lq1, lq2, lq3, lq4, lq5, lq6])
                        refine wpAnyH_take (i := 11) (v := undef) rfl (by kernel_rfl) (by kernel_rfl) (by kernel_rfl) (fun _ _ _ h => h) (Or.inr ⟨by rfl, rfl⟩) (by assumption) ?_
                        (try simp only [Act.put, lq1, lq2, lq3, lq4, lq5, lq6])
                        refine wpAnyH_take (i := 12) (v := undef) rfl (by kernel_rfl) (by kernel_rfl) (by kernel_rfl) (fun _ _ _ h => h) (Or.inr ⟨by rfl, rfl⟩) (by assumption) ?_
                        (try simp only [Act.put, lq1, lq2, lq3, lq4, lq5, lq6])
                        refine wpAnyH_take (i := 13) (v := undef) rfl (by kernel_rfl) (by kernel_rfl) (by kernel_rfl) (fun _ _ _ h => h) (Or.inr ⟨by rfl, rfl⟩) (by assumption) ?_
                        (try simp only [Act.put, lq1, lq2, lq3, lq4, lq5, lq6])
                        refine wpAnyH_take (i := 14) (v := undef) rfl (by kernel_rfl) (by kernel_rfl) (by kernel_rfl) (fun _ _ _ h => h) (Or.inr ⟨by rfl, rfl⟩) (by assumption) ?_
                        (try simp only [Act.put, lq1, lq2, lq3, lq4, lq5, lq6])
                        refine wpAnyH_take (i := 15) (v := undef) rfl (by kernel_rfl) (by kernel_rfl) (by kernel_rfl) (fun _ _ _ h => h) (Or.inr ⟨by rfl, rfl⟩) (by assumption) ?_
                        (try simp only [Act.put, lq1, lq2, lq3, lq4, lq5, lq6])
                        refine wpAnyH_take (i := 16) (v := undef) rfl (by kernel_rfl) (by kernel_rfl) (by kernel_rfl) (fun _ _ _ h => h) (Or.inr ⟨by rfl, rfl⟩) (by assumption) ?_
                        (try simp only [Act.put, lq1, lq2, lq3, lq4, lq5, lq6])
                        refine wpAnyH_take (i := 17) (v := undef) rfl (by kernel_rfl) (by kernel_rfl) (by kernel_rfl) (fun _ _ _ h => h) (Or.inr ⟨by rfl, rfl⟩) (by assumption) ?_
                        (try simp only [Act.put, lq1, lq2, lq3, lq4, lq5, lq6])
                        refine wpAnyH_take (i := 18) (v := undef) rfl (by kernel_rfl) (by kernel_rfl) (by kernel_rfl) (fun _ _ _ h => h) (Or.inr ⟨by rfl, rfl⟩) (by assumption) ?_
                        (try simp only [Act.put, lq1, lq2, lq3, lq4, lq5, lq6])
                        refine wpAnyH_take (i := 19) (v := undef) rfl (by kernel_rfl) (by kernel_rfl) (by kernel_rfl) (fun _ _ _ h => h) (Or.inr ⟨by rfl, rfl⟩) (by assumption) ?_
                        (try simp only [Act.put, lq1, lq2, lq3, lq4, lq5, lq6])
                        refine wpAnyH_take (i := 20) (v := undef) rfl (by kernel_rfl) (by kernel_rfl) (by kernel_rfl) (fun _ _ _ h => h) (Or.inr ⟨by rfl, rfl⟩) (by assumption) ?_
                        (try simp only [Act.put, lq1, lq2, lq3, lq4, lq5, lq6])
                        refine wpAnyH_take (i := 21) (v := undef) rfl (by kernel_rfl) (by kernel_rfl) (by kernel_rfl) (fun _ _ _ h => h) (Or.inr ⟨by rfl, rfl⟩) (by assumption) ?_
                        (try simp only [Act.put, lq1, lq2, lq3, lq4, lq5, lq6])
                        refine wpAnyH_take (i := 22) (v := undef) rfl (by kernel_rfl) (by kernel_rfl) (by kernel_rfl) (fun _ _ _ h => h) (Or.inr ⟨by rfl, rfl⟩) (by assumption) ?_
                        (try simp only [Act.put, lq1, lq2, lq3, lq4, lq5, lq6])
                        refine wpAnyH_take (i := 23) (v := undef) rfl (by kernel_rfl) (by kernel_rfl) (by kernel_rfl) (fun _ _ _ h => h) (Or.inr ⟨by rfl, rfl⟩) (by assumption) ?_
                        (try simp only [Act.put, lq1, lq2, lq3, lq4, lq5, lq6])
                        refine wpAnyH_take (i := 24) (v := undef) rfl (by kernel_rfl) (by kernel_rfl) (by kernel_rfl) (fun _ _ _ h => h) (Or.inr ⟨by rfl, rfl⟩) (by assumption) ?_
                        (try simp only [Act.put, lq1, lq2, lq3, lq4, lq5, lq6])
                        refine wpAnyH_take (i := 25) (v := undef) rfl (by kernel_rfl) (by kernel_rfl) (by kernel_rfl) (fun _ _ _ h => h) (Or.inr ⟨by rfl, rfl⟩) (by assumption) ?_
                        (try simp only [Act.put, lq1, lq2, lq3, lq4, lq5, lq6])
                        refine wpAnyH_take (i := 26) (v := undef) rfl (by kernel_rfl) (by kernel_rfl) (by kernel_rfl) (fun _ _ _ h => h) (Or.inr ⟨by rfl, rfl⟩) (by assumption) ?_
                        (try simp only [Act.put, lq1, lq2, lq3, lq4, lq5, lq6])
                        refine wpAnyH_take (i := 27) (v := undef) rfl (by kernel_rfl) (by kernel_rfl) (by kernel_rfl) (fun _ _ _ h => h) (Or.inr ⟨by rfl, rfl⟩) (by assumption) ?_
                        (try simp only [Act.put, lq1, lq2, lq3, lq4, lq5, lq6])
                        refine wpAnyH_take (i := 28) (v := undef) rfl (by kernel_rfl) (by kernel_rfl) (by kernel_rfl) (fun _ _ _ h => h) (Or.inr ⟨by rfl, rfl⟩) (by assumption) ?_
                        (try simp only [Act.put, lq1, lq2, lq3, lq4, lq5, lq6])
                        refine wpAnyH_take (i := 29) (v := undef) rfl (by kernel_rfl) (by kernel_rfl) (by kernel_rfl) (fun _ _ _ h => h) (Or.inr ⟨by rfl, rfl⟩) (by assumption) ?_
                        (try simp only [Act.put, lq1, lq2, lq3, lq4, lq5, lq6])
                        refine wpAnyH_take (i := 30) (v := undef) rfl (by kernel_rfl) (by kernel_rfl) (by kernel_rfl) (fun _ _ _ h => h) (Or.inr ⟨by rfl, rfl⟩) (by assumption) ?_
                        (try simp only [Act.put, lq1, lq2, lq3, lq4, lq5, lq6])
                        refine wpAnyH_take (i := 31) (v := undef) rfl (by kernel_rfl) (by kernel_rfl) (by kernel_rfl) (fun _ _ _ h => h) (Or.inr ⟨by rfl, rfl⟩) (by assumption) ?_
                        (try simp only [Act.put, lq1, lq2, lq3, lq4, lq5, lq6])
                        refine wpAnyH_take (i := 32) (v := undef) rfl (by kernel_rfl) (by kernel_rfl) (by kernel_rfl) (fun _ _ _ h => h) (Or.inr ⟨by rfl, rfl⟩) (by assumption) ?_
                        (try simp only [Act.put, lq1, lq2, lq3, lq4, lq5, lq6])
                        refine wpAnyH_take (i := 33) (v := undef) rfl (by kernel_rfl) (by kernel_rfl) (by kernel_rfl) (fun _ _ _ h => h) (Or.inr ⟨by rfl, rfl⟩) (by assumption) ?_
                        (try simp only [Act.put, lq1, lq2, lq3, lq4, lq5, lq6])
                        refine wpAnyH_take (i := 34) (v := ?_) rfl (by kernel_rfl) (by kernel_rfl) (by kernel_rfl) (fun _ _ _ h => h) (Or.inl ⟨by rfl, ?_⟩) (by assumption) ?_
                        rotate_left
                        · intro w hSw; (try dsimp only at hSw); first | (go_simp; done) | (go_simp; with_reducible rfl)
                        (try simp only [Act.put, lq1, lq2, lq3, lq4, lq5, lq6])
                        refine wpAnyH_done (by kernel_rfl) ?_ _
                        go_wp2_with fail
                        go_meet
                        case rel => exact ⟨rfl, Below.drew (Ok.refl wr)⟩
                  case rest =>
                    obtain ⟨h172, hO⟩ := hcut.out
                    subst h172
                    clear hcut
                    go_wp2_with fail
                    go_roundw
                    case rel => exact ⟨k + 1, by omega, by simp, HK.out.step hO⟩
                    case measure => simp [intOf]; omega
                · obtain rfl : k = 3 := by omega
                  go_upto_region 16 with (fail)
                  go_cut [209] from 174 to 209 (fun s209 u => Hid (s209 = .bool false ∧ Ok wr u))
                  case first =>
                    as_aux_lemma =>
                      obtain ⟨L, hL⟩ : ∃ t, t = lqN a b := ⟨_, rfl⟩
                      obtain ⟨A, hA⟩ : ∃ t, t = lqN a c := ⟨_, rfl⟩
                      obtain ⟨B, hB⟩ : ∃ t, t = lqN b c := ⟨_, rfl⟩
                      have HL : Hid _ := hL
                      have HAC : Hid _ := hA
                      have HBC : Hid _ := hB
                      have HJY : Hid (L = true ↔ j = y) := by unfold Hid; rw [hL, HJ.out, HY.out]; exact lq_join HU.out.1 HU.out.2.1
                      have HMX : Hid (L = true ↔ m = x) := by unfold Hid; rw [hL, HM.out, HX.out]; exact lq_meet HU.out.1 HU.out.2.1
                      have HLE : Hid (A = true → B = true → lqN j c = true) := by unfold Hid; rw [hA, hB, HJ.out]; exact lq_least HU.out.1 HU.out.2.1 HU.out.2.2.1
                      clear hL hA hB
                      cases A
                      · refine wp_region_held_drew (S := fun w' => Ok wr w') (by kernel_rfl) (Below.drew (Ok.refl _)) (fun hHeld => ?_)
                        refine wpAnyH_take (i := 0) (v := .agg #[.bool a.2.2.2.2, .int .i64 a.1, .int .i64 a.2.1, .int .u64 (a.2.2.1 : Int), .int .u64 (a.2.2.2.1 : Int)]) rfl (by kernel_rfl) (by kernel_rfl) (by kernel_rfl) (fun _ _ _ h => h) (Or.inl ⟨by rfl, ?_⟩) hHeld ?_
                        · intro w hSw; (try dsimp only at hSw); obtain ⟨c0, c1, c2, c3, c4, -⟩ := row5_facts (Ok.row' hSw ra.out); (go_simp; try with_reducible rfl)
                        (try simp only [Act.put, lq1, lq2, lq3, lq4, lq5, lq6])
                        refine wpAnyH_take (i := 1) (v := .agg #[.bool b.2.2.2.2, .int .i64 b.1, .int .i64 b.2.1, .int .u64 (b.2.2.1 : Int), .int .u64 (b.2.2.2.1 : Int)]) rfl (by kernel_rfl) (by kernel_rfl) (by kernel_rfl) (fun _ _ _ h => h) (Or.inl ⟨by rfl, ?_⟩) hHeld ?_
                        · intro w hSw; (try dsimp only at hSw); obtain ⟨c0, c1, c2, c3, c4, -⟩ := row5_facts (Ok.row' hSw rb.out); (go_simp; try with_reducible rfl)
                        (try simp only [Act.put, lq1, lq2, lq3, lq4, lq5, lq6])
                        refine wpAnyH_take (i := 3) (v := .agg #[.bool a.2.2.2.2, .int .i64 a.1, .int .i64 a.2.1, .int .u64 (a.2.2.1 : Int), .int .u64 (a.2.2.2.1 : Int)]) rfl (by kernel_rfl) (by kernel_rfl) (by kernel_rfl) (fun _ _ _ h => h) (Or.inl ⟨by rfl, ?_⟩) hHeld ?_
                        · intro w hSw; (try dsimp only at hSw); obtain ⟨c0, c1, c2, c3, c4, -⟩ := row5_facts (Ok.row' hSw ra.out); (go_simp; try with_reducible rfl)
                        (try simp only [Act.put, lq1, lq2, lq3, lq4, lq5, lq6])
                        refine wpAnyH_take (i := 4) (v := .agg #[.bool b.2.2.2.2, .int .i64 b.1, .int .i64 b.2.1, .int .u64 (b.2.2.1 : Int), .int .u64 (b.2.2.2.1 : Int)]) rfl (by kernel_rfl) (by kernel_rfl) (by kernel_rfl) (fun _ _ _ h => h) (Or.inl ⟨by rfl, ?_⟩) hHeld ?_
                        · intro w hSw; (try dsimp only at hSw); obtain ⟨c0, c1, c2, c3, c4, -⟩ := row5_facts (Ok.row' hSw rb.out); (go_simp; try with_reducible rfl)
                        (try simp only [Act.put, lq1, lq2, lq3, lq4, lq5, lq6])
                        refine wpAnyH_take (i := 6) (v := .agg #[.bool y.2.2.2.2, .int .i64 y.1, .int .i64 y.2.1, .int .u64 (y.2.2.1 : Int), .int .u64 (y.2.2.2.1 : Int)]) rfl (by kernel_rfl) (by kernel_rfl) (by kernel_rfl) (fun _ _ _ h => h) (Or.inl ⟨by rfl, ?_⟩) hHeld ?_
                        · intro w hSw; (try dsimp only at hSw); obtain ⟨c0, c1, c2, c3, c4, -⟩ := row5_facts (Ok.row' hSw ry.out); (go_simp; try with_reducible rfl)
                        (try simp only [Act.put, lq1, lq2, lq3, lq4, lq5, lq6])
                        refine wpAnyH_ready (rs := [2]) (by kernel_rfl) (by simp) ?_
                        refine AllReadyH.cons rfl (fun K hK => ?_) AllReadyH.nil
                        go_simp
                        refine (nleq_any _ _ (by first | exact HU.out.1 | exact HU.out.2.1 | exact HU.out.2.2.1 | exact RX.out.1 | exact RY.out.1 | exact RJ.out.1 | exact RM.out.1 | exact RZ.out.1) (by first | exact HU.out.1 | exact HU.out.2.1 | exact HU.out.2.2.1 | exact RX.out.1 | exact RY.out.1 | exact RJ.out.1 | exact RM.out.1 | exact RZ.out.1) wr _ hHeld).mono ?_
                        rintro e1 w' ⟨rfl, hb⟩
                        (first | rw [← HL.out] | rw [← HAC.out] | rw [← HBC.out] | rw [HJC.out])
                        dsimp only
                        refine hK.out _ _ hb (fun hHeld => ?_)
                        clear hK K hb
                        (try simp only [Act.put, lq1, lq2, lq3, lq4, lq5, lq6])
                        refine wpAnyH_ready (rs := [5]) (by kernel_rfl) (by simp) ?_
                        refine AllReadyH.cons rfl (fun K hK => ?_) AllReadyH.nil
                        go_simp
                        refine (njoin_any a b HU.out.1 HU.out.2.1 wr _ hHeld).mono ?_
                        rintro e1 w' ⟨rfl, hb⟩
                        rw [← HJ.out]
                        unfold nv
                        dsimp only
                        refine hK.out _ _ hb (fun hHeld => ?_)
                        clear hK K hb
                        (try simp only [Act.put, lq1, lq2, lq3, lq4, lq5, lq6])
                        refine wpAnyH_take (i := 7) (v := .bool L) rfl (by kernel_rfl) (by kernel_rfl) (by kernel_rfl) (fun _ _ _ h => h) (Or.inl ⟨by rfl, ?_⟩) hHeld ?_
                        · intro w hSw; (try dsimp only at hSw); (go_simp; exact eqn_run HJY.out (fun b => Result.ok (Next.value (.bool b)) w))
                        (try simp only [Act.put, lq1, lq2, lq3, lq4, lq5, lq6])
                        refine wpAnyH_take (i := 8) (v := .bool false) rfl (by kernel_rfl) (by kernel_rfl) (by kernel_rfl) (fun _ _ _ h => h) (Or.inl ⟨by rfl, ?_⟩) hHeld ?_
                        · intro w hSw; (try dsimp only at hSw); (cases L <;> first | (go_simp; done) | (go_simp; rfl))
                        (try simp only [Act.put, lq1, lq2, lq3, lq4, lq5, lq6])
                        refine wpAnyH_take (i := 9) (v := ?_) rfl (by kernel_rfl) (by kernel_rfl) (by kernel_rfl) (fun _ _ _ h => h) (Or.inl ⟨by rfl, ?_⟩) hHeld ?_
                        rotate_left
                        · intro w hSw; (try dsimp only at hSw); (go_simp; try with_reducible rfl)
                        (try simp only [Act.put, lq1, lq2, lq3, lq4, lq5, lq6])
                        refine wpAnyH_take (i := 10) (v := .agg #[.bool a.2.2.2.2, .int .i64 a.1, .int .i64 a.2.1, .int .u64 (a.2.2.1 : Int), .int .u64 (a.2.2.2.1 : Int)]) rfl (by kernel_rfl) (by kernel_rfl) (by kernel_rfl) (fun _ _ _ h => h) (Or.inl ⟨by rfl, ?_⟩) hHeld ?_
                        · intro w hSw; (try dsimp only at hSw); obtain ⟨c0, c1, c2, c3, c4, -⟩ := row5_facts (Ok.row' hSw ra.out); (go_simp; try with_reducible rfl)
                        (try simp only [Act.put, lq1, lq2, lq3, lq4, lq5, lq6])
                        refine wpAnyH_take (i := 11) (v := .agg #[.bool b.2.2.2.2, .int .i64 b.1, .int .i64 b.2.1, .int .u64 (b.2.2.1 : Int), .int .u64 (b.2.2.2.1 : Int)]) rfl (by kernel_rfl) (by kernel_rfl) (by kernel_rfl) (fun _ _ _ h => h) (Or.inl ⟨by rfl, ?_⟩) hHeld ?_
                        · intro w hSw; (try dsimp only at hSw); obtain ⟨c0, c1, c2, c3, c4, -⟩ := row5_facts (Ok.row' hSw rb.out); (go_simp; try with_reducible rfl)
                        (try simp only [Act.put, lq1, lq2, lq3, lq4, lq5, lq6])
                        refine wpAnyH_take (i := 13) (v := .agg #[.bool a.2.2.2.2, .int .i64 a.1, .int .i64 a.2.1, .int .u64 (a.2.2.1 : Int), .int .u64 (a.2.2.2.1 : Int)]) rfl (by kernel_rfl) (by kernel_rfl) (by kernel_rfl) (fun _ _ _ h => h) (Or.inl ⟨by rfl, ?_⟩) hHeld ?_
                        · intro w hSw; (try dsimp only at hSw); obtain ⟨c0, c1, c2, c3, c4, -⟩ := row5_facts (Ok.row' hSw ra.out); (go_simp; try with_reducible rfl)
                        (try simp only [Act.put, lq1, lq2, lq3, lq4, lq5, lq6])
                        refine wpAnyH_take (i := 14) (v := .agg #[.bool b.2.2.2.2, .int .i64 b.1, .int .i64 b.2.1, .int .u64 (b.2.2.1 : Int), .int .u64 (b.2.2.2.1 : Int)]) rfl (by kernel_rfl) (by kernel_rfl) (by kernel_rfl) (fun _ _ _ h => h) (Or.inl ⟨by rfl, ?_⟩) hHeld ?_
                        · intro w hSw; (try dsimp only at hSw); obtain ⟨c0, c1, c2, c3, c4, -⟩ := row5_facts (Ok.row' hSw rb.out); (go_simp; try with_reducible rfl)
                        (try simp only [Act.put, lq1, lq2, lq3, lq4, lq5, lq6])
                        refine wpAnyH_take (i := 16) (v := .agg #[.bool x.2.2.2.2, .int .i64 x.1, .int .i64 x.2.1, .int .u64 (x.2.2.1 : Int), .int .u64 (x.2.2.2.1 : Int)]) rfl (by kernel_rfl) (by kernel_rfl) (by kernel_rfl) (fun _ _ _ h => h) (Or.inl ⟨by rfl, ?_⟩) hHeld ?_
                        · intro w hSw; (try dsimp only at hSw); obtain ⟨c0, c1, c2, c3, c4, -⟩ := row5_facts (Ok.row' hSw rx.out); (go_simp; try with_reducible rfl)
                        (try simp only [Act.put, lq1, lq2, lq3, lq4, lq5, lq6])
                        refine wpAnyH_ready (rs := [12]) (by kernel_rfl) (by simp) ?_
                        refine AllReadyH.cons rfl (fun K hK => ?_) AllReadyH.nil
                        go_simp
                        refine (nleq_any _ _ (by first | exact HU.out.1 | exact HU.out.2.1 | exact HU.out.2.2.1 | exact RX.out.1 | exact RY.out.1 | exact RJ.out.1 | exact RM.out.1 | exact RZ.out.1) (by first | exact HU.out.1 | exact HU.out.2.1 | exact HU.out.2.2.1 | exact RX.out.1 | exact RY.out.1 | exact RJ.out.1 | exact RM.out.1 | exact RZ.out.1) wr _ hHeld).mono ?_
                        rintro e1 w' ⟨rfl, hb⟩
                        (first | rw [← HL.out] | rw [← HAC.out] | rw [← HBC.out] | rw [HJC.out])
                        dsimp only
                        refine hK.out _ _ hb (fun hHeld => ?_)
                        clear hK K hb
                        (try simp only [Act.put, lq1, lq2, lq3, lq4, lq5, lq6])
                        refine wpAnyH_ready (rs := [15]) (by kernel_rfl) (by simp) ?_
                        refine AllReadyH.cons rfl (fun K hK => ?_) AllReadyH.nil
                        go_simp
                        refine (nmeet_any a b HU.out.1 HU.out.2.1 wr _ hHeld).mono ?_
                        rintro e1 w' ⟨rfl, hb⟩
                        rw [← HM.out]
                        unfold nv
                        dsimp only
                        refine hK.out _ _ hb (fun hHeld => ?_)
                        clear hK K hb
                        (try simp only [Act.put, lq1, lq2, lq3, lq4, lq5, lq6])
                        refine wpAnyH_take (i := 17) (v := .bool L) rfl (by kernel_rfl) (by kernel_rfl) (by kernel_rfl) (fun _ _ _ h => h) (Or.inl ⟨by rfl, ?_⟩) hHeld ?_
                        · intro w hSw; (try dsimp only at hSw); (go_simp; exact eqn_run HMX.out (fun b => Result.ok (Next.value (.bool b)) w))
                        (try simp only [Act.put, lq1, lq2, lq3, lq4, lq5, lq6])
                        refine wpAnyH_take (i := 18) (v := .bool false) rfl (by kernel_rfl) (by kernel_rfl) (by kernel_rfl) (fun _ _ _ h => h) (Or.inl ⟨by rfl, ?_⟩) hHeld ?_
                        · intro w hSw; (try dsimp only at hSw); (cases L <;> first | (go_simp; done) | (go_simp; rfl))
                        (try simp only [Act.put, lq1, lq2, lq3, lq4, lq5, lq6])
                        refine wpAnyH_take (i := 19) (v := ?_) rfl (by kernel_rfl) (by kernel_rfl) (by kernel_rfl) (fun _ _ _ h => h) (Or.inl ⟨by rfl, ?_⟩) hHeld ?_
                        rotate_left
                        · intro w hSw; (try dsimp only at hSw); (go_simp; try with_reducible rfl)
                        (try simp only [Act.put, lq1, lq2, lq3, lq4, lq5, lq6])
                        refine wpAnyH_take (i := 20) (v := ?_) rfl (by kernel_rfl) (by kernel_rfl) (by kernel_rfl) (fun _ _ _ h => h) (Or.inl ⟨by rfl, ?_⟩) hHeld ?_
                        rotate_left
                        · intro w hSw; (try dsimp only at hSw); (go_simp; try with_reducible rfl)
                        (try simp only [Act.put, lq1, lq2, lq3, lq4, lq5, lq6])
                        refine wpAnyH_take (i := 21) (v := .agg #[.bool a.2.2.2.2, .int .i64 a.1, .int .i64 a.2.1, .int .u64 (a.2.2.1 : Int), .int .u64 (a.2.2.2.1 : Int)]) rfl (by kernel_rfl) (by kernel_rfl) (by kernel_rfl) (fun _ _ _ h => h) (Or.inl ⟨by rfl, ?_⟩) hHeld ?_
                        · intro w hSw; (try dsimp only at hSw); obtain ⟨c0, c1, c2, c3, c4, -⟩ := row5_facts (Ok.row' hSw ra.out); (go_simp; try with_reducible rfl)
                        (try simp only [Act.put, lq1, lq2, lq3, lq4, lq5, lq6])
                        refine wpAnyH_take (i := 22) (v := .agg #[.bool c.2.2.2.2, .int .i64 c.1, .int .i64 c.2.1, .int .u64 (c.2.2.1 : Int), .int .u64 (c.2.2.2.1 : Int)]) rfl (by kernel_rfl) (by kernel_rfl) (by kernel_rfl) (fun _ _ _ h => h) (Or.inl ⟨by rfl, ?_⟩) hHeld ?_
                        · intro w hSw; (try dsimp only at hSw); obtain ⟨c0, c1, c2, c3, c4, -⟩ := row5_facts (Ok.row' hSw rc.out); (go_simp; try with_reducible rfl)
                        (try simp only [Act.put, lq1, lq2, lq3, lq4, lq5, lq6])
                        refine wpAnyH_ready (rs := [23]) (by kernel_rfl) (by simp) ?_
                        refine AllReadyH.cons rfl (fun K hK => ?_) AllReadyH.nil
                        go_simp
                        refine (nleq_any _ _ (by first | exact HU.out.1 | exact HU.out.2.1 | exact HU.out.2.2.1 | exact RX.out.1 | exact RY.out.1 | exact RJ.out.1 | exact RM.out.1 | exact RZ.out.1) (by first | exact HU.out.1 | exact HU.out.2.1 | exact HU.out.2.2.1 | exact RX.out.1 | exact RY.out.1 | exact RJ.out.1 | exact RM.out.1 | exact RZ.out.1) wr _ hHeld).mono ?_
                        rintro e1 w' ⟨rfl, hb⟩
                        (first | rw [← HL.out] | rw [← HAC.out] | rw [← HBC.out] | rw [HJC.out])
                        dsimp only
                        refine hK.out _ _ hb (fun hHeld => ?_)
                        clear hK K hb
                        (try simp only [Act.put, lq1, lq2, lq3, lq4, lq5, lq6])
                        refine wpAnyH_take (i := 24) (v := ?_) rfl (by kernel_rfl) (by kernel_rfl) (by kernel_rfl) (fun _ _ _ h => h) (Or.inl ⟨by rfl, ?_⟩) hHeld ?_
                        rotate_left
                        · intro w hSw; (try dsimp only at hSw); (go_simp; try with_reducible rfl)
                        (try simp only [Act.put, lq1, lq2, lq3, lq4, lq5, lq6])
                        refine wpAnyH_take (i := 25) (v := undef) rfl (by kernel_rfl) (by kernel_rfl) (by kernel_rfl) (fun _ _ _ h => h) (Or.inr ⟨by rfl, rfl⟩) hHeld ?_
                        (try simp only [Act.put, lq1, lq2, lq3, lq4, lq5, lq6])
                        refine wpAnyH_take (i := 26) (v := undef) rfl (by kernel_rfl) (by kernel_rfl) (by kernel_rfl) (fun _ _ _ h => h) (Or.inr ⟨by rfl, rfl⟩) hHeld ?_
                        (try simp only [Act.put, lq1, lq2, lq3, lq4, lq5, lq6])
                        refine wpAnyH_take (i := 27) (v := undef) rfl (by kernel_rfl) (by kernel_rfl) (by kernel_rfl) (fun _ _ _ h => h) (Or.inr ⟨by rfl, rfl⟩) hHeld ?_
                        (try simp only [Act.put, lq1, lq2, lq3, lq4, lq5, lq6])
                        refine wpAnyH_take (i := 28) (v := ?_) rfl (by kernel_rfl) (by kernel_rfl) (by kernel_rfl) (fun _ _ _ h => h) (Or.inl ⟨by rfl, ?_⟩) hHeld ?_
                        rotate_left
                        · intro w hSw; (try dsimp only at hSw); (go_simp; try with_reducible rfl)
                        (try simp only [Act.put, lq1, lq2, lq3, lq4, lq5, lq6])
                        refine wpAnyH_take (i := 29) (v := ?_) rfl (by kernel_rfl) (by kernel_rfl) (by kernel_rfl) (fun _ _ _ h => h) (Or.inl ⟨by rfl, ?_⟩) hHeld ?_
                        rotate_left
                        · intro w hSw; (try dsimp only at hSw); (go_simp; try with_reducible rfl)
                        (try simp only [Act.put, lq1, lq2, lq3, lq4, lq5, lq6])
                        refine wpAnyH_take (i := 30) (v := undef) rfl (by kernel_rfl) (by kernel_rfl) (by kernel_rfl) (fun _ _ _ h => h) (Or.inr ⟨by rfl, rfl⟩) hHeld ?_
                        (try simp only [Act.put, lq1, lq2, lq3, lq4, lq5, lq6])
                        refine wpAnyH_take (i := 31) (v := undef) rfl (by kernel_rfl) (by kernel_rfl) (by kernel_rfl) (fun _ _ _ h => h) (Or.inr ⟨by rfl, rfl⟩) hHeld ?_
                        (try simp only [Act.put, lq1, lq2, lq3, lq4, lq5, lq6])
                        refine wpAnyH_take (i := 32) (v := undef) rfl (by kernel_rfl) (by kernel_rfl) (by kernel_rfl) (fun _ _ _ h => h) (Or.inr ⟨by rfl, rfl⟩) hHeld ?_
                        (try simp only [Act.put, lq1, lq2, lq3, lq4, lq5, lq6])
                        refine wpAnyH_take (i := 33) (v := undef) rfl (by kernel_rfl) (by kernel_rfl) (by kernel_rfl) (fun _ _ _ h => h) (Or.inr ⟨by rfl, rfl⟩) hHeld ?_
                        (try simp only [Act.put, lq1, lq2, lq3, lq4, lq5, lq6])
                        refine wpAnyH_take (i := 34) (v := ?_) rfl (by kernel_rfl) (by kernel_rfl) (by kernel_rfl) (fun _ _ _ h => h) (Or.inl ⟨by rfl, ?_⟩) hHeld ?_
                        rotate_left
                        · intro w hSw; (try dsimp only at hSw); (go_simp; try with_reducible rfl)
                        (try simp only [Act.put, lq1, lq2, lq3, lq4, lq5, lq6])
                        refine wpAnyH_take (i := 35) (v := ?_) rfl (by kernel_rfl) (by kernel_rfl) (by kernel_rfl) (fun _ _ _ h => h) (Or.inl ⟨by rfl, ?_⟩) hHeld ?_
                        rotate_left
                        · intro w hSw; (try dsimp only at hSw); (go_simp; try with_reducible rfl)
                        (try simp only [Act.put, lq1, lq2, lq3, lq4, lq5, lq6])
                        refine wpAnyH_done (by kernel_rfl) ?_ _
                        go_wp2_with fail
                        go_meet
                        case rel => exact ⟨rfl, hHeld⟩
                      · cases B
                        · refine wp_region_held_drew (S := fun w' => Ok wr w') (by kernel_rfl) (Below.drew (Ok.refl _)) (fun hHeld => ?_)
                          refine wpAnyH_take (i := 0) (v := .agg #[.bool a.2.2.2.2, .int .i64 a.1, .int .i64 a.2.1, .int .u64 (a.2.2.1 : Int), .int .u64 (a.2.2.2.1 : Int)]) rfl (by kernel_rfl) (by kernel_rfl) (by kernel_rfl) (fun _ _ _ h => h) (Or.inl ⟨by rfl, ?_⟩) hHeld ?_
                          · intro w hSw; (try dsimp only at hSw); obtain ⟨c0, c1, c2, c3, c4, -⟩ := row5_facts (Ok.row' hSw ra.out); (go_simp; try with_reducible rfl)
                          (try simp only [Act.put, lq1, lq2, lq3, lq4, lq5, lq6])
                          refine wpAnyH_take (i := 1) (v := .agg #[.bool b.2.2.2.2, .int .i64 b.1, .int .i64 b.2.1, .int .u64 (b.2.2.1 : Int), .int .u64 (b.2.2.2.1 : Int)]) rfl (by kernel_rfl) (by kernel_rfl) (by kernel_rfl) (fun _ _ _ h => h) (Or.inl ⟨by rfl, ?_⟩) hHeld ?_
                          · intro w hSw; (try dsimp only at hSw); obtain ⟨c0, c1, c2, c3, c4, -⟩ := row5_facts (Ok.row' hSw rb.out); (go_simp; try with_reducible rfl)
                          (try simp only [Act.put, lq1, lq2, lq3, lq4, lq5, lq6])
                          refine wpAnyH_take (i := 3) (v := .agg #[.bool a.2.2.2.2, .int .i64 a.1, .int .i64 a.2.1, .int .u64 (a.2.2.1 : Int), .int .u64 (a.2.2.2.1 : Int)]) rfl (by kernel_rfl) (by kernel_rfl) (by kernel_rfl) (fun _ _ _ h => h) (Or.inl ⟨by rfl, ?_⟩) hHeld ?_
                          · intro w hSw; (try dsimp only at hSw); obtain ⟨c0, c1, c2, c3, c4, -⟩ := row5_facts (Ok.row' hSw ra.out); (go_simp; try with_reducible rfl)
                          (try simp only [Act.put, lq1, lq2, lq3, lq4, lq5, lq6])
                          refine wpAnyH_take (i := 4) (v := .agg #[.bool b.2.2.2.2, .int .i64 b.1, .int .i64 b.2.1, .int .u64 (b.2.2.1 : Int), .int .u64 (b.2.2.2.1 : Int)]) rfl (by kernel_rfl) (by kernel_rfl) (by kernel_rfl) (fun _ _ _ h => h) (Or.inl ⟨by rfl, ?_⟩) hHeld ?_
                          · intro w hSw; (try dsimp only at hSw); obtain ⟨c0, c1, c2, c3, c4, -⟩ := row5_facts (Ok.row' hSw rb.out); (go_simp; try with_reducible rfl)
                          (try simp only [Act.put, lq1, lq2, lq3, lq4, lq5, lq6])
                          refine wpAnyH_take (i := 6) (v := .agg #[.bool y.2.2.2.2, .int .i64 y.1, .int .i64 y.2.1, .int .u64 (y.2.2.1 : Int), .int .u64 (y.2.2.2.1 : Int)]) rfl (by kernel_rfl) (by kernel_rfl) (by kernel_rfl) (fun _ _ _ h => h) (Or.inl ⟨by rfl, ?_⟩) hHeld ?_
                          · intro w hSw; (try dsimp only at hSw); obtain ⟨c0, c1, c2, c3, c4, -⟩ := row5_facts (Ok.row' hSw ry.out); (go_simp; try with_reducible rfl)
                          (try simp only [Act.put, lq1, lq2, lq3, lq4, lq5, lq6])
                          refine wpAnyH_ready (rs := [2]) (by kernel_rfl) (by simp) ?_
                          refine AllReadyH.cons rfl (fun K hK => ?_) AllReadyH.nil
                          go_simp
                          refine (nleq_any _ _ (by first | exact HU.out.1 | exact HU.out.2.1 | exact HU.out.2.2.1 | exact RX.out.1 | exact RY.out.1 | exact RJ.out.1 | exact RM.out.1 | exact RZ.out.1) (by first | exact HU.out.1 | exact HU.out.2.1 | exact HU.out.2.2.1 | exact RX.out.1 | exact RY.out.1 | exact RJ.out.1 | exact RM.out.1 | exact RZ.out.1) wr _ hHeld).mono ?_
                          rintro e1 w' ⟨rfl, hb⟩
                          (first | rw [← HL.out] | rw [← HAC.out] | rw [← HBC.out] | rw [HJC.out])
                          dsimp only
                          refine hK.out _ _ hb (fun hHeld => ?_)
                          clear hK K hb
                          (try simp only [Act.put, lq1, lq2, lq3, lq4, lq5, lq6])
                          refine wpAnyH_ready (rs := [5]) (by kernel_rfl) (by simp) ?_
                          refine AllReadyH.cons rfl (fun K hK => ?_) AllReadyH.nil
                          go_simp
                          refine (njoin_any a b HU.out.1 HU.out.2.1 wr _ hHeld).mono ?_
                          rintro e1 w' ⟨rfl, hb⟩
                          rw [← HJ.out]
                          unfold nv
                          dsimp only
                          refine hK.out _ _ hb (fun hHeld => ?_)
                          clear hK K hb
                          (try simp only [Act.put, lq1, lq2, lq3, lq4, lq5, lq6])
                          refine wpAnyH_take (i := 7) (v := .bool L) rfl (by kernel_rfl) (by kernel_rfl) (by kernel_rfl) (fun _ _ _ h => h) (Or.inl ⟨by rfl, ?_⟩) hHeld ?_
                          · intro w hSw; (try dsimp only at hSw); (go_simp; exact eqn_run HJY.out (fun b => Result.ok (Next.value (.bool b)) w))
                          (try simp only [Act.put, lq1, lq2, lq3, lq4, lq5, lq6])
                          refine wpAnyH_take (i := 8) (v := .bool false) rfl (by kernel_rfl) (by kernel_rfl) (by kernel_rfl) (fun _ _ _ h => h) (Or.inl ⟨by rfl, ?_⟩) hHeld ?_
                          · intro w hSw; (try dsimp only at hSw); (cases L <;> first | (go_simp; done) | (go_simp; rfl))
                          (try simp only [Act.put, lq1, lq2, lq3, lq4, lq5, lq6])
                          refine wpAnyH_take (i := 9) (v := ?_) rfl (by kernel_rfl) (by kernel_rfl) (by kernel_rfl) (fun _ _ _ h => h) (Or.inl ⟨by rfl, ?_⟩) hHeld ?_
                          rotate_left
                          · intro w hSw; (try dsimp only at hSw); (go_simp; try with_reducible rfl)
                          (try simp only [Act.put, lq1, lq2, lq3, lq4, lq5, lq6])
                          refine wpAnyH_take (i := 10) (v := .agg #[.bool a.2.2.2.2, .int .i64 a.1, .int .i64 a.2.1, .int .u64 (a.2.2.1 : Int), .int .u64 (a.2.2.2.1 : Int)]) rfl (by kernel_rfl) (by kernel_rfl) (by kernel_rfl) (fun _ _ _ h => h) (Or.inl ⟨by rfl, ?_⟩) hHeld ?_
                          · intro w hSw; (try dsimp only at hSw); obtain ⟨c0, c1, c2, c3, c4, -⟩ := row5_facts (Ok.row' hSw ra.out); (go_simp; try with_reducible rfl)
                          (try simp only [Act.put, lq1, lq2, lq3, lq4, lq5, lq6])
                          refine wpAnyH_take (i := 11) (v := .agg #[.bool b.2.2.2.2, .int .i64 b.1, .int .i64 b.2.1, .int .u64 (b.2.2.1 : Int), .int .u64 (b.2.2.2.1 : Int)]) rfl (by kernel_rfl) (by kernel_rfl) (by kernel_rfl) (fun _ _ _ h => h) (Or.inl ⟨by rfl, ?_⟩) hHeld ?_
                          · intro w hSw; (try dsimp only at hSw); obtain ⟨c0, c1, c2, c3, c4, -⟩ := row5_facts (Ok.row' hSw rb.out); (go_simp; try with_reducible rfl)
                          (try simp only [Act.put, lq1, lq2, lq3, lq4, lq5, lq6])
                          refine wpAnyH_take (i := 13) (v := .agg #[.bool a.2.2.2.2, .int .i64 a.1, .int .i64 a.2.1, .int .u64 (a.2.2.1 : Int), .int .u64 (a.2.2.2.1 : Int)]) rfl (by kernel_rfl) (by kernel_rfl) (by kernel_rfl) (fun _ _ _ h => h) (Or.inl ⟨by rfl, ?_⟩) hHeld ?_
                          · intro w hSw; (try dsimp only at hSw); obtain ⟨c0, c1, c2, c3, c4, -⟩ := row5_facts (Ok.row' hSw ra.out); (go_simp; try with_reducible rfl)
                          (try simp only [Act.put, lq1, lq2, lq3, lq4, lq5, lq6])
                          refine wpAnyH_take (i := 14) (v := .agg #[.bool b.2.2.2.2, .int .i64 b.1, .int .i64 b.2.1, .int .u64 (b.2.2.1 : Int), .int .u64 (b.2.2.2.1 : Int)]) rfl (by kernel_rfl) (by kernel_rfl) (by kernel_rfl) (fun _ _ _ h => h) (Or.inl ⟨by rfl, ?_⟩) hHeld ?_
                          · intro w hSw; (try dsimp only at hSw); obtain ⟨c0, c1, c2, c3, c4, -⟩ := row5_facts (Ok.row' hSw rb.out); (go_simp; try with_reducible rfl)
                          (try simp only [Act.put, lq1, lq2, lq3, lq4, lq5, lq6])
                          refine wpAnyH_take (i := 16) (v := .agg #[.bool x.2.2.2.2, .int .i64 x.1, .int .i64 x.2.1, .int .u64 (x.2.2.1 : Int), .int .u64 (x.2.2.2.1 : Int)]) rfl (by kernel_rfl) (by kernel_rfl) (by kernel_rfl) (fun _ _ _ h => h) (Or.inl ⟨by rfl, ?_⟩) hHeld ?_
                          · intro w hSw; (try dsimp only at hSw); obtain ⟨c0, c1, c2, c3, c4, -⟩ := row5_facts (Ok.row' hSw rx.out); (go_simp; try with_reducible rfl)
                          (try simp only [Act.put, lq1, lq2, lq3, lq4, lq5, lq6])
                          refine wpAnyH_ready (rs := [12]) (by kernel_rfl) (by simp) ?_
                          refine AllReadyH.cons rfl (fun K hK => ?_) AllReadyH.nil
                          go_simp
                          refine (nleq_any _ _ (by first | exact HU.out.1 | exact HU.out.2.1 | exact HU.out.2.2.1 | exact RX.out.1 | exact RY.out.1 | exact RJ.out.1 | exact RM.out.1 | exact RZ.out.1) (by first | exact HU.out.1 | exact HU.out.2.1 | exact HU.out.2.2.1 | exact RX.out.1 | exact RY.out.1 | exact RJ.out.1 | exact RM.out.1 | exact RZ.out.1) wr _ hHeld).mono ?_
                          rintro e1 w' ⟨rfl, hb⟩
                          (first | rw [← HL.out] | rw [← HAC.out] | rw [← HBC.out] | rw [HJC.out])
                          dsimp only
                          refine hK.out _ _ hb (fun hHeld => ?_)
                          clear hK K hb
                          (try simp only [Act.put, lq1, lq2, lq3, lq4, lq5, lq6])
                          refine wpAnyH_ready (rs := [15]) (by kernel_rfl) (by simp) ?_
                          refine AllReadyH.cons rfl (fun K hK => ?_) AllReadyH.nil
                          go_simp
                          refine (nmeet_any a b HU.out.1 HU.out.2.1 wr _ hHeld).mono ?_
                          rintro e1 w' ⟨rfl, hb⟩
                          rw [← HM.out]
                          unfold nv
                          dsimp only
                          refine hK.out _ _ hb (fun hHeld => ?_)
                          clear hK K hb
                          (try simp only [Act.put, lq1, lq2, lq3, lq4, lq5, lq6])
                          refine wpAnyH_take (i := 17) (v := .bool L) rfl (by kernel_rfl) (by kernel_rfl) (by kernel_rfl) (fun _ _ _ h => h) (Or.inl ⟨by rfl, ?_⟩) hHeld ?_
                          · intro w hSw; (try dsimp only at hSw); (go_simp; exact eqn_run HMX.out (fun b => Result.ok (Next.value (.bool b)) w))
                          (try simp only [Act.put, lq1, lq2, lq3, lq4, lq5, lq6])
                          refine wpAnyH_take (i := 18) (v := .bool false) rfl (by kernel_rfl) (by kernel_rfl) (by kernel_rfl) (fun _ _ _ h => h) (Or.inl ⟨by rfl, ?_⟩) hHeld ?_
                          · intro w hSw; (try dsimp only at hSw); (cases L <;> first | (go_simp; done) | (go_simp; rfl))
                          (try simp only [Act.put, lq1, lq2, lq3, lq4, lq5, lq6])
                          refine wpAnyH_take (i := 19) (v := ?_) rfl (by kernel_rfl) (by kernel_rfl) (by kernel_rfl) (fun _ _ _ h => h) (Or.inl ⟨by rfl, ?_⟩) hHeld ?_
                          rotate_left
                          · intro w hSw; (try dsimp only at hSw); (go_simp; try with_reducible rfl)
                          (try simp only [Act.put, lq1, lq2, lq3, lq4, lq5, lq6])
                          refine wpAnyH_take (i := 20) (v := ?_) rfl (by kernel_rfl) (by kernel_rfl) (by kernel_rfl) (fun _ _ _ h => h) (Or.inl ⟨by rfl, ?_⟩) hHeld ?_
                          rotate_left
                          · intro w hSw; (try dsimp only at hSw); (go_simp; try with_reducible rfl)
                          (try simp only [Act.put, lq1, lq2, lq3, lq4, lq5, lq6])
                          refine wpAnyH_take (i := 21) (v := .agg #[.bool a.2.2.2.2, .int .i64 a.1, .int .i64 a.2.1, .int .u64 (a.2.2.1 : Int), .int .u64 (a.2.2.2.1 : Int)]) rfl (by kernel_rfl) (by kernel_rfl) (by kernel_rfl) (fun _ _ _ h => h) (Or.inl ⟨by rfl, ?_⟩) hHeld ?_
                          · intro w hSw; (try dsimp only at hSw); obtain ⟨c0, c1, c2, c3, c4, -⟩ := row5_facts (Ok.row' hSw ra.out); (go_simp; try with_reducible rfl)
                          (try simp only [Act.put, lq1, lq2, lq3, lq4, lq5, lq6])
                          refine wpAnyH_take (i := 22) (v := .agg #[.bool c.2.2.2.2, .int .i64 c.1, .int .i64 c.2.1, .int .u64 (c.2.2.1 : Int), .int .u64 (c.2.2.2.1 : Int)]) rfl (by kernel_rfl) (by kernel_rfl) (by kernel_rfl) (fun _ _ _ h => h) (Or.inl ⟨by rfl, ?_⟩) hHeld ?_
                          · intro w hSw; (try dsimp only at hSw); obtain ⟨c0, c1, c2, c3, c4, -⟩ := row5_facts (Ok.row' hSw rc.out); (go_simp; try with_reducible rfl)
                          (try simp only [Act.put, lq1, lq2, lq3, lq4, lq5, lq6])
                          refine wpAnyH_ready (rs := [23]) (by kernel_rfl) (by simp) ?_
                          refine AllReadyH.cons rfl (fun K hK => ?_) AllReadyH.nil
                          go_simp
                          refine (nleq_any _ _ (by first | exact HU.out.1 | exact HU.out.2.1 | exact HU.out.2.2.1 | exact RX.out.1 | exact RY.out.1 | exact RJ.out.1 | exact RM.out.1 | exact RZ.out.1) (by first | exact HU.out.1 | exact HU.out.2.1 | exact HU.out.2.2.1 | exact RX.out.1 | exact RY.out.1 | exact RJ.out.1 | exact RM.out.1 | exact RZ.out.1) wr _ hHeld).mono ?_
                          rintro e1 w' ⟨rfl, hb⟩
                          (first | rw [← HL.out] | rw [← HAC.out] | rw [← HBC.out] | rw [HJC.out])
                          dsimp only
                          refine hK.out _ _ hb (fun hHeld => ?_)
                          clear hK K hb
                          (try simp only [Act.put, lq1, lq2, lq3, lq4, lq5, lq6])
                          refine wpAnyH_take (i := 24) (v := ?_) rfl (by kernel_rfl) (by kernel_rfl) (by kernel_rfl) (fun _ _ _ h => h) (Or.inl ⟨by rfl, ?_⟩) hHeld ?_
                          rotate_left
                          · intro w hSw; (try dsimp only at hSw); (go_simp; try with_reducible rfl)
                          (try simp only [Act.put, lq1, lq2, lq3, lq4, lq5, lq6])
                          refine wpAnyH_take (i := 25) (v := .agg #[.bool b.2.2.2.2, .int .i64 b.1, .int .i64 b.2.1, .int .u64 (b.2.2.1 : Int), .int .u64 (b.2.2.2.1 : Int)]) rfl (by kernel_rfl) (by kernel_rfl) (by kernel_rfl) (fun _ _ _ h => h) (Or.inl ⟨by rfl, ?_⟩) hHeld ?_
                          · intro w hSw; (try dsimp only at hSw); obtain ⟨c0, c1, c2, c3, c4, -⟩ := row5_facts (Ok.row' hSw rb.out); (go_simp; try with_reducible rfl)
                          (try simp only [Act.put, lq1, lq2, lq3, lq4, lq5, lq6])
                          refine wpAnyH_take (i := 26) (v := .agg #[.bool c.2.2.2.2, .int .i64 c.1, .int .i64 c.2.1, .int .u64 (c.2.2.1 : Int), .int .u64 (c.2.2.2.1 : Int)]) rfl (by kernel_rfl) (by kernel_rfl) (by kernel_rfl) (fun _ _ _ h => h) (Or.inl ⟨by rfl, ?_⟩) hHeld ?_
                          · intro w hSw; (try dsimp only at hSw); obtain ⟨c0, c1, c2, c3, c4, -⟩ := row5_facts (Ok.row' hSw rc.out); (go_simp; try with_reducible rfl)
                          (try simp only [Act.put, lq1, lq2, lq3, lq4, lq5, lq6])
                          refine wpAnyH_ready (rs := [27]) (by kernel_rfl) (by simp) ?_
                          refine AllReadyH.cons rfl (fun K hK => ?_) AllReadyH.nil
                          go_simp
                          refine (nleq_any _ _ (by first | exact HU.out.1 | exact HU.out.2.1 | exact HU.out.2.2.1 | exact RX.out.1 | exact RY.out.1 | exact RJ.out.1 | exact RM.out.1 | exact RZ.out.1) (by first | exact HU.out.1 | exact HU.out.2.1 | exact HU.out.2.2.1 | exact RX.out.1 | exact RY.out.1 | exact RJ.out.1 | exact RM.out.1 | exact RZ.out.1) wr _ hHeld).mono ?_
                          rintro e1 w' ⟨rfl, hb⟩
                          (first | rw [← HL.out] | rw [← HAC.out] | rw [← HBC.out] | rw [HJC.out])
                          dsimp only
                          refine hK.out _ _ hb (fun hHeld => ?_)
                          clear hK K hb
                          (try simp only [Act.put, lq1, lq2, lq3, lq4, lq5, lq6])
                          refine wpAnyH_take (i := 28) (v := ?_) rfl (by kernel_rfl) (by kernel_rfl) (by kernel_rfl) (fun _ _ _ h => h) (Or.inl ⟨by rfl, ?_⟩) hHeld ?_
                          rotate_left
                          · intro w hSw; (try dsimp only at hSw); (go_simp; try with_reducible rfl)
                          (try simp only [Act.put, lq1, lq2, lq3, lq4, lq5, lq6])
                          refine wpAnyH_take (i := 29) (v := ?_) rfl (by kernel_rfl) (by kernel_rfl) (by kernel_rfl) (fun _ _ _ h => h) (Or.inl ⟨by rfl, ?_⟩) hHeld ?_
                          rotate_left
                          · intro w hSw; (try dsimp only at hSw); (go_simp; try with_reducible rfl)
                          (try simp only [Act.put, lq1, lq2, lq3, lq4, lq5, lq6])
                          refine wpAnyH_take (i := 30) (v := undef) rfl (by kernel_rfl) (by kernel_rfl) (by kernel_rfl) (fun _ _ _ h => h) (Or.inr ⟨by rfl, rfl⟩) hHeld ?_
                          (try simp only [Act.put, lq1, lq2, lq3, lq4, lq5, lq6])
                          refine wpAnyH_take (i := 31) (v := undef) rfl (by kernel_rfl) (by kernel_rfl) (by kernel_rfl) (fun _ _ _ h => h) (Or.inr ⟨by rfl, rfl⟩) hHeld ?_
                          (try simp only [Act.put, lq1, lq2, lq3, lq4, lq5, lq6])
                          refine wpAnyH_take (i := 32) (v := undef) rfl (by kernel_rfl) (by kernel_rfl) (by kernel_rfl) (fun _ _ _ h => h) (Or.inr ⟨by rfl, rfl⟩) hHeld ?_
                          (try simp only [Act.put, lq1, lq2, lq3, lq4, lq5, lq6])
                          refine wpAnyH_take (i := 33) (v := undef) rfl (by kernel_rfl) (by kernel_rfl) (by kernel_rfl) (fun _ _ _ h => h) (Or.inr ⟨by rfl, rfl⟩) hHeld ?_
                          (try simp only [Act.put, lq1, lq2, lq3, lq4, lq5, lq6])
                          refine wpAnyH_take (i := 34) (v := ?_) rfl (by kernel_rfl) (by kernel_rfl) (by kernel_rfl) (fun _ _ _ h => h) (Or.inl ⟨by rfl, ?_⟩) hHeld ?_
                          rotate_left
                          · intro w hSw; (try dsimp only at hSw); (go_simp; try with_reducible rfl)
                          (try simp only [Act.put, lq1, lq2, lq3, lq4, lq5, lq6])
                          refine wpAnyH_take (i := 35) (v := ?_) rfl (by kernel_rfl) (by kernel_rfl) (by kernel_rfl) (fun _ _ _ h => h) (Or.inl ⟨by rfl, ?_⟩) hHeld ?_
                          rotate_left
                          · intro w hSw; (try dsimp only at hSw); (go_simp; try with_reducible rfl)
                          (try simp only [Act.put, lq1, lq2, lq3, lq4, lq5, lq6])
                          refine wpAnyH_done (by kernel_rfl) ?_ _
                          go_wp2_with fail
                          go_meet
                          case rel => exact ⟨rfl, hHeld⟩
                        · have HJC : Hid _ := HLE.out rfl rfl
                          refine wp_region_held_drew (S := fun w' => Ok wr w') (by kernel_rfl) (Below.drew (Ok.refl _)) (fun hHeld => ?_)
                          refine wpAnyH_take (i := 0) (v := .agg #[.bool a.2.2.2.2, .int .i64 a.1, .int .i64 a.2.1, .int .u64 (a.2.2.1 : Int), .int .u64 (a.2.2.2.1 : Int)]) rfl (by kernel_rfl) (by kernel_rfl) (by kernel_rfl) (fun _ _ _ h => h) (Or.inl ⟨by rfl, ?_⟩) hHeld ?_
                          · intro w hSw; (try dsimp only at hSw); obtain ⟨c0, c1, c2, c3, c4, -⟩ := row5_facts (Ok.row' hSw ra.out); (go_simp; try with_reducible rfl)
                          (try simp only [Act.put, lq1, lq2, lq3, lq4, lq5, lq6])
                          refine wpAnyH_take (i := 1) (v := .agg #[.bool b.2.2.2.2, .int .i64 b.1, .int .i64 b.2.1, .int .u64 (b.2.2.1 : Int), .int .u64 (b.2.2.2.1 : Int)]) rfl (by kernel_rfl) (by kernel_rfl) (by kernel_rfl) (fun _ _ _ h => h) (Or.inl ⟨by rfl, ?_⟩) hHeld ?_
                          · intro w hSw; (try dsimp only at hSw); obtain ⟨c0, c1, c2, c3, c4, -⟩ := row5_facts (Ok.row' hSw rb.out); (go_simp; try with_reducible rfl)
                          (try simp only [Act.put, lq1, lq2, lq3, lq4, lq5, lq6])
                          refine wpAnyH_take (i := 3) (v := .agg #[.bool a.2.2.2.2, .int .i64 a.1, .int .i64 a.2.1, .int .u64 (a.2.2.1 : Int), .int .u64 (a.2.2.2.1 : Int)]) rfl (by kernel_rfl) (by kernel_rfl) (by kernel_rfl) (fun _ _ _ h => h) (Or.inl ⟨by rfl, ?_⟩) hHeld ?_
                          · intro w hSw; (try dsimp only at hSw); obtain ⟨c0, c1, c2, c3, c4, -⟩ := row5_facts (Ok.row' hSw ra.out); (go_simp; try with_reducible rfl)
                          (try simp only [Act.put, lq1, lq2, lq3, lq4, lq5, lq6])
                          refine wpAnyH_take (i := 4) (v := .agg #[.bool b.2.2.2.2, .int .i64 b.1, .int .i64 b.2.1, .int .u64 (b.2.2.1 : Int), .int .u64 (b.2.2.2.1 : Int)]) rfl (by kernel_rfl) (by kernel_rfl) (by kernel_rfl) (fun _ _ _ h => h) (Or.inl ⟨by rfl, ?_⟩) hHeld ?_
                          · intro w hSw; (try dsimp only at hSw); obtain ⟨c0, c1, c2, c3, c4, -⟩ := row5_facts (Ok.row' hSw rb.out); (go_simp; try with_reducible rfl)
                          (try simp only [Act.put, lq1, lq2, lq3, lq4, lq5, lq6])
                          refine wpAnyH_take (i := 6) (v := .agg #[.bool y.2.2.2.2, .int .i64 y.1, .int .i64 y.2.1, .int .u64 (y.2.2.1 : Int), .int .u64 (y.2.2.2.1 : Int)]) rfl (by kernel_rfl) (by kernel_rfl) (by kernel_rfl) (fun _ _ _ h => h) (Or.inl ⟨by rfl, ?_⟩) hHeld ?_
                          · intro w hSw; (try dsimp only at hSw); obtain ⟨c0, c1, c2, c3, c4, -⟩ := row5_facts (Ok.row' hSw ry.out); (go_simp; try with_reducible rfl)
                          (try simp only [Act.put, lq1, lq2, lq3, lq4, lq5, lq6])
                          refine wpAnyH_ready (rs := [2]) (by kernel_rfl) (by simp) ?_
                          refine AllReadyH.cons rfl (fun K hK => ?_) AllReadyH.nil
                          go_simp
                          refine (nleq_any _ _ (by first | exact HU.out.1 | exact HU.out.2.1 | exact HU.out.2.2.1 | exact RX.out.1 | exact RY.out.1 | exact RJ.out.1 | exact RM.out.1 | exact RZ.out.1) (by first | exact HU.out.1 | exact HU.out.2.1 | exact HU.out.2.2.1 | exact RX.out.1 | exact RY.out.1 | exact RJ.out.1 | exact RM.out.1 | exact RZ.out.1) wr _ hHeld).mono ?_
                          rintro e1 w' ⟨rfl, hb⟩
                          (first | rw [← HL.out] | rw [← HAC.out] | rw [← HBC.out] | rw [HJC.out])
                          dsimp only
                          refine hK.out _ _ hb (fun hHeld => ?_)
                          clear hK K hb
                          (try simp only [Act.put, lq1, lq2, lq3, lq4, lq5, lq6])
                          refine wpAnyH_ready (rs := [5]) (by kernel_rfl) (by simp) ?_
                          refine AllReadyH.cons rfl (fun K hK => ?_) AllReadyH.nil
                          go_simp
                          refine (njoin_any a b HU.out.1 HU.out.2.1 wr _ hHeld).mono ?_
                          rintro e1 w' ⟨rfl, hb⟩
                          rw [← HJ.out]
                          unfold nv
                          dsimp only
                          refine hK.out _ _ hb (fun hHeld => ?_)
                          clear hK K hb
                          (try simp only [Act.put, lq1, lq2, lq3, lq4, lq5, lq6])
                          refine wpAnyH_take (i := 7) (v := .bool L) rfl (by kernel_rfl) (by kernel_rfl) (by kernel_rfl) (fun _ _ _ h => h) (Or.inl ⟨by rfl, ?_⟩) hHeld ?_
                          · intro w hSw; (try dsimp only at hSw); (go_simp; exact eqn_run HJY.out (fun b => Result.ok (Next.value (.bool b)) w))
                          (try simp only [Act.put, lq1, lq2, lq3, lq4, lq5, lq6])
                          refine wpAnyH_take (i := 8) (v := .bool false) rfl (by kernel_rfl) (by kernel_rfl) (by kernel_rfl) (fun _ _ _ h => h) (Or.inl ⟨by rfl, ?_⟩) hHeld ?_
                          · intro w hSw; (try dsimp only at hSw); (cases L <;> first | (go_simp; done) | (go_simp; rfl))
                          (try simp only [Act.put, lq1, lq2, lq3, lq4, lq5, lq6])
                          refine wpAnyH_take (i := 9) (v := ?_) rfl (by kernel_rfl) (by kernel_rfl) (by kernel_rfl) (fun _ _ _ h => h) (Or.inl ⟨by rfl, ?_⟩) hHeld ?_
                          rotate_left
                          · intro w hSw; (try dsimp only at hSw); (go_simp; try with_reducible rfl)
                          (try simp only [Act.put, lq1, lq2, lq3, lq4, lq5, lq6])
                          refine wpAnyH_take (i := 10) (v := .agg #[.bool a.2.2.2.2, .int .i64 a.1, .int .i64 a.2.1, .int .u64 (a.2.2.1 : Int), .int .u64 (a.2.2.2.1 : Int)]) rfl (by kernel_rfl) (by kernel_rfl) (by kernel_rfl) (fun _ _ _ h => h) (Or.inl ⟨by rfl, ?_⟩) hHeld ?_
                          · intro w hSw; (try dsimp only at hSw); obtain ⟨c0, c1, c2, c3, c4, -⟩ := row5_facts (Ok.row' hSw ra.out); (go_simp; try with_reducible rfl)
                          (try simp only [Act.put, lq1, lq2, lq3, lq4, lq5, lq6])
                          refine wpAnyH_take (i := 11) (v := .agg #[.bool b.2.2.2.2, .int .i64 b.1, .int .i64 b.2.1, .int .u64 (b.2.2.1 : Int), .int .u64 (b.2.2.2.1 : Int)]) rfl (by kernel_rfl) (by kernel_rfl) (by kernel_rfl) (fun _ _ _ h => h) (Or.inl ⟨by rfl, ?_⟩) hHeld ?_
                          · intro w hSw; (try dsimp only at hSw); obtain ⟨c0, c1, c2, c3, c4, -⟩ := row5_facts (Ok.row' hSw rb.out); (go_simp; try with_reducible rfl)
                          (try simp only [Act.put, lq1, lq2, lq3, lq4, lq5, lq6])
                          refine wpAnyH_take (i := 13) (v := .agg #[.bool a.2.2.2.2, .int .i64 a.1, .int .i64 a.2.1, .int .u64 (a.2.2.1 : Int), .int .u64 (a.2.2.2.1 : Int)]) rfl (by kernel_rfl) (by kernel_rfl) (by kernel_rfl) (fun _ _ _ h => h) (Or.inl ⟨by rfl, ?_⟩) hHeld ?_
                          · intro w hSw; (try dsimp only at hSw); obtain ⟨c0, c1, c2, c3, c4, -⟩ := row5_facts (Ok.row' hSw ra.out); (go_simp; try with_reducible rfl)
                          (try simp only [Act.put, lq1, lq2, lq3, lq4, lq5, lq6])
                          refine wpAnyH_take (i := 14) (v := .agg #[.bool b.2.2.2.2, .int .i64 b.1, .int .i64 b.2.1, .int .u64 (b.2.2.1 : Int), .int .u64 (b.2.2.2.1 : Int)]) rfl (by kernel_rfl) (by kernel_rfl) (by kernel_rfl) (fun _ _ _ h => h) (Or.inl ⟨by rfl, ?_⟩) hHeld ?_
                          · intro w hSw; (try dsimp only at hSw); obtain ⟨c0, c1, c2, c3, c4, -⟩ := row5_facts (Ok.row' hSw rb.out); (go_simp; try with_reducible rfl)
                          (try simp only [Act.put, lq1, lq2, lq3, lq4, lq5, lq6])
                          refine wpAnyH_take (i := 16) (v := .agg #[.bool x.2.2.2.2, .int .i64 x.1, .int .i64 x.2.1, .int .u64 (x.2.2.1 : Int), .int .u64 (x.2.2.2.1 : Int)]) rfl (by kernel_rfl) (by kernel_rfl) (by kernel_rfl) (fun _ _ _ h => h) (Or.inl ⟨by rfl, ?_⟩) hHeld ?_
                          · intro w hSw; (try dsimp only at hSw); obtain ⟨c0, c1, c2, c3, c4, -⟩ := row5_facts (Ok.row' hSw rx.out); (go_simp; try with_reducible rfl)
                          (try simp only [Act.put, lq1, lq2, lq3, lq4, lq5, lq6])
                          refine wpAnyH_ready (rs := [12]) (by kernel_rfl) (by simp) ?_
                          refine AllReadyH.cons rfl (fun K hK => ?_) AllReadyH.nil
                          go_simp
                          refine (nleq_any _ _ (by first | exact HU.out.1 | exact HU.out.2.1 | exact HU.out.2.2.1 | exact RX.out.1 | exact RY.out.1 | exact RJ.out.1 | exact RM.out.1 | exact RZ.out.1) (by first | exact HU.out.1 | exact HU.out.2.1 | exact HU.out.2.2.1 | exact RX.out.1 | exact RY.out.1 | exact RJ.out.1 | exact RM.out.1 | exact RZ.out.1) wr _ hHeld).mono ?_
                          rintro e1 w' ⟨rfl, hb⟩
                          (first | rw [← HL.out] | rw [← HAC.out] | rw [← HBC.out] | rw [HJC.out])
                          dsimp only
                          refine hK.out _ _ hb (fun hHeld => ?_)
                          clear hK K hb
                          (try simp only [Act.put, lq1, lq2, lq3, lq4, lq5, lq6])
                          refine wpAnyH_ready (rs := [15]) (by kernel_rfl) (by simp) ?_
                          refine AllReadyH.cons rfl (fun K hK => ?_) AllReadyH.nil
                          go_simp
                          refine (nmeet_any a b HU.out.1 HU.out.2.1 wr _ hHeld).mono ?_
                          rintro e1 w' ⟨rfl, hb⟩
                          rw [← HM.out]
                          unfold nv
                          dsimp only
                          refine hK.out _ _ hb (fun hHeld => ?_)
                          clear hK K hb
                          (try simp only [Act.put, lq1, lq2, lq3, lq4, lq5, lq6])
                          refine wpAnyH_take (i := 17) (v := .bool L) rfl (by kernel_rfl) (by kernel_rfl) (by kernel_rfl) (fun _ _ _ h => h) (Or.inl ⟨by rfl, ?_⟩) hHeld ?_
                          · intro w hSw; (try dsimp only at hSw); (go_simp; exact eqn_run HMX.out (fun b => Result.ok (Next.value (.bool b)) w))
                          (try simp only [Act.put, lq1, lq2, lq3, lq4, lq5, lq6])
                          refine wpAnyH_take (i := 18) (v := .bool false) rfl (by kernel_rfl) (by kernel_rfl) (by kernel_rfl) (fun _ _ _ h => h) (Or.inl ⟨by rfl, ?_⟩) hHeld ?_
                          · intro w hSw; (try dsimp only at hSw); (cases L <;> first | (go_simp; done) | (go_simp; rfl))
                          (try simp only [Act.put, lq1, lq2, lq3, lq4, lq5, lq6])
                          refine wpAnyH_take (i := 19) (v := ?_) rfl (by kernel_rfl) (by kernel_rfl) (by kernel_rfl) (fun _ _ _ h => h) (Or.inl ⟨by rfl, ?_⟩) hHeld ?_
                          rotate_left
                          · intro w hSw; (try dsimp only at hSw); (go_simp; try with_reducible rfl)
                          (try simp only [Act.put, lq1, lq2, lq3, lq4, lq5, lq6])
                          refine wpAnyH_take (i := 20) (v := ?_) rfl (by kernel_rfl) (by kernel_rfl) (by kernel_rfl) (fun _ _ _ h => h) (Or.inl ⟨by rfl, ?_⟩) hHeld ?_
                          rotate_left
                          · intro w hSw; (try dsimp only at hSw); (go_simp; try with_reducible rfl)
                          (try simp only [Act.put, lq1, lq2, lq3, lq4, lq5, lq6])
                          refine wpAnyH_take (i := 21) (v := .agg #[.bool a.2.2.2.2, .int .i64 a.1, .int .i64 a.2.1, .int .u64 (a.2.2.1 : Int), .int .u64 (a.2.2.2.1 : Int)]) rfl (by kernel_rfl) (by kernel_rfl) (by kernel_rfl) (fun _ _ _ h => h) (Or.inl ⟨by rfl, ?_⟩) hHeld ?_
                          · intro w hSw; (try dsimp only at hSw); obtain ⟨c0, c1, c2, c3, c4, -⟩ := row5_facts (Ok.row' hSw ra.out); (go_simp; try with_reducible rfl)
                          (try simp only [Act.put, lq1, lq2, lq3, lq4, lq5, lq6])
                          refine wpAnyH_take (i := 22) (v := .agg #[.bool c.2.2.2.2, .int .i64 c.1, .int .i64 c.2.1, .int .u64 (c.2.2.1 : Int), .int .u64 (c.2.2.2.1 : Int)]) rfl (by kernel_rfl) (by kernel_rfl) (by kernel_rfl) (fun _ _ _ h => h) (Or.inl ⟨by rfl, ?_⟩) hHeld ?_
                          · intro w hSw; (try dsimp only at hSw); obtain ⟨c0, c1, c2, c3, c4, -⟩ := row5_facts (Ok.row' hSw rc.out); (go_simp; try with_reducible rfl)
                          (try simp only [Act.put, lq1, lq2, lq3, lq4, lq5, lq6])
                          refine wpAnyH_ready (rs := [23]) (by kernel_rfl) (by simp) ?_
                          refine AllReadyH.cons rfl (fun K hK => ?_) AllReadyH.nil
                          go_simp
                          refine (nleq_any _ _ (by first | exact HU.out.1 | exact HU.out.2.1 | exact HU.out.2.2.1 | exact RX.out.1 | exact RY.out.1 | exact RJ.out.1 | exact RM.out.1 | exact RZ.out.1) (by first | exact HU.out.1 | exact HU.out.2.1 | exact HU.out.2.2.1 | exact RX.out.1 | exact RY.out.1 | exact RJ.out.1 | exact RM.out.1 | exact RZ.out.1) wr _ hHeld).mono ?_
                          rintro e1 w' ⟨rfl, hb⟩
                          (first | rw [← HL.out] | rw [← HAC.out] | rw [← HBC.out] | rw [HJC.out])
                          dsimp only
                          refine hK.out _ _ hb (fun hHeld => ?_)
                          clear hK K hb
                          (try simp only [Act.put, lq1, lq2, lq3, lq4, lq5, lq6])
                          refine wpAnyH_take (i := 24) (v := ?_) rfl (by kernel_rfl) (by kernel_rfl) (by kernel_rfl) (fun _ _ _ h => h) (Or.inl ⟨by rfl, ?_⟩) hHeld ?_
                          rotate_left
                          · intro w hSw; (try dsimp only at hSw); (go_simp; try with_reducible rfl)
                          (try simp only [Act.put, lq1, lq2, lq3, lq4, lq5, lq6])
                          refine wpAnyH_take (i := 25) (v := .agg #[.bool b.2.2.2.2, .int .i64 b.1, .int .i64 b.2.1, .int .u64 (b.2.2.1 : Int), .int .u64 (b.2.2.2.1 : Int)]) rfl (by kernel_rfl) (by kernel_rfl) (by kernel_rfl) (fun _ _ _ h => h) (Or.inl ⟨by rfl, ?_⟩) hHeld ?_
                          · intro w hSw; (try dsimp only at hSw); obtain ⟨c0, c1, c2, c3, c4, -⟩ := row5_facts (Ok.row' hSw rb.out); (go_simp; try with_reducible rfl)
                          (try simp only [Act.put, lq1, lq2, lq3, lq4, lq5, lq6])
                          refine wpAnyH_take (i := 26) (v := .agg #[.bool c.2.2.2.2, .int .i64 c.1, .int .i64 c.2.1, .int .u64 (c.2.2.1 : Int), .int .u64 (c.2.2.2.1 : Int)]) rfl (by kernel_rfl) (by kernel_rfl) (by kernel_rfl) (fun _ _ _ h => h) (Or.inl ⟨by rfl, ?_⟩) hHeld ?_
                          · intro w hSw; (try dsimp only at hSw); obtain ⟨c0, c1, c2, c3, c4, -⟩ := row5_facts (Ok.row' hSw rc.out); (go_simp; try with_reducible rfl)
                          (try simp only [Act.put, lq1, lq2, lq3, lq4, lq5, lq6])
                          refine wpAnyH_ready (rs := [27]) (by kernel_rfl) (by simp) ?_
                          refine AllReadyH.cons rfl (fun K hK => ?_) AllReadyH.nil
                          go_simp
                          refine (nleq_any _ _ (by first | exact HU.out.1 | exact HU.out.2.1 | exact HU.out.2.2.1 | exact RX.out.1 | exact RY.out.1 | exact RJ.out.1 | exact RM.out.1 | exact RZ.out.1) (by first | exact HU.out.1 | exact HU.out.2.1 | exact HU.out.2.2.1 | exact RX.out.1 | exact RY.out.1 | exact RJ.out.1 | exact RM.out.1 | exact RZ.out.1) wr _ hHeld).mono ?_
                          rintro e1 w' ⟨rfl, hb⟩
                          (first | rw [← HL.out] | rw [← HAC.out] | rw [← HBC.out] | rw [HJC.out])
                          dsimp only
                          refine hK.out _ _ hb (fun hHeld => ?_)
                          clear hK K hb
                          (try simp only [Act.put, lq1, lq2, lq3, lq4, lq5, lq6])
                          refine wpAnyH_take (i := 28) (v := ?_) rfl (by kernel_rfl) (by kernel_rfl) (by kernel_rfl) (fun _ _ _ h => h) (Or.inl ⟨by rfl, ?_⟩) hHeld ?_
                          rotate_left
                          · intro w hSw; (try dsimp only at hSw); (go_simp; try with_reducible rfl)
                          (try simp only [Act.put, lq1, lq2, lq3, lq4, lq5, lq6])
                          refine wpAnyH_take (i := 29) (v := ?_) rfl (by kernel_rfl) (by kernel_rfl) (by kernel_rfl) (fun _ _ _ h => h) (Or.inl ⟨by rfl, ?_⟩) hHeld ?_
                          rotate_left
                          · intro w hSw; (try dsimp only at hSw); (go_simp; try with_reducible rfl)
                          (try simp only [Act.put, lq1, lq2, lq3, lq4, lq5, lq6])
                          refine wpAnyH_take (i := 30) (v := .agg #[.bool j.2.2.2.2, .int .i64 j.1, .int .i64 j.2.1, .int .u64 (j.2.2.1 : Int), .int .u64 (j.2.2.2.1 : Int)]) rfl (by kernel_rfl) (by kernel_rfl) (by kernel_rfl) (fun _ _ _ h => h) (Or.inl ⟨by rfl, ?_⟩) hHeld ?_
                          · intro w hSw; (try dsimp only at hSw); obtain ⟨c0, c1, c2, c3, c4, -⟩ := row5_facts (Ok.row' hSw rj.out); (go_simp; try with_reducible rfl)
                          (try simp only [Act.put, lq1, lq2, lq3, lq4, lq5, lq6])
                          refine wpAnyH_take (i := 31) (v := .agg #[.bool c.2.2.2.2, .int .i64 c.1, .int .i64 c.2.1, .int .u64 (c.2.2.1 : Int), .int .u64 (c.2.2.2.1 : Int)]) rfl (by kernel_rfl) (by kernel_rfl) (by kernel_rfl) (fun _ _ _ h => h) (Or.inl ⟨by rfl, ?_⟩) hHeld ?_
                          · intro w hSw; (try dsimp only at hSw); obtain ⟨c0, c1, c2, c3, c4, -⟩ := row5_facts (Ok.row' hSw rc.out); (go_simp; try with_reducible rfl)
                          (try simp only [Act.put, lq1, lq2, lq3, lq4, lq5, lq6])
                          refine wpAnyH_ready (rs := [32]) (by kernel_rfl) (by simp) ?_
                          refine AllReadyH.cons rfl (fun K hK => ?_) AllReadyH.nil
                          go_simp
                          refine (nleq_any _ _ (by first | exact HU.out.1 | exact HU.out.2.1 | exact HU.out.2.2.1 | exact RX.out.1 | exact RY.out.1 | exact RJ.out.1 | exact RM.out.1 | exact RZ.out.1) (by first | exact HU.out.1 | exact HU.out.2.1 | exact HU.out.2.2.1 | exact RX.out.1 | exact RY.out.1 | exact RJ.out.1 | exact RM.out.1 | exact RZ.out.1) wr _ hHeld).mono ?_
                          rintro e1 w' ⟨rfl, hb⟩
                          (first | rw [← HL.out] | rw [← HAC.out] | rw [← HBC.out] | rw [HJC.out])
                          dsimp only
                          refine hK.out _ _ hb (fun hHeld => ?_)
                          clear hK K hb
                          (try simp only [Act.put, lq1, lq2, lq3, lq4, lq5, lq6])
                          refine wpAnyH_take (i := 33) (v := ?_) rfl (by kernel_rfl) (by kernel_rfl) (by kernel_rfl) (fun _ _ _ h => h) (Or.inl ⟨by rfl, ?_⟩) hHeld ?_
                          rotate_left
                          · intro w hSw; (try dsimp only at hSw); (go_simp; try with_reducible rfl)
                          (try simp only [Act.put, lq1, lq2, lq3, lq4, lq5, lq6])
                          refine wpAnyH_take (i := 34) (v := ?_) rfl (by kernel_rfl) (by kernel_rfl) (by kernel_rfl) (fun _ _ _ h => h) (Or.inl ⟨by rfl, ?_⟩) hHeld ?_
                          rotate_left
                          · intro w hSw; (try dsimp only at hSw); (go_simp; try with_reducible rfl)
                          (try simp only [Act.put, lq1, lq2, lq3, lq4, lq5, lq6])
                          refine wpAnyH_take (i := 35) (v := ?_) rfl (by kernel_rfl) (by kernel_rfl) (by kernel_rfl) (fun _ _ _ h => h) (Or.inl ⟨by rfl, ?_⟩) hHeld ?_
                          rotate_left
                          · intro w hSw; (try dsimp only at hSw); (go_simp; try with_reducible rfl)
                          (try simp only [Act.put, lq1, lq2, lq3, lq4, lq5, lq6])
                          refine wpAnyH_done (by kernel_rfl) ?_ _
                          go_wp2_with fail
                          go_meet
                          case rel => exact ⟨rfl, hHeld⟩
                  case rest =>
                    obtain ⟨h209, hO⟩ := hcut.out
                    subst h209
                    clear hcut
                    replace ra : Hid _ := Ok.row' hO ra.out
                    replace rb : Hid _ := Ok.row' hO rb.out
                    replace rc : Hid _ := Ok.row' hO rc.out
                    replace rx : Hid _ := Ok.row' hO rx.out
                    replace ry : Hid _ := Ok.row' hO ry.out
                    replace rj : Hid _ := Ok.row' hO rj.out
                    replace rm : Hid _ := Ok.row' hO rm.out
                    replace rz : Hid _ := Ok.row' hO rz.out
                    obtain ⟨V7, ew⟩ : ∃ t, t = wc := ⟨_, rfl⟩
                    rw [← ew] at hO ⊢
                    rw [← ew] at ra
                    rw [← ew] at rb
                    rw [← ew] at rc
                    rw [← ew] at rx
                    rw [← ew] at ry
                    rw [← ew] at rj
                    rw [← ew] at rm
                    rw [← ew] at rz
                    have HV7 : Hid (Ok w0 V7) := (HV6.out.step HK.out).step hO
                    clear hO ew HK HV6
                    go_upto_region 18 with (fail)
                    go_cut [254] from 210 to 254 (fun s254 u => Hid (s254 = .bool false ∧ Ok V7 u))
                    case first =>
                      as_aux_lemma =>
                        have NZ : Hid (z = x ↔ (x.2.2.2.2 = true ∨ (x.1 ≠ 0 ∧ x.2.1 ≠ 0))) := by unfold Hid; rw [HZ.out, HX.out]; exact nz_iff HU.out.1
                        have NZ0 : Hid (z ≠ x → insN z 0 = false) := by unfold Hid; rw [HZ.out, HX.out]; exact nz_zero HU.out.1
                        by_cases zx : z = x
                        · have nb := NZ.out.1 zx
                          clear NZ NZ0 HZ
                          subst zx
                          have zz := row5_facts (rz.out)
                          have zz0 := zz.1
                          have zz1 := zz.2.1
                          have zz2 := zz.2.2.1
                          have zz3 := zz.2.2.2.1
                          have zz4 := zz.2.2.2.2.1
                          have zz5 := zz.2.2.2.2.2.1
                          have zz6 := zz.2.2.2.2.2.2.1
                          have zz7 := zz.2.2.2.2.2.2.2.1
                          have zz8 := zz.2.2.2.2.2.2.2.2.1
                          have zz9 := zz.2.2.2.2.2.2.2.2.2
                          clear zz
                          have zz := row5_facts (rx.out)
                          have xx0 := zz.1
                          have xx1 := zz.2.1
                          have xx2 := zz.2.2.1
                          have xx3 := zz.2.2.2.1
                          have xx4 := zz.2.2.2.2.1
                          have xx5 := zz.2.2.2.2.2.1
                          have xx6 := zz.2.2.2.2.2.2.1
                          have xx7 := zz.2.2.2.2.2.2.2.1
                          have xx8 := zz.2.2.2.2.2.2.2.2.1
                          have xx9 := zz.2.2.2.2.2.2.2.2.2
                          clear zz
                          cases hxb : z.2.2.2.2
                          · have nb2 : z.1 ≠ 0 ∧ z.2.1 ≠ 0 := by rcases nb with h | h; (· rw [hxb] at h; cases h); exact h
                            have n1 : (z.1 == 0) = false := by simp; exact nb2.1
                            have n2 : (z.2.1 == 0) = false := by simp; exact nb2.2
                            have n3 := nb2.1
                            have n4 := nb2.2
                            rw [hxb] at xx0 zz0
                            clear nb nb2
                            go_wp2_with fail
                            go_meet
                            case rel => exact ⟨rfl, Ok.refl _⟩
                          · rw [hxb] at xx0 zz0
                            clear nb
                            go_wp2_with fail
                            go_meet
                            case rel => exact ⟨rfl, Ok.refl _⟩
                        · have hz0 : Hid _ := NZ0.out zx
                          have nb : ¬ (x.2.2.2.2 = true ∨ (x.1 ≠ 0 ∧ x.2.1 ≠ 0)) := fun h => zx (NZ.out.2 h)
                          have hxb : x.2.2.2.2 = false := by cases c : x.2.2.2.2; rfl; exact absurd (Or.inl c) nb
                          have H5 : Hid (∀ B, z.2.2.2.2 = B → insN (z.1, z.2.1, z.2.2.1, z.2.2.2.1, B) 0 = false) := fun B h => by subst h; exact hz0.out
                          have FZ : Hid _ := fun c => forms_z RZ.out.1 RZ.out.2 c (x := x) hz0.out
                          clear NZ NZ0 zx
                          have zz := row5_facts (rz.out)
                          have zz0 := zz.1
                          have zz1 := zz.2.1
                          have zz2 := zz.2.2.1
                          have zz3 := zz.2.2.2.1
                          have zz4 := zz.2.2.2.2.1
                          have zz5 := zz.2.2.2.2.2.1
                          have zz6 := zz.2.2.2.2.2.2.1
                          have zz7 := zz.2.2.2.2.2.2.2.1
                          have zz8 := zz.2.2.2.2.2.2.2.2.1
                          have zz9 := zz.2.2.2.2.2.2.2.2.2
                          clear zz
                          have zz := row5_facts (rx.out)
                          have xx0 := zz.1
                          have xx1 := zz.2.1
                          have xx2 := zz.2.2.1
                          have xx3 := zz.2.2.2.1
                          have xx4 := zz.2.2.2.2.1
                          have xx5 := zz.2.2.2.2.2.1
                          have xx6 := zz.2.2.2.2.2.2.1
                          have xx7 := zz.2.2.2.2.2.2.2.1
                          have xx8 := zz.2.2.2.2.2.2.2.2.1
                          have xx9 := zz.2.2.2.2.2.2.2.2.2
                          clear zz
                          rw [hxb] at xx0
                          have HXB : Hid _ := hxb
                          clear hxb
                          by_cases x0 : x.1 = 0
                          · have HX0 : Hid _ := x0
                            have x1 : (x.1 == 0) = true := by simp; exact x0
                            clear nb x0
                            cases hzb : z.2.2.2.2
                            · rw [hzb] at zz0
                              have nz1 : ¬ z.1 = x.1 := (FZ.out hzb).1 HX0.out
                              have nz2 : ¬ z.1 = 0 := by rw [← HX0.out]; exact nz1
                              have HZB : Hid _ := hzb
                              clear hzb
                              go_wp2_with fail
                              clear zz0 xx0 zz1 xx1 zz2 xx2 zz3 xx3 zz4 xx4 zz5 xx5 zz6 xx6 zz7 xx7 zz8 xx8 zz9 xx9
                              refine (win5 z.1 z.2.1 z.2.2.1 z.2.2.2.1 _ 0 RZ.out.1.2.2.1 RZ.out.1.2.2.2 in_zero V7 _ (Ok.refl _)).mono ?_
                              rintro e1 y1 ⟨rfl, hb⟩
                              rw [H5.out _ HZB.out]
                              have zz := row5_facts (Ok.row' hb rz.out)
                              have zz0 := zz.1
                              have zz1 := zz.2.1
                              have zz2 := zz.2.2.1
                              have zz3 := zz.2.2.2.1
                              have zz4 := zz.2.2.2.2.1
                              have zz5 := zz.2.2.2.2.2.1
                              have zz6 := zz.2.2.2.2.2.2.1
                              have zz7 := zz.2.2.2.2.2.2.2.1
                              have zz8 := zz.2.2.2.2.2.2.2.2.1
                              have zz9 := zz.2.2.2.2.2.2.2.2.2
                              clear zz
                              have zz := row5_facts (Ok.row' hb rx.out)
                              have xx0 := zz.1
                              have xx1 := zz.2.1
                              have xx2 := zz.2.2.1
                              have xx3 := zz.2.2.2.1
                              have xx4 := zz.2.2.2.2.1
                              have xx5 := zz.2.2.2.2.2.1
                              have xx6 := zz.2.2.2.2.2.2.1
                              have xx7 := zz.2.2.2.2.2.2.2.1
                              have xx8 := zz.2.2.2.2.2.2.2.2.1
                              have xx9 := zz.2.2.2.2.2.2.2.2.2
                              clear zz
                              rw [HXB.out] at xx0; rw [HZB.out] at zz0
                              have hc : Hid _ := hb
                              clear hb
                              go_wp2_with fail
                              go_meet
                              case rel => exact ⟨rfl, hc.out⟩
                            · rw [hzb] at zz0
                              have HZB : Hid _ := hzb
                              clear hzb
                              go_wp2_with fail
                              clear zz0 xx0 zz1 xx1 zz2 xx2 zz3 xx3 zz4 xx4 zz5 xx5 zz6 xx6 zz7 xx7 zz8 xx8 zz9 xx9
                              refine (win5 z.1 z.2.1 z.2.2.1 z.2.2.2.1 _ 0 RZ.out.1.2.2.1 RZ.out.1.2.2.2 in_zero V7 _ (Ok.refl _)).mono ?_
                              rintro e1 y1 ⟨rfl, hb⟩
                              rw [H5.out _ HZB.out]
                              have zz := row5_facts (Ok.row' hb rz.out)
                              have zz0 := zz.1
                              have zz1 := zz.2.1
                              have zz2 := zz.2.2.1
                              have zz3 := zz.2.2.2.1
                              have zz4 := zz.2.2.2.2.1
                              have zz5 := zz.2.2.2.2.2.1
                              have zz6 := zz.2.2.2.2.2.2.1
                              have zz7 := zz.2.2.2.2.2.2.2.1
                              have zz8 := zz.2.2.2.2.2.2.2.2.1
                              have zz9 := zz.2.2.2.2.2.2.2.2.2
                              clear zz
                              have zz := row5_facts (Ok.row' hb rx.out)
                              have xx0 := zz.1
                              have xx1 := zz.2.1
                              have xx2 := zz.2.2.1
                              have xx3 := zz.2.2.2.1
                              have xx4 := zz.2.2.2.2.1
                              have xx5 := zz.2.2.2.2.2.1
                              have xx6 := zz.2.2.2.2.2.2.1
                              have xx7 := zz.2.2.2.2.2.2.2.1
                              have xx8 := zz.2.2.2.2.2.2.2.2.1
                              have xx9 := zz.2.2.2.2.2.2.2.2.2
                              clear zz
                              rw [HXB.out] at xx0; rw [HZB.out] at zz0
                              have hc : Hid _ := hb
                              clear hb
                              go_wp2_with fail
                              go_meet
                              case rel => exact ⟨rfl, hc.out⟩
                          · have x1 : (x.1 == 0) = false := by simp; exact x0
                            have x2 : x.2.1 = 0 := by rcases Int.decEq x.2.1 0 with h | h; (· exact absurd (Or.inr ⟨x0, h⟩) nb); exact h
                            have HX0 : Hid _ := x2
                            have x3 : (x.2.1 == 0) = true := by simp; exact x2
                            clear nb x2
                            cases hzb : z.2.2.2.2
                            · rw [hzb] at zz0
                              have nz1 : ¬ z.2.1 = x.2.1 := (FZ.out hzb).2 HX0.out
                              have nz2 : ¬ z.2.1 = 0 := by rw [← HX0.out]; exact nz1
                              have HZB : Hid _ := hzb
                              clear hzb
                              go_wp2_with fail
                              clear zz0 xx0 zz1 xx1 zz2 xx2 zz3 xx3 zz4 xx4 zz5 xx5 zz6 xx6 zz7 xx7 zz8 xx8 zz9 xx9
                              refine (win5 z.1 z.2.1 z.2.2.1 z.2.2.2.1 _ 0 RZ.out.1.2.2.1 RZ.out.1.2.2.2 in_zero V7 _ (Ok.refl _)).mono ?_
                              rintro e1 y1 ⟨rfl, hb⟩
                              rw [H5.out _ HZB.out]
                              have zz := row5_facts (Ok.row' hb rz.out)
                              have zz0 := zz.1
                              have zz1 := zz.2.1
                              have zz2 := zz.2.2.1
                              have zz3 := zz.2.2.2.1
                              have zz4 := zz.2.2.2.2.1
                              have zz5 := zz.2.2.2.2.2.1
                              have zz6 := zz.2.2.2.2.2.2.1
                              have zz7 := zz.2.2.2.2.2.2.2.1
                              have zz8 := zz.2.2.2.2.2.2.2.2.1
                              have zz9 := zz.2.2.2.2.2.2.2.2.2
                              clear zz
                              have zz := row5_facts (Ok.row' hb rx.out)
                              have xx0 := zz.1
                              have xx1 := zz.2.1
                              have xx2 := zz.2.2.1
                              have xx3 := zz.2.2.2.1
                              have xx4 := zz.2.2.2.2.1
                              have xx5 := zz.2.2.2.2.2.1
                              have xx6 := zz.2.2.2.2.2.2.1
                              have xx7 := zz.2.2.2.2.2.2.2.1
                              have xx8 := zz.2.2.2.2.2.2.2.2.1
                              have xx9 := zz.2.2.2.2.2.2.2.2.2
                              clear zz
                              rw [HXB.out] at xx0; rw [HZB.out] at zz0
                              have hc : Hid _ := hb
                              clear hb
                              go_wp2_with fail
                              go_meet
                              case rel => exact ⟨rfl, hc.out⟩
                            · rw [hzb] at zz0
                              have HZB : Hid _ := hzb
                              clear hzb
                              go_wp2_with fail
                              clear zz0 xx0 zz1 xx1 zz2 xx2 zz3 xx3 zz4 xx4 zz5 xx5 zz6 xx6 zz7 xx7 zz8 xx8 zz9 xx9
                              refine (win5 z.1 z.2.1 z.2.2.1 z.2.2.2.1 _ 0 RZ.out.1.2.2.1 RZ.out.1.2.2.2 in_zero V7 _ (Ok.refl _)).mono ?_
                              rintro e1 y1 ⟨rfl, hb⟩
                              rw [H5.out _ HZB.out]
                              have zz := row5_facts (Ok.row' hb rz.out)
                              have zz0 := zz.1
                              have zz1 := zz.2.1
                              have zz2 := zz.2.2.1
                              have zz3 := zz.2.2.2.1
                              have zz4 := zz.2.2.2.2.1
                              have zz5 := zz.2.2.2.2.2.1
                              have zz6 := zz.2.2.2.2.2.2.1
                              have zz7 := zz.2.2.2.2.2.2.2.1
                              have zz8 := zz.2.2.2.2.2.2.2.2.1
                              have zz9 := zz.2.2.2.2.2.2.2.2.2
                              clear zz
                              have zz := row5_facts (Ok.row' hb rx.out)
                              have xx0 := zz.1
                              have xx1 := zz.2.1
                              have xx2 := zz.2.2.1
                              have xx3 := zz.2.2.2.1
                              have xx4 := zz.2.2.2.2.1
                              have xx5 := zz.2.2.2.2.2.1
                              have xx6 := zz.2.2.2.2.2.2.1
                              have xx7 := zz.2.2.2.2.2.2.2.1
                              have xx8 := zz.2.2.2.2.2.2.2.2.1
                              have xx9 := zz.2.2.2.2.2.2.2.2.2
                              clear zz
                              rw [HXB.out] at xx0; rw [HZB.out] at zz0
                              have hc : Hid _ := hb
                              clear hb
                              go_wp2_with fail
                              go_meet
                              case rel => exact ⟨rfl, hc.out⟩
                    case rest =>
                      obtain ⟨h254, hO⟩ := hcut.out
                      subst h254
                      clear hcut
                      replace ra : Hid _ := Ok.row' hO ra.out
                      replace rb : Hid _ := Ok.row' hO rb.out
                      replace rc : Hid _ := Ok.row' hO rc.out
                      replace rx : Hid _ := Ok.row' hO rx.out
                      replace ry : Hid _ := Ok.row' hO ry.out
                      replace rj : Hid _ := Ok.row' hO rj.out
                      replace rm : Hid _ := Ok.row' hO rm.out
                      replace rz : Hid _ := Ok.row' hO rz.out
                      obtain ⟨V8, ew⟩ : ∃ t, t = wc := ⟨_, rfl⟩
                      rw [← ew] at hO ⊢
                      rw [← ew] at ra
                      rw [← ew] at rb
                      rw [← ew] at rc
                      rw [← ew] at rx
                      rw [← ew] at ry
                      rw [← ew] at rj
                      rw [← ew] at rm
                      rw [← ew] at rz
                      have HV8 : Hid (Ok w0 V8) := HV7.out.step hO
                      clear hO ew HV7
                      have K1 : lqN m a = true := by rw [HM.out]; exact lq_m1 HU.out.1 HU.out.2.1
                      have K2 : lqN m b = true := by rw [HM.out]; exact lq_m2 HU.out.1 HU.out.2.1
                      have K3 : lqN a j = true := by rw [HJ.out]; exact lq_j HU.out.1 HU.out.2.1
                      have HK1 : Hid _ := K1
                      have HK2 : Hid _ := K2
                      have HK3 : Hid _ := K3
                      clear K1 K2 K3
                      have zz := row5_facts (rm.out)
                      have mm0 := zz.1
                      have mm1 := zz.2.1
                      have mm2 := zz.2.2.1
                      have mm3 := zz.2.2.2.1
                      have mm4 := zz.2.2.2.2.1
                      have mm5 := zz.2.2.2.2.2.1
                      have mm6 := zz.2.2.2.2.2.2.1
                      have mm7 := zz.2.2.2.2.2.2.2.1
                      have mm8 := zz.2.2.2.2.2.2.2.2.1
                      have mm9 := zz.2.2.2.2.2.2.2.2.2
                      clear zz
                      have zz := row5_facts (ra.out)
                      have aa0 := zz.1
                      have aa1 := zz.2.1
                      have aa2 := zz.2.2.1
                      have aa3 := zz.2.2.2.1
                      have aa4 := zz.2.2.2.2.1
                      have aa5 := zz.2.2.2.2.2.1
                      have aa6 := zz.2.2.2.2.2.2.1
                      have aa7 := zz.2.2.2.2.2.2.2.1
                      have aa8 := zz.2.2.2.2.2.2.2.2.1
                      have aa9 := zz.2.2.2.2.2.2.2.2.2
                      clear zz
                      go_wp2_with fail
                      clear mm0 aa0 mm1 aa1 mm2 aa2 mm3 aa3 mm4 aa4 mm5 aa5 mm6 aa6 mm7 aa7 mm8 aa8 mm9 aa9
                      refine (nleq_any m a (by first | exact HU.out.1 | exact HU.out.2.1 | exact HU.out.2.2.1 | exact RX.out.1 | exact RY.out.1 | exact RJ.out.1 | exact RM.out.1 | exact RZ.out.1) (by first | exact HU.out.1 | exact HU.out.2.1 | exact HU.out.2.2.1 | exact RX.out.1 | exact RY.out.1 | exact RJ.out.1 | exact RM.out.1 | exact RZ.out.1) V8 _ (Ok.refl _)).mono ?_
                      rintro e1 z1 ⟨rfl, hb⟩
                      rw [HK1.out]
                      replace ra : Hid _ := Ok.row' hb ra.out
                      replace rb : Hid _ := Ok.row' hb rb.out
                      replace rc : Hid _ := Ok.row' hb rc.out
                      replace rx : Hid _ := Ok.row' hb rx.out
                      replace ry : Hid _ := Ok.row' hb ry.out
                      replace rj : Hid _ := Ok.row' hb rj.out
                      replace rm : Hid _ := Ok.row' hb rm.out
                      replace rz : Hid _ := Ok.row' hb rz.out
                      have Hz1 : Hid (Ok w0 z1) := HV8.out.step hb
                      clear hb
                      have zz := row5_facts (rm.out)
                      have mm0 := zz.1
                      have mm1 := zz.2.1
                      have mm2 := zz.2.2.1
                      have mm3 := zz.2.2.2.1
                      have mm4 := zz.2.2.2.2.1
                      have mm5 := zz.2.2.2.2.2.1
                      have mm6 := zz.2.2.2.2.2.2.1
                      have mm7 := zz.2.2.2.2.2.2.2.1
                      have mm8 := zz.2.2.2.2.2.2.2.2.1
                      have mm9 := zz.2.2.2.2.2.2.2.2.2
                      clear zz
                      have zz := row5_facts (rb.out)
                      have bb0 := zz.1
                      have bb1 := zz.2.1
                      have bb2 := zz.2.2.1
                      have bb3 := zz.2.2.2.1
                      have bb4 := zz.2.2.2.2.1
                      have bb5 := zz.2.2.2.2.2.1
                      have bb6 := zz.2.2.2.2.2.2.1
                      have bb7 := zz.2.2.2.2.2.2.2.1
                      have bb8 := zz.2.2.2.2.2.2.2.2.1
                      have bb9 := zz.2.2.2.2.2.2.2.2.2
                      clear zz
                      go_wp2_with fail
                      clear mm0 bb0 mm1 bb1 mm2 bb2 mm3 bb3 mm4 bb4 mm5 bb5 mm6 bb6 mm7 bb7 mm8 bb8 mm9 bb9
                      refine (nleq_any m b (by first | exact HU.out.1 | exact HU.out.2.1 | exact HU.out.2.2.1 | exact RX.out.1 | exact RY.out.1 | exact RJ.out.1 | exact RM.out.1 | exact RZ.out.1) (by first | exact HU.out.1 | exact HU.out.2.1 | exact HU.out.2.2.1 | exact RX.out.1 | exact RY.out.1 | exact RJ.out.1 | exact RM.out.1 | exact RZ.out.1) z1 _ (Ok.refl _)).mono ?_
                      rintro e1 z2 ⟨rfl, hb⟩
                      rw [HK2.out]
                      replace ra : Hid _ := Ok.row' hb ra.out
                      replace rb : Hid _ := Ok.row' hb rb.out
                      replace rc : Hid _ := Ok.row' hb rc.out
                      replace rx : Hid _ := Ok.row' hb rx.out
                      replace ry : Hid _ := Ok.row' hb ry.out
                      replace rj : Hid _ := Ok.row' hb rj.out
                      replace rm : Hid _ := Ok.row' hb rm.out
                      replace rz : Hid _ := Ok.row' hb rz.out
                      have Hz2 : Hid (Ok w0 z2) := Hz1.out.step hb
                      clear hb
                      have zz := row5_facts (ra.out)
                      have aa0 := zz.1
                      have aa1 := zz.2.1
                      have aa2 := zz.2.2.1
                      have aa3 := zz.2.2.2.1
                      have aa4 := zz.2.2.2.2.1
                      have aa5 := zz.2.2.2.2.2.1
                      have aa6 := zz.2.2.2.2.2.2.1
                      have aa7 := zz.2.2.2.2.2.2.2.1
                      have aa8 := zz.2.2.2.2.2.2.2.2.1
                      have aa9 := zz.2.2.2.2.2.2.2.2.2
                      clear zz
                      have zz := row5_facts (rj.out)
                      have jj0 := zz.1
                      have jj1 := zz.2.1
                      have jj2 := zz.2.2.1
                      have jj3 := zz.2.2.2.1
                      have jj4 := zz.2.2.2.2.1
                      have jj5 := zz.2.2.2.2.2.1
                      have jj6 := zz.2.2.2.2.2.2.1
                      have jj7 := zz.2.2.2.2.2.2.2.1
                      have jj8 := zz.2.2.2.2.2.2.2.2.1
                      have jj9 := zz.2.2.2.2.2.2.2.2.2
                      clear zz
                      go_wp2_with fail
                      clear aa0 jj0 aa1 jj1 aa2 jj2 aa3 jj3 aa4 jj4 aa5 jj5 aa6 jj6 aa7 jj7 aa8 jj8 aa9 jj9
                      refine (nleq_any a j (by first | exact HU.out.1 | exact HU.out.2.1 | exact HU.out.2.2.1 | exact RX.out.1 | exact RY.out.1 | exact RJ.out.1 | exact RM.out.1 | exact RZ.out.1) (by first | exact HU.out.1 | exact HU.out.2.1 | exact HU.out.2.2.1 | exact RX.out.1 | exact RY.out.1 | exact RJ.out.1 | exact RM.out.1 | exact RZ.out.1) z2 _ (Ok.refl _)).mono ?_
                      rintro e1 z3 ⟨rfl, hb⟩
                      rw [HK3.out]
                      replace ra : Hid _ := Ok.row' hb ra.out
                      replace rb : Hid _ := Ok.row' hb rb.out
                      replace rc : Hid _ := Ok.row' hb rc.out
                      replace rx : Hid _ := Ok.row' hb rx.out
                      replace ry : Hid _ := Ok.row' hb ry.out
                      replace rj : Hid _ := Ok.row' hb rj.out
                      replace rm : Hid _ := Ok.row' hb rm.out
                      replace rz : Hid _ := Ok.row' hb rz.out
                      have Hz3 : Hid (Ok w0 z3) := Hz2.out.step hb
                      clear hb
                      by_cases xy : x = y
                      · have HS : Hid _ := lq_same HU.out.1 HU.out.2.1 (HX.out.symm.trans (xy.trans HY.out))
                        clear HY RY
                        subst xy
                        have zz := row5_facts (rx.out)
                        have xx0 := zz.1
                        have xx1 := zz.2.1
                        have xx2 := zz.2.2.1
                        have xx3 := zz.2.2.2.1
                        have xx4 := zz.2.2.2.2.1
                        have xx5 := zz.2.2.2.2.2.1
                        have xx6 := zz.2.2.2.2.2.2.1
                        have xx7 := zz.2.2.2.2.2.2.2.1
                        have xx8 := zz.2.2.2.2.2.2.2.2.1
                        have xx9 := zz.2.2.2.2.2.2.2.2.2
                        clear zz
                        have zz := row5_facts (ry.out)
                        have yy0 := zz.1
                        have yy1 := zz.2.1
                        have yy2 := zz.2.2.1
                        have yy3 := zz.2.2.2.1
                        have yy4 := zz.2.2.2.2.1
                        have yy5 := zz.2.2.2.2.2.1
                        have yy6 := zz.2.2.2.2.2.2.1
                        have yy7 := zz.2.2.2.2.2.2.2.1
                        have yy8 := zz.2.2.2.2.2.2.2.2.1
                        have yy9 := zz.2.2.2.2.2.2.2.2.2
                        clear zz
                        have zz := row5_facts (ra.out)
                        have aa0 := zz.1
                        have aa1 := zz.2.1
                        have aa2 := zz.2.2.1
                        have aa3 := zz.2.2.2.1
                        have aa4 := zz.2.2.2.2.1
                        have aa5 := zz.2.2.2.2.2.1
                        have aa6 := zz.2.2.2.2.2.2.1
                        have aa7 := zz.2.2.2.2.2.2.2.1
                        have aa8 := zz.2.2.2.2.2.2.2.2.1
                        have aa9 := zz.2.2.2.2.2.2.2.2.2
                        clear zz
                        have zz := row5_facts (rb.out)
                        have bb0 := zz.1
                        have bb1 := zz.2.1
                        have bb2 := zz.2.2.1
                        have bb3 := zz.2.2.2.1
                        have bb4 := zz.2.2.2.2.1
                        have bb5 := zz.2.2.2.2.2.1
                        have bb6 := zz.2.2.2.2.2.2.1
                        have bb7 := zz.2.2.2.2.2.2.2.1
                        have bb8 := zz.2.2.2.2.2.2.2.2.1
                        have bb9 := zz.2.2.2.2.2.2.2.2.2
                        clear zz
                        go_wp2_with fail
                        clear aa0 bb0 aa1 bb1 aa2 bb2 aa3 bb3 aa4 bb4 aa5 bb5 aa6 bb6 aa7 bb7 aa8 bb8 aa9 bb9
                        refine (nleq_any a b (by first | exact HU.out.1 | exact HU.out.2.1 | exact HU.out.2.2.1 | exact RX.out.1 | exact RJ.out.1 | exact RM.out.1 | exact RZ.out.1) (by first | exact HU.out.1 | exact HU.out.2.1 | exact HU.out.2.2.1 | exact RX.out.1 | exact RJ.out.1 | exact RM.out.1 | exact RZ.out.1) z3 _ (Ok.refl _)).mono ?_
                        rintro e1 z4 ⟨rfl, hb⟩
                        rw [HS.out.1]
                        replace ra : Hid _ := Ok.row' hb ra.out
                        replace rb : Hid _ := Ok.row' hb rb.out
                        replace rc : Hid _ := Ok.row' hb rc.out
                        replace rx : Hid _ := Ok.row' hb rx.out
                        replace ry : Hid _ := Ok.row' hb ry.out
                        replace rj : Hid _ := Ok.row' hb rj.out
                        replace rm : Hid _ := Ok.row' hb rm.out
                        replace rz : Hid _ := Ok.row' hb rz.out
                        have Hz4 : Hid (Ok w0 z4) := Hz3.out.step hb
                        clear hb
                        have zz := row5_facts (rb.out)
                        have bb0 := zz.1
                        have bb1 := zz.2.1
                        have bb2 := zz.2.2.1
                        have bb3 := zz.2.2.2.1
                        have bb4 := zz.2.2.2.2.1
                        have bb5 := zz.2.2.2.2.2.1
                        have bb6 := zz.2.2.2.2.2.2.1
                        have bb7 := zz.2.2.2.2.2.2.2.1
                        have bb8 := zz.2.2.2.2.2.2.2.2.1
                        have bb9 := zz.2.2.2.2.2.2.2.2.2
                        clear zz
                        have zz := row5_facts (ra.out)
                        have aa0 := zz.1
                        have aa1 := zz.2.1
                        have aa2 := zz.2.2.1
                        have aa3 := zz.2.2.2.1
                        have aa4 := zz.2.2.2.2.1
                        have aa5 := zz.2.2.2.2.2.1
                        have aa6 := zz.2.2.2.2.2.2.1
                        have aa7 := zz.2.2.2.2.2.2.2.1
                        have aa8 := zz.2.2.2.2.2.2.2.2.1
                        have aa9 := zz.2.2.2.2.2.2.2.2.2
                        clear zz
                        go_wp2_with fail
                        clear bb0 aa0 bb1 aa1 bb2 aa2 bb3 aa3 bb4 aa4 bb5 aa5 bb6 aa6 bb7 aa7 bb8 aa8 bb9 aa9
                        refine (nleq_any b a (by first | exact HU.out.1 | exact HU.out.2.1 | exact HU.out.2.2.1 | exact RX.out.1 | exact RJ.out.1 | exact RM.out.1 | exact RZ.out.1) (by first | exact HU.out.1 | exact HU.out.2.1 | exact HU.out.2.2.1 | exact RX.out.1 | exact RJ.out.1 | exact RM.out.1 | exact RZ.out.1) z4 _ (Ok.refl _)).mono ?_
                        rintro e1 z5 ⟨rfl, hb⟩
                        rw [HS.out.2]
                        replace ra : Hid _ := Ok.row' hb ra.out
                        replace rb : Hid _ := Ok.row' hb rb.out
                        replace rc : Hid _ := Ok.row' hb rc.out
                        replace rx : Hid _ := Ok.row' hb rx.out
                        replace ry : Hid _ := Ok.row' hb ry.out
                        replace rj : Hid _ := Ok.row' hb rj.out
                        replace rm : Hid _ := Ok.row' hb rm.out
                        replace rz : Hid _ := Ok.row' hb rz.out
                        have Hz5 : Hid (Ok w0 z5) := Hz4.out.step hb
                        clear hb
                        go_wp2_with fail
                        go_ret
                        exact ⟨rfl, Hz5.out⟩
                      · have hne : ∀ (α : Type) (T F : α), (if x.2.2.2.2 = y.2.2.2.2 then if x.1 = y.1 then if x.2.1 = y.2.1 then if (x.2.2.1 : Int) = (y.2.2.1 : Int) then if (x.2.2.2.1 : Int) = (y.2.2.2.1 : Int) then T else F else F else F else F else F) = F := fun _ _ _ => eqn_ne xy _ _
                        have zz := row5_facts (rx.out)
                        have xx0 := zz.1
                        have xx1 := zz.2.1
                        have xx2 := zz.2.2.1
                        have xx3 := zz.2.2.2.1
                        have xx4 := zz.2.2.2.2.1
                        have xx5 := zz.2.2.2.2.2.1
                        have xx6 := zz.2.2.2.2.2.2.1
                        have xx7 := zz.2.2.2.2.2.2.2.1
                        have xx8 := zz.2.2.2.2.2.2.2.2.1
                        have xx9 := zz.2.2.2.2.2.2.2.2.2
                        clear zz
                        have zz := row5_facts (ry.out)
                        have yy0 := zz.1
                        have yy1 := zz.2.1
                        have yy2 := zz.2.2.1
                        have yy3 := zz.2.2.2.1
                        have yy4 := zz.2.2.2.2.1
                        have yy5 := zz.2.2.2.2.2.1
                        have yy6 := zz.2.2.2.2.2.2.1
                        have yy7 := zz.2.2.2.2.2.2.2.1
                        have yy8 := zz.2.2.2.2.2.2.2.2.1
                        have yy9 := zz.2.2.2.2.2.2.2.2.2
                        clear zz
                        go_wp2_with fail
                        go_ret
                        exact ⟨rfl, Hz3.out⟩
end Go.Proofs.YtgkbegmaffknbaaGreat
