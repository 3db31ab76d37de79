import Derived.Test.YtaocomjhepgabaaKDc
set_option linter.unusedVariables false
set_option linter.unusedSimpArgs false
set_option linter.unnecessarySimpa false
/- Dd -/
namespace Go.Proofs.Ytaocomjhepgabaa
open Go.RowKit Go.Maps Go.ChangeShapes Go.WideShapes
theorem zero32 (w : World) : (zeroValue 32).run Try.prog w = .ok (.slice none 0 0) w := by kernel_rfl
theorem lits_inj {a b : List Int} (h : (lits (H := Unit) .i64 a) = lits .i64 b) : a = b := by
  unfold lits at h
  exact (List.map_inj_right (fun x y hxy => by simpa using hxy)).1 h
theorem to_zs {Dt : DataW Unit} {succ : Int → List Int} (hT : ToIs Dt succ) {w : World} {base : Nat} {v0 : Value} {zs : List Int} {v : Int} (ho : w.ownsInts base 3 .i64 v0 zs) (hat : Dt.atKey (.int .i64 v) .nil = rowDatum .i64 v0 zs) : zs = succ v := by
  rcases ho.datum (H := Unit) with ⟨e, hz⟩ | e
  · rcases hT v with ⟨e2, h2⟩ | e2
    · rw [hz, h2]
    · rw [hat, e] at e2; cases e2
  · rcases hT v with ⟨e2, h2⟩ | e2
    · rw [hat, e] at e2; cases e2
    · rw [hat, e] at e2
      injection e2 with e2
      exact lits_inj e2
/-- What is looked up hangs on the map's block alone. -/
theorem look_same {R : Value → Option (DataW Unit × List MemPlace)} {k e t : TypeId} {w w' : World} {b n : Nat} {D : DataW Unit} {z key v : Value} {kl : Lit} (h : w.ownsMap Try.prog k R b n D) (K : Keyed Try.prog k) (ht : Try.prog.underlying t = some (.map k e)) (hz : ∀ w, (zeroValue e).run Try.prog w = .ok z w) (hkey : keyOf Try.prog k key = some kl) (hrun : (Instr.lookup t (.map (some b)) key false).run Try.prog w = .ok v w) (hb : w'.heap[b]? = w.heap[b]?) : (Instr.lookup t (.map (some b)) key false).run Try.prog w' = .ok v w' := by
  obtain ⟨es, clock, h1, F, _, _⟩ := h
  have ap := fit_apart K F
  have one : ∀ x ∈ es.toList, ∀ y ∈ es.toList, x.key = key → y.key = key → x = y := by
    intro x hx y hy ex ey
    obtain ⟨i, hi, rfl⟩ := List.mem_iff_getElem.1 hx
    obtain ⟨j, hj, rfl⟩ := List.mem_iff_getElem.1 hy
    have hr : ∀ p ∈ es.toList, p.key = key → (Go.WideElems.rg Try.prog k R p).1 = kl := by
      intro p hp ep
      obtain ⟨y, hy⟩ := F.reads p hp
      have := Go.WideElems.rd_key hy
      rw [ep, hkey] at this
      rw [Go.WideElems.rg_of hy]
      exact (Option.some.inj this).symm
    have e1 := hr _ hx ex
    have e2 := hr _ hy ey
    rw [List.pairwise_iff_getElem] at ap
    rcases Nat.lt_trichotomy i j with hij | hij | hij
    · have := ap i j (by simpa using hi) (by simpa using hj) hij
      simp only [List.getElem_map] at this
      exact absurd (e1.trans e2.symm) this
    · subst hij; rfl
    · have := ap j i (by simpa using hj) (by simpa using hi) hij
      simp only [List.getElem_map] at this
      exact absurd (e2.trans e1.symm) this
  rcases fit_look false K ht (hz w) h1 F hkey with ⟨r1, n1, _⟩ | ⟨x, _, hx, ex, r1, _⟩
  · rcases fit_look false K ht (hz w') (hb.trans h1) F hkey with ⟨r2, n2, _⟩ | ⟨y, _, hy, ey, r2, _⟩
    · rw [r1] at hrun; injection hrun with hrun _; rw [← hrun]; exact r2
    · exact absurd ey (n1 y hy)
  · rcases fit_look false K ht (hz w') (hb.trans h1) F hkey with ⟨r2, n2, _⟩ | ⟨y, _, hy, ey, r2, _⟩
    · exact absurd ex (n2 x hx)
    · have := one x hx y hy ex ey
      subst this
      rw [r1] at hrun; injection hrun with hrun _; rw [← hrun]; exact r2
/-- The arcs of v, looked up. -/
theorem VSe.look {D : DV} {e : Nat} {succ : Int → List Int} {w : World} {T : St Int} {sv : Value} (h : VSe D e w T sv) (hD : DOk D succ) {v : Int} (hv : in64 v) :
    ∃ ao cap, (∀ w', w'.heap[D.bt]? = w.heap[D.bt]? → (Instr.lookup 54 (.map (some D.bt)) (.int .i64 v) false).run Try.prog w' = .ok (.slice ao (succ v).length cap) w') ∧ (succ v ≠ [] → ∃ g, ao = some ⟨g, 0, none⟩ ∧ g < w.heap.size ∧ ∀ (i : Nat) (x : Int), (succ v)[i]? = some x → w.cell? ⟨g, i, none⟩ = some (.int .i64 x)) := by
  obtain ⟨n, Dt, hown, hT⟩ := hD.to
  have hkey : keyOf Try.prog 3 (.int .i64 v) = some (.int .i64 v) := keyOf_int_mk Try.underlying3 (wf_of hv.1 hv.2)
  have h1 := hD.uM
  have h2 := hD.um
  have h3 := hD.ut
  have h4 := hD.ub
  have hown' : w.ownsMap Try.prog 3 (rowElem D.W0 D.base 3 .i64) D.bt n Dt := by
    obtain ⟨es, clock, hb, F, hs, hd⟩ := hown
    exact ⟨es, clock, (h.kp D.bt (by omega) hD.nMt.symm hD.ntm).trans hb, F, hs, hd⟩
  have hzero : rowElem (H := Unit) D.W0 D.base 3 .i64 (.slice none 0 0) = some (.nil, []) := rowElem_mk (World.ownsInts_nil _ _ _ _)
  obtain ⟨v0, ps, hrun, hR⟩ := hown'.lookup law3 Try.underlying54 (zero32 w) hzero hkey
  obtain ⟨zs, ho, hz⟩ := rowElem_inv hR
  simp only [Prod.mk.injEq] at hz
  have hzs := to_zs hT ho hz.1
  subst hzs
  obtain ⟨ao, cap, rfl⟩ := own_form ho.1
  refine ⟨ao, cap, fun w' hb => look_same hown' law3 Try.underlying54 zero32 hkey hrun hb, fun hne => ?_⟩
  obtain ⟨g, cap', e, hg1, hg2⟩ := ho.1.form (List.length_pos_iff.2 hne)
  injection e with e1 _ e3
  subst e1
  have hw := h.hw
  refine ⟨g, rfl, by omega, fun i x hx => ?_⟩
  have hc := ho.1.cells (g := g) rfl i (.int .i64 x) (by rw [List.getElem?_map, hx]; rfl)
  rw [add_off, Nat.zero_add] at hc
  rw [← hc]
  exact World.cell?_of_block (a := ⟨g, i, none⟩) (h.kp g hg2 (by omega) (by omega))
/-- The mark of v, looked up. -/
theorem VSe.mark {D : DV} {e : Nat} {w : World} {T : St Int} {sv : Value} (h : VSe D e w T sv) {v : Int} (hv : in64 v) : (Instr.lookup 33 (.map (some D.bm)) (.int .i64 v) false).run Try.prog w = .ok (.int .i64 (mkv (T.marks v))) w := by
  obtain ⟨N, K, _, hm⟩ := h.mm
  exact hm.look hv.1 hv.2
theorem row4_facts {w : World} {g : Nat} {a b c d : Value} {t : TypeId} (h : w.heap[g]? = some (.cells #[a, b, c, d] t (0, 0))) :
    w.cell? ⟨g, 0, none⟩ = some a ∧ w.cell? ⟨g, 1, none⟩ = some b ∧ w.cell? ⟨g, 2, none⟩ = some c ∧ w.cell? ⟨g, 3, none⟩ = some d ∧ w.frozen? ⟨g, 2, none⟩ = false ∧ w.frozen? ⟨g, 3, none⟩ = false := by
  refine ⟨?_, ?_, ?_, ?_, frozen_of_row _ _ _ _ _ h, frozen_of_row _ _ _ _ _ h⟩
  · exact (cell_of_row _ _ 0 _ _ _ h).trans (by simp)
  · exact (cell_of_row _ _ 1 _ _ _ h).trans (by simp)
  · exact (cell_of_row _ _ 2 _ _ _ h).trans (by simp)
  · exact (cell_of_row _ _ 3 _ _ _ h).trans (by simp)
theorem VMap.kept {w w' : World} {b N : Nat} {f : Int → Int} {K : List Int} (h : VMap w b N f K) (hb : w'.heap[b]? = w.heap[b]?) : VMap w' b N f K := by
  obtain ⟨n, D, h0, ⟨es, clock, h1, h2⟩, h3⟩ := h
  exact ⟨n, D, h0, ⟨es, clock, hb.trans h1, h2⟩, h3⟩
/-- A vertex was pushed and counted; its mark is not yet stored. -/
structure VSm (D : DV) (w : World) (T : St Int) (c : Nat) (v : Int) (sv' : Value) (Z : World) : Prop where
  ok : Ok D.w0 Z
  hw : D.W0.heap.size ≤ Z.heap.size
  kp : ∀ b, b < D.W0.heap.size → b ≠ D.M → b ≠ D.bm → Z.heap[b]? = D.W0.heap[b]?
  mr : Z.heap[D.M]? = some (.cells #[.map (some D.bt), .map (some D.bm), .int .i64 (c : Nat), sv'] 56 (0, 0))
  mm : ∃ N K, N + T.stack.length ≤ 2 * T.count ∧ VMap Z D.bm N (fun x => mkv (T.marks x)) K
  st : Z.ownsRow D.W0.heap.size 3 1 sv' (T.stack.length + 1) (stkI (v :: T.stack))
theorem VSe.pushed {D : DV} {succ : Int → List Int} {w w4 : World} {T : St Int} {sv sv' : Value} {o : Obj} {v : Int} (h : VS D w T sv) (hD : DOk D succ) (hg : (w.alloc o).grownBy w4 sv.ownBlock) (ho : w4.ownsRow D.W0.heap.size 3 1 sv' (T.stack.length + 1) (stkI T.stack ++ [.int .i64 v])) (hat : sv.ownBlock = sv'.ownBlock ∨ ∃ b, sv'.ownBlock = some b ∧ b = w.heap.size + 1) (c : Nat) :
    w4.heap[D.M]? = some (.cells #[.map (some D.bt), .map (some D.bm), .int .i64 (T.count : Nat), sv] 56 (0, 0)) ∧ VSm D w T c v sv' ((w4.setCell ⟨D.M, 3, none⟩ sv').setCell ⟨D.M, 2, none⟩ (.int .i64 (c : Nat))) ∧ Fr D w sv ((w4.setCell ⟨D.M, 3, none⟩ sv').setCell ⟨D.M, 2, none⟩ (.int .i64 (c : Nat))) sv' := by
  have h1 := hD.uM
  have h2 := hD.um
  have h3 := hD.ut
  have h4 := hD.ub
  have h5 := hD.lM
  have hw := h.hw
  have hsz : w.heap.size + 1 ≤ w4.heap.size := by have := hg.size; simpa using this
  have hsl : ∀ b, sv.ownBlock = some b → D.W0.heap.size ≤ b := fun b hb => (h.st.lt b hb).1
  have hblk : ∀ b, b < w.heap.size → some b ≠ sv.ownBlock → w4.heap[b]? = w.heap[b]? := fun b hb hn => (hg.block b (by simp; omega) hn).trans (Below.heap_alloc _ _ _ hb)
  have hlow : ∀ b, b < D.W0.heap.size → w4.heap[b]? = w.heap[b]? := fun b hb => hblk b (by omega) (fun e => by have := hsl b e.symm; omega)
  have hM : w4.heap[D.M]? = _ := (hlow D.M (by omega)).trans h.mr
  have hset : ∀ b, b ≠ D.M → ((w4.setCell ⟨D.M, 3, none⟩ sv').setCell ⟨D.M, 2, none⟩ (.int .i64 (c : Nat))).heap[b]? = w4.heap[b]? := fun b hb => (heap_setCell_other _ _ _ _ hb).trans (heap_setCell_other _ _ _ _ hb)
  have hssz : ((w4.setCell ⟨D.M, 3, none⟩ sv').setCell ⟨D.M, 2, none⟩ (.int .i64 (c : Nat))).heap.size = w4.heap.size := by simp
  obtain ⟨N, K, hN, hm⟩ := h.mm
  refine ⟨hM, ⟨?_, by rw [hssz]; omega, ?_, ?_, ⟨N, K, hN, hm.kept ((hset D.bm hD.nMm.symm).trans (hlow _ (by omega)))⟩, ?_⟩, ⟨by rw [hssz]; omega, ?_, ?_⟩⟩
  · have hok4 : Ok D.w0 w4 := Below.grown (h.ok.alloc _) hg (by have := h.ok.le; simp; omega) (fun k e => by have := hsl k e; omega)
    exact (hok4.set (p := ⟨D.M, 3, none⟩) h5 _).set (p := ⟨D.M, 2, none⟩) h5 _
  · intro b hb hn1 hn2
    exact (hset b hn1).trans ((hlow b hb).trans (h.kp b hb hn1 hn2))
  · have e1 := heap_setCell_same _ D.M 3 _ _ sv' hM
    have e2 := heap_setCell_same _ D.M 2 _ _ (.int .i64 (c : Nat)) e1
    simpa using e2
  · refine own_same ho (fun b hb => hset b (fun e => ?_))
    have := (ho.lt b hb).1
    omega
  · intro b hb hn1 hn2 hn3
    exact (hset b hn1).trans (hblk b hb hn3)
  · rcases hat with e | ⟨b, e, hb⟩
    · exact .inl e.symm
    · exact .inr ⟨b, e, by omega⟩
theorem VSm.marked {D : DV} {succ : Int → List Int} {w Z w5 : World} {T : St Int} {sv' : Value} {v : Int} (h : VSm D w T (T.count + 1) v sv' Z) (hD : DOk D succ) {N : Nat} {K : List Int} (hN : N + T.stack.length ≤ 2 * T.count) (hm : VMap w5 D.bm (N + 1) (updF (fun x => mkv (T.marks x)) v (mkv (T.count + 1))) (addK K v)) (hg : Z.grownBy w5 (some D.bm)) : VS D w5 (visit succ v T) sv' ∧ Fr D Z sv' w5 sv' := by
  have h2 := hD.um
  have h4 := hD.ub
  have hw := h.hw
  have hsz := hg.size
  have h6 := hD.lm
  have hblk : ∀ b, b < Z.heap.size → b ≠ D.bm → w5.heap[b]? = Z.heap[b]? := fun b hb hn => hg.block b hb (fun e => hn (by injection e))
  have h1 := hD.uM
  refine ⟨⟨Below.grown h.ok hg h.ok.le (fun k e => by injection e with e; omega), by omega, fun b hb hn1 hn2 => (hblk b (by omega) hn2).trans (h.kp b hb hn1 hn2), (hblk D.M (by omega) hD.nMm).trans h.mr, ⟨N + 1, addK K v, ?_, ?_⟩, ?_⟩, ⟨hsz, fun b hb _ hn2 _ => hblk b hb hn2, .inl rfl⟩⟩
  · show N + 1 + (v :: T.stack).length ≤ 2 * (T.count + 1) + 0
    simp only [List.length_cons]; omega
  · rw [mkv_upd] at hm
    exact hm
  · have : w5.ownsRow D.W0.heap.size 3 1 sv' (T.stack.length + 1) (stkI (v :: T.stack)) := own_same h.st (fun b hb => hblk b (h.st.lt b hb).2 (fun e => by have := (h.st.lt b hb).1; omega))
    exact this
theorem stkI_at (u : Int) (s : List Int) : (stkI (u :: s))[s.length]? = some (.int .i64 u) := by
  show (stkI s ++ [Value.int .i64 u])[s.length]? = _
  rw [← stkI_len s]; simp
/-- The top of the stack. -/
theorem VSe.top {D : DV} {e : Nat} {w : World} {T : St Int} {sv : Value} (h : VSe D e w T sv) {u : Int} {s : List Int} (hs : T.stack = u :: s) : ∃ g cap, sv = .slice (some ⟨g, 0, none⟩) (s.length + 1) cap ∧ s.length + 1 ≤ cap ∧ cap ≤ maxLen ∧ g < w.heap.size ∧ D.W0.heap.size ≤ g ∧ w.cell? ⟨g, s.length, none⟩ = some (.int .i64 u) := by
  have ho := h.st
  rw [hs] at ho
  rcases ho.2 with ⟨_, h2⟩ | ⟨g, cap, cur, e1, h1, h2, h3, h4, h5⟩
  · cases h2
  · refine ⟨g, cap, e1, h3, h4, lt_row h2, h1, ?_⟩
    have := ho.cells (g := g) (by rw [e1]; rfl) s.length _ (stkI_at u s)
    rwa [add_off, Nat.zero_add] at this
/-- The top of the stack is taken off. -/
theorem VSe.popped {D : DV} {e : Nat} {succ : Int → List Int} {w : World} {T : St Int} {u : Int} {s : List Int} {g cap : Nat} (h : VSe D e w T (.slice (some ⟨g, 0, none⟩) (s.length + 1) cap)) (hD : DOk D succ) (hs : T.stack = u :: s) :
    (∃ N K, N + s.length + 1 ≤ 2 * T.count + e ∧ VMap (w.setCell ⟨D.M, 3, none⟩ (.slice (some ⟨g, 0, none⟩) s.length cap)) D.bm N (fun x => mkv (T.marks x)) K) ∧ VSe D e (w.setCell ⟨D.M, 3, none⟩ (.slice (some ⟨g, 0, none⟩) s.length cap)) ⟨T.calls, s, T.list, T.depth, T.marks, T.count⟩ (.slice (some ⟨g, 0, none⟩) s.length cap) ∧ Fr D w (.slice (some ⟨g, 0, none⟩) (s.length + 1) cap) (w.setCell ⟨D.M, 3, none⟩ (.slice (some ⟨g, 0, none⟩) s.length cap)) (.slice (some ⟨g, 0, none⟩) s.length cap) := by
  have h1 := hD.uM
  have h2 := hD.um
  have h4 := hD.ub
  have h5 := hD.lM
  have hw := h.hw
  obtain ⟨N, K, hN, hm⟩ := h.mm
  rw [hs, List.length_cons] at hN
  have hset : ∀ b, b ≠ D.M → (w.setCell ⟨D.M, 3, none⟩ (.slice (some ⟨g, 0, none⟩) s.length cap)).heap[b]? = w.heap[b]? := fun b hb => heap_setCell_other _ _ _ _ hb
  have hm' := hm.kept (hset D.bm hD.nMm.symm)
  refine ⟨⟨N, K, by omega, hm'⟩, ⟨h.ok.set (p := ⟨D.M, 3, none⟩) h5 _, by simpa using hw, fun b hb hn1 hn2 => (hset b hn1).trans (h.kp b hb hn1 hn2), ?_, ⟨N, K, by show N + s.length ≤ 2 * T.count + e; omega, hm'⟩, ?_⟩, ⟨by simp, fun b hb hn1 _ _ => hset b hn1, .inl rfl⟩⟩
  · have e1 := heap_setCell_same _ D.M 3 _ _ (.slice (some ⟨g, 0, none⟩) s.length cap) h.mr
    simpa using e1
  · have ho := h.st
    rw [hs] at ho
    have ho' : w.ownsRow D.W0.heap.size 3 1 (.slice (some ⟨g, 0, none⟩) s.length cap) s.length (stkI s) := by
      rcases ho.2 with ⟨e1, _⟩ | ⟨g', cap', cur, e1, k1, k2, k3, k4, k5, k6⟩
      · cases e1
      · injection e1 with e1 e2 e3
        injection e1 with e1
        injection e1 with e1
        subst e1 e3
        refine ⟨by rw [stkI_len, Nat.mul_one], .inr ⟨g, cap, cur, rfl, k1, k2, by simp only [List.length_cons] at k3; omega, k4, k5, ?_⟩⟩
        have : (cur.toList.take ((u :: s).length * 1)).take (s.length * 1) = (stkI (u :: s)).take (s.length * 1) := by rw [k6]
        rw [List.take_take] at this
        rw [show min (s.length * 1) ((u :: s).length * 1) = s.length * 1 by simp only [List.length_cons]; omega] at this
        rw [this]
        show (stkI s ++ [Value.int .i64 u]).take (s.length * 1) = stkI s
        rw [Nat.mul_one, ← stkI_len s]; simp
    refine own_same ho' (fun b hb => hset b (fun e => ?_))
    have := (ho'.lt b hb).1
    omega
/-- A mark is stored. -/
theorem VSe.marked {D : DV} {e e' : Nat} {succ : Int → List Int} {w w5 : World} {T : St Int} {sv : Value} {v : Int} {k : Nat} (h : VSe D e w T sv) (hD : DOk D succ) {N : Nat} {K : List Int} (hN : N + T.stack.length + 1 ≤ 2 * T.count + e') (hm : VMap w5 D.bm (N + 1) (updF (fun x => mkv (T.marks x)) v (mkv k)) (addK K v)) (hg : w.grownBy w5 (some D.bm)) : VSe D e' w5 ⟨T.calls, T.stack, T.list, T.depth, upd T.marks v k, T.count⟩ sv ∧ Fr D w sv w5 sv := by
  have h2 := hD.um
  have h4 := hD.ub
  have hw := h.hw
  have hsz := hg.size
  have h6 := hD.lm
  have h1 := hD.uM
  have hblk : ∀ b, b < w.heap.size → b ≠ D.bm → w5.heap[b]? = w.heap[b]? := fun b hb hn => hg.block b hb (fun e => hn (by injection e))
  refine ⟨⟨Below.grown h.ok hg h.ok.le (fun k e => by injection e with e; omega), by omega, fun b hb hn1 hn2 => (hblk b (by omega) hn2).trans (h.kp b hb hn1 hn2), (hblk D.M (by omega) hD.nMm).trans h.mr, ⟨N + 1, addK K v, by show N + 1 + T.stack.length ≤ 2 * T.count + e'; omega, ?_⟩, ?_⟩, ⟨hsz, fun b hb _ hn2 _ => hblk b hb hn2, .inl rfl⟩⟩
  · rw [mkv_upd] at hm
    exact hm
  · exact own_same h.st (fun b hb => hblk b (h.st.lt b hb).2 (fun e => by have := (h.st.lt b hb).1; omega))
theorem VSe.cells {D : DV} {e : Nat} {w : World} {T : St Int} {sv : Value} (h : VSe D e w T sv) : w.cell? ⟨D.M, 0, none⟩ = some (.map (some D.bt)) ∧ w.cell? ⟨D.M, 1, none⟩ = some (.map (some D.bm)) ∧ w.cell? ⟨D.M, 2, none⟩ = some (.int .i64 (T.count : Nat)) ∧ w.cell? ⟨D.M, 3, none⟩ = some sv ∧ w.frozen? ⟨D.M, 2, none⟩ = false ∧ w.frozen? ⟨D.M, 3, none⟩ = false := row4_facts h.mr
theorem VSe.lt {D : DV} {e : Nat} {w : World} {T : St Int} {sv : Value} (h : VSe D e w T sv) : D.M < w.heap.size ∧ ∀ b, sv.ownBlock = some b → b < w.heap.size := ⟨lt_row h.mr, fun b hb => (h.st.lt b hb).2⟩
/-- A cell of a block of its own is stored. -/
theorem VSe.scratch {D : DV} {e : Nat} {succ : Int → List Int} {w : World} {T : St Int} {sv : Value} (h : VSe D e w T sv) (hD : DOk D succ) {X : Nat} (hX : D.W0.heap.size ≤ X) (hs : some X ≠ sv.ownBlock) (o : Nat) (u : Value) : VSe D e (w.setCell ⟨X, o, none⟩ u) T sv := by
  have h1 := hD.uM
  have h2 := hD.um
  have h4 := hD.ub
  have h5 := hD.lM
  have hset : ∀ b, b ≠ X → (w.setCell ⟨X, o, none⟩ u).heap[b]? = w.heap[b]? := fun b hb => heap_setCell_other _ _ _ _ hb
  obtain ⟨N, K, hN, hm⟩ := h.mm
  exact ⟨h.ok.set (p := ⟨X, o, none⟩) (show D.w0.heap.size ≤ X by omega) _, by simpa using h.hw, fun b hb hn1 hn2 => (hset b (by omega)).trans (h.kp b hb hn1 hn2), (hset _ (by omega)).trans h.mr, ⟨N, K, hN, hm.kept (hset _ (by omega))⟩, own_same h.st (fun b hb => hset b (fun e => hs (by rw [hb, e])))⟩
end Go.Proofs.Ytaocomjhepgabaa
