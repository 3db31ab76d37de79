import Derived.Test.YtaocomjhepgabaaKDg
set_option linter.unusedVariables false
set_option linter.unusedSimpArgs false
set_option linter.unnecessarySimpa false
/- Di -/
namespace Go.Proofs.Ytaocomjhepgabaa
open Go.RowKit Go.Maps Go.ChangeShapes Go.WideShapes
theorem vis_ok {D : DV} {succ : Int → List Int} {U : List Int} (G : GS succ U) (hD : DOk D succ) : ∀ n, VisOk D succ U n
  | 0 => fun T v hI hN hmu => absurd hmu (Nat.not_lt_zero _)
  | n + 1 => fun T v hI hN hmu hvU h0 R w sv lv A q hR hvs hpl hA => rvisit_any G hD (vis_ok G hD n) hI hN (Nat.le_of_lt_succ hmu) hvU h0 hR hvs hpl hA
/-- The maker while its arcs are read. -/
structure BI (w0 : World) (M bt bm base : Nat) (wr : World) (ts : List (Int × Int)) : Prop where
  ok : Ok w0 wr
  lM : w0.heap.size ≤ M
  lt : w0.heap.size ≤ bt
  lm : w0.heap.size ≤ bm
  nMt : M ≠ bt
  nMm : M ≠ bm
  ntm : bt ≠ bm
  uM : M < base
  ut : bt < base
  um : bm < base
  ub : base ≤ wr.heap.size
  mr : wr.heap[M]? = some (.cells #[.map (some bt), .map (some bm), .int .i64 0, .slice none 0 0] 56 (0, 0))
  mb : wr.heap[bm]? = some (.map #[] 0)
  gr : ∃ Dt, wr.ownsGroups Try.prog 3 base 3 .i64 bt ts.length Dt ∧ ToIs Dt (outs ts)
theorem toIs_nil : ToIs (.map []) (outs ([] : List (Int × Int))) := fun v => by
  left
  refine ⟨?_, rfl⟩
  have h : has (.map [] : DataW Unit) (.int .i64 v) = false := rfl
  rw [atKey_of_not_has h]
theorem outs_snoc (ts : List (Int × Int)) (x : Int × Int) (v : Int) : outs (ts ++ [x]) v = if x.1 = v then outs ts v ++ [x.2] else outs ts v := by
  rw [outs_app]
  unfold outs
  by_cases h : x.1 = v <;> simp [h]
theorem toIs_put {Dt : DataW Unit} {ts : List (Int × Int)} (hT : ToIs Dt (outs ts)) (hI : IsMap Dt) {w : World} {base : Nat} {v' : Value} {x : Int × Int} (ho : w.ownsInts base 3 .i64 v' (outs ts x.1 ++ [x.2])) : ToIs (Dt.put (.int .i64 x.1) (rowDatum .i64 v' (outs ts x.1 ++ [x.2]))) (outs (ts ++ [x])) := by
  intro v
  rw [outs_snoc]
  by_cases h : x.1 = v
  · subst h
    right
    rw [if_pos rfl, atKey_put_same hI (key_lit _), ho.datum_pos (by simp)]
  · rw [if_neg h, atKey_put_other (key_ne (fun e => h e.symm))]
    exact hT v
theorem BI.below {w0 : World} {M bt bm base : Nat} {wr w' : World} {ts : List (Int × Int)} (h : BI w0 M bt bm base wr ts) (hb : Below wr.heap.size wr w') : BI w0 M bt bm base w' ts := by
  have h1 := h.ub
  have h2 := h.uM
  have h3 := h.um
  have h4 := hb.size
  obtain ⟨Dt, hg, hT⟩ := h.gr
  exact ⟨h.ok.step hb, h.lM, h.lt, h.lm, h.nMt, h.nMm, h.ntm, h.uM, h.ut, h.um, by omega, (hb.block _ (by omega)).trans h.mr, (hb.block _ (by omega)).trans h.mb, ⟨Dt, hg.kept (grown_below hb) (by simp) (fun es clock _ x _ => by cases x.val.ownBlock <;> simp), hT⟩⟩
theorem grown_none_row {w w' : World} {r : Option Nat} (h : w.grownBy w' none) : w.grownBy w' r := ⟨h.os, h.tape, h.output, h.size, fun k hk _ => h.block k hk (by simp)⟩
/-- The arcs of one vertex, looked up; and the way back. -/
theorem BI.look {w0 : World} {M bt bm base : Nat} {X : World} {ts : List (Int × Int)} (h : BI w0 M bt bm base X ts) (x : Int × Int) (hx1 : in64 x.1) (hx2 : in64 x.2) (hts : ts.length ≤ 10000) :
    ∃ so sc, (∀ w', w'.heap[bt]? = X.heap[bt]? → (Instr.lookup 54 (.map (some bt)) (.int .i64 x.1) false).run Try.prog w' = .ok (.slice so (outs ts x.1).length sc) w') ∧ X.ownsRow base 3 1 (.slice so (outs ts x.1).length sc) (outs ts x.1).length ((outs ts x.1).map (Value.int .i64)) ∧ (outs ts x.1).length ≤ ts.length ∧
      ∀ (X1 w4 : World) (gg capg : Nat), Below X.heap.size X X1 → X1.grownBy w4 (Value.slice so (outs ts x.1).length sc).ownBlock → w4.ownsRow base 3 1 (.slice (some ⟨gg, 0, none⟩) ((outs ts x.1).length + 1) capg) ((outs ts x.1).length + 1) ((outs ts x.1).map (Value.int .i64) ++ [.int .i64 x.2]) → ((Value.slice so (outs ts x.1).length sc).ownBlock = some gg ∨ X.heap.size ≤ gg) →
        ∃ w5, (Instr.mapUpdate 54 (.map (some bt)) (.int .i64 x.1) (.slice (some ⟨gg, 0, none⟩) ((outs ts x.1).length + 1) capg)).run Try.prog w4 = .ok () w5 ∧ BI w0 M bt bm base w5 (ts ++ [x]) ∧ ∀ b, b < X.heap.size → b ≠ bt → some b ≠ (Value.slice so (outs ts x.1).length sc).ownBlock → w4.heap[b]? = X.heap[b]? ∧ w5.heap[b]? = X.heap[b]? := by
  obtain ⟨Dt, hg, hT⟩ := h.gr
  have hkey : keyOf Try.prog 3 (.int .i64 x.1) = some (.int .i64 x.1) := keyOf_int_mk Try.underlying3 (wf_of hx1.1 hx1.2)
  obtain ⟨v, zs, hrun, hat, hoi, hzl, hback⟩ := hg.at law3 Try.underlying54 (zero32 X) (by unfold maxLen; omega) hkey
  have hzs := to_zs hT hoi hat
  subst hzs
  obtain ⟨so, sc, rfl⟩ := own_form hoi.1
  have hmap : IsMap Dt := by
    obtain ⟨es, clock, _, _, _, rfl, _⟩ := hg
    exact ⟨_, rfl⟩
  have hom : X.ownsMap Try.prog 3 (rowElem X base 3 .i64) bt ts.length Dt := by
    obtain ⟨es, clock, hb, F, hs, hd, _⟩ := hg
    exact ⟨es, clock, hb, F, hs, hd⟩
  refine ⟨so, sc, fun w' hb => look_same hom law3 Try.underlying54 zero32 hkey hrun hb, hoi.1, hzl, ?_⟩
  intro X1 w4 gg capg hb1 hg4 ho4 hloc
  have hg4' : X.grownBy w4 (Value.slice so (outs ts x.1).length sc).ownBlock := World.grownBy.trans (grown_none_row (grown_below hb1)) hg4
  have hoi4 : w4.ownsInts base 3 .i64 (.slice (some ⟨gg, 0, none⟩) ((outs ts x.1).length + 1) capg) (outs ts x.1 ++ [x.2]) := World.ownsInts.appended hoi ho4 (wf_of hx2.1 hx2.2)
  obtain ⟨w5, hrun5, hg5, hgr5⟩ := hback w4 _ _ hg4' hoi4 (by rw [List.length_append]; simp; omega) (by
    rcases hloc with e | e
    · exact .inl e.symm
    · exact .inr ⟨gg, rfl, e⟩)
  have h1 := h.ub
  have h2 := h.uM
  have h3 := h.um
  have h4 := h.ut
  have hlow : ∀ b, b < base → some b ≠ (Value.slice so (outs ts x.1).length sc).ownBlock := fun b hb e => by have := (hoi.1.lt b e.symm).1; omega
  have hk4 : ∀ b, b < X.heap.size → some b ≠ (Value.slice so (outs ts x.1).length sc).ownBlock → w4.heap[b]? = X.heap[b]? := fun b hb hn => hg4'.block b hb hn
  have hk5 : ∀ b, b < X.heap.size → b ≠ bt → some b ≠ (Value.slice so (outs ts x.1).length sc).ownBlock → w5.heap[b]? = X.heap[b]? := fun b hb hn1 hn2 => (hgr5.block b (Nat.lt_of_lt_of_le hb hg4'.size) (fun e => hn1 (by injection e))).trans (hk4 b hb hn2)
  have hs5 : X.heap.size ≤ w5.heap.size := Nat.le_trans hg4'.size hgr5.size
  refine ⟨w5, hrun5, ⟨Below.groups h.ok hoi hg4' hgr5 h.ok.le (by have := h.lM; omega) h.lt, h.lM, h.lt, h.lm, h.nMt, h.nMm, h.ntm, h.uM, h.ut, h.um, by omega, (hk5 M (by omega) h.nMt (hlow M h2)).trans h.mr, (hk5 bm (by omega) h.ntm.symm (hlow bm h3)).trans h.mb, ⟨_, ?_, toIs_put hT hmap hoi4⟩⟩, fun b hb hn1 hn2 => ⟨hk4 b hb hn2, hk5 b hb hn1 hn2⟩⟩
  rw [List.length_append]
  exact hg5
/-- The maker, behind its arcs. -/
theorem BI.dok {w0 : World} {M bt bm base : Nat} {wr : World} {ts : List (Int × Int)} (h : BI w0 M bt bm base wr ts) : DOk ⟨w0, wr, M, bt, bm, base⟩ (outs ts) := by
  obtain ⟨Dt, ⟨es, clock, hb, F, hs, hd, _⟩, hT⟩ := h.gr
  exact ⟨h.lM, h.lt, h.lm, h.nMt, h.nMm, h.ntm, h.uM, h.ut, h.um, h.ub, ⟨_, Dt, ⟨es, clock, hb, F, hs, hd⟩, hT⟩⟩
theorem vmap_empty {w : World} {b : Nat} (h : w.heap[b]? = some (.map #[] 0)) : VMap w b 0 (fun _ => 0) [] :=
  ⟨0, .map [], Nat.le_refl _, ⟨#[], 0, h, ⟨by simp, Go.MapKept.stamped_empty 0, by simp⟩, Nat.le_refl _, rfl⟩, VIs.nil⟩
theorem BI.vs {w0 : World} {M bt bm base : Nat} {wr : World} {ts : List (Int × Int)} (h : BI w0 M bt bm base wr ts) : VS ⟨w0, wr, M, bt, bm, base⟩ wr ⟨[], [], [], 0, fun _ => 0, 0⟩ (.slice none 0 0) := by
  refine ⟨h.ok, Nat.le_refl _, fun b _ _ _ => rfl, h.mr, ⟨0, [], Nat.le_refl _, ?_⟩, World.ownsRow_nil _ _ _ _⟩
  have := vmap_empty h.mb
  have e : (fun x : Int => mkv ((fun _ => 0 : Int → Nat) x)) = fun _ => 0 := by funext x; exact mkv_zero
  rw [e]; exact this
end Go.Proofs.Ytaocomjhepgabaa
