import Derived.Test.YtaocomjhepgabaaKWnd
set_option linter.unusedVariables false
set_option linter.unusedSimpArgs false
set_option linter.unnecessarySimpa false
/- Wnu -/
namespace Go.Proofs.Ytaocomjhepgabaa
open Go.RowKit Go.Maps
/-- What numbered leaves: the graph in new memory. -/
def Numbered (w : World) (ars : List (Int × Int)) (root : Int) (e : Ending) (w' : World) : Prop :=
  ∃ g : GD, e = .returned (.agg #[.slice (some ⟨g.b1, 0, none⟩) g.N g.c1, .slice (some ⟨g.b2, 0, none⟩) g.E g.c2, .slice (some ⟨g.b3, 0, none⟩) (g.N + 1) g.c3]) ∧ GOk g w' ∧ Ok w w' ∧ g.N = (numAll [root] ars).1.length ∧ g.succ = outs (numAll [root] ars).2 ∧ ∀ (i : Nat) (x : Int), (numAll [root] ars).1[i]? = some x → g.vs i = x
theorem In64_of {l : List (Int × Int)} (h : ∀ x ∈ l, (-9223372036854775808 ≤ x.1 ∧ x.1 ≤ 9223372036854775807) ∧ (-9223372036854775808 ≤ x.2 ∧ x.2 ≤ 9223372036854775807)) {i : Nat} {x : Int × Int} (hx : l[i]? = some x) : (-9223372036854775808 ≤ x.1 ∧ x.1 ≤ 9223372036854775807) ∧ (-9223372036854775808 ≤ x.2 ∧ x.2 ≤ 9223372036854775807) := h x (List.mem_of_getElem? hx)
structure LB (H : Nat) (wS w : World) (vv : Value) (vs : List Int) (bo E : Nat) (own : List (Nat × Nat)) (ba : Nat) (x1 x2 : Int) : Prop where
  ls : LS H wS w vv vs bo E own
  row : w.heap[ba]? = some (.cells #[.int .i64 x1, .int .i64 x2] 29 (0, 0))
  apb : vv.ownBlock ≠ some ba
  lob : H + 4 ≤ ba
theorem LB.below {H : Nat} {wS w w1 : World} {vv : Value} {vs : List Int} {bo E : Nat} {own : List (Nat × Nat)} {ba : Nat} {x1 x2 : Int} (h : LB H wS w vv vs bo E own ba x1 x2) (hb : Below w.heap.size w w1) : LB H wS w1 vv vs bo E own ba x1 x2 :=
  ⟨h.ls.below hb, (hb.block _ (lt_row h.row)).trans h.row, h.apb, h.lob⟩
theorem LB.numd {H : Nat} {wS w w1 : World} {vv vv1 : Value} {vs vs1 : List Int} {bo E : Nat} {own : List (Nat × Nat)} {ba : Nat} {x1 x2 : Int} (h : LB H wS w vv vs bo E own ba x1 x2) (hn : NS H wS w1 vv1 vs1) (hd : Numd H vv vv1 w w1) : LB H wS w1 vv1 vs1 bo E own ba x1 x2 := by
  have hlo := h.lob
  refine ⟨h.ls.numd hn hd, (hd.far ba (lt_row h.row) (by omega) (by omega) (fun e => h.apb e.symm)).trans h.row, ?_, h.lob⟩
  rcases hd.at_ with e | ⟨b, e, hb⟩
  · rw [e]; exact h.apb
  · rw [e]; intro e2; injection e2 with e2; have := lt_row h.row; omega
theorem LB.cells {H : Nat} {wS w : World} {vv : Value} {vs : List Int} {bo E : Nat} {own : List (Nat × Nat)} {ba : Nat} {x1 x2 : Int} (h : LB H wS w vv vs bo E own ba x1 x2) : w.cell? ⟨ba, 0, none⟩ = some (.int .i64 x1) ∧ w.cell? ⟨ba, 1, none⟩ = some (.int .i64 x2) :=
  ⟨(row_facts h.row).1, (row_facts h.row).2.1⟩
theorem info51s : (Try.prog.info? 51).map (·.size) = some 3 := by kernel_rfl
/-- What stands when the ends are filled. -/
structure EB (H : Nat) (w W : World) (vs : List Int) (own : List (Nat × Nat)) (bv cv bo bb be E : Nat) : Prop where
  ok : Ok w W
  hH : w.heap.size ≤ H
  r1 : W.heap[H + 1]? = some (.cells #[.slice (some ⟨bv, 0, none⟩) vs.length cv, .slice (some ⟨be, 0, none⟩) E E, .slice (some ⟨bb, 0, none⟩) (vs.length + 1) (vs.length + 1)] 51 (0, 0))
  r0 : W.heap[H]? = some (.cells #[.slice none 0 0, .slice none 0 0, .slice none 0 0] 51 (0, 0))
  av : ∀ (i : Nat) (x : Int), vs[i]? = some x → W.cell? ⟨bv, i, none⟩ = some (.int .i64 x)
  ao : ArcsAt W bo own
  rb : W.heap[bb]? = some (.cells (mkRow (vs.length + 1) (begF own)) 3 (0, 0))
  lH : H + 1 < be
  lv : bv < be
  lo : bo < be
  lb : bb < be
  hv : H + 1 < bv
  hb : H + 1 < bb
  lt : be + 2 ≤ W.heap.size
theorem EB.below {H : Nat} {w W W' : World} {vs : List Int} {own : List (Nat × Nat)} {bv cv bo bb be E : Nat} (h : EB H w W vs own bv cv bo bb be E) (hb : Below be W W') (hle : w.heap.size ≤ be) : EB H w W' vs own bv cv bo bb be E := by
  have hlt := h.lt
  have hs := hb.size
  have l1 := h.lH
  exact ⟨Below.trans h.ok (hb.mono hle), h.hH, (hb.block _ h.lH).trans h.r1, (hb.block _ (by omega)).trans h.r0, fun i x hx => (hb.cell (p := ⟨bv, i, none⟩) h.lv).trans (h.av i x hx),
    ⟨Nat.lt_of_lt_of_le h.lo (by omega), fun i x hx => ⟨(hb.cell (p := ⟨bo, i * 2, none⟩) h.lo).trans (h.ao.2 i x hx).1, (hb.cell (p := ⟨bo, i * 2 + 1, none⟩) h.lo).trans (h.ao.2 i x hx).2⟩⟩, (hb.block _ h.lb).trans h.rb, h.lH, h.lv, h.lo, h.lb, h.hv, h.hb, by omega⟩
theorem EB.make {H : Nat} {w wr w1 : World} {vs : List Int} {own : List (Nat × Nat)} {bv cv bo E : Nat} (h : LS H w wr (.slice (some ⟨bv, 0, none⟩) vs.length cv) vs bo E own) (hok : Ok wr w1) (hrb : w1.heap[wr.heap.size]? = some (.cells (mkRow (vs.length + 1) (begF own)) 3 (0, 0))) :
    EB H w ((((w1.setCell ⟨H + 1, 2, none⟩ (.slice (some ⟨wr.heap.size, 0, none⟩) (vs.length + 1) (vs.length + 1))).setCell ⟨H + 1, 1, none⟩ (.slice (some ⟨w1.heap.size, 0, none⟩) E E)).alloc (.cells (mkRow E fun _ => 0) 3)).alloc (.cells (mkRow vs.length fun _ => 0) 3)) vs own bv cv bo wr.heap.size w1.heap.size E := by
  have hlt := h.ns.lt
  have hH := h.ns.hH
  have hbl := h.rw2.lt
  have hlo := h.lo
  have hv := h.ns.vo.lt bv rfl
  have hs := hok.le
  have hrl := lt_row hrb
  have hfar : ∀ k, k ≠ H + 1 → k < w1.heap.size → ((((w1.setCell ⟨H + 1, 2, none⟩ (.slice (some ⟨wr.heap.size, 0, none⟩) (vs.length + 1) (vs.length + 1))).setCell ⟨H + 1, 1, none⟩ (.slice (some ⟨w1.heap.size, 0, none⟩) E E)).alloc (.cells (mkRow E fun _ => 0) 3)).alloc (.cells (mkRow vs.length fun _ => 0) 3)).heap[k]? = w1.heap[k]? := fun k hk hl =>
    heap_past _ _ _ (by simp; omega) (heap_past _ _ _ (by simpa using hl) ((heap_setCell_other _ _ _ _ hk).trans (heap_setCell_other _ _ _ _ hk)))
  refine ⟨?_, hH, ?_, (hfar H (by omega) (by omega)).trans ((hok.block _ (by omega)).trans h.ns.b0), ?_, ?_, (hfar _ (by omega) hrl).trans hrb, by omega, by omega, by omega, hrl, by omega, by omega, by simp⟩
  · exact Ok.alloc (Ok.alloc (Ok.set (p := ⟨H + 1, 1, none⟩) (Ok.set (p := ⟨H + 1, 2, none⟩) (h.ns.ok.step hok) (by show w.heap.size ≤ H + 1; omega) _) (by show w.heap.size ≤ H + 1; omega) _) _) _
  · refine heap_past _ _ _ (by simp; omega) (heap_past _ _ _ (by simp; omega) ?_)
    have h1 := heap_setCell_same _ _ 2 _ _ (.slice (some ⟨wr.heap.size, 0, none⟩) (vs.length + 1) (vs.length + 1)) ((hok.block (H + 1) (by omega)).trans h.ns.b1)
    have h2 := heap_setCell_same _ _ 1 _ _ (.slice (some ⟨w1.heap.size, 0, none⟩) E E) h1
    exact h2.trans (by simp)
  · intro i x hx
    have h1 := h.ns.vo.cells (g := bv) rfl i (.int .i64 x) (by unfold ints; rw [List.getElem?_map, hx]; rfl)
    rw [add0] at h1
    exact (World.cell?_of_block (a := ⟨bv, i, none⟩) (hfar bv (by omega) (by omega))).trans ((hok.cell (p := ⟨bv, i, none⟩) hv.2 h1))
  · have h1 := h.rw2.arcs.ok hok
    refine ⟨by simp; omega, fun i x hx => ⟨(World.cell?_of_block (a := ⟨bo, i * 2, none⟩) (hfar bo (by omega) (by omega))).trans (h1.2 i x hx).1, (World.cell?_of_block (a := ⟨bo, i * 2 + 1, none⟩) (hfar bo (by omega) (by omega))).trans (h1.2 i x hx).2⟩⟩
/-- The graph that numbered hands back. -/
def gdOf (vs : List Int) (own : List (Nat × Nat)) (bv cv bb be E : Nat) : GD := ⟨vs.length, E, bv, be, bb, cv, E, vs.length + 1, fun i => vs.getD i 0, begF own, enF own E, outs own⟩
theorem EB.done {H : Nat} {w W W' : World} {vs : List Int} {own : List (Nat × Nat)} {bv cv bo bb be E : Nat} (h : EB H w W vs own bv cv bo bb be E) (hg : W.grownBy W' (some H)) (hE : W.heap[be]? = some (.cells (mkRow E (enF own E)) 3 (0, 0))) (hol : own.length = E) (hob : ∀ x ∈ own, x.1 < vs.length ∧ x.2 < vs.length) (h1 : E ≤ 10000) (h2 : vs.length ≤ 100000) (h3 : 0 < vs.length) :
    GOk (gdOf vs own bv cv bb be E) W' := by
  have hs := hg.size
  have hlt := h.lt
  have l1 := h.lv
  have l2 := h.lb
  have l3 := h.lH
  have l4 := h.hv
  have l5 := h.hb
  have hfar : ∀ k, k ≠ H → k < W.heap.size → W'.heap[k]? = W.heap[k]? := fun k hk hl => hg.block k hl (fun e => by injection e with e; exact hk e)
  refine ⟨by show bv < _; omega, by show be < _; omega, by show bb < _; omega, ?_, ?_, ?_, ?_, ?_, by show E ≤ _; omega, by show vs.length ≤ _; omega, h3⟩
  · intro i hi
    have hi' : i < vs.length := hi
    refine (World.cell?_of_block (a := ⟨bv, i, none⟩) (hfar bv (by omega) (by omega))).trans ?_
    have := h.av i vs[i] (List.getElem?_eq_getElem hi')
    rw [this]
    show _ = some (Value.int .i64 (vs.getD i 0))
    rw [List.getD_eq_getElem?_getD, List.getElem?_eq_getElem hi']; rfl
  · intro i hi
    have hi' : i < E := hi
    exact (World.cell?_of_block (a := ⟨be, i, none⟩) (hfar be (by omega) (by omega))).trans ((cell_of_row _ _ _ _ _ _ hE).trans (mkRow_get _ _ _ hi'))
  · intro i hi
    have hi' : i < vs.length + 1 := hi
    exact (World.cell?_of_block (a := ⟨bb, i, none⟩) (hfar bb (by omega) (by omega))).trans ((cell_of_row _ _ _ _ _ _ h.rb).trans (mkRow_get _ _ _ hi'))
  · intro i hi
    refine ⟨begF_up own i, ?_⟩
    have := begF_le own (i + 1)
    show begF own (i + 1) ≤ E
    omega
  · intro i hi r hr
    subst hol
    have := enF_at own own.length (Nat.le_refl _) i r (by rw [List.take_length]; exact hr)
    simp only [List.take_length] at this
    exact this
set_option maxHeartbeats 8000000 in
theorem numbered_any {w : World} {ro : Option Addr} {cap : Nat} {ars : List (Int × Int)} {root : Int} (h : SAr w ro ars) (hl : ars.length ≤ 10000) (hr0 : -9223372036854775808 ≤ root) (hr1 : root ≤ 9223372036854775807)
    (hin : ∀ x ∈ ars, (-9223372036854775808 ≤ x.1 ∧ x.1 ≤ 9223372036854775807) ∧ (-9223372036854775808 ≤ x.2 ∧ x.2 ≤ 9223372036854775807)) :
    Calls Try.prog 20 #[.slice ro ars.length cap, .int .i64 root] w (Numbered w ars root) := by
  have hmf : ∀ (fn : Fn) (first cap : Array Value) (w : World), (Instr.makeFunc fn first cap).run Try.prog w = .ok (.func fn first cap) w := fun _ _ _ _ => rfl
  have hmm := @run_makeMap Try.prog
  have hma := fun w => run_arcs ars.length (by omega) w
  have HS : Hid (SAr w ro ars) := h
  have HIN : Hid (∀ x ∈ ars, (-9223372036854775808 ≤ x.1 ∧ x.1 ≤ 9223372036854775807) ∧ (-9223372036854775808 ≤ x.2 ∧ x.2 ≤ 9223372036854775807)) := hin
  have HC0 : Hid (Calls Try.prog 32 #[.int .i64 root, .pointer (some ⟨w.heap.size + 3, 0, none⟩), .pointer (some ⟨w.heap.size + 1, 0, none⟩)] (NW0 w) fun e w' => e = .returned (.int .i64 ((numb [] root).2 : Nat)) ∧ ∃ vv', NS w.heap.size w w' vv' (numb [] root).1 ∧ Numd w.heap.size (.slice none 0 0) vv' (NW0 w) w') := num_any (NW0_ns w) root hr0 hr1 (by simp)
  clear h hin
  obtain ⟨H, hH⟩ : ∃ H, H = w.heap.size := ⟨_, rfl⟩
  have HH : Hid (H = w.heap.size) := hH
  clear hH
  go_enter Try.func20, Try.ntmps20
  go_wp2_with (go_at_call 32; simp only [Nat.add_assoc, Nat.reduceAdd]; refine (Calls.mono HC0.out ?_); rintro e W ⟨rfl, vv0, hN, hD⟩; have HN : Hid (NS w.heap.size w W vv0 [root]) := hN; clear hN hD HC0)
  rw [← HH.out] at HN ⊢
  have HLS : Hid (LS H w (W.alloc (.cells (madeCells #[.int .i64 0, .int .i64 0] (ars.length * 2)) 29)) vv0 (numAll [root] (ars.take 0)).1 W.heap.size ars.length (numAll [root] (ars.take 0)).2) := by
    have hlt := HN.out.lt
    refine ⟨HN.out.below ((Below.refl _ _).alloc (Nat.le_refl _) _), hlt, ?_, ⟨_, heap_new0 _ _, by rw [size_madeCells], fun k x hx => by simp [numAll] at hx⟩⟩
    intro e
    have := (HN.out.vo.lt _ e).2
    omega
  obtain ⟨bo, hbo⟩ : ∃ bo, bo = W.heap.size := ⟨_, rfl⟩
  obtain ⟨W1, hW1⟩ : ∃ W1, W1 = W.alloc (.cells (madeCells #[.int .i64 0, .int .i64 0] (ars.length * 2)) 29) := ⟨_, rfl⟩
  rw [← hbo, ← hW1] at HLS ⊢
  clear hbo hW1 HN hmf hmm hma
  go_loopw [24] (fun a wr => ∃ (i : Nat) (vv : Value), i ≤ ars.length ∧ a = .int .i64 (i : Nat) ∧ Hid (LS H w wr vv (numAll [root] (ars.take i)).1 bo ars.length (numAll [root] (ars.take i)).2)) (fun a _ => ars.length - (intOf a).toNat)
  case atStart => exact ⟨0, vv0, by omega, rfl, HLS⟩
  case round =>
    obtain ⟨i, vv, hi, rfl, HL⟩ := hrel
    by_cases hil : i < ars.length
    · have hil' : (i : Int) < (ars.length : Int) := by omega
      obtain ⟨x, hx⟩ : ∃ x, ars[i]? = some x := ⟨ars[i], List.getElem?_eq_getElem hil⟩
      obtain ⟨tb, o, rfl, htb, hcs⟩ := (HS.out.ok HL.out.ns.ok) (by intro e; rw [e] at hil; cases hil)
      obtain ⟨x1, x2⟩ := x
      obtain ⟨a0, a1⟩ := hcs i _ hx
      obtain ⟨⟨v1, v2⟩, ⟨v3, v4⟩⟩ := In64_of HIN.out hx
      have e2 := (numAll_len (ars.take i) [root])
      have e3 : (ars.take i).length = i := by simp; omega
      obtain ⟨vs, hvs⟩ : ∃ vs, vs = (numAll [root] (ars.take i)).1 := ⟨_, rfl⟩
      obtain ⟨own, hown⟩ : ∃ own, own = (numAll [root] (ars.take i)).2 := ⟨_, rfl⟩
      have HST : Hid (numAll [root] (ars.take (i + 1)) = ((numb (numb vs x1).1 x2).1, own ++ [((numb vs x1).2, (numb (numb vs x1).1 x2).2)])) := by
        unfold Hid
        rw [hvs, hown, List.take_add_one, hx]
        exact numAll_snoc (x1, x2) (ars.take i) [root]
      rw [← hvs, ← hown, e3] at e2
      rw [← hvs, ← hown] at HL
      have hvl : vs.length ≤ 100000 := by have := e2.1; simp at this; omega
      have hol : own.length = i := e2.2
      have hvl2 : (numb vs x1).1.length ≤ 1000000 := by have := numb_len vs x1; omega
      clear hvs hown e2 e3 hx hcs
      obtain ⟨⟨y1, hy1⟩, ⟨y2, hy2⟩, hfz⟩ := HL.out.rw2.cells hil
      have hlt := HL.out.ns.lt
      have hbl := HL.out.rw2.lt
      have hblo := HL.out.lo
      have hiw : IntKind.i64.wrap ((i : Int) + 1) = ((i + 1 : Nat) : Int) := wrap_nat (by omega) (by omega)
      have HLW : Hid (LS H w (wr.alloc (.cells #[.int .i64 x1, .int .i64 x2] 29)) vv vs bo ars.length own) := HL.out.below ((Below.refl _ _).alloc (Nat.le_refl _) _)
      obtain ⟨ba, hba⟩ : ∃ ba, ba = wr.heap.size := ⟨_, rfl⟩
      obtain ⟨W2, hW2⟩ : ∃ W2, W2 = wr.alloc (.cells #[.int .i64 x1, .int .i64 x2] 29) := ⟨_, rfl⟩
      have HB : Hid (LB H w W2 vv vs bo ars.length own ba x1 x2) := by
        refine ⟨by rw [hW2]; exact HLW.out, by rw [hba, hW2]; exact heap_new0 _ _, fun e => by have := (HL.out.ns.vo.lt _ e).2; omega, by omega⟩
      have hbob : bo < ba := by omega
      have HBW : Hid (wr.alloc (.cells #[.int .i64 x1, .int .i64 x2] 29) = W2) := hW2.symm
      have HBA : Hid (wr.heap.size = ba) := hba.symm
      clear hba hW2
      go_wp2_with fail
      rw [HBW.out, HBA.out]
      clear HLW HL a0 a1 hy1 hy2 hfz y1 y2 HBW HBA htb hlt hbl
      obtain ⟨a0, a1⟩ := HB.out.cells
      go_region_held3 (fun w' => w'.cell? ⟨ba, 0, none⟩ = some (.int .i64 x1) ∧ w'.cell? ⟨ba, 1, none⟩ = some (.int .i64 x2))
        (first | (exact ⟨a0, a1⟩) | (exact ⟨c0, c1⟩) | (exact ⟨d0, d1⟩) | go_keep)
        (first
        | (go_at_call_of 32 (x1); refine (Calls.mono (num_any (NS.below HB.out.ls.ns (by repeat (first | exact Below.refl _ _ | refine Below.alloc ?_ (Nat.le_refl _) _ | refine Below.drew ?_ | refine below_drewN ?_ _))) x1 v1 v2 (by omega)) ?_); rintro e w1 ⟨rfl, vv1, hN1, hD1⟩; have HB1 : Hid (LB H w w1 vv1 (numb vs x1).1 bo ars.length own ba x1 x2) := LB.numd (LB.below HB.out (by repeat (first | exact Below.refl _ _ | refine Below.alloc ?_ (Nat.le_refl _) _ | refine Below.drew ?_ | refine below_drewN ?_ _))) hN1 hD1; have ⟨c0, c1⟩ := HB1.out.cells; clear hN1 hD1)
        | (go_at_call_of 32 (x2); refine (Calls.mono (num_any (NS.below HB1.out.ls.ns (by repeat (first | exact Below.refl _ _ | refine Below.alloc ?_ (Nat.le_refl _) _ | refine Below.drew ?_ | refine below_drewN ?_ _))) x2 v3 v4 (by omega)) ?_); rintro e w2 ⟨rfl, vv2, hN2, hD2⟩; have HB2 : Hid (LB H w w2 vv2 (numb (numb vs x1).1 x2).1 bo ars.length own ba x1 x2) := LB.numd (LB.below HB1.out (by repeat (first | exact Below.refl _ _ | refine Below.alloc ?_ (Nat.le_refl _) _ | refine Below.drew ?_ | refine below_drewN ?_ _))) hN2 hD2; have ⟨d0, d1⟩ := HB2.out.cells; have hbl := HB2.out.ls.rw2.lt; have ⟨⟨y1, hy1⟩, ⟨y2, hy2⟩, hfz⟩ := HB2.out.ls.rw2.cells hil; have f0 := hfz (i * 2); have f1 := hfz (i * 2 + 1); have hne : ¬ bo = ba := (by omega); have hne2 : ¬ ba = bo := (by omega); clear hN2 hD2 hfz)
        | fail)
      go_wp2_with fail
      refine ⟨⟨i + 1, vv2, by omega, rfl, ?_⟩, by simp only [intOf]; omega⟩
      have hput := HB2.out.ls.put (by omega : own.length < ars.length) (numb vs x1).2 (numb (numb vs x1).1 x2).2
      rw [hol] at hput
      unfold Hid
      rw [HST.out]
      exact hput
    · have hil' : ¬ (i : Int) < (ars.length : Int) := by omega
      have hie : i = ars.length := by omega
      rw [hie, List.take_length] at HL
      clear hie HLS hil hi
      have e2 := numAll_len ars [root]
      obtain ⟨t, ht⟩ := numAll_pre ars [root]
      have HAT : Hid (∀ (k : Nat) (x : Nat × Nat), (numAll [root] ars).2[k]? = some x → ∃ a, ars[k]? = some a ∧ (numAll [root] ars).1[x.1]? = some a.1 ∧ (numAll [root] ars).1[x.2]? = some a.2) := numAll_at ars [root]
      obtain ⟨vs, hvs⟩ : ∃ vs, vs = (numAll [root] ars).1 := ⟨_, rfl⟩
      obtain ⟨own, hown⟩ : ∃ own, own = (numAll [root] ars).2 := ⟨_, rfl⟩
      rw [← hvs, ← hown] at HL HAT e2
      rw [← hvs] at ht
      have hvl : vs.length ≤ 100000 := by have := e2.1; simp at this; omega
      have hv0 : 0 < vs.length := by rw [ht]; simp
      have HOL : Hid (own.length = ars.length) := e2.2
      have HOB : Hid (∀ x ∈ own, x.1 < vs.length ∧ x.2 < vs.length) := fun x hx => by
        obtain ⟨k, hk⟩ := List.getElem?_of_mem hx
        obtain ⟨a, _, h1, h2⟩ := HAT.out k x hk
        exact ⟨(List.getElem?_eq_some_iff.1 h1).1, (List.getElem?_eq_some_iff.1 h2).1⟩
      have HVS : Hid (vs = (numAll [root] ars).1) := hvs
      have HOWN : Hid (own = (numAll [root] ars).2) := hown
      clear hvs hown ht e2
      obtain ⟨bv, cv, rfl, hbv1, hbv2⟩ := HL.out.ns.vo.form hv0
      have g0 : wr.cell? ⟨H + 1, 0, none⟩ = some (.slice (some ⟨bv, 0, none⟩) vs.length cv) := (cell_of_row _ _ 0 _ _ _ HL.out.ns.b1).trans (by simp)
      have hlt := HL.out.ns.lt
      have HBG : Hid (Calls Try.prog 33 #[.slice (some ⟨bo, 0, none⟩) ars.length ars.length, .int .i64 (vs.length : Nat)] wr fun e w' => e = .returned (.slice (some ⟨wr.heap.size, 0, none⟩) (vs.length + 1) (vs.length + 1)) ∧ Ok wr w' ∧ w'.heap[wr.heap.size]? = some (.cells (mkRow (vs.length + 1) (begF own)) 3 (0, 0))) := by
        have := begins_any (cap := ars.length) HL.out.rw2.arcs (fun x hx => (HOB.out x hx).1) (by rw [HOL.out]; omega) (by omega : vs.length ≤ 1000000)
        rw [HOL.out] at this
        exact this
      have hm1 := fun w => run_ints ars.length (by omega) w
      have hm2 := fun w => run_ints vs.length (by omega) w
      go_wp2_with (go_at_call 33; refine (Calls.mono HBG.out ?_); rintro e w1 ⟨rfl, hok, hrow⟩; have hb1 := (hok.block (H + 1) (by omega)).trans HL.out.ns.b1; have ⟨k0, k1⟩ : w1.cell? ⟨H + 1, 0, none⟩ = some (.slice (some ⟨bv, 0, none⟩) vs.length cv) ∧ w1.cell? ⟨H + 1, 1, none⟩ = some (.slice none 0 0) := ⟨(cell_of_row _ _ 0 _ _ _ hb1).trans (by simp), (cell_of_row _ _ 1 _ _ _ hb1).trans (by simp)⟩; have k2 : w1.cell? ⟨H + 1, 2, none⟩ = some (.slice none 0 0) := (cell_of_row _ _ 2 _ _ _ hb1).trans (by simp); have k3 : w1.frozen? ⟨H + 1, 1, none⟩ = false := frozen_of_row _ _ _ _ _ hb1; have k4 : w1.frozen? ⟨H + 1, 2, none⟩ = false := frozen_of_row _ _ _ _ _ hb1; have hz1 := hok.le; have hq1 : H + 1 < w1.heap.size := (by omega); have hq2 : ¬ H + 1 = w1.heap.size := (by omega); have hq3 : ¬ w1.heap.size = H + 1 := (by omega); have HOK : Hid (Ok wr w1) := hok; have HRB : Hid _ := hrow; have HB1 : Hid (w1.heap[H + 1]? = _) := hb1; clear hok hrow hb1 g0)
      have HEB : Hid (EB H w _ vs own bv cv bo wr.heap.size w1.heap.size ars.length) := EB.make HL.out HOK.out HRB.out
      have HE0 : Hid (((((w1.setCell ⟨H + 1, 2, none⟩ (.slice (some ⟨wr.heap.size, 0, none⟩) (vs.length + 1) (vs.length + 1))).setCell ⟨H + 1, 1, none⟩ (.slice (some ⟨w1.heap.size, 0, none⟩) ars.length ars.length)).alloc (.cells (mkRow ars.length fun _ => 0) 3)).alloc (.cells (mkRow vs.length fun _ => 0) 3)).heap[w1.heap.size]? = some (.cells (mkRow ars.length (enF own 0)) 3 (0, 0)) ∧ ((((w1.setCell ⟨H + 1, 2, none⟩ (.slice (some ⟨wr.heap.size, 0, none⟩) (vs.length + 1) (vs.length + 1))).setCell ⟨H + 1, 1, none⟩ (.slice (some ⟨w1.heap.size, 0, none⟩) ars.length ars.length)).alloc (.cells (mkRow ars.length fun _ => 0) 3)).alloc (.cells (mkRow vs.length fun _ => 0) 3)).heap[w1.heap.size + 1]? = some (.cells (mkRow vs.length (cntF (own.take 0))) 3 (0, 0))) := by
        refine ⟨heap_past _ _ _ (by simp) (heap_at _ _ _ (by simp)), ?_⟩
        have e0 : cntF (own.take 0) = fun _ => 0 := by funext k; simp [cntF, outs]
        rw [e0]
        exact heap_at _ _ _ (by simp)
      obtain ⟨be, hbe⟩ : ∃ be, be = w1.heap.size := ⟨_, rfl⟩
      obtain ⟨bb, hbb⟩ : ∃ bb, bb = wr.heap.size := ⟨_, rfl⟩
      rw [← hbe, ← hbb] at HEB HE0 ⊢
      obtain ⟨W3, hW3⟩ : ∃ W3, W3 = ((((w1.setCell ⟨H + 1, 2, none⟩ (.slice (some ⟨bb, 0, none⟩) (vs.length + 1) (vs.length + 1))).setCell ⟨H + 1, 1, none⟩ (.slice (some ⟨be, 0, none⟩) ars.length ars.length)).alloc (.cells (mkRow ars.length fun _ => 0) 3)).alloc (.cells (mkRow vs.length fun _ => 0) 3)) := ⟨_, rfl⟩
      rw [← hW3] at HEB HE0 ⊢
      obtain ⟨hE0, hF0⟩ := HE0.out
      have HE0' : Hid _ := hE0
      have HF0' : Hid _ := hF0
      clear hE0 hF0 HE0 hW3 hbe hbb HOK HRB HB1 HL HBG k0 k1 k2 k3 k4 hq1 hq2 hq3 hz1 hm1 hm2 hbv1 hbv2 hlt hil'
      have hwb : w.heap.size ≤ be := by have := HEB.out.hH; have := HEB.out.lH; omega
      have HWB : Hid (w.heap.size ≤ be) := hwb
      clear hwb
      go_loopw [58] (fun a wr => ∃ (j : Nat), j ≤ ars.length ∧ a = .int .i64 (j : Nat) ∧ Hid (Below be W3 wr) ∧ Hid (wr.heap[be]? = some (.cells (mkRow ars.length (enF own j)) 3 (0, 0))) ∧ Hid (wr.heap[be + 1]? = some (.cells (mkRow vs.length (cntF (own.take j))) 3 (0, 0)))) (fun a _ => ars.length - (intOf a).toNat)
      case atStart => exact ⟨0, by omega, rfl, Below.refl _ _, HE0', HF0'⟩
      case round =>
        clear HE0' HF0'
        obtain ⟨j, hj, rfl, HBW, HE, HF⟩ := hrel
        have HEC : Hid (EB H w wr vs own bv cv bo bb be ars.length) := HEB.out.below HBW.out HWB.out
        have l0 := HEC.out.lH; have l1 := HEC.out.lv; have l2 := HEC.out.lo; have l3 := HEC.out.lb; have l4 := HEC.out.lt; have l5 := HEC.out.hv; have l6 := HEC.out.hb
        have g0 : wr.cell? ⟨H + 1, 0, none⟩ = some (.slice (some ⟨bv, 0, none⟩) vs.length cv) := (cell_of_row _ _ 0 _ _ _ HEC.out.r1).trans (by simp)
        have g1 : wr.cell? ⟨H + 1, 1, none⟩ = some (.slice (some ⟨be, 0, none⟩) ars.length ars.length) := (cell_of_row _ _ 1 _ _ _ HEC.out.r1).trans (by simp)
        have g2 : wr.cell? ⟨H + 1, 2, none⟩ = some (.slice (some ⟨bb, 0, none⟩) (vs.length + 1) (vs.length + 1)) := (cell_of_row _ _ 2 _ _ _ HEC.out.r1).trans (by simp)
        by_cases hjl : j < ars.length
        · have hjl' : (j : Int) < (ars.length : Int) := by omega
          obtain ⟨x, hx⟩ : ∃ x, own[j]? = some x := ⟨own[j]'(by rw [HOL.out]; exact hjl), List.getElem?_eq_getElem _⟩
          obtain ⟨a0, a1⟩ := HEC.out.ao.2 j x hx
          obtain ⟨b1, b2⟩ := HOB.out x (List.mem_of_getElem? hx)
          have r0 : wr.cell? ⟨bb, x.1, none⟩ = some (.int .i64 (begF own x.1 : Nat)) := (cell_of_row _ _ _ _ _ _ HEC.out.rb).trans (mkRow_get _ _ _ (by omega))
          have r1 : wr.cell? ⟨be + 1, x.1, none⟩ = some (.int .i64 (cntF (own.take j) x.1 : Nat)) := (cell_of_row _ _ _ _ _ _ HF.out).trans (mkRow_get _ _ _ b1)
          have r2 : wr.frozen? ⟨be + 1, x.1, none⟩ = false := frozen_of_row _ _ _ _ _ HF.out
          have hpE : begF own x.1 + cntF (own.take j) x.1 < ars.length := by
            have h1 := cnt_lt own hx
            have h2 := begF_up own x.1
            have h3 := begF_le own (x.1 + 1)
            have h4 := HOL.out
            omega
          have r3 : wr.cell? ⟨be, begF own x.1 + cntF (own.take j) x.1, none⟩ = some (.int .i64 (enF own j (begF own x.1 + cntF (own.take j) x.1) : Nat)) := (cell_of_row _ _ _ _ _ _ HE.out).trans (mkRow_get _ _ _ hpE)
          have r4 : ∀ o, wr.frozen? ⟨be, o, none⟩ = false := fun o => frozen_of_row _ _ _ _ _ HE.out
          obtain ⟨p1, hp1⟩ : ∃ p, p = begF own x.1 := ⟨_, rfl⟩
          obtain ⟨p2, hp2⟩ : ∃ p, p = cntF (own.take j) x.1 := ⟨_, rfl⟩
          have HS1 : Hid (enF own (j + 1) = upd (enF own j) (p1 + p2) x.2) := by unfold Hid; rw [hp1, hp2]; exact enF_step own hx
          have HS2 : Hid (cntF (own.take (j + 1)) = upd (cntF (own.take j)) x.1 (p2 + 1)) := by unfold Hid; rw [hp2]; exact cntF_step own hx
          rw [← hp1] at r0 r3 hpE
          rw [← hp2] at r1 r3 hpE
          obtain ⟨p, hp⟩ : ∃ p, p = p1 + p2 := ⟨_, rfl⟩
          have hpw : IntKind.i64.wrap ((p1 : Int) + (p2 : Int)) = (p : Int) := wrap_nat (by omega) (by omega)
          have hp3 : IntKind.i64.wrap ((p2 : Int) + 1) = ((p2 + 1 : Nat) : Int) := wrap_nat (by omega) (by omega)
          rw [← hp] at r3 hpE HS1
          have r5 := r4 p
          clear hp1 hp2 r4 hp hx
          have hjw : IntKind.i64.wrap ((j : Int) + 1) = ((j + 1 : Nat) : Int) := wrap_nat (by omega) (by omega)
          have b3 : x.1 < vs.length + 1 := by omega
          have z0 : bo < wr.heap.size := by omega
          have z1 : ¬ bo = wr.heap.size := by omega
          have z2 : be < wr.heap.size := by omega
          have z3 : be + 1 < wr.heap.size := by omega
          have z4 : bb < wr.heap.size := by omega
          have z5 : H + 1 < wr.heap.size := by omega
          have z6 : ¬ be = be + 1 := by omega
          have z7 : ¬ be + 1 = be := by omega
          have z8 : ¬ be = wr.heap.size := by omega
          have z9 : ¬ wr.heap.size = be := by omega
          have z10 : ¬ be + 1 = wr.heap.size := by omega
          have z11 : ¬ wr.heap.size = be + 1 := by omega
          go_wp2_with fail
          go_region
          all_goals
            go_wp2_with fail
            refine ⟨⟨j + 1, by omega, rfl, ?_, ?_, ?_⟩, by simp only [intOf]; omega⟩
            · have h1 : Below be W3 ((wr.setCell ⟨be, p, none⟩ (.int .i64 (x.2 : Nat))).setCell ⟨be + 1, x.1, none⟩ (.int .i64 ((p2 + 1 : Nat) : Int))) := (HBW.out.setCell (p := ⟨be, p, none⟩) (Nat.le_refl _) _).setCell (p := ⟨be + 1, x.1, none⟩) (Nat.le_succ _) _
              exact (h1.alloc (by simp; omega) _).drew
            · unfold Hid
              rw [HS1.out, ← mkRow_set]
              have h1 := heap_setCell_same _ _ p _ _ (.int .i64 (x.2 : Nat)) HE.out
              have h2 := (heap_setCell_other _ ⟨be + 1, x.1, none⟩ be (.int .i64 ((p2 + 1 : Nat) : Int)) (by show be ≠ be + 1; omega)).trans h1
              exact heap_past _ _ _ (by simpa using z2) h2
            · unfold Hid
              rw [HS2.out, ← mkRow_set]
              have h1 := (heap_setCell_other _ ⟨be, p, none⟩ (be + 1) (.int .i64 (x.2 : Nat)) (by show be + 1 ≠ be; omega)).trans HF.out
              have h2 := heap_setCell_same _ _ x.1 _ _ (.int .i64 ((p2 + 1 : Nat) : Int)) h1
              exact heap_past _ _ _ (by simpa using z3) h2
        · have hjl' : ¬ (j : Int) < (ars.length : Int) := by omega
          have hje : j = ars.length := by omega
          have HEN : Hid (wr.heap[be]? = some (.cells (mkRow ars.length (enF own ars.length)) 3 (0, 0))) := by have := HE.out; rw [hje] at this; exact this
          clear hje
          have q0 : wr.cell? ⟨H, 0, none⟩ = some (.slice none 0 0) := (cell_of_row _ _ 0 _ _ _ HEC.out.r0).trans (by simp)
          have q1 : wr.cell? ⟨H, 1, none⟩ = some (.slice none 0 0) := (cell_of_row _ _ 1 _ _ _ HEC.out.r0).trans (by simp)
          have q2 : wr.cell? ⟨H, 2, none⟩ = some (.slice none 0 0) := (cell_of_row _ _ 2 _ _ _ HEC.out.r0).trans (by simp)
          have f0 : wr.frozen? ⟨H, 0, none⟩ = false := frozen_of_row _ _ _ _ _ HEC.out.r0
          have f1 : wr.frozen? ⟨H, 1, none⟩ = false := frozen_of_row _ _ _ _ _ HEC.out.r0
          have f2 : wr.frozen? ⟨H, 2, none⟩ = false := frozen_of_row _ _ _ _ _ HEC.out.r0
          have HRW : Hid ((((wr.setCell ⟨H, 0, none⟩ (.slice (some ⟨bv, 0, none⟩) vs.length cv)).setCell ⟨H, 1, none⟩ (.slice (some ⟨be, 0, none⟩) ars.length ars.length)).setCell ⟨H, 2, none⟩ (.slice (some ⟨bb, 0, none⟩) (vs.length + 1) (vs.length + 1))).heap[H]? = some (.cells #[.slice (some ⟨bv, 0, none⟩) vs.length cv, .slice (some ⟨be, 0, none⟩) ars.length ars.length, .slice (some ⟨bb, 0, none⟩) (vs.length + 1) (vs.length + 1)] 51 (0, 0))) := by
            have h1 := heap_setCell_same _ _ 0 _ _ (.slice (some ⟨bv, 0, none⟩) vs.length cv) HEC.out.r0
            have h2 := heap_setCell_same _ _ 1 _ _ (.slice (some ⟨be, 0, none⟩) ars.length ars.length) h1
            have h3 := heap_setCell_same _ _ 2 _ _ (.slice (some ⟨bb, 0, none⟩) (vs.length + 1) (vs.length + 1)) h2
            exact h3.trans (by simp)
          go_wp2_with fail
          (try simp only [Exit.inBlock, Exit.then])
          refine bodyPost_ret (results_cell_row rfl _ _ H 51 _ (0, 0) _ rfl HRW.out Try.underlying51 rfl info51s) rfl ?_
          have hg3 : wr.grownBy (((wr.setCell ⟨H, 0, none⟩ (.slice (some ⟨bv, 0, none⟩) vs.length cv)).setCell ⟨H, 1, none⟩ (.slice (some ⟨be, 0, none⟩) ars.length ars.length)).setCell ⟨H, 2, none⟩ (.slice (some ⟨bb, 0, none⟩) (vs.length + 1) (vs.length + 1))) (some H) := World.grownBy.trans (World.grownBy.trans (grown_set wr ⟨H, 0, none⟩ _) (grown_set _ ⟨H, 1, none⟩ _)) (grown_set _ ⟨H, 2, none⟩ _)
          refine ⟨gdOf vs own bv cv bb be ars.length, rfl, HEC.out.done hg3 HEN.out HOL.out HOB.out hl hvl hv0, HEC.out.ok.grown hg3 HEC.out.ok.le (fun k e => by injection e with e; rw [← e]; exact HEC.out.hH), by show vs.length = _; rw [HVS.out], by show outs own = _; rw [HOWN.out], ?_⟩
          intro i x hx
          rw [← HVS.out] at hx
          show vs.getD i 0 = x
          rw [List.getD_eq_getElem?_getD, hx]; rfl
end Go.Proofs.Ytaocomjhepgabaa
