import Derived.Test.YtbndcaglohfnbaaGreatDoorKSroot
set_option linter.unusedVariables false
set_option linter.unusedSimpArgs false
set_option linter.unnecessarySimpa false
/- winnowlaw08: reached. -/
namespace Go.Proofs.YtbndcaglohfnbaaGreatDoor
open Go.RowKit
def mkB (N : Nat) (s : Nat → Bool) : Array Value := ((List.range N).map fun i => Value.bool (s i)).toArray
def upB (s : Nat → Bool) (t : Nat) : Nat → Bool := fun x => if x = t then true else s x
theorem mkB_get (N : Nat) (s : Nat → Bool) (i : Nat) (h : i < N) : (mkB N s)[i]? = some (.bool (s i)) := by simp [mkB, h]
theorem mkB_set (N : Nat) (s : Nat → Bool) (t : Nat) : (mkB N s).setIfInBounds t (.bool true) = mkB N (upB s t) := by
  apply Array.ext_getElem?
  intro i
  rw [Array.getElem?_setIfInBounds]
  by_cases hi : i < N
  · rw [mkB_get _ _ i hi, mkB_get _ _ i hi]
    by_cases e : t = i
    · subst e
      simp [upB, mkB, hi]
    · rw [if_neg e]
      have e' : ¬ i = t := fun h => e h.symm
      simp [upB, e']
  · have h1 : (mkB N s)[i]? = none := by simp [mkB]; omega
    have h2 : (mkB N (upB s t))[i]? = none := by simp [mkB]; omega
    rw [h1, h2]
    split
    · rename_i e
      subst e
      simp [mkB, hi]
    · rfl
theorem made_bools (N : Nat) : madeCells #[.bool false] N = mkB N (fun _ => false) := by
  apply Array.ext'
  rw [toList_madeCells_one]
  simp [mkB]
  apply List.ext_getElem
  · simp
  · intro i h1 h2; simp
theorem infB : (Tryz.prog.info? 4).map (fun i => (i.zero, i.size, i.bytes)) = some (some (.bool false), 1, 1) := by kernel_rfl
theorem run_bools (N : Nat) (h : N ≤ 10000000) (w : World) : (Instr.makeSlice 72 (.int .i64 (N : Int)) (.int .i64 (N : Int))).run Tryz.prog w = .ok (.slice (some ⟨w.heap.size, 0, none⟩) N N) (w.alloc (.cells (mkB N (fun _ => false)) 4)) := by
  obtain ⟨i, hi, hz, hs, hb⟩ := info_of infB
  have := run_make (P := Tryz.prog) w 72 4 i (.bool false) Tryz.underlying72 hi hz .i64 .i64 N N (by omega) (Int.le_refl _) (by rw [hb]; omega) (by omega)
  rw [this]
  simp only [Int.toNat_natCast, hs, Nat.mul_one]
  show Result.ok _ (w.alloc (.cells (madeCells #[.bool false] N) 4)) = _
  rw [made_bools]
/-- A list of edges in memory. -/
def EdsAt (w : World) (b : Nat) (es : List Ed) : Prop := b < w.heap.size ∧ ∀ (i : Nat) (e : Ed), es[i]? = some e → w.cell? ⟨b, i * 6, none⟩ = some (.int .i64 e.from') ∧ w.cell? ⟨b, i * 6 + 1, none⟩ = some (.int .i64 e.to') ∧ w.cell? ⟨b, i * 6 + 2, none⟩ = some (.int .i64 e.op) ∧ w.cell? ⟨b, i * 6 + 3, none⟩ = some (.int .i64 e.place) ∧ w.cell? ⟨b, i * 6 + 4, none⟩ = some (.bool e.sense) ∧ w.cell? ⟨b, i * 6 + 5, none⟩ = some (.bool e.loop)
theorem EdsAt.below {w w1 : World} {b : Nat} {es : List Ed} (h : EdsAt w b es) (hk : Ok w w1) : EdsAt w1 b es :=
  ⟨Nat.lt_of_lt_of_le h.1 hk.le, fun i e he => by
    obtain ⟨c0, c1, c2, c3, c4, c5⟩ := h.2 i e he
    exact ⟨hk.cell (p := ⟨b, _, none⟩) h.1 c0, hk.cell (p := ⟨b, _, none⟩) h.1 c1, hk.cell (p := ⟨b, _, none⟩) h.1 c2, hk.cell (p := ⟨b, _, none⟩) h.1 c3, hk.cell (p := ⟨b, _, none⟩) h.1 c4, hk.cell (p := ⟨b, _, none⟩) h.1 c5⟩⟩
theorem edL_get : ∀ {es : List Ed} {i : Nat} {e : Ed}, es[i]? = some e → ∀ j u, (edV e)[j]? = some u → (edL es)[i * 6 + j]? = some u
  | [], i, e, h, _, _, _ => by simp at h
  | x :: es, 0, e, h, j, u, hu => by
    simp at h; subst h
    have : edL (x :: es) = edV x ++ edL es := rfl
    rw [this, Nat.zero_mul, Nat.zero_add, List.getElem?_append_left (List.getElem?_eq_some_iff.1 hu).1]
    exact hu
  | x :: es, i + 1, e, h, j, u, hu => by
    rw [List.getElem?_cons_succ] at h
    have e1 : edL (x :: es) = edV x ++ edL es := rfl
    have hl : (edV x).length = 6 := rfl
    rw [e1, List.getElem?_append_right (by omega), hl, show (i + 1) * 6 + j - 6 = i * 6 + j by omega]
    exact edL_get h j u hu
theorem own_eds {w : World} {B g cap n : Nat} {es : List Ed} (h : w.ownsRow B 40 6 (.slice (some ⟨g, 0, none⟩) n cap) n (edL es)) : EdsAt w g es := by
  refine ⟨(h.lt g rfl).2, fun i e he => ?_⟩
  have key : ∀ j u, (edV e)[j]? = some u → w.cell? ⟨g, i * 6 + j, none⟩ = some u := fun j u hu => by
    have := h.cells (g := g) rfl _ u (edL_get he j u hu)
    rw [add_off, Nat.zero_add] at this
    exact this
  exact ⟨key 0 _ rfl, key 1 _ rfl, key 2 _ rfl, key 3 _ rfl, key 4 _ rfl, key 5 _ rfl⟩
theorem segs_len {L : List Ed} {A Z : Nat} (h : Segs L A Z) : L.length ≤ 2 * (Z - A) := by
  obtain ⟨bs, rfl, hn, hb⟩ := h
  have key : ∀ (cs : List (List Ed)), (∀ c ∈ cs, c.length ≤ 2) → cs.flatten.length ≤ 2 * cs.length := by
    intro cs
    induction cs with
    | nil => intro _; simp
    | cons c cs ih =>
      intro hc
      have h1 := hc c List.mem_cons_self
      have h2 := ih (fun d hd => hc d (List.mem_cons_of_mem _ hd))
      rw [List.flatten_cons, List.length_append, List.length_cons]
      omega
  have := key bs (fun c hc => by
    obtain ⟨i, hi, e⟩ := List.mem_iff_getElem.1 hc
    rcases hb i c (by rw [List.getElem?_eq_getElem hi, e]) with ⟨x, rfl, _⟩ | ⟨x, y, rfl, _⟩ <;> simp)
  omega
theorem elF_len {ns : List Nd} (h : TreeOK ns) : (elF ns).length ≤ 2 * ptF ns ns.length := by
  have := segs_len (elF_flow h).seg
  omega
set_option maxRecDepth 100000 in
set_option maxHeartbeats 4000000 in
theorem reached_any (gv0 gv1 gv2 gv3 gv4 gv5 : Value) (ns : List Nd) (ao : Option Addr) (ec : Nat) (w : World) (hT : TreeOK ns) (hl : ns.length ≤ 300) (hE : (elF ns).length = 0 ∨ ∃ ge, ao = some ⟨ge, 0, none⟩ ∧ EdsAt w ge (elF ns)) :
    Calls Tryz.prog 12 #[.agg #[gv0, gv1, gv2, gv3, gv4, gv5, .int .i64 ((ptF ns ns.length + 1 : Nat) : Int), .int .i64 (ptF ns ns.length : Nat), .slice ao (elF ns).length ec]] w fun e w' => e = .returned (.bool true) ∧ Ok w w' := by
  have HT : Hid (TreeOK ns) := hT
  have HE : Hid ((elF ns).length = 0 ∨ ∃ ge, ao = some ⟨ge, 0, none⟩ ∧ EdsAt w ge (elF ns)) := hE
  obtain ⟨N, hN⟩ : ∃ x, x = ptF ns ns.length := ⟨_, rfl⟩
  have HN : Hid (N = ptF ns ns.length ∧ N ≤ 300) := ⟨hN, by rw [hN]; exact Nat.le_trans (ptF_le _ _) hl⟩
  obtain ⟨L, hL⟩ : ∃ x, x = (elF ns).length := ⟨_, rfl⟩
  have HL : Hid (L = (elF ns).length) := hL
  rw [← hN, ← hL]
  have hmk : (Instr.makeSlice 72 (.int .i64 ((N : Int) + 1)) (.int .i64 ((N : Int) + 1))).run Tryz.prog (w.alloc (Obj.cells #[gv0, gv1, gv2, gv3, gv4, gv5, .int .i64 ((N : Int) + 1), .int .i64 (N : Nat), .slice ao L ec] 33)) = .ok (.slice (some ⟨w.heap.size + 1, 0, none⟩) (N + 1) (N + 1)) ((w.alloc (Obj.cells #[gv0, gv1, gv2, gv3, gv4, gv5, .int .i64 ((N : Int) + 1), .int .i64 (N : Nat), .slice ao L ec] 33)).alloc (.cells (mkB (N + 1) (fun _ => false)) 4)) := by
    have := run_bools (N + 1) (by have := HN.out; omega) (w.alloc (Obj.cells #[gv0, gv1, gv2, gv3, gv4, gv5, .int .i64 ((N : Int) + 1), .int .i64 (N : Nat), .slice ao L ec] 33))
    simpa using this
  clear hT hE hN hL hl
  go_enter Tryz.func12, Tryz.ntmps12
  go_upto_region 2 with (fail)
  obtain ⟨gs, hgs⟩ : ∃ x, x = w.heap.size + 1 := ⟨_, rfl⟩
  obtain ⟨gb, hgb⟩ : ∃ x, x = w.heap.size := ⟨_, rfl⟩
  obtain ⟨W0, hW0⟩ : ∃ x, x = (w.alloc (Obj.cells #[gv0, gv1, gv2, gv3, gv4, gv5, Value.int IntKind.i64 ((N : Int) + 1), Value.int IntKind.i64 (N : Nat), Value.slice ao L ec] 33)).alloc (Obj.cells (mkB (N + 1) fun _ => false) 4) := ⟨_, rfl⟩
  rw [← hgs, ← hgb, ← hW0]
  have HK0 : Hid (Ok w W0) := by unfold Hid; rw [hW0]; exact ((Ok.refl w).alloc _).alloc _
  have HB0 : Hid (W0.heap[gb]? = some (.cells #[gv0, gv1, gv2, gv3, gv4, gv5, Value.int IntKind.i64 ((N : Int) + 1), Value.int IntKind.i64 (N : Nat), Value.slice ao L ec] 33 (0, 0))) := by unfold Hid; rw [hW0, hgb]; exact heap_past _ _ _ (by simp) (heap_at _ _ _ (by simp))
  have HS0 : Hid (W0.heap[gs]? = some (.cells (mkB (N + 1) fun _ => false) 4 (0, 0))) := by unfold Hid; rw [hW0, hgs]; exact heap_at _ _ _ (by simp)
  have HG : Hid (gb = w.heap.size ∧ gs = w.heap.size + 1) := ⟨hgb, hgs⟩
  clear hgs hgb hW0 hmk
  have c0 : W0.cell? ⟨gs, 0, none⟩ = some (.bool false) := (cell_of_row _ _ 0 _ _ _ HS0.out).trans (mkB_get _ _ 0 (by omega))
  have f0 : W0.frozen? ⟨gs, 0, none⟩ = false := frozen_of_row _ _ _ _ _ HS0.out
  have ls0 := lt_row HS0.out
  have hp0 : (0 : Int) < (N : Int) + 1 := by omega
  go_upto_region 3 with (fail)
  obtain ⟨W1, hW1⟩ : ∃ x, x = W0.setCell ⟨gs, 0, none⟩ (.bool true) := ⟨_, rfl⟩
  rw [← hW1]
  have HK1 : Hid (Ok w W1) := by unfold Hid; rw [hW1]; exact HK0.out.set (p := ⟨gs, 0, none⟩) (by have := HG.out; show w.heap.size ≤ gs; omega) _
  have HB1 : Hid (W1.heap[gb]? = some (.cells #[gv0, gv1, gv2, gv3, gv4, gv5, Value.int IntKind.i64 ((N : Int) + 1), Value.int IntKind.i64 (N : Nat), Value.slice ao L ec] 33 (0, 0))) := by unfold Hid; rw [hW1]; exact (Below.heap_setCell _ _ _ _ (by have := HG.out; show gb ≠ gs; omega)).trans HB0.out
  have HS1 : Hid (W1.heap[gs]? = some (.cells (mkB (N + 1) (upB (fun _ => false) 0)) 4 (0, 0))) := by unfold Hid; rw [hW1, ← mkB_set]; exact heap_setCell_same _ _ _ _ _ _ HS0.out
  clear hW1 HK0 HB0 HS0 c0 f0 ls0 hp0
  have b6 : W1.cell? ⟨gb, 6, none⟩ = some (.int .i64 ((N : Int) + 1)) := (cell_of_row _ _ 6 _ _ _ HB1.out).trans (by simp)
  have lb1 := lt_row HB1.out
  go_wp2_with fail
  clear b6 lb1
  go_loopw [14] (fun t wr => ∃ (r : Nat) (s : Nat → Bool), t = .int .i64 (r : Nat) ∧ r ≤ N + 1 ∧ Hid (Ok w wr) ∧ Hid (wr.heap[gb]? = some (.cells #[gv0, gv1, gv2, gv3, gv4, gv5, Value.int IntKind.i64 ((N : Int) + 1), Value.int IntKind.i64 (N : Nat), Value.slice ao L ec] 33 (0, 0))) ∧ Hid (wr.heap[gs]? = some (.cells (mkB (N + 1) s) 4 (0, 0))) ∧ Hid (s 0 = true ∧ (0 < r → ∀ v, v ≤ N → s v = true))) (fun t _ => N + 1 - (intOf t).toNat)
  case atStart => exact ⟨0, _, rfl, Nat.zero_le _, HK1.out, HB1.out, HS1.out, rfl, fun h => absurd h (by omega)⟩
  case round =>
    obtain ⟨r, s, rfl, hr, HK, HB, HSS, HI⟩ := hrel
    by_cases hrN : r < N + 1
    · have hrN' : (r : Int) < (N : Int) + 1 := by omega
      have hrw : IntKind.i64.wrap ((r : Int) + 1) = ((r + 1 : Nat) : Int) := kw_bnd (by have := HN.out; omega)
      go_wp2_with fail
      obtain ⟨WR, hWR⟩ : ∃ x, x = wr := ⟨_, rfl⟩
      subst hWR
      go_loopw [4] (fun t wr => ∃ (k : Nat) (s : Nat → Bool), t = .int .i64 (k : Nat) ∧ k ≤ L ∧ Hid (Ok w wr) ∧ Hid (wr.heap[gb]? = some (.cells #[gv0, gv1, gv2, gv3, gv4, gv5, Value.int IntKind.i64 ((N : Int) + 1), Value.int IntKind.i64 (N : Nat), Value.slice ao L ec] 33 (0, 0))) ∧ Hid (wr.heap[gs]? = some (.cells (mkB (N + 1) s) 4 (0, 0))) ∧ Hid (s 0 = true ∧ (∀ (i : Nat) (x : Ed) (t : Nat), i < k → (elF ns)[i]? = some x → x.to' = t → s t = true) ∧ (0 < r → ∀ v, v ≤ N → s v = true))) (fun t _ => L - (intOf t).toNat)
      case atStart => exact ⟨0, s, rfl, Nat.zero_le _, HK.out, HB.out, HSS.out, HI.out.1, fun i x t h => absurd h (by omega), HI.out.2⟩
      case round =>
        obtain ⟨k, s', rfl, hk, HK', HB', HS', HI'⟩ := hrel
        have b8 : wr.cell? ⟨gb, 8, none⟩ = some (.slice ao L ec) := (cell_of_row _ _ 8 _ _ _ HB'.out).trans (by simp)
        have b6 : wr.cell? ⟨gb, 6, none⟩ = some (.int .i64 ((N : Int) + 1)) := (cell_of_row _ _ 6 _ _ _ HB'.out).trans (by simp)
        have lb := lt_row HB'.out
        by_cases hkL : k < L
        · have hkL' : (k : Int) < (L : Int) := by omega
          obtain ⟨e, he⟩ : ∃ e, (elF ns)[k]? = some e := ⟨_, List.getElem?_eq_getElem (by have := HL.out; omega)⟩
          obtain ⟨ge, rfl, hEd⟩ := HE.out.resolve_left (by have := HL.out; omega)
          have hEd' := hEd.below HK'.out
          obtain ⟨x0, x1, x2, x3, x4, x5⟩ := hEd'.2 k e he
          have lge := hEd'.1
          have HF := elF_flow HT.out
          obtain ⟨t, ht, htN⟩ := HF.to e (List.mem_of_getElem? he)
          obtain ⟨u, hu, huN⟩ : ∃ u : Nat, e.from' = u ∧ u ≤ N := by
            have hn := HN.out.1
            rcases HF.pl e (List.mem_of_getElem? he) with ⟨_, p, _, _, _, _, e2⟩ | ⟨p, _, _, _, _, _, e2⟩
            · exact ⟨_, e2, by have := ptF_end ns p; omega⟩
            · exact ⟨_, e2, by have := ptF_end ns p; omega⟩
          have htN' : t ≤ N := by have := HN.out.1; omega
          have hsu : s' u = true := elF_seen HT.out HI'.out.1 he HI'.out.2.1 u hu
          rw [hu] at x0
          rw [ht] at x1
          obtain ⟨eo, heo⟩ : ∃ x, x = e.op := ⟨_, rfl⟩
          obtain ⟨ep, hep⟩ : ∃ x, x = e.place := ⟨_, rfl⟩
          obtain ⟨es, hes⟩ : ∃ x, x = e.sense := ⟨_, rfl⟩
          obtain ⟨el, hel⟩ : ∃ x, x = e.loop := ⟨_, rfl⟩
          rw [← heo] at x2
          rw [← hep] at x3
          rw [← hes] at x4
          rw [← hel] at x5
          have HET : Hid ((elF ns)[k]? = some e ∧ e.to' = t) := ⟨he, ht⟩
          have s0 : wr.cell? ⟨gs, u, none⟩ = some (.bool true) := (cell_of_row _ _ u _ _ _ HS'.out).trans ((mkB_get _ _ u (by omega)).trans (by rw [hsu]))
          have s1 : wr.cell? ⟨gs, t, none⟩ = some (.bool (s' t)) := (cell_of_row _ _ t _ _ _ HS'.out).trans (mkB_get _ _ t (by omega))
          have s2 : wr.frozen? ⟨gs, t, none⟩ = false := frozen_of_row _ _ _ _ _ HS'.out
          have lgs := lt_row HS'.out
          have hu1 : ¬ (u : Int) < 0 := by omega
          have hu2 : (u : Int) < (N : Int) + 1 := by omega
          have ht1 : ¬ (t : Int) < 0 := by omega
          have ht2 : (t : Int) < (N : Int) + 1 := by omega
          have hu3 : ¬ (N : Int) + 1 ≤ (u : Int) := by omega
          have ht3 : ¬ (N : Int) + 1 ≤ (t : Int) := by omega
          have hu1d : decide ((u : Int) < 0) = false := decide_eq_false hu1
          have ht1d : decide ((t : Int) < 0) = false := decide_eq_false ht1
          have hu3d : decide ((N : Int) + 1 ≤ (u : Int)) = false := decide_eq_false hu3
          have ht3d : decide ((N : Int) + 1 ≤ (t : Int)) = false := decide_eq_false ht3
          have hkw : IntKind.i64.wrap ((k : Int) + 1) = ((k + 1 : Nat) : Int) := kw_bnd (by have h1 := HL.out; have h2 := elF_len HT.out; have h3 := HN.out; omega)
          have ngs : ¬ gs = wr.heap.size := by omega
          have ngb : ¬ gb = wr.heap.size := by omega
          have nge : ¬ ge = wr.heap.size := by omega
          clear hEd hEd' HF he hu ht heo hep hes hel hsu
          go_wp2_with fail
          obtain ⟨W2, hW2⟩ : ∃ x, x = (wr.setCell ⟨gs, t, none⟩ (Value.bool true)).alloc (Obj.cells #[Value.int IntKind.i64 (u : Nat), Value.int IntKind.i64 (t : Nat), Value.int IntKind.i64 eo, Value.int IntKind.i64 ep, Value.bool es, Value.bool el] 40) := ⟨_, rfl⟩
          have HK2 : Hid (Ok w W2) := by unfold Hid; rw [hW2]; exact (HK'.out.set (p := ⟨gs, t, none⟩) (by have := HG.out; show w.heap.size ≤ gs; omega) _).alloc _
          have HB2 : Hid (W2.heap[gb]? = some (.cells #[gv0, gv1, gv2, gv3, gv4, gv5, Value.int IntKind.i64 ((N : Int) + 1), Value.int IntKind.i64 (N : Nat), Value.slice (some ⟨ge, 0, none⟩) L ec] 33 (0, 0))) := by unfold Hid; rw [hW2]; exact heap_past _ _ _ (by simpa [World.setCell] using lb) ((Below.heap_setCell _ _ _ _ (by have := HG.out; show gb ≠ gs; omega)).trans HB'.out)
          have HS2 : Hid (W2.heap[gs]? = some (.cells (mkB (N + 1) (upB s' t)) 4 (0, 0))) := by
            have h1 := heap_setCell_same wr gs t _ _ (Value.bool true) HS'.out
            rw [mkB_set] at h1
            unfold Hid; rw [hW2]; exact heap_past _ _ _ (lt_row h1) h1
          rw [← hW2]
          go_roundw
          case rel =>
            refine ⟨k + 1, upB s' t, rfl, hkL, HK2.out, HB2.out, HS2.out, ?_, fun i x t' hi hx ht' => ?_, fun h v hv => ?_⟩
            · unfold upB; split
              · rfl
              · exact HI'.out.1
            · unfold upB; split
              · rfl
              · next hne =>
                refine HI'.out.2.1 i x t' ?_ hx ht'
                rcases Nat.lt_or_ge i k with c | c
                · exact c
                · exfalso
                  have e1 : i = k := by omega
                  subst e1
                  have h1 := HET.out
                  rw [h1.1] at hx
                  injection hx with hx
                  subst hx
                  have := h1.2
                  omega
            · unfold upB; split
              · rfl
              · exact HI'.out.2.2 h v hv
          case measure => simp only [intOf, Int.toNat_natCast]; omega
        · have hkL' : ¬ (k : Int) < (L : Int) := by omega
          have HALL : Hid (∀ v, v ≤ N → s' v = true) := by
            intro v hv
            exact elF_all HT.out HI'.out.1 (fun i x t hx ht => HI'.out.2.1 i x t (by have h1 := (List.getElem?_eq_some_iff.1 hx).1; have h2 := HL.out; omega) hx ht) v (by have := HN.out.1; omega)
          go_wp2_with fail
          go_roundw
          case rel => exact ⟨r + 1, s', rfl, by omega, HK'.out, HB'.out, HS'.out, HI'.out.1, fun _ => HALL.out⟩
          case measure => simp only [intOf, Int.toNat_natCast]; omega
    · have hrN' : ¬ (r : Int) < (N : Int) + 1 := by omega
      have HALL : Hid (∀ v, v ≤ N → s v = true) := HI.out.2 (by omega)
      go_wp2_with fail
      obtain ⟨WR, hWR⟩ : ∃ x, x = wr := ⟨_, rfl⟩
      subst hWR
      go_loopw [6] (fun t wr => ∃ i : Nat, t = .int .i64 (i : Nat) ∧ i ≤ N + 1 ∧ Hid (wr = WR)) (fun t _ => N + 1 - (intOf t).toNat)
      case atStart => exact ⟨0, rfl, Nat.zero_le _, rfl⟩
      case round =>
        obtain ⟨i, rfl, hi, HW⟩ := hrel
        have HBw : Hid (wr.heap[gb]? = some (.cells #[gv0, gv1, gv2, gv3, gv4, gv5, Value.int IntKind.i64 ((N : Int) + 1), Value.int IntKind.i64 (N : Nat), Value.slice ao L ec] 33 (0, 0))) := by unfold Hid; rw [HW.out]; exact HB.out
        have HSw : Hid (wr.heap[gs]? = some (.cells (mkB (N + 1) s) 4 (0, 0))) := by unfold Hid; rw [HW.out]; exact HSS.out
        have HKw : Hid (Ok w wr) := by unfold Hid; rw [HW.out]; exact HK.out
        have b6 : wr.cell? ⟨gb, 6, none⟩ = some (.int .i64 ((N : Int) + 1)) := (cell_of_row _ _ 6 _ _ _ HBw.out).trans (by simp)
        have lb := lt_row HBw.out
        have lgs := lt_row HSw.out
        by_cases hiN : i < N + 1
        · have hiN' : (i : Int) < (N : Int) + 1 := by omega
          have s0 : wr.cell? ⟨gs, i, none⟩ = some (.bool true) := (cell_of_row _ _ i _ _ _ HSw.out).trans ((mkB_get _ _ i hiN).trans (by rw [HALL.out i (by omega)]))
          have hiw : IntKind.i64.wrap ((i : Int) + 1) = ((i + 1 : Nat) : Int) := kw_bnd (by have := HN.out; omega)
          go_wp2_with fail
          go_roundw
          case rel => exact ⟨i + 1, rfl, by omega, HW.out⟩
          case measure => simp only [intOf, Int.toNat_natCast]; omega
        · have hiN' : ¬ (i : Int) < (N : Int) + 1 := by omega
          go_wp2_with fail
          go_ret
          exact ⟨rfl, HKw.out⟩
end Go.Proofs.YtbndcaglohfnbaaGreatDoor
