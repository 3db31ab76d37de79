import Derived.Test.YtklkpaekdpaloaaDoorKLk
set_option linter.unusedVariables false
set_option linter.unusedSimpArgs false
set_option linter.unnecessarySimpa false
namespace Go.Proofs.YtklkpaekdpaloaaDoor
section
open Go.RowKit
theorem wpList_append_nds {w : World} {ops : Array Oper} {rest : List Oper} {op : Oper} {a : Act} {Q : Exit → Act → World → Prop} (hgd : op.guard = none) (s x : Operand)
  (ho : op.op = .call { callee := .builtin .append, args := #[s, x], argTypes := #[23, 23] })
  (base : Nat) (sv : Value) (k : Nat) (A : List Nd) (hs : a.eval s = sv) (hown : w.ownsRow base 58 6 sv k (ndL A))
  (B : Nat) (v : Value) (ts : List Nd) (hx : a.eval x = v) (hT : NL w B v ts)
  (hb : k + ts.length ≤ 1000000) (hbase : base ≤ w.heap.size)
  (h : ∀ v' w', w'.ownsRow base 58 6 v' (k + ts.length) (ndL (A ++ ts)) → w.grownBy w' sv.ownBlock → wpList Tryd.prog ops Q rest (a.put op.dst v') w') : wpList Tryd.prog ops Q (op :: rest) a w := by
 obtain ⟨i, hi, hz, hsz, hby⟩ := info_of infoNd
 rcases hT.2 with ⟨rfl, h0⟩ | ⟨g, cap, cur, rfl, hBg, hg, hnc, hcm, hcs, htk⟩
 ·have hts : ts = [] := List.length_eq_zero_iff.1 h0
  subst hts
  refine wpList_append_own_none hgd s x 23 ho base 58 i 6 Tryd.underlying23 hi _ k (ndL A) hs hown hx ?_
  exact h sv w (by rw [List.append_nil]; exact hown) (World.grownBy.refl w _)
 ·by_cases hm : 0 < ts.length
  ·refine wpList_append_lies w hgd s x 23 ho base 58 i _ 6 56 Tryd.underlying23 hi hz hsz hby rfl (by decide) _ k (ndL A) hs hown ⟨g, 0, none⟩ ts.length cap (ndL ts) hx (ndL_len ts) (hT.cells rfl) (ndL_oneCell ts) hm (by unfold maxLen; omega) (by omega) hbase _ rfl ?_
   intro g' cap' w' k1 k2 k3 k4
   exact h _ w' (by rw [ndL_app]; exact k1) k2
  ·have hts : ts = [] := List.length_eq_zero_iff.1 (by omega)
   subst hts
   refine wpList_append_own_at w hgd s x 23 ho base 58 i _ 6 56 Tryd.underlying23 hi hz hsz hby rfl (by decide) _ k (ndL A) hs hown ⟨g, 0, none⟩ 0 cap [] hx rfl (by intro j u hj; simp at hj) (by simp) (by unfold maxLen; omega) (by omega) hbase ?_
   intro v' w' k1 k2 k3 k4
   exact h v' w' (by rw [ndL_app]; exact k1) k2
def HD (w : World) (hv : Value) (ps : List (Value × List Nd)) : Prop := w.ownsRow 0 23 1 hv ps.length (ps.map Prod.fst) ∧ ∀ p ∈ ps, NL w 0 p.1 p.2
def held (ps : List (Value × List Nd)) : List Nd := (ps.map fun p => p.2.map deep).flatten
def nodeS (n : Nd) (ps : List (Value × List Nd)) : List Nd := { n with depth := 1 } :: held ps
theorem held_step {ps : List (Value × List Nd)} {k : Nat} {p : Value × List Nd} (h : ps[k]? = some p) : held (ps.take (k + 1)) = held (ps.take k) ++ p.2.map deep := by
 unfold held
 rw [List.take_add_one, h, Option.toList_some, List.map_append, List.flatten_append]
 simp
theorem held_le {ps : List (Value × List Nd)} (k : Nat) : (held (ps.take k)).length ≤ (held ps).length := by
 have : held ps = held (ps.take k) ++ held (ps.drop k) := by unfold held; rw [← List.flatten_append, ← List.map_append, List.take_append_drop]
 rw [this, List.length_append]; omega
def NI (w : World) (n1 : Nd) (ps : List (Value × List Nd)) (wr : World) (v : Value) (N0 k : Nat) : Prop := Ok w wr ∧ wr.ownsRow w.heap.size 58 6 v N0 (ndL (n1 :: held (ps.take k))) ∧ N0 = 1 + (held (ps.take k)).length
theorem NI.more {w wr w1 w4 : World} {n1 : Nd} {ps : List (Value × List Nd)} {v v' : Value} {N0 k : Nat} {p : Value × List Nd} (h : NI w n1 ps wr v N0 k) (hp : ps[k]? = some p) (hok : Ok wr w1) (ho : w4.ownsRow w.heap.size 58 6 v' (N0 + (p.2.map deep).length) (ndL ((n1 :: held (ps.take k)) ++ p.2.map deep))) (hg : w1.grownBy w4 v.ownBlock) : NI w n1 ps w4 v' (N0 + (p.2.map deep).length) (k + 1) := by
 refine ⟨(h.1.step hok).grown hg (fun b hb => (h.2.1.lt b hb).1), ?_, ?_⟩
 ·rw [held_step hp, ← List.cons_append]; exact ho
 ·rw [held_step hp, List.length_append, h.2.2]; omega
set_option maxRecDepth 100000 in
set_option maxHeartbeats 4000000 in
theorem node_any (w : World) (n : Nd) (hv : Value) (ps : List (Value × List Nd)) (h : HD w hv ps) (hl : 1 + (held ps).length ≤ 1000000) (hpl : ps.length ≤ 1000) :
  Calls Tryd.prog 47 #[.agg #[.int .i64 n.depth, .int .i64 n.kind, .string n.name, .int .i64 n.num, .int .i64 n.op, .int .i64 n.pos], hv] w fun e w' => ∃ v', e = .returned v' ∧ NL w' w.heap.size v' (nodeS n ps) ∧ Ok w w' := by
 obtain ⟨ao, cap, rfl⟩ := own_form h.1
 have H : Hid (HD w (.slice ao ps.length cap) ps) := h
 clear h
 obtain ⟨dp, kd, nm, nu, op, pl⟩ := n
 go_enter Tryd.func47, Tryd.ntmps47
 go_wp2_with fail
 obtain ⟨W, hW⟩ : ∃ W, W = (w.alloc (.cells #[.int .i64 1, .int .i64 kd, .string nm, .int .i64 nu, .int .i64 op, .int .i64 pl] 58)).alloc (.cells #[.int .i64 1, .int .i64 kd, .string nm, .int .i64 nu, .int .i64 op, .int .i64 pl] 58) := ⟨_, rfl⟩
 rw [← hW]
 have HW : Hid (NI w ⟨1, kd, nm, nu, op, pl⟩ ps W (.slice (some ⟨w.heap.size + 1, 0, none⟩) 1 1) 1 0) := by
  refine ⟨by rw [hW]; exact ((Ok.refl w).alloc _).alloc _, ⟨rfl, .inr ⟨w.heap.size + 1, 1, #[.int .i64 1, .int .i64 kd, .string nm, .int .i64 nu, .int .i64 op, .int .i64 pl], rfl, Nat.le_succ _, ?_, Nat.le_refl _, by decide, rfl, rfl⟩⟩, rfl⟩
  rw [hW]; exact heap_at _ _ _ (by simp)
 clear hW
 go_loopw [5, 6] (fun o x wr => ∃ (k N0 : Nat) (oo : Option Addr) (oc : Nat), k ≤ ps.length ∧ o = .slice oo N0 oc ∧ x = .int .i64 (k : Nat) ∧ Hid (NI w ⟨1, kd, nm, nu, op, pl⟩ ps wr (.slice oo N0 oc) N0 k)) (fun _ x _ => ((ps.length : Int) - intOf x).toNat)
 case atStart => exact ⟨0, 1, _, _, Nat.zero_le _, rfl, rfl, HW⟩
 case round =>
  obtain ⟨k, N0, oo, oc, hk, rfl, rfl, HJ⟩ := hrel
  by_cases hkl : k < ps.length
  ·have hkl' : (k : Int) < (ps.length : Int) := cast_lt' hkl
   have hkw : IntKind.i64.wrap ((k : Int) + 1) = ((k + 1 : Nat) : Int) := kw_bnd (by omega)
   obtain ⟨p, hp⟩ : ∃ p, ps[k]? = some p := ⟨ps[k], List.getElem?_eq_getElem hkl⟩
   obtain ⟨g, hao⟩ : ∃ g, ao = some ⟨g, 0, none⟩ := by
    obtain ⟨g, c, e, _⟩ := H.out.1.form (by omega)
    injection e with e1
    exact ⟨g, e1⟩
   subst hao
   have hgl := (H.out.1.lt g rfl).2
   have hrow := own_ok H.out.1 HJ.out.1
   have c0 := hrow.cells (g := g) rfl k p.1 (by rw [List.getElem?_map, hp]; rfl)
   rw [add_off, Nat.zero_add] at c0
   have hgw : g < wr.heap.size := Nat.lt_of_lt_of_le hgl HJ.out.1.le
   have HP : Hid (ps[k]? = some p) := hp
   have HNL : Hid (NL wr 0 p.1 p.2) := own_ok (H.out.2 p (List.mem_of_getElem? hp)) HJ.out.1
   have HB : Hid (p.2.length ≤ 1000000 ∧ N0 + (p.2.map deep).length ≤ 1000000) := by
    have h1 := held_le (ps := ps) (k + 1)
    rw [held_step hp, List.length_append, List.length_map] at h1
    have := HJ.out.2.2
    rw [Hid, List.length_map]; omega
   clear hrow hp
   obtain ⟨pv, pn⟩ := p
   simp only at c0
   go_wp2_with (first
    | (go_at_call 75; refine (deeper_any _ 0 pv pn HNL.out HB.out.1).mono ?_; rintro e w1 ⟨v1, rfl, hn1, hok⟩; have HN1 : Hid (NL w1 wr.heap.size v1 (pn.map deep)) := hn1; have HK : Hid (Ok wr w1) := hok; clear hn1 hok)
    | (at_builtin; refine wpList_append_nds rfl _ _ rfl w.heap.size _ N0 _ (by rfl) (own_ok HJ.out.2.1 HK.out) wr.heap.size v1 (pn.map deep) (by rfl) HN1.out HB.out.2 (Nat.le_trans HJ.out.1.le HK.out.le) ?_; intro v4 w4 hown4 hgrow; have HO4 : Hid (NI w ⟨1, kd, nm, nu, op, pl⟩ ps w4 v4 (N0 + (pn.map deep).length) (k + 1)) := NI.more HJ.out HP.out HK.out hown4 hgrow; obtain ⟨o4, c4, rfl⟩ := own_form hown4; clear hown4 hgrow)
    | fail)
   go_roundw
   case rel => exact ⟨k + 1, _, _, _, hkl, rfl, rfl, (by have h := HO4.out; rw [List.length_map] at h; exact h)⟩
   case measure => exact meas hkl
  ·have hkl' : ¬ (k : Int) < (ps.length : Int) := cast_nlt hkl
   have hke : k = ps.length := by omega
   subst hke
   have HE : Hid (NL wr w.heap.size (.slice oo N0 oc) (nodeS ⟨dp, kd, nm, nu, op, pl⟩ ps)) := by
    have h1 := HJ.out.2.1
    have h2 := HJ.out.2.2
    rw [List.take_length] at h1 h2
    unfold Hid NL nodeS
    rw [List.length_cons, Nat.add_comm, ← h2]; exact h1
   go_wp2_with fail
   go_ret
   exact ⟨_, rfl, HE.out, HJ.out.1⟩
end
section
open Go.RowKit
def opTab : List (List (ByteArray × Int)) := [[(⟨#[124, 124]⟩, 15)], [(⟨#[38, 38]⟩, 14)], [(⟨#[60]⟩, 8), (⟨#[60, 61]⟩, 9), (⟨#[62]⟩, 10), (⟨#[62, 61]⟩, 11), (⟨#[61, 61]⟩, 12), (⟨#[33, 61]⟩, 13)], [(⟨#[43]⟩, 3), (⟨#[45]⟩, 4)], [(⟨#[42]⟩, 5), (⟨#[47]⟩, 6), (⟨#[37]⟩, 7)]]
def vS (p : ByteArray × Int) : Value := .string p.1
def vI (p : ByteArray × Int) : Value := .int .i64 p.2
def TB (w' : World) (b : Nat) (f : ByteArray × Int → Value) : Prop := b + 5 < w'.heap.size ∧ ∀ r L, opTab[r]? = some L → w'.cell? ⟨b + 5, r, none⟩ = some (.slice (some ⟨b + r, 0, none⟩) L.length L.length) ∧ ∀ j p, L[j]? = some p → w'.cell? ⟨b + r, j, none⟩ = some (f p)
theorem cell_inner {w' : World} {g : Nat} {L : List (ByteArray × Int)} {f : ByteArray × Int → Value} {t : TypeId} (h : w'.heap[g]? = some (.cells (L.map f).toArray t (0, 0))) : ∀ j p, L[j]? = some p → w'.cell? ⟨g, j, none⟩ = some (f p) := by
 intro j p hp
 refine (cell_of_row _ _ j _ _ _ h).trans ?_
 rw [List.getElem?_toArray, List.getElem?_map, hp]; rfl
theorem TB.mk {w' : World} {b : Nat} {f : ByteArray × Int → Value} {t u : TypeId} (h0 : w'.heap[b]? = some (.cells ((opTab[0]).map f).toArray t (0, 0))) (h1 : w'.heap[b + 1]? = some (.cells ((opTab[1]).map f).toArray t (0, 0))) (h2 : w'.heap[b + 2]? = some (.cells ((opTab[2]).map f).toArray t (0, 0))) (h3 : w'.heap[b + 3]? = some (.cells ((opTab[3]).map f).toArray t (0, 0))) (h4 : w'.heap[b + 4]? = some (.cells ((opTab[4]).map f).toArray t (0, 0)))
  (h5 : w'.heap[b + 5]? = some (.cells #[.slice (some ⟨b, 0, none⟩) 1 1, .slice (some ⟨b + 1, 0, none⟩) 1 1, .slice (some ⟨b + 2, 0, none⟩) 6 6, .slice (some ⟨b + 3, 0, none⟩) 2 2, .slice (some ⟨b + 4, 0, none⟩) 3 3] u (0, 0))) : TB w' b f := by
 refine ⟨lt_row h5, ?_⟩
 intro r L hr
 have hr5 : r < 5 := (List.getElem?_eq_some_iff.1 hr).1
 have hc := cell_of_row _ _ r _ _ _ h5
 rcases (by omega : r = 0 ∨ r = 1 ∨ r = 2 ∨ r = 3 ∨ r = 4) with rfl | rfl | rfl | rfl | rfl
 ·cases hr; exact ⟨hc, cell_inner h0⟩
 ·cases hr; exact ⟨hc, cell_inner h1⟩
 ·cases hr; exact ⟨hc, cell_inner h2⟩
 ·cases hr; exact ⟨hc, cell_inner h3⟩
 ·cases hr; exact ⟨hc, cell_inner h4⟩
theorem TB.ok {w w' : World} {b : Nat} {f : ByteArray × Int → Value} (h : TB w b f) (hk : Ok w w') : TB w' b f := by
 refine ⟨Nat.lt_of_lt_of_le h.1 hk.le, fun r L hr => ?_⟩
 have hr5 : r < 5 := (List.getElem?_eq_some_iff.1 hr).1
 have := h.1
 exact ⟨hk.cell (p := ⟨b + 5, r, none⟩) h.1 (h.2 r L hr).1, fun j p hp => hk.cell (p := ⟨b + r, j, none⟩) (show b + r < w.heap.size by omega) ((h.2 r L hr).2 j p hp)⟩
set_option maxRecDepth 100000 in
set_option maxHeartbeats 4000000 in
theorem rows_any (w : World) :
  Calls Tryd.prog 89 #[] w fun e w' => e = .returned (.slice (some ⟨w.heap.size + 5, 0, none⟩) 5 5) ∧ TB w' w.heap.size vS ∧ Ok w w' := by
 go_enter Tryd.func89, Tryd.ntmps89
 go_wp2_with fail
 go_ret
 refine ⟨rfl, TB.mk (t := 9) (u := 24) ?_ ?_ ?_ ?_ ?_ ?_, ((((((Ok.refl w).alloc _).alloc _).alloc _).alloc _).alloc _).alloc _⟩
 all_goals repeat (first | exact heap_at _ _ _ (by simp) | refine heap_past _ _ _ (by first | (simp; done) | (simp; omega)) ?_)
set_option maxRecDepth 100000 in
set_option maxHeartbeats 4000000 in
theorem ops_any (w : World) :
  Calls Tryd.prog 90 #[] w fun e w' => e = .returned (.slice (some ⟨w.heap.size + 5, 0, none⟩) 5 5) ∧ TB w' w.heap.size vI ∧ Ok w w' := by
 go_enter Tryd.func90, Tryd.ntmps90
 go_wp2_with fail
 go_ret
 refine ⟨rfl, TB.mk (t := 3) (u := 26) ?_ ?_ ?_ ?_ ?_ ?_, ((((((Ok.refl w).alloc _).alloc _).alloc _).alloc _).alloc _).alloc _⟩
 all_goals repeat (first | exact heap_at _ _ _ (by simp) | refine heap_past _ _ _ (by first | (simp; done) | (simp; omega)) ?_)
def opF (P : RP) (a : Nat) (bad : Int) : List (ByteArray × Int) → Int
 | [] => 0
 | p :: r => if isS P a bad p.1.toList then p.2 else opF P a bad r
def opS (P : RP) (a : Nat) (bad : Int) (row : Nat) : Int := match opTab[row]? with | some L => opF P a bad L | none => 0
theorem opF_drop {P : RP} {a : Nat} {bad : Int} {L : List (ByteArray × Int)} {k : Nat} {p : ByteArray × Int} (h : L[k]? = some p) : opF P a bad (L.drop k) = if isS P a bad p.1.toList then p.2 else opF P a bad (L.drop (k + 1)) := by
 obtain ⟨hk, e⟩ := List.getElem?_eq_some_iff.1 h
 rw [List.drop_eq_getElem_cons hk, e]; rfl
theorem opF_yes {P : RP} {a : Nat} {bad : Int} : ∀ {L : List (ByteArray × Int)}, opF P a bad L ≠ 0 → bad < 0 ∧ a < P.ts.length
 | [], h => absurd rfl h
 | p :: r, h => by
  unfold opF at h
  split at h
  ·next hi => exact isS_yes hi
  ·exact opF_yes h
set_option maxRecDepth 100000 in
set_option maxHeartbeats 4000000 in
theorem operator_any (P : RP) (rb : Nat) (w : World) (a : Nat) (bad : Int) (row : Nat) (hrow : row < 5) (h : RI P rb w a bad) :
  Calls Tryd.prog 77 #[.pointer (some ⟨rb, 0, none⟩), .int .i64 (row : Nat)] w fun e w' => e = .returned (.int .i64 (opS P a bad row)) ∧ Ok w w' := by
 have H : Hid (RI P rb w a bad) := h
 clear h
 obtain ⟨L, hL⟩ : ∃ L, opTab[row]? = some L := ⟨opTab[row], List.getElem?_eq_getElem hrow⟩
 have HL : Hid (opTab[row]? = some L) := hL
 obtain ⟨ans, hans⟩ : ∃ x, x = opS P a bad row := ⟨_, rfl⟩
 rw [← hans]
 have HA : Hid (ans = opF P a bad L) := by unfold Hid; rw [hans]; unfold opS; rw [hL]
 have hLl : L.length ≤ 6 := by
  rcases (by omega : row = 0 ∨ row = 1 ∨ row = 2 ∨ row = 3 ∨ row = 4) with rfl | rfl | rfl | rfl | rfl <;> (cases hL; decide)
 clear hL hans
 have hrow' : (row : Int) < 5 := by omega
 go_enter Tryd.func77, Tryd.ntmps77
 go_wp2_with (first | (go_at_call 89; refine (rows_any _).mono ?_; rintro e w1 ⟨rfl, htb, hok⟩; have HK : Hid (Ok w w1) := hok; have HT : Hid (TB w1 w.heap.size vS) := htb; have hlt1 := htb.1; have hc1 := (htb.2 row L HL.out).1; clear htb hok) | fail)
 go_loopw [6] (fun x wr => ∃ (k : Nat), k ≤ L.length ∧ x = .int .i64 (k : Nat) ∧ Hid (ans = opF P a bad (L.drop k) ∧ Ok w wr ∧ TB wr w.heap.size vS)) (fun x _ => ((L.length : Int) - intOf x).toNat)
 case atStart => exact ⟨0, Nat.zero_le _, rfl, HA.out, HK.out, HT.out⟩
 case round =>
  obtain ⟨k, hk, rfl, HJ⟩ := hrel
  clear hlt1 hc1
  by_cases hkl : k < L.length
  ·have hkl' : (k : Int) < (L.length : Int) := cast_lt' hkl
   have hkw : IntKind.i64.wrap ((k : Int) + 1) = ((k + 1 : Nat) : Int) := kw_bnd (by omega)
   obtain ⟨p, hp⟩ : ∃ p, L[k]? = some p := ⟨L[k], List.getElem?_eq_getElem hkl⟩
   have HP : Hid (L[k]? = some p) := hp
   have hlt : w.heap.size + row < wr.heap.size := by have := HJ.out.2.2.1; omega
   have c0 : wr.cell? ⟨w.heap.size + row, k, none⟩ = some (.string p.1) := (HJ.out.2.2.2 row L HL.out).2 k p hp
   have HD := opF_drop (P := P) (a := a) (bad := bad) hp
   clear hp
   cases hi : isS P a bad p.1.toList with
   | true =>
    have HI : Hid (isS P a bad p.1.toList = true) := hi
    have HE : Hid (ans = p.2) := by unfold Hid; rw [HJ.out.1, HD, hi]; rfl
    clear hi HD
    go_wp2_with (first
     | (go_at_call 24; refine (is_any P rb _ a bad p.1 (H.out.ok HJ.out.2.1)).mono ?_; rintro e w1 ⟨rfl, hok⟩; rw [HI.out]; have HK1 : Hid (Ok wr w1) := hok; clear hok)
     | (go_at_call 90; refine (ops_any _).mono ?_; rintro e w2 ⟨rfl, htb, hok⟩; have HK2 : Hid (Ok w1 w2) := hok; have hlt2 := htb.1; have hc2 := (htb.2 row L HL.out).1; have hd2 : w2.cell? ⟨w1.heap.size + row, k, none⟩ = some (.int .i64 p.2) := (htb.2 row L HL.out).2 k p HP.out; have hlt3 : w1.heap.size + row < w2.heap.size := (by omega); clear htb hok)
     | fail)
    go_ret
    exact ⟨by rw [HE.out]; rfl, (HJ.out.2.1.step HK1.out).step HK2.out⟩
   | false =>
    have HI : Hid (isS P a bad p.1.toList = false) := hi
    have HE : Hid (ans = opF P a bad (L.drop (k + 1))) := by unfold Hid; rw [HJ.out.1, HD, hi]; rfl
    clear hi HD
    go_wp2_with (first
     | (go_at_call 24; refine (is_any P rb _ a bad p.1 (H.out.ok HJ.out.2.1)).mono ?_; rintro e w1 ⟨rfl, hok⟩; rw [HI.out]; have HK1 : Hid (Ok wr w1) := hok; clear hok)
     | fail)
    go_roundw
    case rel => exact ⟨k + 1, hkl, rfl, HE.out, HJ.out.2.1.step HK1.out, HJ.out.2.2.ok HK1.out⟩
    case measure => exact meas hkl
  ·have hkl' : ¬ (k : Int) < (L.length : Int) := cast_nlt hkl
   have HE : Hid (ans = 0) := by unfold Hid; rw [HJ.out.1, List.drop_eq_nil_of_le (by omega)]; rfl
   go_wp2_with fail
   go_ret
   exact ⟨by rw [HE.out]; rfl, HJ.out.2.1⟩
end
end Go.Proofs.YtklkpaekdpaloaaDoor
