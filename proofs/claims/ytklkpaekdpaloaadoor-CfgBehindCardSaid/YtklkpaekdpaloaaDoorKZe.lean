import Derived.Test.YtklkpaekdpaloaaDoorKQj
import Derived.Test.YtklkpaekdpaloaaDoorKRc
import Derived.Test.YtklkpaekdpaloaaDoorKSb
import Derived.Test.YtklkpaekdpaloaaDoorKSc
import Derived.Test.YtklkpaekdpaloaaDoorKZd
set_option linter.unusedVariables false
set_option linter.unusedSimpArgs false
set_option linter.unnecessarySimpa false
namespace Go.Proofs.YtklkpaekdpaloaaDoor
section
open Go.RowKit
theorem six_cases {P : Nat → Prop} (h0 : P 0) (h1 : P 1) (h2 : P 2) (h3 : P 3) (h4 : P 4) (h5 : P 5) : ∀ k, k < 6 → P k := by
 intro k hk
 rcases (show k = 0 ∨ k = 1 ∨ k = 2 ∨ k = 3 ∨ k = 4 ∨ k = 5 by omega) with rfl | rfl | rfl | rfl | rfl | rfl
 ·exact h0
 ·exact h1
 ·exact h2
 ·exact h3
 ·exact h4
 ·exact h5
theorem pr_past {w : World} {B g : Nat} {u : Nat → Value} {ns : List Nd} {l : Ls} (h : PrIs w B u ns l) (hb : ∀ k, k < 6 → ∀ b, (u k).ownBlock = some b → b ≠ g) (i : Nat) (v : Value) : PrIs (w.setCell ⟨g, i, none⟩ v) B u ns l := fun k hk => own_same (h k hk) fun b hbb => Below.heap_setCell _ _ _ _ (hb k hk b hbb)
def CRows (w : World) (B : Nat) (g d : Nat → Nat) (ns : List Nd) (m : Ls) : Prop := ∀ k, k < 6 → w.ownsRow B (TY k) (SZ k) (.slice (some ⟨g k, 0, none⟩) (nOf ns.length m k + 1) (d k)) (nOf ns.length m k + 1) (xOf ns ns.length m k ++ mkOf k)
theorem CRows.pr {w : World} {B : Nat} {g d : Nat → Nat} {ns : List Nd} {m : Ls} (h : CRows w B g d ns m) : PrIs w B (cpV ns m g d) ns m := fun k hk => own_cut (h k hk) (xOf_len ns m k hk) (Nat.le_succ _)
theorem xOf_zero (ns : List Nd) (l : Ls) : xOf ns ns.length l 0 = ndL ns := by unfold xOf; rw [if_pos rfl, List.take_length]; rfl
theorem cut_so {w : World} {B : Nat} {g d : Nat → Nat} {ns : List Nd} {m : Ls} {p : Nat} (h : CRows w B g d ns m) (hp : p ≤ m.so.length) : PrIs w B (putAt (cpV ns m g d) 5 (.slice (some ⟨g 5, 0, none⟩) p (d 5))) ns { m with so := m.so.take p } := by
 have hr := h.pr
 refine six_cases (hr 0 (by decide)) (hr 1 (by decide)) (hr 2 (by decide)) (hr 3 (by decide)) (hr 4 (by decide)) ?_
 have h5 := h 5 (by decide)
 have e : nOf ns.length { m with so := m.so.take p } 5 = p := by show (m.so.take p).length = p; rw [List.length_take]; omega
 have ex : xOf ns ns.length m 5 ++ mkOf 5 = ((m.so.take p).map fun s => Value.int IntKind.i64 s) ++ (((m.so.drop p).map fun s => Value.int IntKind.i64 s) ++ mkOf 5) := by
  rw [← List.append_assoc, ← List.map_append, List.take_append_drop]; rfl
 rw [ex] at h5
 rw [e]
 exact own_cut h5 (by show ((m.so.take p).map fun s => Value.int IntKind.i64 s).length = p * 1; rw [List.length_map, List.length_take]; omega) (by show p ≤ m.so.length + 1; omega)
theorem ndL_split (ns : List Nd) (p : Nat) : ndL ns = ndL (ns.take p) ++ ndL (ns.drop p) := by rw [← ndL_app, List.take_append_drop]
theorem cut_nd {w : World} {B : Nat} {g d : Nat → Nat} {ns : List Nd} {m : Ls} {p : Nat} (h : CRows w B g d ns m) (hp : p ≤ ns.length) : PrIs w B (putAt (cpV ns m g d) 0 (.slice (some ⟨g 0, 0, none⟩) p (d 0))) (ns.take p) m := by
 have hr := h.pr
 refine six_cases ?_ (hr 1 (by decide)) (hr 2 (by decide)) (hr 3 (by decide)) (hr 4 (by decide)) (hr 5 (by decide))
 have h5 := h 0 (by decide)
 rw [xOf_zero] at h5
 have hl : (ns.take p).length = p := by rw [List.length_take]; omega
 rw [xOf_zero, show nOf (ns.take p).length m 0 = p from hl]
 rw [ndL_split ns p, List.append_assoc] at h5
 exact own_cut h5 (by rw [ndL_len, hl]; rfl) (by show p ≤ ns.length + 1; omega)
theorem put_sc {w : World} {B : Nat} {g d : Nat → Nat} {ns : List Nd} {m : Ls} {v : Value} (hr : ∀ k, k < 6 → k ≠ 1 → w.ownsRow B (TY k) (SZ k) (cpV ns m g d k) (nOf ns.length m k) (xOf ns ns.length m k)) (h1 : w.ownsRow B 9 1 v (m.sc.length + 1) ((m.sc.map fun s => Value.string s) ++ [.string ⟨#[]⟩])) : PrIs w B (putAt (cpV ns m g d) 1 v) ns { m with sc := m.sc ++ [⟨#[]⟩] } := by
 refine six_cases (hr 0 (by decide) (by decide)) ?_ (hr 2 (by decide) (by decide)) (hr 3 (by decide) (by decide)) (hr 4 (by decide) (by decide)) (hr 5 (by decide) (by decide))
 have e1 : nOf ns.length { m with sc := m.sc ++ [⟨#[]⟩] } 1 = m.sc.length + 1 := by show (m.sc ++ [(⟨#[]⟩ : ByteArray)]).length = _; simp
 have e2 : xOf ns ns.length { m with sc := m.sc ++ [⟨#[]⟩] } 1 = (m.sc.map fun s => Value.string s) ++ [.string ⟨#[]⟩] := by show (m.sc ++ [(⟨#[]⟩ : ByteArray)]).map (fun s => Value.string s) = _; simp
 rw [e1, e2]
 exact h1
theorem set_sy {w : World} {B : Nat} {g d : Nat → Nat} {ns : List Nd} {m : Ls} {p : Nat} (h : CRows w B g d ns m) (up : ∀ j k, j < k → k < 6 → g j < g k) (y : Int) : PrIs (w.setCell ⟨g 3, p, none⟩ (.int .i64 y)) B (cpV ns m g d) ns { m with sy := m.sy.set p y } := by
 have hr := h.pr
 have keep : ∀ k, k < 6 → k ≠ 3 → (w.setCell ⟨g 3, p, none⟩ (.int .i64 y)).ownsRow B (TY k) (SZ k) (cpV ns m g d k) (nOf ns.length m k) (xOf ns ns.length m k) := fun k hk hne => own_same (hr k hk) fun b hb => Below.heap_setCell _ _ _ _ (by
  have e : g k = b := Option.some.inj hb
  show b ≠ g 3
  rcases Nat.lt_or_ge k 3 with c | c
  ·have := up k 3 c (by decide); omega
  ·have := up 3 k (by omega) hk; omega)
 refine six_cases (keep 0 (by decide) (by decide)) (keep 1 (by decide) (by decide)) (keep 2 (by decide) (by decide)) ?_ (keep 4 (by decide) (by decide)) (keep 5 (by decide) (by decide))
 have h3 := (World.ownsRow.stored (hr 3 (by decide)) p (.int .i64 y)).1
 have e1 : nOf ns.length { m with sy := m.sy.set p y } 3 = nOf ns.length m 3 := by show (m.sy.set p y).length = m.sy.length; simp
 have e2 : xOf ns ns.length { m with sy := m.sy.set p y } 3 = (xOf ns ns.length m 3).set p (.int .i64 y) := by show (m.sy.set p y).map _ = (m.sy.map _).set p _; rw [List.map_set]
 rw [e1, e2]
 exact h3
theorem CRows.room {w : World} {B : Nat} {g d : Nat → Nat} {ns : List Nd} {m : Ls} (h : CRows w B g d ns m) (k : Nat) (hk : k < 6) : nOf ns.length m k + 1 ≤ d k ∧ d k ≤ maxLen := own_room (h k hk)
theorem CRows.ok {w w' : World} {B : Nat} {g d : Nat → Nat} {ns : List Nd} {m : Ls} (h : CRows w B g d ns m) (hk : Ok w w') : CRows w' B g d ns m := fun k h6 => own_ok (h k h6) hk
end
section
open Go.RowKit
theorem progFrom_lens (ns : List Nd) : ∀ (t : List Nd) (i : Nat) (l : Ls), (progFrom ns t i l).1 = 0 → (progFrom ns t i l).2.2.sy.length = l.sy.length + t.length ∧ (progFrom ns t i l).2.2.so.length = l.so.length + t.length ∧ (progFrom ns t i l).2.2.sc.length ≤ l.sc.length + t.length ∧ (progFrom ns t i l).2.2.ar.length ≤ l.ar.length + t.length ∧ (progFrom ns t i l).2.2.si.length ≤ l.si.length + t.length
 | [], i, l, _ => ⟨rfl, rfl, Nat.le_refl _, Nat.le_refl _, Nat.le_refl _⟩
 | n :: t, i, l, h => by
  rw [progFrom] at h ⊢
  split at h
  ·next h0 =>
   rw [if_pos h0]
   have := progFrom_lens ns t (i + 1) (nextR ns i n l) h
   have k : (nextR ns i n l).sy.length = l.sy.length + 1 ∧ (nextR ns i n l).so.length = l.so.length + 1 ∧ (nextR ns i n l).sc.length ≤ l.sc.length + 1 ∧ (nextR ns i n l).ar.length ≤ l.ar.length + 1 ∧ (nextR ns i n l).si.length ≤ l.si.length + 1 := by
    unfold nextR
    simp only
    refine ⟨by simp, by simp, ?_, ?_, ?_⟩ <;> (split <;> simp)
   rw [List.length_cons]
   omega
  ·next h0 => rw [if_neg h0] at *; exact absurd h h0
theorem prog_lens {ns : List Nd} (h0 : (readD ns rd0).1 = 0) (hok : ∀ n ∈ ns, n.Ok) : ns.length ≤ 300 ∧ (lsOf (readD ns rd0).2.2).sy.length = ns.length ∧ (lsOf (readD ns rd0).2.2).so.length = ns.length ∧ (lsOf (readD ns rd0).2.2).sc.length ≤ 100000 ∧ (lsOf (readD ns rd0).2.2).ar.length ≤ 100000 ∧ (lsOf (readD ns rd0).2.2).si.length ≤ 100000 := by
 have hl := (readD_len ns h0).2
 have hp := program_eq ns hok
 have hz : (programR ns).1 = 0 := by rw [hp]; exact h0
 have e : (programR ns).2.2 = lsOf (readD ns rd0).2.2 := by rw [hp]
 have hs : (shapeR ns).1 = 0 := by
  by_cases c : (shapeR ns).1 = 0
  ·exact c
  ·unfold programR at hz; rw [if_neg c] at hz; exact absurd hz c
 have hq : programR ns = progFrom ns ns 0 ⟨[], [], [], [], []⟩ := by unfold programR; rw [if_pos hs]
 rw [← e, hq]
 rw [hq] at hz
 have := progFrom_lens ns ns 0 ⟨[], [], [], [], []⟩ hz
 simp only [List.length_nil, Nat.zero_add] at this
 omega
theorem edL_get : ∀ {es : List Ed} {i : Nat} {e : Ed}, es[i]? = some e → ∀ j u, (edV e)[j]? = some u → (edL es)[i * 6 + j]? = some u
 | [], i, e, h, _, _, _ => by simp at h
 | x :: es, 0, e, h, j, u, hu => by
  simp at h; subst h
  have : edL (x :: es) = edV x ++ edL es := rfl
  rw [this, Nat.zero_mul, Nat.zero_add, List.getElem?_append_left (List.getElem?_eq_some_iff.1 hu).1]
  exact hu
 | x :: es, i + 1, e, h, j, u, hu => by
  rw [List.getElem?_cons_succ] at h
  have e1 : edL (x :: es) = edV x ++ edL es := rfl
  have hl : (edV x).length = 6 := rfl
  rw [e1, List.getElem?_append_right (by omega), hl, show (i + 1) * 6 + j - 6 = i * 6 + j by omega]
  exact edL_get h j u hu
theorem segs_len {L : List Ed} {A Z : Nat} (h : Segs L A Z) : L.length ≤ 2 * (Z - A) := by
 obtain ⟨bs, rfl, hn, hb⟩ := h
 have key : ∀ (cs : List (List Ed)), (∀ c ∈ cs, c.length ≤ 2) → cs.flatten.length ≤ 2 * cs.length := by
  intro cs
  induction cs with
  | nil => intro _; simp
  | cons c cs ih =>
   intro hc
   have h1 := hc c List.mem_cons_self
   have h2 := ih (fun d hd => hc d (List.mem_cons_of_mem _ hd))
   rw [List.flatten_cons, List.length_append, List.length_cons]
   omega
 have := key bs (fun c hc => by
  obtain ⟨i, hi, e⟩ := List.mem_iff_getElem.1 hc
  rcases hb i c (by rw [List.getElem?_eq_getElem hi, e]) with ⟨x, rfl, _⟩ | ⟨x, y, rfl, _⟩ <;> simp)
 omega
theorem elF_len {ns : List Nd} (h : TreeOK ns) : (elF ns).length ≤ 2 * ptF ns ns.length := by
 have := segs_len (elF_flow h).seg
 omega
end
section
open Go.RowKit
theorem txt_good {l : List UInt8} {ns : List Nd} (h1 : TxtP l ns) (h3 : ∀ n ∈ ns, n.Fit) : (∀ n ∈ ns, n.Ok) ∧ goodD ns (programR ns).2.2 = true ∧ TreeOK ns ∧ ns.length ≤ 300 ∧ (elF ns).length ≤ 100000 ∧ ptF ns ns.length ≤ 300 := by
 have ok : ∀ n ∈ ns, n.Ok := fun n hn => fit_ok (h3 n hn)
 obtain ⟨P, _, _, _, _, hp⟩ := h1
 have hg := good_own ok hp
 have hT := tree_of (read_shape (good_read hg))
 have k1 := elF_len hT
 have k2 := ptF_le ns ns.length
 have k3 := (readD_len ns (good_read hg)).2
 exact ⟨ok, hg, hT, by omega, by omega, by omega⟩
theorem cat_list (s : ByteArray) : (s ++ (⟨#[10, 115, 107, 105, 112, 59]⟩ : ByteArray)).toList = s.toList ++ tlB := by
 rw [ByteArray.toList_eq, ByteArray.toList_eq, ByteArray.data_append, Array.toList_append]; rfl
theorem eqEdge (e : Ed) (w : World) : (Op.equalIn 10000 39 (.agg #[.int .i64 e.from', .int .i64 e.to', .int .i64 e.op, .int .i64 e.place, .bool e.sense, .bool e.loop]) (.agg #[.int .i64 e.from', .int .i64 e.to', .int .i64 e.op, .int .i64 e.place, .bool e.sense, .bool e.loop])).run Tryd.prog w = .ok true w := by
 rw [show (10000 : Nat) = 9999 + 1 from rfl, run_equalIn_agg w 9999 39 _ _ (by kernel_rfl) (by kernel_rfl)]
 simp only [Program.fieldsOf, Tryd.underlying39]
 go_simp
theorem w64_id {k : Nat} (h : k < 1000000) : wrap64 (k : Int) = (k : Int) := by unfold wrap64; omega
theorem guEd : Tryd.prog.eqGuardType Tryd.prog.depth 39 = false := by kernel_rfl
structure EdA (w : World) (eo : Option Addr) (n : Nat) (es : List Ed) : Prop where
 len : n = es.length
 at' : 0 < n → ∃ b, eo = some ⟨b, 0, none⟩ ∧ b < w.heap.size ∧ ∀ k e, es[k]? = some e → ∀ j u, (edV e)[j]? = some u → w.cell? ⟨b, k * 6 + j, none⟩ = some u
theorem EdA.of {w : World} {B : Nat} {eo : Option Addr} {ec : Nat} {es : List Ed} (h : w.ownsRow B 39 6 (.slice eo es.length ec) es.length (edL es)) : EdA w eo es.length es := by
 refine ⟨rfl, fun hp => ?_⟩
 obtain ⟨g, cp, e, _⟩ := h.form hp
 injection e with e1 e2 e3
 subst e1
 refine ⟨g, rfl, (h.lt g rfl).2, fun k e hk j u hj => ?_⟩
 have := h.cells (g := g) rfl _ _ (edL_get hk j u hj)
 rw [add_off, Nat.zero_add] at this
 exact this
theorem EdA.below {w w' : World} {eo : Option Addr} {n : Nat} {es : List Ed} (h : EdA w eo n es) (hb : Ok w w') : EdA w' eo n es :=
 ⟨h.len, fun hp => by
  obtain ⟨b, e, hl, hc⟩ := h.at' hp
  exact ⟨b, e, Nat.lt_of_lt_of_le hl hb.le, fun k e hk j u hj => (Below.cell (show Below w.heap.size w w' from hb) (p := ⟨b, k * 6 + j, none⟩) hl).trans (hc k e hk j u hj)⟩⟩
set_option maxRecDepth 100000 in
set_option maxHeartbeats 8000000 in
theorem behind_law (s : ByteArray) (w : World) (hR : RulesIs w) (hS : StepsIs w) (hs : s.size ≤ 140737488351232) :
  Calls Tryd.prog 3 #[.string s] w fun e w' => e = .returned (.bool true) ∧ Ok w w' := by
 have HR : Hid (RulesIs w) := hR
 have HS : Hid (StepsIs w) := hS
 have hs1 : ¬ (9223372036854775807 : Int) < (s.size : Int) + 6 := by omega
 have hs2 : ¬ (9223372036854775807 : Int) < ((s.size + 6 : Nat) : Int) := by omega
 clear hR hS hs
 go_enter Tryd.func3, Tryd.ntmps3
 go_wp2_with fail
 refine (fixed_any w HR.out HS.out).mono ?_
 rintro e w1 ⟨rfl, hk1⟩
 have HK1 : Hid (Ok w w1) := hk1
 clear hk1
 go_wp2_with fail
 refine (lprog_any s w1).mono ?_
 rintro e w2 ⟨ht, hk2⟩
 have HK2 : Hid (Ok w w2) := HK1.out.step hk2
 clear hk2
 rcases ht with ⟨ns, u, h1, rfl, h2, h3⟩ | ⟨h1, rfl⟩
 rotate_left
 ·clear h1
  go_wp2_with fail
  refine (lprog_any _ _).mono ?_
  rintro e w3 ⟨ht, hk3⟩
  have HK3 : Hid (Ok w w3) := (HK2.out.alloc _).step hk3
  clear hk3
  rcases ht with ⟨ns, u, h1, rfl, h2, h3⟩ | ⟨h1, rfl⟩
  ·obtain ⟨o0, p0, e0⟩ := own_form (h2 0 (by decide))
   obtain ⟨o1, p1, e1⟩ := own_form (h2 1 (by decide))
   obtain ⟨o2, p2, e2⟩ := own_form (h2 2 (by decide))
   obtain ⟨o3, p3, e3⟩ := own_form (h2 3 (by decide))
   obtain ⟨o4, p4, e4⟩ := own_form (h2 4 (by decide))
   obtain ⟨o5, p5, e5⟩ := own_form (h2 5 (by decide))
   rw [e0, e1, e2, e3, e4, e5]
   clear h1 h2 h3 e0 e1 e2 e3 e4 e5
   go_wp2_with fail
   go_ret
   exact ⟨rfl, HK3.out.alloc _⟩
  ·clear h1
   go_wp2_with fail
   go_ret
   exact ⟨rfl, HK3.out.alloc _⟩
 obtain ⟨m, hm⟩ : ∃ x, x = (programR ns).2.2 := ⟨_, rfl⟩
 rw [← hm] at h2
 have HTX : Hid (TxtP s.toList ns ∧ ∀ n ∈ ns, n.Fit) := ⟨h1, h3⟩
 have HGD : Hid ((∀ n ∈ ns, n.Ok) ∧ goodD ns m = true ∧ TreeOK ns ∧ ns.length ≤ 300 ∧ (elF ns).length ≤ 100000 ∧ ptF ns ns.length ≤ 300) := by unfold Hid; rw [hm]; exact txt_good h1 h3
 obtain ⟨o0, p0, e0⟩ := own_form (h2 0 (by decide))
 obtain ⟨o1, p1, e1⟩ := own_form (h2 1 (by decide))
 obtain ⟨o2, p2, e2⟩ := own_form (h2 2 (by decide))
 obtain ⟨o3, p3, e3⟩ := own_form (h2 3 (by decide))
 obtain ⟨o4, p4, e4⟩ := own_form (h2 4 (by decide))
 obtain ⟨o5, p5, e5⟩ := own_form (h2 5 (by decide))
 have HP2 : Hid (ProgIs w2 (.slice o0 (nOf ns.length m 0) p0) (.slice o1 (nOf ns.length m 1) p1) (.slice o2 (nOf ns.length m 2) p2) (.slice o3 (nOf ns.length m 3) p3) (.slice o4 (nOf ns.length m 4) p4) (.slice o5 (nOf ns.length m 5) p5) ns m) := by have := h2.prog HGD.out.1; rw [e0, e1, e2, e3, e4, e5] at this; exact this
 rw [e0, e1, e2, e3, e4, e5]
 obtain ⟨n0, hn0⟩ : ∃ x, x = nOf ns.length m 0 := ⟨_, rfl⟩
 obtain ⟨n1, hn1⟩ : ∃ x, x = nOf ns.length m 1 := ⟨_, rfl⟩
 obtain ⟨n2, hn2⟩ : ∃ x, x = nOf ns.length m 2 := ⟨_, rfl⟩
 obtain ⟨n3, hn3⟩ : ∃ x, x = nOf ns.length m 3 := ⟨_, rfl⟩
 obtain ⟨n4, hn4⟩ : ∃ x, x = nOf ns.length m 4 := ⟨_, rfl⟩
 obtain ⟨n5, hn5⟩ : ∃ x, x = nOf ns.length m 5 := ⟨_, rfl⟩
 rw [← hn0, ← hn1, ← hn2, ← hn3, ← hn4, ← hn5] at HP2 ⊢
 have HN0 : Hid (n0 = ns.length) := hn0
 clear h1 h2 h3 hm e0 e1 e2 e3 e4 e5 hn0 hn1 hn2 hn3 hn4 hn5
 go_wp2_with fail
 obtain ⟨w3, hw3⟩ : ∃ x, x = w2.alloc (Obj.cells #[Value.slice o0 n0 p0, Value.slice o1 n1 p1, Value.slice o2 n2 p2, Value.slice o3 n3 p3, Value.slice o4 n4 p4, Value.slice o5 n5 p5] 28) := ⟨_, rfl⟩
 obtain ⟨gp, hgp⟩ : ∃ x, x = w2.heap.size := ⟨_, rfl⟩
 rw [← hw3, ← hgp]
 have hk3 : Ok w2 w3 := by rw [hw3]; exact (Ok.refl _).alloc _
 have HK3 : Hid (Ok w w3) := HK2.out.step hk3
 have HX3 : Hid (Six w3 gp (.slice o0 n0 p0) (.slice o1 n1 p1) (.slice o2 n2 p2) (.slice o3 n3 p3) (.slice o4 n4 p4) (.slice o5 n5 p5)) := by unfold Hid; rw [hw3, hgp]; exact Six.new _ _ _ _ _ _ _
 have HP3 : Hid (ProgIs w3 (.slice o0 n0 p0) (.slice o1 n1 p1) (.slice o2 n2 p2) (.slice o3 n3 p3) (.slice o4 n4 p4) (.slice o5 n5 p5) ns m) := HP2.out.below hk3
 clear hw3 hgp hk3 HP2
 refine (lprog_any _ w3).mono ?_
 rintro e w4 ⟨ht, hk4⟩
 have HK4 : Hid (Ok w w4) := HK3.out.step hk4
 have HX4 : Hid (Six w4 gp (.slice o0 n0 p0) (.slice o1 n1 p1) (.slice o2 n2 p2) (.slice o3 n3 p3) (.slice o4 n4 p4) (.slice o5 n5 p5)) := HX3.out.below hk4
 have HP4 : Hid (ProgIs w4 (.slice o0 n0 p0) (.slice o1 n1 p1) (.slice o2 n2 p2) (.slice o3 n3 p3) (.slice o4 n4 p4) (.slice o5 n5 p5) ns m) := HP3.out.below hk4
 clear hk4 HX3 HP3
 rcases ht with ⟨ms, v, h1, rfl, h2, h3⟩ | ⟨h1, rfl⟩
 rotate_left
 ·clear h1
  go_wp2_with fail
  go_ret
  exact ⟨rfl, HK4.out.alloc _⟩
 clear hs1 hs2
 obtain ⟨k, hk⟩ : ∃ x, x = (programR ms).2.2 := ⟨_, rfl⟩
 rw [← hk] at h2
 have HGQ : Hid ((∀ n ∈ ms, n.Ok) ∧ goodD ms k = true ∧ TreeOK ms ∧ ms.length ≤ 300 ∧ (elF ms).length ≤ 100000 ∧ ptF ms ms.length ≤ 300) := by unfold Hid; rw [hk]; exact txt_good h1 h3
 have HMS : Hid (∃ x, ms = ns ++ [skN x]) := by rw [cat_list] at h1; exact txt_app HTX.out.1 h1
 obtain ⟨x0, y0, e0⟩ := own_form (h2 0 (by decide))
 obtain ⟨x1, y1, e1⟩ := own_form (h2 1 (by decide))
 obtain ⟨x2, y2, e2⟩ := own_form (h2 2 (by decide))
 obtain ⟨x3, y3, e3⟩ := own_form (h2 3 (by decide))
 obtain ⟨x4, y4, e4⟩ := own_form (h2 4 (by decide))
 obtain ⟨x5, y5, e5⟩ := own_form (h2 5 (by decide))
 have HQ4 : Hid (ProgIs w4 (.slice x0 (nOf ms.length k 0) y0) (.slice x1 (nOf ms.length k 1) y1) (.slice x2 (nOf ms.length k 2) y2) (.slice x3 (nOf ms.length k 3) y3) (.slice x4 (nOf ms.length k 4) y4) (.slice x5 (nOf ms.length k 5) y5) ms k) := by have := h2.prog HGQ.out.1; rw [e0, e1, e2, e3, e4, e5] at this; exact this
 rw [e0, e1, e2, e3, e4, e5]
 obtain ⟨m0, hm0⟩ : ∃ z, z = nOf ms.length k 0 := ⟨_, rfl⟩
 obtain ⟨m1, hm1⟩ : ∃ z, z = nOf ms.length k 1 := ⟨_, rfl⟩
 obtain ⟨m2, hm2⟩ : ∃ z, z = nOf ms.length k 2 := ⟨_, rfl⟩
 obtain ⟨m3, hm3⟩ : ∃ z, z = nOf ms.length k 3 := ⟨_, rfl⟩
 obtain ⟨m4, hm4⟩ : ∃ z, z = nOf ms.length k 4 := ⟨_, rfl⟩
 obtain ⟨m5, hm5⟩ : ∃ z, z = nOf ms.length k 5 := ⟨_, rfl⟩
 rw [← hm0, ← hm1, ← hm2, ← hm3, ← hm4, ← hm5] at HQ4 ⊢
 clear h1 h2 h3 hk e0 e1 e2 e3 e4 e5 hm0 hm1 hm2 hm3 hm4 hm5 HTX
 obtain ⟨z1, c0, c1, c2, c3, c4, c5⟩ := HX4.out.pc
 go_wp2_with fail
 obtain ⟨w5, hw5⟩ : ∃ x, x = w4.alloc (Obj.cells #[Value.slice x0 m0 y0, Value.slice x1 m1 y1, Value.slice x2 m2 y2, Value.slice x3 m3 y3, Value.slice x4 m4 y4, Value.slice x5 m5 y5] 28) := ⟨_, rfl⟩
 obtain ⟨gq, hgq⟩ : ∃ x, x = w4.heap.size := ⟨_, rfl⟩
 rw [← hw5, ← hgq]
 have hk5 : Ok w4 w5 := by rw [hw5]; exact (Ok.refl _).alloc _
 have HK5 : Hid (Ok w w5) := HK4.out.step hk5
 have HX5 : Hid (Six w5 gp (.slice o0 n0 p0) (.slice o1 n1 p1) (.slice o2 n2 p2) (.slice o3 n3 p3) (.slice o4 n4 p4) (.slice o5 n5 p5)) := HX4.out.below hk5
 have HP5 : Hid (ProgIs w5 (.slice o0 n0 p0) (.slice o1 n1 p1) (.slice o2 n2 p2) (.slice o3 n3 p3) (.slice o4 n4 p4) (.slice o5 n5 p5) ns m) := HP4.out.below hk5
 have HY5 : Hid (Six w5 gq (.slice x0 m0 y0) (.slice x1 m1 y1) (.slice x2 m2 y2) (.slice x3 m3 y3) (.slice x4 m4 y4) (.slice x5 m5 y5)) := by unfold Hid; rw [hw5, hgq]; exact Six.new _ _ _ _ _ _ _
 have HQ5 : Hid (ProgIs w5 (.slice x0 m0 y0) (.slice x1 m1 y1) (.slice x2 m2 y2) (.slice x3 m3 y3) (.slice x4 m4 y4) (.slice x5 m5 y5) ms k) := HQ4.out.below hk5
 clear hw5 hgq hk5 HX4 HP4 HQ4 z1 c0 c1 c2 c3 c4 c5
 refine (lower_good _ _ _ _ _ _ ns m w5 (HR.out.below HK5.out) (HS.out.below HK5.out) HP5.out HGD.out.2.1).mono ?_
 rintro e w6 ⟨u2, ev, rfl, hu2, hev, hk6⟩
 have HK6 : Hid (Ok w w6) := HK5.out.step hk6
 have HX6 : Hid (Six w6 gp (.slice o0 n0 p0) (.slice o1 n1 p1) (.slice o2 n2 p2) (.slice o3 n3 p3) (.slice o4 n4 p4) (.slice o5 n5 p5)) := HX5.out.below hk6
 have HY6 : Hid (Six w6 gq (.slice x0 m0 y0) (.slice x1 m1 y1) (.slice x2 m2 y2) (.slice x3 m3 y3) (.slice x4 m4 y4) (.slice x5 m5 y5)) := HY5.out.below hk6
 have HQ6 : Hid (ProgIs w6 (.slice x0 m0 y0) (.slice x1 m1 y1) (.slice x2 m2 y2) (.slice x3 m3 y3) (.slice x4 m4 y4) (.slice x5 m5 y5) ms k) := HQ5.out.below hk6
 obtain ⟨N, hN⟩ : ∃ x, x = ptF ns ns.length := ⟨_, rfl⟩
 obtain ⟨L, hL⟩ : ∃ x, x = (elF ns).length := ⟨_, rfl⟩
 obtain ⟨eo, ec, rfl⟩ := own_form hev
 have HE6 : Hid (EdA w6 eo L (elF ns)) := by unfold Hid; rw [hL]; exact EdA.of hev
 have HNL : Hid (N = ptF ns ns.length ∧ N ≤ 300 ∧ L = (elF ns).length ∧ L ≤ 100000) := ⟨hN, by have := HGD.out; omega, hL, by have := HGD.out; omega⟩
 obtain ⟨a0, q0, e0⟩ := own_form (hu2 0 (by decide))
 obtain ⟨a1, q1, e1⟩ := own_form (hu2 1 (by decide))
 obtain ⟨a2, q2, e2⟩ := own_form (hu2 2 (by decide))
 obtain ⟨a3, q3, e3⟩ := own_form (hu2 3 (by decide))
 obtain ⟨a4, q4, e4⟩ := own_form (hu2 4 (by decide))
 obtain ⟨a5, q5, e5⟩ := own_form (hu2 5 (by decide))
 rw [e0, e1, e2, e3, e4, e5]
 obtain ⟨r0, hr0⟩ : ∃ z, z = nOf ns.length (lsOf (readD ns rd0).2.2) 0 := ⟨_, rfl⟩
 obtain ⟨r1, hr1⟩ : ∃ z, z = nOf ns.length (lsOf (readD ns rd0).2.2) 1 := ⟨_, rfl⟩
 obtain ⟨r2, hr2⟩ : ∃ z, z = nOf ns.length (lsOf (readD ns rd0).2.2) 2 := ⟨_, rfl⟩
 obtain ⟨r3, hr3⟩ : ∃ z, z = nOf ns.length (lsOf (readD ns rd0).2.2) 3 := ⟨_, rfl⟩
 obtain ⟨r4, hr4⟩ : ∃ z, z = nOf ns.length (lsOf (readD ns rd0).2.2) 4 := ⟨_, rfl⟩
 obtain ⟨r5, hr5⟩ : ∃ z, z = nOf ns.length (lsOf (readD ns rd0).2.2) 5 := ⟨_, rfl⟩
 rw [← hr0, ← hr1, ← hr2, ← hr3, ← hr4, ← hr5, ← hN, ← hL]
 clear hk6 hu2 hev e0 e1 e2 e3 e4 e5 hr0 hr1 hr2 hr3 hr4 hr5 hN hL HX5 HY5 HQ5 HP5
 obtain ⟨z1, c0, c1, c2, c3, c4, c5⟩ := HY6.out.pc
 go_wp2_with fail
 obtain ⟨w7, hw7⟩ : ∃ x, x = w6.alloc (Obj.cells #[Value.slice a0 r0 q0, Value.slice a1 r1 q1, Value.slice a2 r2 q2, Value.slice a3 r3 q3, Value.slice a4 r4 q4, Value.slice a5 r5 q5, Value.int .i64 ((N : Int) + 1), Value.int .i64 (N : Nat), Value.slice eo L ec] 33) := ⟨_, rfl⟩
 obtain ⟨gg, hgg⟩ : ∃ x, x = w6.heap.size := ⟨_, rfl⟩
 rw [← hw7, ← hgg]
 have hk7 : Ok w6 w7 := by rw [hw7]; exact (Ok.refl _).alloc _
 have HK7 : Hid (Ok w w7) := HK6.out.step hk7
 have HX7 : Hid (Six w7 gp (.slice o0 n0 p0) (.slice o1 n1 p1) (.slice o2 n2 p2) (.slice o3 n3 p3) (.slice o4 n4 p4) (.slice o5 n5 p5)) := HX6.out.below hk7
 have HQ7 : Hid (ProgIs w7 (.slice x0 m0 y0) (.slice x1 m1 y1) (.slice x2 m2 y2) (.slice x3 m3 y3) (.slice x4 m4 y4) (.slice x5 m5 y5) ms k) := HQ6.out.below hk7
 have HE7 : Hid (EdA w7 eo L (elF ns)) := HE6.out.below hk7
 have HG7 : Hid (w7.heap[gg]? = some (.cells #[Value.slice a0 r0 q0, Value.slice a1 r1 q1, Value.slice a2 r2 q2, Value.slice a3 r3 q3, Value.slice a4 r4 q4, Value.slice a5 r5 q5, Value.int .i64 ((N : Int) + 1), Value.int .i64 (N : Nat), Value.slice eo L ec] 33 (0, 0))) := by unfold Hid; rw [hw7, hgg]; exact heap_new0 _ _
 clear hw7 hgg hk7 HX6 HQ6 HE6 HY6 z1 c0 c1 c2 c3 c4 c5
 refine (lower_good _ _ _ _ _ _ ms k w7 (HR.out.below HK7.out) (HS.out.below HK7.out) HQ7.out HGQ.out.2.1).mono ?_
 rintro e w8 ⟨u3, fv, rfl, hu3, hfv, hk8⟩
 have HK8 : Hid (Ok w w8) := HK7.out.step hk8
 have HX8 : Hid (Six w8 gp (.slice o0 n0 p0) (.slice o1 n1 p1) (.slice o2 n2 p2) (.slice o3 n3 p3) (.slice o4 n4 p4) (.slice o5 n5 p5)) := HX7.out.below hk8
 have HE8 : Hid (EdA w8 eo L (elF ns)) := HE7.out.below hk8
 have HG8 : Hid (w8.heap[gg]? = some (.cells #[Value.slice a0 r0 q0, Value.slice a1 r1 q1, Value.slice a2 r2 q2, Value.slice a3 r3 q3, Value.slice a4 r4 q4, Value.slice a5 r5 q5, Value.int .i64 ((N : Int) + 1), Value.int .i64 (N : Nat), Value.slice eo L ec] 33 (0, 0))) := Ok.row' hk8 HG7.out
 have HEM : Hid (elF ms = elF ns ++ [⟨N, N + 1, 4, n0, false, false⟩] ∧ ptF ms ms.length = N + 1) := by
  obtain ⟨x, hx⟩ := HMS.out
  have h1 := HGQ.out.2.2.1
  subst hx
  have h2 := elF_app HGD.out.2.2.1 h1
  have h3 := HNL.out.1
  have h4 := HN0.out
  exact ⟨by rw [h2, h3, h4], by rw [len_app, ptF_last, h3]⟩
 have HLM : Hid ((elF ms).length = L + 1) := by unfold Hid; rw [HEM.out.1, List.length_append, HNL.out.2.2.1]; rfl
 obtain ⟨fo, fc, rfl⟩ := own_form hfv
 have HF8 : Hid (EdA w8 fo (L + 1) (elF ms)) := by unfold Hid; rw [← HLM.out]; exact EdA.of hfv
 obtain ⟨d0, s0, e0⟩ := own_form (hu3 0 (by decide))
 obtain ⟨d1, s1, e1⟩ := own_form (hu3 1 (by decide))
 obtain ⟨d2, s2, e2⟩ := own_form (hu3 2 (by decide))
 obtain ⟨d3, s3, e3⟩ := own_form (hu3 3 (by decide))
 obtain ⟨d4, s4, e4⟩ := own_form (hu3 4 (by decide))
 obtain ⟨d5, s5, e5⟩ := own_form (hu3 5 (by decide))
 rw [e0, e1, e2, e3, e4, e5]
 obtain ⟨t0, ht0⟩ : ∃ z, z = nOf ms.length (lsOf (readD ms rd0).2.2) 0 := ⟨_, rfl⟩
 obtain ⟨t1, ht1⟩ : ∃ z, z = nOf ms.length (lsOf (readD ms rd0).2.2) 1 := ⟨_, rfl⟩
 obtain ⟨t2, ht2⟩ : ∃ z, z = nOf ms.length (lsOf (readD ms rd0).2.2) 2 := ⟨_, rfl⟩
 obtain ⟨t3, ht3⟩ : ∃ z, z = nOf ms.length (lsOf (readD ms rd0).2.2) 3 := ⟨_, rfl⟩
 obtain ⟨t4, ht4⟩ : ∃ z, z = nOf ms.length (lsOf (readD ms rd0).2.2) 4 := ⟨_, rfl⟩
 obtain ⟨t5, ht5⟩ : ∃ z, z = nOf ms.length (lsOf (readD ms rd0).2.2) 5 := ⟨_, rfl⟩
 rw [← ht0, ← ht1, ← ht2, ← ht3, ← ht4, ← ht5, HEM.out.2, HLM.out]
 clear hk8 hu3 hfv e0 e1 e2 e3 e4 e5 ht0 ht1 ht2 ht3 ht4 ht5 HX7 HQ7 HE7 HG7
 have P6 : w8.cell? ⟨gg, 6, none⟩ = some (.int .i64 ((N : Int) + 1)) := (cell_of_row _ _ 6 _ _ _ HG8.out).trans (by simp)
 have P7 : w8.cell? ⟨gg, 7, none⟩ = some (.int .i64 (N : Nat)) := (cell_of_row _ _ 7 _ _ _ HG8.out).trans (by simp)
 have P8 : w8.cell? ⟨gg, 8, none⟩ = some (.slice eo L ec) := (cell_of_row _ _ 8 _ _ _ HG8.out).trans (by simp)
 have lg := lt_row HG8.out
 have k1 : IntKind.i64.wrap ((N : Int) + 1) = (N : Int) + 1 := by have := kw_bnd (k := N) (by have := HNL.out; omega); rw [this]; rfl
 have k2 : IntKind.i64.wrap ((N : Int) + 1 + 1) = (N : Int) + 1 + 1 := by have := kw_bnd (k := N + 1) (by have := HNL.out; omega); rw [show ((N + 1 : Nat) : Int) = (N : Int) + 1 from rfl] at this; rw [this]; rfl
 have k3 : IntKind.i64.wrap ((L : Int) + 1) = (L : Int) + 1 := by have := kw_bnd (k := L) (by have := HNL.out; omega); rw [this]; rfl
 go_wp2_with fail
 obtain ⟨w9, hw9⟩ : ∃ x, x = w8.alloc (Obj.cells #[Value.slice d0 t0 s0, Value.slice d1 t1 s1, Value.slice d2 t2 s2, Value.slice d3 t3 s3, Value.slice d4 t4 s4, Value.slice d5 t5 s5, Value.int .i64 ((N : Int) + 1 + 1), Value.int .i64 ((N : Int) + 1), Value.slice fo (L + 1) fc] 33) := ⟨_, rfl⟩
 obtain ⟨gh, hgh⟩ : ∃ x, x = w8.heap.size := ⟨_, rfl⟩
 rw [← hw9, ← hgh]
 have hk9 : Ok w8 w9 := by rw [hw9]; exact (Ok.refl _).alloc _
 have HK9 : Hid (Ok w w9) := HK8.out.step hk9
 have HX9 : Hid (Six w9 gp (.slice o0 n0 p0) (.slice o1 n1 p1) (.slice o2 n2 p2) (.slice o3 n3 p3) (.slice o4 n4 p4) (.slice o5 n5 p5)) := HX8.out.below hk9
 have HE9 : Hid (EdA w9 eo L (elF ns)) := HE8.out.below hk9
 have HF9 : Hid (EdA w9 fo (L + 1) (elF ms)) := HF8.out.below hk9
 have HG9 : Hid (w9.heap[gg]? = some (.cells #[Value.slice a0 r0 q0, Value.slice a1 r1 q1, Value.slice a2 r2 q2, Value.slice a3 r3 q3, Value.slice a4 r4 q4, Value.slice a5 r5 q5, Value.int .i64 ((N : Int) + 1), Value.int .i64 (N : Nat), Value.slice eo L ec] 33 (0, 0))) := Ok.row' hk9 HG8.out
 have HH9 : Hid (w9.heap[gh]? = some (.cells #[Value.slice d0 t0 s0, Value.slice d1 t1 s1, Value.slice d2 t2 s2, Value.slice d3 t3 s3, Value.slice d4 t4 s4, Value.slice d5 t5 s5, Value.int .i64 ((N : Int) + 1 + 1), Value.int .i64 ((N : Int) + 1), Value.slice fo (L + 1) fc] 33 (0, 0))) := by unfold Hid; rw [hw9, hgh]; exact heap_new0 _ _
 have HC : Hid (∀ W, Ok w9 W → W.cell? ⟨gg, 7, none⟩ = some (.int .i64 (N : Nat)) ∧ W.cell? ⟨gg, 8, none⟩ = some (.slice eo L ec) ∧ W.cell? ⟨gh, 7, none⟩ = some (.int .i64 ((N : Int) + 1)) ∧ W.cell? ⟨gh, 8, none⟩ = some (.slice fo (L + 1) fc) ∧ gg < W.heap.size ∧ gh < W.heap.size) := fun W hW =>
  ⟨(cell_of_row _ _ 7 _ _ _ (Ok.row' hW HG9.out)).trans (by simp), (cell_of_row _ _ 8 _ _ _ (Ok.row' hW HG9.out)).trans (by simp), (cell_of_row _ _ 7 _ _ _ (Ok.row' hW HH9.out)).trans (by simp), (cell_of_row _ _ 8 _ _ _ (Ok.row' hW HH9.out)).trans (by simp), lt_row (Ok.row' hW HG9.out), lt_row (Ok.row' hW HH9.out)⟩
 clear hw9 hgh hk9 P6 P7 P8 lg HX8 HE8 HF8 HG8 HG9 HH9
 go_loopw [11] (fun t wr => ∃ j : Nat, j ≤ L ∧ t = .int .i64 (j : Nat) ∧ Hid (Ok w9 wr)) (fun t _ => L - (intOf t).toNat)
 case atStart => exact ⟨0, Nat.zero_le _, rfl, Ok.refl _⟩
 case round =>
  obtain ⟨j, hj, rfl, HW⟩ := hrel
  obtain ⟨q1, q2, q3, q4, q5, q6⟩ := HC.out wr HW.out
  by_cases hlt : j < L
  ·have hlt' : (j : Int) < (L : Int) := cast_lt' hlt
   have hlt2 : (j : Int) < (L : Int) + 1 := by omega
   have hkw : IntKind.i64.wrap ((j : Int) + 1) = ((j + 1 : Nat) : Int) := kw_bnd (by have := HNL.out; omega)
   obtain ⟨e, he⟩ : ∃ e, (elF ns)[j]? = some e := ⟨_, List.getElem?_eq_getElem (by have := HNL.out; omega)⟩
   have he2 : (elF ms)[j]? = some e := by rw [HEM.out.1, List.getElem?_append_left (by have := HNL.out; omega)]; exact he
   obtain ⟨b1, rfl, l1, A⟩ := (HE9.out.below HW.out).at' (by omega)
   obtain ⟨b2, rfl, l2, B⟩ := (HF9.out.below HW.out).at' (by omega)
   have c0 := A _ _ he 0 _ rfl
   have c1 := A _ _ he 1 _ rfl
   have c2 := A _ _ he 2 _ rfl
   have c3 := A _ _ he 3 _ rfl
   have c4 := A _ _ he 4 _ rfl
   have c5 := A _ _ he 5 _ rfl
   have d0 := B _ _ he2 0 _ rfl
   have d1 := B _ _ he2 1 _ rfl
   have d2 := B _ _ he2 2 _ rfl
   have d3 := B _ _ he2 3 _ rfl
   have d4 := B _ _ he2 4 _ rfl
   have d5 := B _ _ he2 5 _ rfl
   rw [Nat.add_zero] at c0 d0
   have gq := guEd
   have eq1 : ∀ w, (Op.equalIn 10000 39 (.agg #[.int .i64 e.from', .int .i64 e.to', .int .i64 e.op, .int .i64 e.place, .bool e.sense, .bool e.loop]) (.agg #[.int .i64 e.from', .int .i64 e.to', .int .i64 e.op, .int .i64 e.place, .bool e.sense, .bool e.loop])).run Tryd.prog w = .ok true w := eqEdge e
   clear A B he he2
   go_wp2_with fail
   go_quiet (fail)
   go_wp2_with fail
   go_roundw
   case rel => exact ⟨j + 1, hlt, rfl, HW.out.draws _⟩
   case measure => simp only [intOf, Int.toNat_natCast]; omega
  ·have hlt' : ¬ (j : Int) < (L : Int) := cast_nlt hlt
   have hsw : wrap64 (L : Int) = (L : Int) := w64_id (by have := HNL.out; omega)
   have hlL : (L : Int) < (L : Int) + 1 := by omega
   have he2 : (elF ms)[L]? = some ⟨N, N + 1, 4, n0, false, false⟩ := by rw [HEM.out.1, List.getElem?_append_right (by have := HNL.out; omega), HNL.out.2.2.1, Nat.sub_self]; rfl
   obtain ⟨b2, rfl, l2, B⟩ := (HF9.out.below HW.out).at' (by omega)
   have d0 := B _ _ he2 0 _ rfl
   have d1 := B _ _ he2 1 _ rfl
   have d2 := B _ _ he2 2 _ rfl
   have d3 := B _ _ he2 3 _ rfl
   have d4 := B _ _ he2 4 _ rfl
   have d5 := B _ _ he2 5 _ rfl
   rw [Nat.add_zero] at d0
   simp only at d0 d1 d2 d3 d4 d5
   have gq := guEd
   obtain ⟨z1, c0, c1, c2, c3, c4, c5⟩ := (HX9.out.below HW.out).pc
   have eq1 : ∀ w, (Op.equalIn 10000 39 (.agg #[.int .i64 (N : Nat), .int .i64 ((N : Int) + 1), .int .i64 4, .int .i64 (n0 : Nat), .bool false, .bool false]) (.agg #[.int .i64 (N : Nat), .int .i64 ((N : Int) + 1), .int .i64 4, .int .i64 (n0 : Nat), .bool false, .bool false])).run Tryd.prog w = .ok true w := eqEdge ⟨N, N + 1, 4, n0, false, false⟩
   clear B he2
   go_wp2_with fail
   go_ret
   exact ⟨rfl, HK9.out.step (HW.out.alloc _)⟩
end
end Go.Proofs.YtklkpaekdpaloaaDoor
