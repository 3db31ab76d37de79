import Derived.Test.YtbndcaglohfnbaaGreatDoorVD
set_option linter.unusedVariables false
set_option linter.unusedSimpArgs false
set_option linter.unnecessarySimpa false
namespace Go.Proofs.YtbndcaglohfnbaaGreatDoor
open Go.RowKit
theorem own_kind {w : World} {B : Nat} {e : TypeId} {size : Nat} {v : Value} {n : Nat} {xs : List Value} (h : w.ownsRow B e size v n xs) : ∀ g, v.ownBlock = some g → ∃ c fz, w.heap[g]? = some (.cells c e fz) := by
 intro g hg
 rcases h.2 with ⟨rfl, _⟩ | ⟨g', cap, cur, rfl, _, hgg, _⟩
 ·cases hg
 ·have e1 : g' = g := Option.some.inj hg
  subst e1
  exact ⟨_, _, hgg⟩
theorem own_grow {w w' : World} {B B' : Nat} {e : TypeId} {s n : Nat} {v : Value} {xs : List Value} {gv : Value} {k : Nat} {ys : List Value} (h : w.ownsRow B e s v n xs) (he : e ≠ 33) (hg : w.ownsRow B' 33 9 gv k ys) (hw : w.grownBy w' gv.ownBlock) : w'.ownsRow B e s v n xs := by
 refine own_same h fun b hb => hw.block b (h.lt b hb).2 (fun e1 => ?_)
 obtain ⟨c1, f1, k1⟩ := own_kind h b hb
 obtain ⟨c2, f2, k2⟩ := own_kind hg b e1.symm
 rw [k1] at k2
 injection k2 with k2
 injection k2 with _ k3 _
 exact he k3
theorem TY_ng (k : Nat) (hk : k < 6) : TY k ≠ 33 := by
 rcases (show k = 0 ∨ k = 1 ∨ k = 2 ∨ k = 3 ∨ k = 4 ∨ k = 5 by omega) with rfl | rfl | rfl | rfl | rfl | rfl <;> decide
def GOk (w : World) (x : List Value × List Value) : Prop := ∃ (ns : List Nd) (m : Ls) (a b : Int) (u v : Nat → Value) (ev fv : Value),
 x = ([u 0, u 1, u 2, u 3, u 4, u 5, .int .i64 a, .int .i64 b, ev], [v 0, v 1, v 2, v 3, v 4, v 5, .int .i64 a, .int .i64 b, fv]) ∧ PrIs w 0 u ns m ∧ PrIs w 0 v ns m ∧ w.ownsRow 0 40 6 ev (elF ns).length (edL (elF ns)) ∧ w.ownsRow 0 40 6 fv (elF ns).length (edL (elF ns)) ∧ (∀ n ∈ ns, n.Ok) ∧ (elF ns).length ≤ 1000000
theorem GOk.ok {w w' : World} {x : List Value × List Value} (h : GOk w x) (hk : Ok w w') : GOk w' x := by
 obtain ⟨ns, m, a, b, u, v, ev, fv, e, h1, h2, h3, h4, h5⟩ := h
 exact ⟨ns, m, a, b, u, v, ev, fv, e, fun k hh => own_ok (h1 k hh) hk, fun k hh => own_ok (h2 k hh) hk, own_ok h3 hk, own_ok h4 hk, h5⟩
theorem GOk.grow {w w' : World} {x : List Value × List Value} {B' k : Nat} {gv : Value} {ys : List Value} (h : GOk w x) (hg : w.ownsRow B' 33 9 gv k ys) (hw : w.grownBy w' gv.ownBlock) : GOk w' x := by
 obtain ⟨ns, m, a, b, u, v, ev, fv, e, h1, h2, h3, h4, h5⟩ := h
 exact ⟨ns, m, a, b, u, v, ev, fv, e, fun k hh => own_grow (h1 k hh) (TY_ng k hh) hg hw, fun k hh => own_grow (h2 k hh) (TY_ng k hh) hg hw, own_grow h3 (by decide) hg hw, own_grow h4 (by decide) hg hw, h5⟩
structure TL (w : World) (B : Nat) (gv wv : Value) (gs : List (List Value × List Value)) : Prop where
 g : w.ownsRow B 33 9 gv gs.length (gs.flatMap Prod.fst)
 h : w.ownsRow B 33 9 wv gs.length (gs.flatMap Prod.snd)
 ne : ∀ b, gv.ownBlock = some b → wv.ownBlock ≠ some b
 all : ∀ x ∈ gs, GOk w x
theorem TL.ok {w w' : World} {B : Nat} {gv wv : Value} {gs : List (List Value × List Value)} (h : TL w B gv wv gs) (hk : Ok w w') : TL w' B gv wv gs :=
 ⟨own_ok h.g hk, own_ok h.h hk, h.ne, fun x hx => (h.all x hx).ok hk⟩
theorem infGr : (Tryz.prog.info? 33).map (fun i => (i.zero, i.size, i.bytes)) = some (some (.agg #[.slice none 0 0, .slice none 0 0, .slice none 0 0, .slice none 0 0, .slice none 0 0, .slice none 0 0, .int .i64 0, .int .i64 0, .slice none 0 0]), 9, 184) := by kernel_rfl
structure TM (w : World) (B : Nat) (gv wv : Value) (gs : List (List Value × List Value)) (x : List Value × List Value) : Prop where
 g : w.ownsRow B 33 9 gv (gs.length + 1) (gs.flatMap Prod.fst ++ x.1)
 h : w.ownsRow B 33 9 wv gs.length (gs.flatMap Prod.snd)
 ne : ∀ b, gv.ownBlock = some b → wv.ownBlock ≠ some b
 all : ∀ y ∈ gs, GOk w y
 one : GOk w x
theorem TM.ok {w w' : World} {B : Nat} {gv wv : Value} {gs : List (List Value × List Value)} {x : List Value × List Value} (h : TM w B gv wv gs x) (hk : Ok w w') : TM w' B gv wv gs x :=
 ⟨own_ok h.g hk, own_ok h.h hk, h.ne, fun y hy => (h.all y hy).ok hk, h.one.ok hk⟩
theorem TL.app {w w' : World} {B : Nat} {gv wv v' : Value} {gs : List (List Value × List Value)} {x : List Value × List Value} (h : TL w B gv wv gs) (hx : GOk w x) (k1 : w'.ownsRow B 33 9 v' (gs.length + 1) (gs.flatMap Prod.fst ++ x.1)) (k2 : w.grownBy w' gv.ownBlock) (k4 : v'.ownBlock = gv.ownBlock ∨ v'.ownBlock = some w.heap.size) : TM w' B v' wv gs x := by
 refine ⟨k1, own_same h.h (fun b hb => k2.block b (h.h.lt b hb).2 (fun e1 => h.ne b e1.symm hb)), fun b hb e => ?_, fun y hy => (h.all y hy).grow h.g k2, hx.grow h.g k2⟩
 rcases k4 with e1 | e1
 ·exact h.ne b (e1 ▸ hb) e
 ·have h1 := (h.h.lt b e).2
  rw [e1] at hb
  have := Option.some.inj hb
  omega
theorem TM.app {w w' : World} {B : Nat} {gv wv v' : Value} {gs : List (List Value × List Value)} {x : List Value × List Value} (h : TM w B gv wv gs x) (k1 : w'.ownsRow B 33 9 v' (gs.length + 1) (gs.flatMap Prod.snd ++ x.2)) (k2 : w.grownBy w' wv.ownBlock) (k4 : v'.ownBlock = wv.ownBlock ∨ v'.ownBlock = some w.heap.size) : TL w' B gv v' (gs ++ [x]) := by
 have e1 : (gs ++ [x]).length = gs.length + 1 := by simp
 have e2 : (gs ++ [x]).flatMap Prod.fst = gs.flatMap Prod.fst ++ x.1 := by simp
 have e3 : (gs ++ [x]).flatMap Prod.snd = gs.flatMap Prod.snd ++ x.2 := by simp
 refine ⟨?_, ?_, fun b hb e => ?_, fun y hy => ?_⟩
 ·rw [e1, e2]
  exact own_same h.g (fun b hb => k2.block b (h.g.lt b hb).2 (fun e1 => h.ne b hb e1.symm))
 ·rw [e1, e3]; exact k1
 ·rcases k4 with e4 | e4
  ·exact h.ne b hb (e4 ▸ e)
  ·have h1 := (h.g.lt b hb).2
   rw [e4] at e
   have := Option.some.inj e
   omega
 ·rcases List.mem_append.1 hy with hy | hy
  ·exact (h.all y hy).grow h.h k2
  ·rw [List.mem_singleton] at hy; rw [hy]; exact h.one.grow h.h k2
theorem wpList_append_gr {w : World} {ops : Array Oper} {rest : List Oper} {op : Oper} {a : Act} {Q : Exit → Act → World → Prop} (hgd : op.guard = none) (s x : Operand)
  (ho : op.op = .call { callee := .builtin .append, args := #[s, x], argTypes := #[47, 47] })
  (base : Nat) (sv : Value) (k : Nat) (ys : List Value) (hs : a.eval s = sv) (hown : w.ownsRow base 33 9 sv k ys) (g : Nat) (xs : List Value) (hx : a.eval x = .slice (some ⟨g, 0, none⟩) 1 1) (hg : w.heap[g]? = some (.cells xs.toArray 33 (0, 0))) (hl : xs.length = 1 * 9) (h1 : ∀ u ∈ xs, u.oneCell' = true)
  (hb : k ≤ 1000) (hbase : base ≤ w.heap.size)
  (h : ∀ v' w', w'.ownsRow base 33 9 v' (k + 1) (ys ++ xs) → w.grownBy w' sv.ownBlock → (v'.ownBlock = sv.ownBlock ∨ v'.ownBlock = some w.heap.size) → wpList Tryz.prog ops Q rest (a.put op.dst v') w') : wpList Tryz.prog ops Q (op :: rest) a w := by
 obtain ⟨i, hi, hz, hsi, hby⟩ := info_of infGr
 refine wpList_append_own_at w hgd s x 47 ho base 33 i _ 9 184 Tryz.underlying47 hi hz hsi hby rfl (by decide) sv k ys hs hown ⟨g, 0, none⟩ 1 1 xs hx hl (fun j u hj => ?_) h1 (by unfold maxLen; omega) (by omega) hbase ?_
 ·rw [add_off, Nat.zero_add]
  exact (cell_of_row _ _ j _ _ _ hg).trans (by simpa using hj)
 ·intro v' w' k1 k2 k3 k4
  exact h v' w' k1 k2 k4
theorem flat9 {α : Type} (f : α → List Value) : ∀ (gs : List α), (∀ y ∈ gs, (f y).length = 9) → ∀ (j : Nat) (x : α), gs[j]? = some x → ∀ i, i < 9 → (gs.flatMap f)[j * 9 + i]? = (f x)[i]?
 | [], _, j, x, hx, _, _ => by simp at hx
 | y :: gs, h, 0, x, hx, i, hi => by
  have e : y = x := by simpa using hx
  subst e
  have := h y (by simp)
  rw [List.flatMap_cons, Nat.zero_mul, Nat.zero_add, List.getElem?_append_left (by omega)]
 | y :: gs, h, j + 1, x, hx, i, hi => by
  have h1 := h y (by simp)
  have h2 := flat9 f gs (fun z hz => h z (by simp [hz])) j x (by simpa using hx) i hi
  rw [List.flatMap_cons, List.getElem?_append_right (by omega), h1, ← h2]
  congr 1
  omega
theorem GOk.len {w : World} {x : List Value × List Value} (h : GOk w x) : x.1.length = 9 ∧ x.2.length = 9 := by
 obtain ⟨ns, m, a, b, u, v, ev, fv, rfl, _⟩ := h
 exact ⟨rfl, rfl⟩
theorem row9 {w : World} {B g cap n : Nat} {ys : List Value} (h : w.ownsRow B 33 9 (.slice (some ⟨g, 0, none⟩) n cap) n ys) {k : Nat} {u : Value} (hk : ys[k]? = some u) : w.cell? ⟨g, k, none⟩ = some u := by
 have := h.cells (g := g) rfl k _ hk
 rw [add_off, Nat.zero_add] at this
 exact this
theorem own_SL {w : World} {B : Nat} {ev : Value} {es : List Ed} (h : w.ownsRow B 40 6 ev es.length (edL es)) : SL w 6 ev es.length (edL es) := by
 obtain ⟨ao, cap, rfl⟩ := own_form h
 refine ⟨h.1, edL_one' es, ao, cap, rfl, ?_⟩
 by_cases c : es.length = 0
 ·exact .inl c
 ·right
  obtain ⟨g, cp, e, _⟩ := h.form (by omega)
  injection e with e1 e2 e3
  subst e1
  exact ⟨g, 0, rfl, (h.lt g rfl).2, fun j u hj => by have := h.cells (g := g) rfl j u hj; rw [add_off] at this; exact this⟩
end Go.Proofs.YtbndcaglohfnbaaGreatDoor
namespace Go.Proofs.YtbndcaglohfnbaaGreatDoor
open Go.RowKit
set_option maxRecDepth 100000 in
set_option maxHeartbeats 16000000 in
theorem texts_any (v : Value) (l : List ByteArray) (w : World) (hT : SStr w v l) (hR : RulesIs w) (hS : StepsIs w) :
  Calls Tryz.prog 5 #[v] w fun e w' => e = .returned (.bool true) ∧ Ok w w' := by
 have HR : Hid (RulesIs w) := hR
 have HS : Hid (StepsIs w) := hS
 have HTX : Hid (SStr w v l) := hT
 obtain ⟨hlm, ao, cap, rfl, _⟩ := hT
 clear hR hS
 go_enter Tryz.func5, Tryz.ntmps5
 go_wp2_with fail
 refine (fixed_any w HR.out HS.out).mono ?_
 rintro e w1 ⟨rfl, hk1⟩
 have HK1 : Hid (Ok w w1) := hk1
 clear hk1
 go_wp2_with fail
 go_loopw [3, 4, 5] (fun t3 t4 t5 wr => ∃ (k : Nat) (gv wv : Value) (gs : List (List Value × List Value)), t3 = gv ∧ t4 = wv ∧ t5 = .int .i64 (k : Nat) ∧ k ≤ 20 ∧ Hid (TL wr w1.heap.size gv wv gs ∧ gs.length ≤ k) ∧ Hid (Ok w1 wr)) (fun _ _ t5 _ => 20 - (intOf t5).toNat)
 case atStart => exact ⟨0, .slice none 0 0, .slice none 0 0, [], rfl, rfl, rfl, by omega, ⟨⟨World.ownsRow_nil _ _ _ _, World.ownsRow_nil _ _ _ _, (fun b h => by cases h), (fun x hx => by cases hx)⟩, Nat.le_refl _⟩, Ok.refl _⟩
 case round =>
  obtain ⟨k, gv, wv, gs, rfl, rfl, rfl, hk20, HL, HK⟩ := hrel
  obtain ⟨xo, xc, rfl⟩ := own_form HL.out.1.g
  obtain ⟨yo, yc, rfl⟩ := own_form HL.out.1.h
  obtain ⟨q, hq⟩ : ∃ x, x = gs.length := ⟨_, rfl⟩
  have HQ : Hid (q = gs.length ∧ q ≤ k) := ⟨hq, by rw [hq]; exact HL.out.2⟩
  rw [← hq] at HL ⊢
  clear hq
  by_cases h1 : k < l.length
  ·have h1' : (k : Int) < (l.length : Int) := cast_lt' h1
   have h1d : decide ((k : Int) < (l.length : Int)) = true := decide_eq_true h1'
   by_cases h2 : k < 20
   ·have h2' : (k : Int) < 20 := by omega
    have h2d : decide ((k : Int) < 20) = true := decide_eq_true h2'
    have hkw : IntKind.i64.wrap ((k : Int) + 1) = ((k + 1 : Nat) : Int) := kw_bnd (by omega)
    obtain ⟨_, ao', cap', e1, hN⟩ := (HTX.out.below HK1.out).below HK.out
    injection e1 with e1 e2 e3; clear e2
    subst e1 e3
    obtain ⟨b, o, rfl, N1⟩ := hN.resolve_left (fun e => by rw [e] at h1; simp at h1)
    have c0 := N1.c k h1
    have lb := N1.lt
    generalize l[k] = s at *
    clear N1 hN
    go_wp2_with fail
    refine (lprog_any s wr).mono ?_
    rintro e w2 ⟨ht, hk2⟩
    have HK2 : Hid (Ok wr w2) := hk2
    clear hk2
    rcases ht with ⟨ns, u, t1, rfl, t2, t3⟩ | ⟨t1, rfl⟩
    rotate_left
    ·clear t1
     go_wp2_with fail
     go_roundw
     case rel => exact ⟨k + 1, _, _, gs, rfl, rfl, rfl, h2, ⟨(HL.out.1.ok HK2.out).ok ((Ok.refl _).alloc _), by have := HQ.out; have := HL.out.2; omega⟩, (HK.out.step HK2.out).alloc _⟩
     case measure => simp only [intOf, Int.toNat_natCast]; omega
    obtain ⟨m, hm⟩ : ∃ x, x = (programR ns).2.2 := ⟨_, rfl⟩
    rw [← hm] at t2
    have HU2 : Hid (PrIs w2 0 u ns m) := fun k hk => own_base (t2 k hk) (Nat.zero_le _)
    have HOK : Hid (∀ n ∈ ns, n.Ok) := fun n hn => fit_ok (t3 n hn)
    have HRD : Hid ((readD ns rd0).1 = 0 ∧ m = lsOf (readD ns rd0).2.2) := by
     obtain ⟨P, _, _, _, _, hp⟩ := t1
     have hq := program_eq ns HOK.out
     rw [hq] at hp hm
     exact ⟨hp, hm⟩
    have HPG : Hid (goodD ns m = true) := by
     obtain ⟨P, _, _, _, _, hp⟩ := t1
     unfold Hid; rw [hm]; exact good_own HOK.out hp
    have HTR : Hid (TreeOK ns) := tree_of (read_shape HRD.out.1)
    clear t1 t2 t3 hm c0 lb
    obtain ⟨o0, p0, e0⟩ := own_form (HU2.out 0 (by decide))
    obtain ⟨o1, p1, e1⟩ := own_form (HU2.out 1 (by decide))
    obtain ⟨o2, p2, e2⟩ := own_form (HU2.out 2 (by decide))
    obtain ⟨o3, p3, e3⟩ := own_form (HU2.out 3 (by decide))
    obtain ⟨o4, p4, e4⟩ := own_form (HU2.out 4 (by decide))
    obtain ⟨o5, p5, e5⟩ := own_form (HU2.out 5 (by decide))
    have HP2 : Hid (ProgIs w2 (.slice o0 (nOf ns.length m 0) p0) (.slice o1 (nOf ns.length m 1) p1) (.slice o2 (nOf ns.length m 2) p2) (.slice o3 (nOf ns.length m 3) p3) (.slice o4 (nOf ns.length m 4) p4) (.slice o5 (nOf ns.length m 5) p5) ns m) := by have := HU2.out.prog HOK.out; rw [e0, e1, e2, e3, e4, e5] at this; exact this
    have HUE : Hid (u 0 = .slice o0 (nOf ns.length m 0) p0 ∧ u 1 = .slice o1 (nOf ns.length m 1) p1 ∧ u 2 = .slice o2 (nOf ns.length m 2) p2 ∧ u 3 = .slice o3 (nOf ns.length m 3) p3 ∧ u 4 = .slice o4 (nOf ns.length m 4) p4 ∧ u 5 = .slice o5 (nOf ns.length m 5) p5) := ⟨e0, e1, e2, e3, e4, e5⟩
    rw [e0, e1, e2, e3, e4, e5]
    obtain ⟨n0, hn0⟩ : ∃ x, x = nOf ns.length m 0 := ⟨_, rfl⟩
    obtain ⟨n1, hn1⟩ : ∃ x, x = nOf ns.length m 1 := ⟨_, rfl⟩
    obtain ⟨n2, hn2⟩ : ∃ x, x = nOf ns.length m 2 := ⟨_, rfl⟩
    obtain ⟨n3, hn3⟩ : ∃ x, x = nOf ns.length m 3 := ⟨_, rfl⟩
    obtain ⟨n4, hn4⟩ : ∃ x, x = nOf ns.length m 4 := ⟨_, rfl⟩
    obtain ⟨n5, hn5⟩ : ∃ x, x = nOf ns.length m 5 := ⟨_, rfl⟩
    rw [← hn0, ← hn1, ← hn2, ← hn3, ← hn4, ← hn5] at HP2 HUE ⊢
    have HLB : Hid (ns.length ≤ 300 ∧ m.sc.length ≤ 100000 ∧ m.ar.length ≤ 100000 ∧ m.sy.length ≤ 100000 ∧ m.si.length ≤ 100000 ∧ m.so.length ≤ 100000) := by
     have hl := prog_lens HRD.out.1 HOK.out
     rw [← HRD.out.2] at hl
     obtain ⟨k1, k2, k3, k4, k5, k6⟩ := hl
     have := (readD_len ns HRD.out.1).2
     unfold Hid; omega
    clear e0 e1 e2 e3 e4 e5 hn0 hn1 hn2 hn3 hn4 hn5
    go_wp2_with fail
    obtain ⟨w3, hw3⟩ : ∃ x, x = w2.alloc (Obj.cells #[Value.slice o0 n0 p0, Value.slice o1 n1 p1, Value.slice o2 n2 p2, Value.slice o3 n3 p3, Value.slice o4 n4 p4, Value.slice o5 n5 p5] 28) := ⟨_, rfl⟩
    obtain ⟨gp, hgp⟩ : ∃ x, x = w2.heap.size := ⟨_, rfl⟩
    rw [← hw3, ← hgp]
    have hk3 : Ok w2 w3 := by rw [hw3]; exact (Ok.refl _).alloc _
    have HK3 : Hid (Ok wr w3) := HK2.out.step hk3
    have HU3 : Hid (PrIs w3 0 u ns m) := fun k hk => own_ok (HU2.out k hk) hk3
    have HX3 : Hid (Six w3 gp (.slice o0 n0 p0) (.slice o1 n1 p1) (.slice o2 n2 p2) (.slice o3 n3 p3) (.slice o4 n4 p4) (.slice o5 n5 p5)) := by unfold Hid; rw [hw3, hgp]; exact Six.new _ _ _ _ _ _ _
    have HP3 : Hid (ProgIs w3 (.slice o0 n0 p0) (.slice o1 n1 p1) (.slice o2 n2 p2) (.slice o3 n3 p3) (.slice o4 n4 p4) (.slice o5 n5 p5) ns m) := HP2.out.below hk3
    clear hw3 hgp hk3 HP2 HU2
    refine (copied_any _ _ _ _ _ _ ns m w3 HP3.out (by have := HLB.out; omega)).mono ?_
    rintro e w4 ⟨gq, dq, rfl, hcp, hk4⟩
    have HK4 : Hid (Ok w3 w4) := hk4
    have HCP : Hid (CpIs w4 w3.heap.size gq dq ns m) := hcp
    have HPQ : Hid (ProgIs w4 (cpV ns m gq dq 0) (cpV ns m gq dq 1) (cpV ns m gq dq 2) (cpV ns m gq dq 3) (cpV ns m gq dq 4) (cpV ns m gq dq 5) ns m) := HCP.out.pr.prog HOK.out
    clear hk4 hcp
    generalize cpV ns m gq dq 0 = y0 at *
    generalize cpV ns m gq dq 1 = y1 at *
    generalize cpV ns m gq dq 2 = y2 at *
    generalize cpV ns m gq dq 3 = y3 at *
    generalize cpV ns m gq dq 4 = y4 at *
    generalize cpV ns m gq dq 5 = y5 at *
    clear HCP
    go_wp2_with fail
    have HKA : Hid (Ok w w4) := (HK1.out.step HK.out).step (HK3.out.step HK4.out)
    refine (lower_good _ _ _ _ _ _ ns m w4 (HR.out.below HKA.out) (HS.out.below HKA.out) HPQ.out HPG.out).mono ?_
    rintro e w5 ⟨u2, ev, rfl, hu2, hev, hk5⟩
    have HK5 : Hid (Ok w3 w5) := HK4.out.step hk5
    obtain ⟨N, hN⟩ : ∃ x, x = ptF ns ns.length := ⟨_, rfl⟩
    obtain ⟨L, hL⟩ : ∃ x, x = (elF ns).length := ⟨_, rfl⟩
    have HNL : Hid (N = ptF ns ns.length ∧ L = (elF ns).length ∧ L ≤ 1000000) := ⟨hN, hL, by have h1 := elF_len HTR.out; have h2 := ptF_le ns ns.length; have h3 := HLB.out; omega⟩
    rw [← HRD.out.2] at hu2
    have HEV5 : Hid (w5.ownsRow 0 40 6 ev (elF ns).length (edL (elF ns))) := own_base hev (Nat.zero_le _)
    obtain ⟨eo, ec, rfl⟩ := own_form hev
    have HV5 : Hid (PrIs w5 0 u2 ns m) := fun k hk => own_base (hu2 k hk) (Nat.zero_le _)
    obtain ⟨a0, q0, e0⟩ := own_form (HV5.out 0 (by decide))
    obtain ⟨a1, q1, e1⟩ := own_form (HV5.out 1 (by decide))
    obtain ⟨a2, q2, e2⟩ := own_form (HV5.out 2 (by decide))
    obtain ⟨a3, q3, e3⟩ := own_form (HV5.out 3 (by decide))
    obtain ⟨a4, q4, e4⟩ := own_form (HV5.out 4 (by decide))
    obtain ⟨a5, q5, e5⟩ := own_form (HV5.out 5 (by decide))
    rw [e0, e1, e2, e3, e4, e5]
    have HVE : Hid (u2 0 = .slice a0 (nOf ns.length m 0) q0 ∧ u2 1 = .slice a1 (nOf ns.length m 1) q1 ∧ u2 2 = .slice a2 (nOf ns.length m 2) q2 ∧ u2 3 = .slice a3 (nOf ns.length m 3) q3 ∧ u2 4 = .slice a4 (nOf ns.length m 4) q4 ∧ u2 5 = .slice a5 (nOf ns.length m 5) q5) := ⟨e0, e1, e2, e3, e4, e5⟩
    obtain ⟨m0, hm0⟩ : ∃ x, x = nOf ns.length m 0 := ⟨_, rfl⟩
    obtain ⟨m1, hm1⟩ : ∃ x, x = nOf ns.length m 1 := ⟨_, rfl⟩
    obtain ⟨m2, hm2⟩ : ∃ x, x = nOf ns.length m 2 := ⟨_, rfl⟩
    obtain ⟨m3, hm3⟩ : ∃ x, x = nOf ns.length m 3 := ⟨_, rfl⟩
    obtain ⟨m4, hm4⟩ : ∃ x, x = nOf ns.length m 4 := ⟨_, rfl⟩
    obtain ⟨m5, hm5⟩ : ∃ x, x = nOf ns.length m 5 := ⟨_, rfl⟩
    rw [← hm0, ← hm1, ← hm2, ← hm3, ← hm4, ← hm5] at HVE ⊢
    rw [← hN, ← hL]
    rw [← hL] at HEV5
    clear hk5 hu2 hev e0 e1 e2 e3 e4 e5 hm0 hm1 hm2 hm3 hm4 hm5 hN hL HPQ
    obtain ⟨z1, c0, c1, c2, c3, c4, c5⟩ := (HX3.out.below HK5.out).pc
    go_wp2_with fail
    obtain ⟨gg, hgg⟩ : ∃ x, x = w5.heap.size := ⟨_, rfl⟩
    obtain ⟨w6, hw6⟩ : ∃ x, x = w5.alloc (Obj.cells #[Value.slice a0 m0 q0, Value.slice a1 m1 q1, Value.slice a2 m2 q2, Value.slice a3 m3 q3, Value.slice a4 m4 q4, Value.slice a5 m5 q5, Value.int IntKind.i64 ((N : Int) + 1), Value.int IntKind.i64 (N : Nat), Value.slice eo L ec] 33) := ⟨_, rfl⟩
    rw [← hgg, ← hw6]
    have hk6 : Ok w5 w6 := by rw [hw6]; exact (Ok.refl _).alloc _
    have HG6 : Hid (w6.heap[gg]? = some (.cells #[Value.slice a0 m0 q0, Value.slice a1 m1 q1, Value.slice a2 m2 q2, Value.slice a3 m3 q3, Value.slice a4 m4 q4, Value.slice a5 m5 q5, Value.int IntKind.i64 ((N : Int) + 1), Value.int IntKind.i64 (N : Nat), Value.slice eo L ec] 33 (0, 0))) := by unfold Hid; rw [hw6, hgg]; exact heap_new0 _ _
    have HK6 : Hid (Ok w3 w6) := HK5.out.step hk6
    have HEV6 : Hid _ := own_ok HEV5.out hk6
    have HV6 : Hid (PrIs w6 0 u2 ns m) := fun k hk => own_ok (HV5.out k hk) hk6
    clear hgg hw6 hk6 HEV5 HV5 z1 c0 c1 c2 c3 c4 c5
    refine (rlower_good _ _ _ _ _ _ ns m w6 (HP3.out.below HK6.out) HPG.out).mono ?_
    rintro e w7 ⟨fv, rfl, hfv, hk7⟩
    have HK7 : Hid (Ok w3 w7) := HK6.out.step hk7
    have HG7 : Hid _ := Ok.row' hk7 HG6.out
    have HEV7 : Hid _ := own_ok HEV6.out hk7
    have HFV7 : Hid (w7.ownsRow 0 40 6 fv (elF ns).length (edL (elF ns))) := own_base hfv (Nat.zero_le _)
    have HV7 : Hid (PrIs w7 0 u2 ns m) := fun k hk => own_ok (HV6.out k hk) hk7
    have HU7 : Hid (PrIs w7 0 u ns m) := fun k hk => own_ok (HU3.out k hk) HK7.out
    obtain ⟨fo, fc, rfl⟩ := own_form hfv
    rw [← HNL.out.1, ← HNL.out.2.1]
    rw [← HNL.out.2.1] at HFV7
    have HGO : Hid (GOk w7 ([Value.slice a0 m0 q0, Value.slice a1 m1 q1, Value.slice a2 m2 q2, Value.slice a3 m3 q3, Value.slice a4 m4 q4, Value.slice a5 m5 q5, .int .i64 ((N : Int) + 1), .int .i64 (N : Nat), .slice eo L ec], [Value.slice o0 n0 p0, Value.slice o1 n1 p1, Value.slice o2 n2 p2, Value.slice o3 n3 p3, Value.slice o4 n4 p4, Value.slice o5 n5 p5, .int .i64 ((N : Int) + 1), .int .i64 (N : Nat), .slice fo L fc])) := by
     obtain ⟨f0, f1, f2, f3, f4, f5⟩ := HUE.out
     obtain ⟨g0, g1, g2, g3, g4, g5⟩ := HVE.out
     refine ⟨ns, m, (N : Int) + 1, (N : Nat), u2, u, .slice eo L ec, .slice fo L fc, ?_, HV7.out, HU7.out, ?_, ?_, HOK.out, by have := HNL.out; omega⟩
     ·rw [f0, f1, f2, f3, f4, f5, g0, g1, g2, g3, g4, g5]
     ·rw [← HNL.out.2.1]; exact HEV7.out
     ·rw [← HNL.out.2.1]; exact HFV7.out
    clear hk7 hfv HV6 HU3 HEV6 HG6 HFV7 HEV7 HV7 HU7 HUE HVE HX3 HP3
    have r0 : w7.cell? ⟨gg, 0, none⟩ = some (.slice a0 m0 q0) := (cell_of_row _ _ 0 _ _ _ HG7.out).trans (by simp)
    have r1 : w7.cell? ⟨gg, 1, none⟩ = some (.slice a1 m1 q1) := (cell_of_row _ _ 1 _ _ _ HG7.out).trans (by simp)
    have r2 : w7.cell? ⟨gg, 2, none⟩ = some (.slice a2 m2 q2) := (cell_of_row _ _ 2 _ _ _ HG7.out).trans (by simp)
    have r3 : w7.cell? ⟨gg, 3, none⟩ = some (.slice a3 m3 q3) := (cell_of_row _ _ 3 _ _ _ HG7.out).trans (by simp)
    have r4 : w7.cell? ⟨gg, 4, none⟩ = some (.slice a4 m4 q4) := (cell_of_row _ _ 4 _ _ _ HG7.out).trans (by simp)
    have r5 : w7.cell? ⟨gg, 5, none⟩ = some (.slice a5 m5 q5) := (cell_of_row _ _ 5 _ _ _ HG7.out).trans (by simp)
    have r6 : w7.cell? ⟨gg, 6, none⟩ = some (.int .i64 ((N : Int) + 1)) := (cell_of_row _ _ 6 _ _ _ HG7.out).trans (by simp)
    have r7 : w7.cell? ⟨gg, 7, none⟩ = some (.int .i64 (N : Nat)) := (cell_of_row _ _ 7 _ _ _ HG7.out).trans (by simp)
    have r8 : w7.cell? ⟨gg, 8, none⟩ = some (.slice eo L ec) := (cell_of_row _ _ 8 _ _ _ HG7.out).trans (by simp)
    have lgg := lt_row HG7.out
    have HWR : Hid (Ok wr w7) := HK3.out.step HK7.out
    have HL7 : Hid (TL w7 w1.heap.size (.slice xo q xc) (.slice yo q yc) gs) := HL.out.1.ok HWR.out
    have HZ7 : Hid (wr.heap.size ≤ w7.heap.size ∧ w1.heap.size ≤ wr.heap.size) := ⟨HWR.out.le, HK.out.le⟩
    have HQ9 : Hid (q = gs.length ∧ q ≤ 1000) := ⟨HQ.out.1, by have := HQ.out; omega⟩
    have HOG : Hid (w7.ownsRow w1.heap.size 33 9 (.slice xo q xc) q (gs.flatMap Prod.fst)) := by unfold Hid; have := HL7.out.g; rw [← HQ9.out.1] at this; exact this
    have HOX : Hid (∀ b, (Value.slice xo q xc).ownBlock = some b → w1.heap.size ≤ b ∧ b < wr.heap.size) := fun b e => HL.out.1.g.lt b e
    go_wp2_with (first
     | (at_builtin; refine wpList_append_gr rfl _ _ (by rfl) w1.heap.size (.slice xo q xc) q (gs.flatMap Prod.fst) (by rfl) (World.ownsRow.alloc (World.ownsRow.alloc HOG.out _) _) (w7.heap.size + 1) [Value.slice a0 m0 q0, Value.slice a1 m1 q1, Value.slice a2 m2 q2, Value.slice a3 m3 q3, Value.slice a4 m4 q4, Value.slice a5 m5 q5, Value.int IntKind.i64 ((N : Int) + 1), Value.int IntKind.i64 (N : Nat), Value.slice eo L ec] (by rfl) (by exact heap_at _ _ _ (by simp)) (by rfl) (by simp [Value.oneCell']) HQ9.out.2 (by have := HZ7.out; simp; omega) ?_; intro v9 w9 k1 k2 k4; have HTM : Hid (TM w9 w1.heap.size v9 (.slice yo q yc) gs ([Value.slice a0 m0 q0, Value.slice a1 m1 q1, Value.slice a2 m2 q2, Value.slice a3 m3 q3, Value.slice a4 m4 q4, Value.slice a5 m5 q5, Value.int IntKind.i64 ((N : Int) + 1), Value.int IntKind.i64 (N : Nat), Value.slice eo L ec], [Value.slice o0 n0 p0, Value.slice o1 n1 p1, Value.slice o2 n2 p2, Value.slice o3 n3 p3, Value.slice o4 n4 p4, Value.slice o5 n5 p5, Value.int IntKind.i64 ((N : Int) + 1), Value.int IntKind.i64 (N : Nat), Value.slice fo L fc])) := TL.app (HL7.out.ok (((Ok.refl _).alloc _).alloc _)) (HGO.out.ok (((Ok.refl _).alloc _).alloc _)) (by rw [← HQ9.out.1]; exact k1) k2 k4; have HR9 : Hid (Ok w1 w9) := Ok.grown (((HK.out.step HWR.out).alloc _).alloc _) k2 (fun b e => (HOX.out b e).1); have HH9 : Hid (w9.heap[w7.heap.size]? = some (.cells #[Value.slice o0 n0 p0, Value.slice o1 n1 p1, Value.slice o2 n2 p2, Value.slice o3 n3 p3, Value.slice o4 n4 p4, Value.slice o5 n5 p5, Value.int IntKind.i64 ((N : Int) + 1), Value.int IntKind.i64 (N : Nat), Value.slice fo L fc] 33 (0, 0))) := (k2.block w7.heap.size (by simp; omega) (fun e => by have h1 := (HOX.out _ e.symm).2; have h2 := HZ7.out; omega)).trans (Ok.row' ((Ok.refl _).alloc _) (heap_new0 _ _)); obtain ⟨vo, vc, rfl⟩ := own_form k1; clear k1 k2 k4 r0 r1 r2 r3 r4 r5 r6 r7 r8 lgg; have r0 : w9.cell? ⟨w7.heap.size, 0, none⟩ = some (.slice o0 n0 p0) := (cell_of_row _ _ 0 _ _ _ HH9.out).trans (by simp); have r1 : w9.cell? ⟨w7.heap.size, 1, none⟩ = some (.slice o1 n1 p1) := (cell_of_row _ _ 1 _ _ _ HH9.out).trans (by simp); have r2 : w9.cell? ⟨w7.heap.size, 2, none⟩ = some (.slice o2 n2 p2) := (cell_of_row _ _ 2 _ _ _ HH9.out).trans (by simp); have r3 : w9.cell? ⟨w7.heap.size, 3, none⟩ = some (.slice o3 n3 p3) := (cell_of_row _ _ 3 _ _ _ HH9.out).trans (by simp); have r4 : w9.cell? ⟨w7.heap.size, 4, none⟩ = some (.slice o4 n4 p4) := (cell_of_row _ _ 4 _ _ _ HH9.out).trans (by simp); have r5 : w9.cell? ⟨w7.heap.size, 5, none⟩ = some (.slice o5 n5 p5) := (cell_of_row _ _ 5 _ _ _ HH9.out).trans (by simp); have r6 : w9.cell? ⟨w7.heap.size, 6, none⟩ = some (.int .i64 ((N : Int) + 1)) := (cell_of_row _ _ 6 _ _ _ HH9.out).trans (by simp); have r7 : w9.cell? ⟨w7.heap.size, 7, none⟩ = some (.int .i64 (N : Nat)) := (cell_of_row _ _ 7 _ _ _ HH9.out).trans (by simp); have r8 : w9.cell? ⟨w7.heap.size, 8, none⟩ = some (.slice fo L fc) := (cell_of_row _ _ 8 _ _ _ HH9.out).trans (by simp); have lgg := lt_row HH9.out; have HOH : Hid (w9.ownsRow w1.heap.size 33 9 (.slice yo q yc) q (gs.flatMap Prod.snd)) := (by unfold Hid; have := HTM.out.h; rw [← HQ9.out.1] at this; exact this); have HZ9 : Hid (w1.heap.size ≤ w9.heap.size) := HR9.out.le)
     | (at_builtin; refine wpList_append_gr rfl _ _ (by rfl) w1.heap.size (.slice yo q yc) q (gs.flatMap Prod.snd) (by rfl) (World.ownsRow.alloc HOH.out _) w9.heap.size [Value.slice o0 n0 p0, Value.slice o1 n1 p1, Value.slice o2 n2 p2, Value.slice o3 n3 p3, Value.slice o4 n4 p4, Value.slice o5 n5 p5, Value.int IntKind.i64 ((N : Int) + 1), Value.int IntKind.i64 (N : Nat), Value.slice fo L fc] (by rfl) (by exact heap_new0 _ _) (by rfl) (by simp [Value.oneCell']) HQ9.out.2 (by have := HZ9.out; simp; omega) ?_; intro v10 w10 k1 k2 k4; have HTN : Hid (TL w10 w1.heap.size (.slice vo (q + 1) vc) v10 (gs ++ [([Value.slice a0 m0 q0, Value.slice a1 m1 q1, Value.slice a2 m2 q2, Value.slice a3 m3 q3, Value.slice a4 m4 q4, Value.slice a5 m5 q5, Value.int IntKind.i64 ((N : Int) + 1), Value.int IntKind.i64 (N : Nat), Value.slice eo L ec], [Value.slice o0 n0 p0, Value.slice o1 n1 p1, Value.slice o2 n2 p2, Value.slice o3 n3 p3, Value.slice o4 n4 p4, Value.slice o5 n5 p5, Value.int IntKind.i64 ((N : Int) + 1), Value.int IntKind.i64 (N : Nat), Value.slice fo L fc])])) := TM.app (HTM.out.ok ((Ok.refl _).alloc _)) (by rw [← HQ9.out.1]; exact k1) k2 k4; have HRX : Hid (Ok w1 w10) := Ok.grown (HR9.out.alloc _) k2 (fun b e => (HOH.out.lt b e).1); clear k1 k2 k4 r0 r1 r2 r3 r4 r5 r6 r7 r8 lgg)
     | fail)
    go_roundw
    case rel => exact ⟨k + 1, _, _, _, rfl, rfl, rfl, h2, ⟨HTN.out, by have := HQ.out; rw [List.length_append]; simp only [List.length_cons, List.length_nil]; omega⟩, HRX.out⟩
    case measure => simp only [intOf, Int.toNat_natCast]; omega
   ·have h2' : ¬ (k : Int) < 20 := by omega
    have h2d : decide ((k : Int) < 20) = false := decide_eq_false h2'
    go_wp2_with fail
    obtain ⟨W, hW⟩ : ∃ x, x = wr := ⟨_, rfl⟩
    subst hW
    go_loopw [12] (fun t w' => ∃ j : Nat, t = .int .i64 (j : Nat) ∧ j ≤ q ∧ Hid (Ok W w')) (fun t _ => q - (intOf t).toNat)
    case atStart => exact ⟨0, rfl, Nat.zero_le _, Ok.refl _⟩
    case round =>
     obtain ⟨j, rfl, hj, HJ⟩ := hrel
     by_cases hjq : j < q
     ·have hjq' : (j : Int) < (q : Int) := cast_lt' hjq
      have hjw : IntKind.i64.wrap ((j : Int) + 1) = ((j + 1 : Nat) : Int) := kw_bnd (by have := HQ.out; omega)
      obtain ⟨x, hx⟩ : ∃ x, gs[j]? = some x := ⟨_, List.getElem?_eq_getElem (by have := HQ.out; omega)⟩
      have hTL := HL.out.1.ok HJ.out
      have hA := hTL.all x (List.mem_of_getElem? hx)
      have f1 := flat9 Prod.fst gs (fun y hy => (hTL.all y hy).len.1) j x hx
      have f2 := flat9 Prod.snd gs (fun y hy => (hTL.all y hy).len.2) j x hx
      obtain ⟨g1, d1, e1, _⟩ := hTL.g.form (by have := HQ.out; omega)
      injection e1 with e1 e2 e3; clear e2 e3
      subst e1
      obtain ⟨g2, d2, e1, _⟩ := hTL.h.form (by have := HQ.out; omega)
      injection e1 with e1 e2 e3; clear e2 e3
      subst e1
      have HTL : Hid (∀ X, Ok wr X → TL X w1.heap.size (.slice (some ⟨g1, 0, none⟩) gs.length xc) (.slice (some ⟨g2, 0, none⟩) gs.length yc) gs) := fun X hX => by have := hTL.ok hX; rw [HQ.out.1] at this; exact this
      have l1 := (hTL.g.lt g1 rfl).2
      have l2 := (hTL.h.lt g2 rfl).2
      obtain ⟨ns, m, a, b, u, v, ev, fv, rfl, P1, P2, E1, E2, hok, hel⟩ := hA
      have HGO : Hid (PrIs wr 0 u ns m ∧ PrIs wr 0 v ns m ∧ wr.ownsRow 0 40 6 ev (elF ns).length (edL (elF ns)) ∧ wr.ownsRow 0 40 6 fv (elF ns).length (edL (elF ns)) ∧ (∀ n ∈ ns, n.Ok) ∧ (elF ns).length ≤ 1000000) := ⟨P1, P2, E1, E2, hok, hel⟩
      have HSS : Hid (∀ X, Ok wr X → X.cell? ⟨g1, j * 9, none⟩ = some (u 0) ∧ X.cell? ⟨g1, j * 9 + 1, none⟩ = some (u 1) ∧ X.cell? ⟨g1, j * 9 + 2, none⟩ = some (u 2) ∧ X.cell? ⟨g1, j * 9 + 3, none⟩ = some (u 3) ∧ X.cell? ⟨g1, j * 9 + 4, none⟩ = some (u 4) ∧ X.cell? ⟨g1, j * 9 + 5, none⟩ = some (u 5) ∧ X.cell? ⟨g1, j * 9 + 6, none⟩ = some (.int .i64 a) ∧ X.cell? ⟨g1, j * 9 + 7, none⟩ = some (.int .i64 b) ∧ X.cell? ⟨g1, j * 9 + 8, none⟩ = some (ev) ∧ X.cell? ⟨g2, j * 9, none⟩ = some (v 0) ∧ X.cell? ⟨g2, j * 9 + 1, none⟩ = some (v 1) ∧ X.cell? ⟨g2, j * 9 + 2, none⟩ = some (v 2) ∧ X.cell? ⟨g2, j * 9 + 3, none⟩ = some (v 3) ∧ X.cell? ⟨g2, j * 9 + 4, none⟩ = some (v 4) ∧ X.cell? ⟨g2, j * 9 + 5, none⟩ = some (v 5) ∧ X.cell? ⟨g2, j * 9 + 6, none⟩ = some (.int .i64 a) ∧ X.cell? ⟨g2, j * 9 + 7, none⟩ = some (.int .i64 b) ∧ X.cell? ⟨g2, j * 9 + 8, none⟩ = some (fv)) := fun X hX => ⟨row9 (HTL.out X hX).g (f1 0 (by decide)), row9 (HTL.out X hX).g (f1 1 (by decide)), row9 (HTL.out X hX).g (f1 2 (by decide)), row9 (HTL.out X hX).g (f1 3 (by decide)), row9 (HTL.out X hX).g (f1 4 (by decide)), row9 (HTL.out X hX).g (f1 5 (by decide)), row9 (HTL.out X hX).g (f1 6 (by decide)), row9 (HTL.out X hX).g (f1 7 (by decide)), row9 (HTL.out X hX).g (f1 8 (by decide)), row9 (HTL.out X hX).h (f2 0 (by decide)), row9 (HTL.out X hX).h (f2 1 (by decide)), row9 (HTL.out X hX).h (f2 2 (by decide)), row9 (HTL.out X hX).h (f2 3 (by decide)), row9 (HTL.out X hX).h (f2 4 (by decide)), row9 (HTL.out X hX).h (f2 5 (by decide)), row9 (HTL.out X hX).h (f2 6 (by decide)), row9 (HTL.out X hX).h (f2 7 (by decide)), row9 (HTL.out X hX).h (f2 8 (by decide))⟩
      have K0 := HSS.out wr.drew (Below.drew (Ok.refl _))
      clear P1 P2 E1 E2 hok hel f1 f2 hTL hx
      go_wp2_with fail
      go_region_held3 (fun w' => w'.cell? ⟨g1, j * 9, none⟩ = some (u 0) ∧ w'.cell? ⟨g1, j * 9 + 1, none⟩ = some (u 1) ∧ w'.cell? ⟨g1, j * 9 + 2, none⟩ = some (u 2) ∧ w'.cell? ⟨g1, j * 9 + 3, none⟩ = some (u 3) ∧ w'.cell? ⟨g1, j * 9 + 4, none⟩ = some (u 4) ∧ w'.cell? ⟨g1, j * 9 + 5, none⟩ = some (u 5) ∧ w'.cell? ⟨g1, j * 9 + 6, none⟩ = some (.int .i64 a) ∧ w'.cell? ⟨g1, j * 9 + 7, none⟩ = some (.int .i64 b) ∧ w'.cell? ⟨g1, j * 9 + 8, none⟩ = some (ev) ∧ w'.cell? ⟨g2, j * 9, none⟩ = some (v 0) ∧ w'.cell? ⟨g2, j * 9 + 1, none⟩ = some (v 1) ∧ w'.cell? ⟨g2, j * 9 + 2, none⟩ = some (v 2) ∧ w'.cell? ⟨g2, j * 9 + 3, none⟩ = some (v 3) ∧ w'.cell? ⟨g2, j * 9 + 4, none⟩ = some (v 4) ∧ w'.cell? ⟨g2, j * 9 + 5, none⟩ = some (v 5) ∧ w'.cell? ⟨g2, j * 9 + 6, none⟩ = some (.int .i64 a) ∧ w'.cell? ⟨g2, j * 9 + 7, none⟩ = some (.int .i64 b) ∧ w'.cell? ⟨g2, j * 9 + 8, none⟩ = some (fv))
       (first | (with_reducible exact d01) | (with_reducible exact K0) | go_keep)
       (first
       | (go_at_call 17; refine (Calls.mono (same_ok _ _ _ _ _ _ _ _ _ _ _ _ _ _ _ _ ns m m (elF ns) _ ((HGO.out.1.prog HGO.out.2.2.2.2.1).below (Below.drew (Ok.refl _))) ((HGO.out.2.1.prog HGO.out.2.2.2.2.1).below (Below.drew (Ok.refl _))) (sameLs_refl m) ((own_SL HGO.out.2.2.1).below (Below.drew (Ok.refl _))) ((own_SL HGO.out.2.2.2.1).below (Below.drew (Ok.refl _))) HGO.out.2.2.2.2.2) ?_); rintro e w5 ⟨rfl, hk5⟩; have HK5 : Hid (Ok wr w5) := Ok.step (by repeat (first | exact Ok.refl _ | refine Below.drew ?_)) hk5; have d01 := HSS.out w5 HK5.out; clear hk5)
       | fail)
      go_wp2_with fail
      go_roundw
      case rel => exact ⟨j + 1, rfl, hjq, HJ.out.step HK5.out⟩
      case measure => simp only [intOf, Int.toNat_natCast]; omega
     ·have hjq' : ¬ (j : Int) < (q : Int) := cast_nlt hjq
      go_wp2_with fail
      go_ret
      exact ⟨rfl, HK1.out.step (HK.out.step HJ.out)⟩
  ·have h1' : ¬ (k : Int) < (l.length : Int) := cast_nlt h1
   have h1d : decide ((k : Int) < (l.length : Int)) = false := decide_eq_false h1'
   by_cases h2 : k < 20
   all_goals
    go_wp2_with fail
    obtain ⟨W, hW⟩ : ∃ x, x = wr := ⟨_, rfl⟩
    subst hW
    go_loopw [12] (fun t w' => ∃ j : Nat, t = .int .i64 (j : Nat) ∧ j ≤ q ∧ Hid (Ok W w')) (fun t _ => q - (intOf t).toNat)
    case atStart => exact ⟨0, rfl, Nat.zero_le _, Ok.refl _⟩
    case round =>
     obtain ⟨j, rfl, hj, HJ⟩ := hrel
     by_cases hjq : j < q
     ·have hjq' : (j : Int) < (q : Int) := cast_lt' hjq
      have hjw : IntKind.i64.wrap ((j : Int) + 1) = ((j + 1 : Nat) : Int) := kw_bnd (by have := HQ.out; omega)
      obtain ⟨x, hx⟩ : ∃ x, gs[j]? = some x := ⟨_, List.getElem?_eq_getElem (by have := HQ.out; omega)⟩
      have hTL := HL.out.1.ok HJ.out
      have hA := hTL.all x (List.mem_of_getElem? hx)
      have f1 := flat9 Prod.fst gs (fun y hy => (hTL.all y hy).len.1) j x hx
      have f2 := flat9 Prod.snd gs (fun y hy => (hTL.all y hy).len.2) j x hx
      obtain ⟨g1, d1, e1, _⟩ := hTL.g.form (by have := HQ.out; omega)
      injection e1 with e1 e2 e3; clear e2 e3
      subst e1
      obtain ⟨g2, d2, e1, _⟩ := hTL.h.form (by have := HQ.out; omega)
      injection e1 with e1 e2 e3; clear e2 e3
      subst e1
      have HTL : Hid (∀ X, Ok wr X → TL X w1.heap.size (.slice (some ⟨g1, 0, none⟩) gs.length xc) (.slice (some ⟨g2, 0, none⟩) gs.length yc) gs) := fun X hX => by have := hTL.ok hX; rw [HQ.out.1] at this; exact this
      have l1 := (hTL.g.lt g1 rfl).2
      have l2 := (hTL.h.lt g2 rfl).2
      obtain ⟨ns, m, a, b, u, v, ev, fv, rfl, P1, P2, E1, E2, hok, hel⟩ := hA
      have HGO : Hid (PrIs wr 0 u ns m ∧ PrIs wr 0 v ns m ∧ wr.ownsRow 0 40 6 ev (elF ns).length (edL (elF ns)) ∧ wr.ownsRow 0 40 6 fv (elF ns).length (edL (elF ns)) ∧ (∀ n ∈ ns, n.Ok) ∧ (elF ns).length ≤ 1000000) := ⟨P1, P2, E1, E2, hok, hel⟩
      have HSS : Hid (∀ X, Ok wr X → X.cell? ⟨g1, j * 9, none⟩ = some (u 0) ∧ X.cell? ⟨g1, j * 9 + 1, none⟩ = some (u 1) ∧ X.cell? ⟨g1, j * 9 + 2, none⟩ = some (u 2) ∧ X.cell? ⟨g1, j * 9 + 3, none⟩ = some (u 3) ∧ X.cell? ⟨g1, j * 9 + 4, none⟩ = some (u 4) ∧ X.cell? ⟨g1, j * 9 + 5, none⟩ = some (u 5) ∧ X.cell? ⟨g1, j * 9 + 6, none⟩ = some (.int .i64 a) ∧ X.cell? ⟨g1, j * 9 + 7, none⟩ = some (.int .i64 b) ∧ X.cell? ⟨g1, j * 9 + 8, none⟩ = some (ev) ∧ X.cell? ⟨g2, j * 9, none⟩ = some (v 0) ∧ X.cell? ⟨g2, j * 9 + 1, none⟩ = some (v 1) ∧ X.cell? ⟨g2, j * 9 + 2, none⟩ = some (v 2) ∧ X.cell? ⟨g2, j * 9 + 3, none⟩ = some (v 3) ∧ X.cell? ⟨g2, j * 9 + 4, none⟩ = some (v 4) ∧ X.cell? ⟨g2, j * 9 + 5, none⟩ = some (v 5) ∧ X.cell? ⟨g2, j * 9 + 6, none⟩ = some (.int .i64 a) ∧ X.cell? ⟨g2, j * 9 + 7, none⟩ = some (.int .i64 b) ∧ X.cell? ⟨g2, j * 9 + 8, none⟩ = some (fv)) := fun X hX => ⟨row9 (HTL.out X hX).g (f1 0 (by decide)), row9 (HTL.out X hX).g (f1 1 (by decide)), row9 (HTL.out X hX).g (f1 2 (by decide)), row9 (HTL.out X hX).g (f1 3 (by decide)), row9 (HTL.out X hX).g (f1 4 (by decide)), row9 (HTL.out X hX).g (f1 5 (by decide)), row9 (HTL.out X hX).g (f1 6 (by decide)), row9 (HTL.out X hX).g (f1 7 (by decide)), row9 (HTL.out X hX).g (f1 8 (by decide)), row9 (HTL.out X hX).h (f2 0 (by decide)), row9 (HTL.out X hX).h (f2 1 (by decide)), row9 (HTL.out X hX).h (f2 2 (by decide)), row9 (HTL.out X hX).h (f2 3 (by decide)), row9 (HTL.out X hX).h (f2 4 (by decide)), row9 (HTL.out X hX).h (f2 5 (by decide)), row9 (HTL.out X hX).h (f2 6 (by decide)), row9 (HTL.out X hX).h (f2 7 (by decide)), row9 (HTL.out X hX).h (f2 8 (by decide))⟩
      have K0 := HSS.out wr.drew (Below.drew (Ok.refl _))
      clear P1 P2 E1 E2 hok hel f1 f2 hTL hx
      go_wp2_with fail
      go_region_held3 (fun w' => w'.cell? ⟨g1, j * 9, none⟩ = some (u 0) ∧ w'.cell? ⟨g1, j * 9 + 1, none⟩ = some (u 1) ∧ w'.cell? ⟨g1, j * 9 + 2, none⟩ = some (u 2) ∧ w'.cell? ⟨g1, j * 9 + 3, none⟩ = some (u 3) ∧ w'.cell? ⟨g1, j * 9 + 4, none⟩ = some (u 4) ∧ w'.cell? ⟨g1, j * 9 + 5, none⟩ = some (u 5) ∧ w'.cell? ⟨g1, j * 9 + 6, none⟩ = some (.int .i64 a) ∧ w'.cell? ⟨g1, j * 9 + 7, none⟩ = some (.int .i64 b) ∧ w'.cell? ⟨g1, j * 9 + 8, none⟩ = some (ev) ∧ w'.cell? ⟨g2, j * 9, none⟩ = some (v 0) ∧ w'.cell? ⟨g2, j * 9 + 1, none⟩ = some (v 1) ∧ w'.cell? ⟨g2, j * 9 + 2, none⟩ = some (v 2) ∧ w'.cell? ⟨g2, j * 9 + 3, none⟩ = some (v 3) ∧ w'.cell? ⟨g2, j * 9 + 4, none⟩ = some (v 4) ∧ w'.cell? ⟨g2, j * 9 + 5, none⟩ = some (v 5) ∧ w'.cell? ⟨g2, j * 9 + 6, none⟩ = some (.int .i64 a) ∧ w'.cell? ⟨g2, j * 9 + 7, none⟩ = some (.int .i64 b) ∧ w'.cell? ⟨g2, j * 9 + 8, none⟩ = some (fv))
       (first | (with_reducible exact d01) | (with_reducible exact K0) | go_keep)
       (first
       | (go_at_call 17; refine (Calls.mono (same_ok _ _ _ _ _ _ _ _ _ _ _ _ _ _ _ _ ns m m (elF ns) _ ((HGO.out.1.prog HGO.out.2.2.2.2.1).below (Below.drew (Ok.refl _))) ((HGO.out.2.1.prog HGO.out.2.2.2.2.1).below (Below.drew (Ok.refl _))) (sameLs_refl m) ((own_SL HGO.out.2.2.1).below (Below.drew (Ok.refl _))) ((own_SL HGO.out.2.2.2.1).below (Below.drew (Ok.refl _))) HGO.out.2.2.2.2.2) ?_); rintro e w5 ⟨rfl, hk5⟩; have HK5 : Hid (Ok wr w5) := Ok.step (by repeat (first | exact Ok.refl _ | refine Below.drew ?_)) hk5; have d01 := HSS.out w5 HK5.out; clear hk5)
       | fail)
      go_wp2_with fail
      go_roundw
      case rel => exact ⟨j + 1, rfl, hjq, HJ.out.step HK5.out⟩
      case measure => simp only [intOf, Int.toNat_natCast]; omega
     ·have hjq' : ¬ (j : Int) < (q : Int) := cast_nlt hjq
      go_wp2_with fail
      go_ret
      exact ⟨rfl, HK1.out.step (HK.out.step HJ.out)⟩
end Go.Proofs.YtbndcaglohfnbaaGreatDoor

