import Derived.Test.YtklkpaekdpaloaaDoorKPk
import Derived.Test.YtklkpaekdpaloaaDoorKPk0
set_option linter.unusedVariables false
set_option linter.unusedSimpArgs false
set_option linter.unnecessarySimpa false
namespace Go.Proofs.YtklkpaekdpaloaaDoor
section
open Go.RowKit
theorem SInt.sl {w : World} {v : Value} {l : List Int} (h : SInt w v l) : SL w 1 v l.length (l.map fun s => .int .i64 s) := by
 obtain ⟨_, ao, cap, rfl, h1⟩ := h
 refine ⟨by simp, by simp [Value.oneCell'], ao, cap, rfl, ?_⟩
 rcases h1 with rfl | ⟨b, o, rfl, hc⟩
 ·exact .inl rfl
 ·refine .inr ⟨b, o, rfl, hc.lt, fun j u hj => ?_⟩
  rw [List.getElem?_map] at hj
  cases e : l[j]? with
  | none => rw [e] at hj; cases hj
  | some x =>
   rw [e] at hj
   obtain ⟨hl, e2⟩ := List.getElem?_eq_some_iff.1 e
   rw [hc.c j hl, e2]; exact hj
theorem SStr.sl {w : World} {v : Value} {l : List ByteArray} (h : SStr w v l) : SL w 1 v l.length (l.map fun s => .string s) := by
 obtain ⟨_, ao, cap, rfl, h1⟩ := h
 refine ⟨by simp, by simp [Value.oneCell'], ao, cap, rfl, ?_⟩
 rcases h1 with rfl | ⟨b, o, rfl, hc⟩
 ·exact .inl rfl
 ·refine .inr ⟨b, o, rfl, hc.lt, fun j u hj => ?_⟩
  rw [List.getElem?_map] at hj
  cases e : l[j]? with
  | none => rw [e] at hj; cases hj
  | some x =>
   rw [e] at hj
   obtain ⟨hl, e2⟩ := List.getElem?_eq_some_iff.1 e
   rw [hc.c j hl, e2]; exact hj
theorem arr_len (l : List (ByteArray × Int)) : (l.flatMap fun a => [Value.string a.1, .int .i64 a.2]).length = l.length * 2 := by
 induction l with
 | nil => rfl
 | cons a l ih => rw [List.flatMap_cons, List.length_append, ih, List.length_cons]; simp; omega
theorem arr_cell {w : World} {b o : Nat} {l : List (ByteArray × Int)} (hc : ArsAt w b o l) (j : Nat) (u : Value) (hj : (l.flatMap fun a => [Value.string a.1, .int .i64 a.2])[j]? = some u) : w.cell? ⟨b, o + j, none⟩ = some u := by
 have hlt : j < l.length * 2 := by
  have := (List.getElem?_eq_some_iff.1 hj).1
  rw [arr_len] at this; exact this
 have hi : j / 2 < l.length := by omega
 have ha := arr_get (List.getElem?_eq_getElem hi)
 rcases (show j = j / 2 * 2 ∨ j = j / 2 * 2 + 1 by omega) with e | e
 ·rw [e] at hj ⊢
  rw [ha.1] at hj
  rw [hc.c _ hi]; exact hj
 ·rw [e] at hj ⊢
  rw [ha.2] at hj
  rw [← Nat.add_assoc, hc.d _ hi]; exact hj
theorem SArr.sl {w : World} {v : Value} {l : List (ByteArray × Int)} (h : SArr w v l) : SL w 2 v l.length (l.flatMap fun a => [.string a.1, .int .i64 a.2]) := by
 obtain ⟨_, ao, cap, rfl, h1⟩ := h
 refine ⟨arr_len l, ?_, ao, cap, rfl, ?_⟩
 ·intro u hu
  rw [List.mem_flatMap] at hu
  obtain ⟨a, _, hu⟩ := hu
  simp at hu
  rcases hu with rfl | rfl <;> rfl
 ·rcases h1 with rfl | ⟨b, o, rfl, hc⟩
  ·exact .inl rfl
  ·exact .inr ⟨b, o, rfl, hc.lt, arr_cell hc⟩
theorem nds_cell {w : World} {b o : Nat} {ns : List Nd} (hc : NodesAt w b o ns) (j : Nat) (u : Value) (hj : (ndL ns)[j]? = some u) : w.cell? ⟨b, o + j, none⟩ = some u := by
 have hlt : j < ns.length * 6 := by
  have := (List.getElem?_eq_some_iff.1 hj).1
  rw [ndL_len] at this; exact this
 have hi : j / 6 < ns.length := by omega
 obtain ⟨a0, a1, a2, a3, a4, a5⟩ := ndL_get (List.getElem?_eq_getElem hi)
 rcases (show j = j / 6 * 6 ∨ j = j / 6 * 6 + 1 ∨ j = j / 6 * 6 + 2 ∨ j = j / 6 * 6 + 3 ∨ j = j / 6 * 6 + 4 ∨ j = j / 6 * 6 + 5 by omega) with e | e | e | e | e | e
 ·rw [e] at hj ⊢; rw [a0] at hj; rw [hc.c0 _ hi]; exact hj
 ·rw [e] at hj ⊢; rw [a1] at hj; rw [← Nat.add_assoc, hc.c1 _ hi]; exact hj
 ·rw [e] at hj ⊢; rw [a2] at hj; rw [← Nat.add_assoc, hc.c2 _ hi]; exact hj
 ·rw [e] at hj ⊢; rw [a3] at hj; rw [← Nat.add_assoc, hc.c3 _ hi]; exact hj
 ·rw [e] at hj ⊢; rw [a4] at hj; rw [← Nat.add_assoc, hc.c4 _ hi]; exact hj
 ·rw [e] at hj ⊢; rw [a5] at hj; rw [← Nat.add_assoc, hc.c5 _ hi]; exact hj
theorem SNds.sl {w : World} {v : Value} {ns : List Nd} (h : SNds w v ns) : SL w 6 v ns.length (ndL ns) := by
 obtain ⟨_, ao, cap, rfl, _, _, h1⟩ := h
 refine ⟨ndL_len ns, ndL_oneCell ns, ao, cap, rfl, ?_⟩
 rcases h1 with rfl | ⟨b, o, rfl, hc⟩
 ·exact .inl rfl
 ·exact .inr ⟨b, o, rfl, hc.lt, nds_cell hc⟩
theorem ProgIs.pl6 {w : World} {v0 v1 v2 v3 v4 v5 : Value} {ns : List Nd} {l : Ls} (h : ProgIs w v0 v1 v2 v3 v4 v5 ns l) : PL6 w v0 v1 v2 v3 v4 v5 ns l := ⟨h.nodes.sl, h.lists.sc.sl, h.lists.ar.sl, h.lists.sy.sl, h.lists.si.sl, h.lists.so.sl⟩
end
section
open Go.RowKit
theorem fit_name {n : Nd} (h : fitN n = true) : n.name.size ≤ 16 := by
 unfold fitN fitB at h
 simp only [Bool.and_eq_true] at h
 have h1 := h.2.1
 rw [← toList_len]
 split at h1
 ·unfold nameB at h1
  simp only [Bool.and_eq_true, decide_eq_true_eq] at h1
  omega
 ·have : n.name.toList = [] := by simpa using h1
  rw [this]; simp
theorem progFrom_sc (ns : List Nd) : ∀ (t : List Nd) (i : Nat) (l : Ls), (∀ s ∈ (progFrom ns t i l).2.2.sc, s ∈ l.sc ∨ ∃ n ∈ t, s = n.name) ∧ (∀ a ∈ (progFrom ns t i l).2.2.ar, a ∈ l.ar ∨ ∃ n ∈ t, a.1 = n.name)
 | [], i, l => ⟨fun s hs => .inl hs, fun a ha => .inl ha⟩
 | n :: t, i, l => by
  rw [progFrom]
  split
  ·obtain ⟨h1, h2⟩ := progFrom_sc ns t (i + 1) (nextR ns i n l)
   refine ⟨fun s hs => ?_, fun a ha => ?_⟩
   ·rcases h1 s hs with h | ⟨m, hm, e⟩
    ·unfold nextR at h
     simp only at h
     split at h
     ·rw [List.mem_append, List.mem_singleton] at h
      rcases h with h | h
      ·exact .inl h
      ·exact .inr ⟨n, List.mem_cons_self, h⟩
     ·exact .inl h
    ·exact .inr ⟨m, List.mem_cons_of_mem _ hm, e⟩
   ·rcases h2 a ha with h | ⟨m, hm, e⟩
    ·unfold nextR at h
     simp only at h
     split at h
     ·rw [List.mem_append, List.mem_singleton] at h
      rcases h with h | h
      ·exact .inl h
      ·exact .inr ⟨n, List.mem_cons_self, by rw [h]⟩
     ·exact .inl h
    ·exact .inr ⟨m, List.mem_cons_of_mem _ hm, e⟩
  ·exact ⟨fun s hs => .inl hs, fun a ha => .inl ha⟩
theorem read_bd {ns : List Nd} (hok : ∀ n ∈ ns, n.Ok) (h0 : (readD ns rd0).1 = 0) {w : World} {b : Nat} (h : ReadIs w b (readD ns rd0).2.2) : Bd6 ns (lsOf (readD ns rd0).2.2) := by
 have hs : (shapeD ns).1 = 0 := by
  by_cases c : (shapeD ns).1 = 0
  ·exact c
  ·unfold readD at h0; rw [if_neg c] at h0; exact absurd h0 c
 have hf : ∀ n ∈ ns, n.name.size ≤ 16 := by
  intro n hn
  obtain ⟨i, hi, e⟩ := List.mem_iff_getElem.1 hn
  rw [← e]; exact fit_name ((shp_of hs).fit i hi)
 have hl := readD_len ns h0
 have h5 := h.rest.len
 have h1 := h.names.sl
 have h2 := h.names.al
 have h3 := h.rest.sites
 have hp := program_eq ns hok
 have hq : lsOf (readD ns rd0).2.2 = (progFrom ns ns 0 ⟨[], [], [], [], []⟩).2.2 := by
  have e : (programR ns).2.2 = lsOf (readD ns rd0).2.2 := by rw [hp]
  rw [← e]
  unfold programR
  rw [if_pos (by rw [shape_eq ns hok]; exact hs)]
 obtain ⟨k1, k2⟩ := progFrom_sc ns ns 0 ⟨[], [], [], [], []⟩
 refine ⟨by omega, by simp only [lsOf]; omega, by simp only [lsOf, List.length_map]; omega, by simp only [lsOf]; omega, by simp only [lsOf, List.length_map]; omega, by simp only [lsOf]; omega, fun n hn => by have := hf n hn; omega, fun s hs' => ?_, fun a ha => ?_⟩
 ·rw [hq] at hs'
  rcases k1 s hs' with h' | ⟨n, hn, e⟩
  ·cases h'
  ·rw [e]; have := hf n hn; omega
 ·rw [hq] at ha
  rcases k2 a ha with h' | ⟨n, hn, e⟩
  ·cases h'
  ·rw [e]; have := hf n hn; omega
set_option maxRecDepth 100000 in
set_option maxHeartbeats 4000000 in
theorem cprogram_ok (v : Value) (ns : List Nd) (w : World) (hR : RulesIs w) (hN : SNds w v ns) (h0 : (readD ns rd0).1 = 0) :
  Calls Tryd.prog 10 #[v] w fun e w' => ∃ (u : Nat → Value) (er : Value), e = .returned (.tuple #[.agg #[u 0, u 1, u 2, u 3, u 4, u 5], er]) ∧ PrIs w' w.heap.size u ns (lsOf (readD ns rd0).2.2) ∧ Ok w w' := by
 obtain ⟨w0, hw0⟩ : ∃ w0, w0 = (w.alloc (Obj.cells #[.slice none 0 0, .slice none 0 0, .slice none 0 0, .slice none 0 0, .slice none 0 0, .slice none 0 0] 28)).alloc (.cells Tryd.zeroCells72 72) := ⟨_, rfl⟩
 have HB0 : Hid (Ok w w0) := by unfold Hid; rw [hw0]; exact ((Ok.refl w).alloc _).alloc _
 have HX0 : Hid (Six w0 w.heap.size (.slice none 0 0) (.slice none 0 0) (.slice none 0 0) (.slice none 0 0) (.slice none 0 0) (.slice none 0 0)) := by unfold Hid; rw [hw0]; exact (Six.new w _ _ _ _ _ _).below ((Ok.refl _).alloc _)
 have HD0 : Hid (ReadIs w0 (w.heap.size + 1) rd0) := by
  have := read_new (w.alloc (Obj.cells #[.slice none 0 0, .slice none 0 0, .slice none 0 0, .slice none 0 0, .slice none 0 0, .slice none 0 0] 28))
  rw [show (w.alloc (Obj.cells #[.slice none 0 0, .slice none 0 0, .slice none 0 0, .slice none 0 0, .slice none 0 0, .slice none 0 0] 28)).heap.size = w.heap.size + 1 from by simp] at this
  unfold Hid; rw [hw0]; exact this
 have HZ0 : Hid (w0.heap.size = w.heap.size + 2) := by unfold Hid; rw [hw0]; simp
 have HOK : Hid (∀ n ∈ ns, n.Ok) := hN.1
 have HN0 : Hid (SNds w v ns) := hN
 have HRC : Hid (∀ _ : Unit, Calls Tryd.prog 15 #[.pointer (some ⟨w.heap.size + 1, 0, none⟩), v] w0 fun e w' => e = .returned (.tuple #[.int .i64 (readD ns rd0).1, .int .i64 (readD ns rd0).2.1]) ∧ Beside (w.heap.size + 1) w0 w' ∧ ((readD ns rd0).1 = 0 → ReadIs w' (w.heap.size + 1) (readD ns rd0).2.2)) := fun _ => read_all (w.heap.size + 1) v ns w0 (hR.below HB0.out) (hN.below HB0.out) (fun g hg => by omega) (fun nb o cap e hne => by
   obtain ⟨_, ao, cap', e', _, _, k⟩ := hN
   obtain ⟨b, o', rfl, hn⟩ := k.resolve_left hne
   have hlt := hn.lt
   rw [e] at e'
   injection e' with e1 e2 e3
   injection e1 with e4
   injection e4 with e5
   omega) HD0.out
 obtain ⟨_, ao, cap, rfl, _⟩ := hN
 obtain ⟨⟨code, at_, rr⟩, hq⟩ : ∃ q, q = readD ns rd0 := ⟨_, rfl⟩
 have HBD : Hid (∀ {w' : World}, ReadIs w' (w.heap.size + 1) rr → Bd6 ns (lsOf rr)) := fun {w'} h => by have := read_bd HOK.out h0 (w := w') (b := w.heap.size + 1) (by rw [← hq]; exact h); rw [← hq] at this; exact this
 have HLN : Hid (rr.sy.length = ns.length ∧ ns.length ≤ 300) := by have := readD_len ns h0; rw [← hq] at this; exact this
 rw [← hq] at HRC h0 ⊢
 have hc : code = 0 := h0
 subst hc
 clear hR hq h0
 go_enter Tryd.func10, Tryd.ntmps10
 go_wp2_with fail
 rw [← hw0]
 clear hw0
 refine (HRC.out ()).mono ?_
 rintro e w1 ⟨rfl, hs1, hr1⟩
 have HB1 : Hid (Ok w w1) := hs1.below HB0.out (by omega) (by have := HZ0.out; omega)
 have HX1 : Hid (Six w1 w.heap.size (.slice none 0 0) (.slice none 0 0) (.slice none 0 0) (.slice none 0 0) (.slice none 0 0) (.slice none 0 0)) := ⟨(hs1.block w.heap.size (by omega) HX0.out.lt).trans HX0.out.heap⟩
 have HD1 : Hid (ReadIs w1 (w.heap.size + 1) rr) := (by first | exact hr1 rfl | exact hr1 trivial)
 have HG1 : Hid (w.heap.size + 1 < w1.heap.size) := HD1.out.names.lt
 clear hs1 hr1 HRC
 go_wp2_with fail
 refine (prog_any (w.heap.size + 1) ns.length cap ao rr w1 HD1.out HLN.out.2).mono ?_
 rintro e w2 ⟨rfl, hk2⟩
 have HB2 : Hid (Ok w w2) := HB1.out.step hk2
 have HX2 : Hid (Six w2 w.heap.size (.slice none 0 0) (.slice none 0 0) (.slice none 0 0) (.slice none 0 0) (.slice none 0 0) (.slice none 0 0)) := HX1.out.below hk2
 have HD2 : Hid (ReadIs w2 (w.heap.size + 1) rr) := HD1.out.below hk2
 clear hk2
 go_wp2_with fail
 refine (owned_any _ _ _ _ _ _ ns (lsOf rr) w2 (ProgIs.pl6 ⟨HN0.out.below HB2.out, lsOf_is HD2.out HLN.out.1⟩) (HBD.out HD2.out)).mono ?_
 rintro e w3 ⟨u, rfl, hu, hk3⟩
 have HB3 : Hid (Ok w w3) := HB2.out.step hk3
 have HX3 : Hid (Six w3 w.heap.size (.slice none 0 0) (.slice none 0 0) (.slice none 0 0) (.slice none 0 0) (.slice none 0 0) (.slice none 0 0)) := HX2.out.below hk3
 have HU : Hid (PrIs w3 w2.heap.size u ns (lsOf rr)) := hu
 have HLE : Hid (w.heap.size ≤ w2.heap.size) := HB2.out.le
 clear hu hk3
 obtain ⟨o0, p0, e0⟩ := own_form (HU.out 0 (by decide))
 obtain ⟨o1, p1, e1⟩ := own_form (HU.out 1 (by decide))
 obtain ⟨o2, p2, e2⟩ := own_form (HU.out 2 (by decide))
 obtain ⟨o3, p3, e3⟩ := own_form (HU.out 3 (by decide))
 obtain ⟨o4, p4, e4⟩ := own_form (HU.out 4 (by decide))
 obtain ⟨o5, p5, e5⟩ := own_form (HU.out 5 (by decide))
 have HE : Hid (u 0 = _ ∧ u 1 = _ ∧ u 2 = _ ∧ u 3 = _ ∧ u 4 = _ ∧ u 5 = _) := ⟨e0, e1, e2, e3, e4, e5⟩
 rw [e0, e1, e2, e3, e4, e5]
 clear e0 e1 e2 e3 e4 e5
 obtain ⟨z1, c0, c1, c2, c3, c4, c5⟩ := HX3.out.pc
 have wf := HX3.out.warm
 go_wp2_with fail
 try simp only [Exit.inBlock, Exit.then]
 refine bodyPost_ret (results_iv rfl _ _ w.heap.size 28 _ (0, 0) _ rfl (six_set HX3.out.heap _ _ _ _ _ _) Tryd.underlying28 rfl Tryd.info28) rfl ?_
 refine ⟨u, .nilIface, ?_, ?_, six_below HB3.out (Nat.le_refl _) _ _ _ _ _ _⟩
 ·obtain ⟨e0, e1, e2, e3, e4, e5⟩ := HE.out
  rw [e0, e1, e2, e3, e4, e5]; rfl
 ·intro j hj
  exact own_base (own_six6 (HU.out j hj) (TY_ne j hj) HX3.out _ _ _ _ _ _) HLE.out
end
end Go.Proofs.YtklkpaekdpaloaaDoor
