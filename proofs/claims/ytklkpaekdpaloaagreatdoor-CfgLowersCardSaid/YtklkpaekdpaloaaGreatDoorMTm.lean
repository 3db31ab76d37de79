import Derived.Test.YtklkpaekdpaloaaGreatDoorMTi
set_option linter.unusedVariables false
set_option linter.unusedSimpArgs false
set_option linter.unnecessarySimpa false
namespace Go.Proofs.YtklkpaekdpaloaaGreatDoor
open Go.RowKit
set_option maxRecDepth 100000 in
set_option maxHeartbeats 8000000 in
theorem rat_any (v0 v1 v2 v3 v4 v5 : Value) (ns : List Nd) (l : Ls) (x : Int) (w : World) (h : ProgIs w v0 v1 v2 v3 v4 v5 ns l) :
  Calls Tryz.prog 17 #[.agg #[v0, v1, v2, v3, v4, v5], .int .i64 x] w fun e w' => e = .returned (.int .i64 (cAt ns l x)) ∧ Ok w w' := by
 have HP : Hid (ProgIs w v0 v1 v2 v3 v4 v5 ns l) := h
 obtain ⟨_, ao, cap, rfl, _⟩ := h.nodes
 obtain ⟨_, _, x1, y1, rfl, _⟩ := h.lists.sc.sl
 obtain ⟨_, _, x2, y2, rfl, _⟩ := h.lists.ar.sl
 obtain ⟨_, _, x3, y3, rfl, _⟩ := h.lists.sy.sl
 obtain ⟨_, _, x4, y4, rfl, _⟩ := h.lists.si.sl
 obtain ⟨_, _, x5, y5, rfl, _⟩ := h.lists.so.sl
 obtain ⟨ax, hax⟩ : ∃ y, y = cAt ns l x := ⟨_, rfl⟩
 have HAX : Hid (ax = cAt ns l x) := hax
 rw [← hax]
 clear h hax
 have HK0 : Hid (Ok w (w.alloc (Obj.cells #[.slice ao ns.length cap, .slice x1 l.sc.length y1, .slice x2 l.ar.length y2, .slice x3 l.sy.length y3, .slice x4 l.si.length y4, .slice x5 l.so.length y5] 27))) := (Ok.refl w).alloc _
 have HGC : Hid (∀ _ : Unit, Calls Tryz.prog 23 #[.agg #[.slice ao ns.length cap, .slice x1 l.sc.length y1, .slice x2 l.ar.length y2, .slice x3 l.sy.length y3, .slice x4 l.si.length y4, .slice x5 l.so.length y5]] (w.alloc (Obj.cells #[.slice ao ns.length cap, .slice x1 l.sc.length y1, .slice x2 l.ar.length y2, .slice x3 l.sy.length y3, .slice x4 l.si.length y4, .slice x5 l.so.length y5] 27)) fun e w' => e = .returned (.bool (goodD ns l)) ∧ Ok (w.alloc (Obj.cells #[.slice ao ns.length cap, .slice x1 l.sc.length y1, .slice x2 l.ar.length y2, .slice x3 l.sy.length y3, .slice x4 l.si.length y4, .slice x5 l.so.length y5] 27)) w') := fun _ => rgood_any _ _ _ _ _ _ ns l _ (HP.out.below HK0.out)
 have HX0 : Hid (Six (w.alloc (Obj.cells #[.slice ao ns.length cap, .slice x1 l.sc.length y1, .slice x2 l.ar.length y2, .slice x3 l.sy.length y3, .slice x4 l.si.length y4, .slice x5 l.so.length y5] 27)) w.heap.size (.slice ao ns.length cap) (.slice x1 l.sc.length y1) (.slice x2 l.ar.length y2) (.slice x3 l.sy.length y3) (.slice x4 l.si.length y4) (.slice x5 l.so.length y5)) := Six.new w _ _ _ _ _ _
 cases hg : goodD ns l with
 | false =>
  have HA : Hid (ax = -1) := by unfold Hid; rw [HAX.out]; unfold cAt; rw [hg, if_neg (by simp)]
  rw [hg] at HGC
  go_enter Tryz.func17, Tryz.ntmps17
  go_wp2_with (first
   | (go_at_call 23; refine (HGC.out ()).mono ?_; rintro e w1 ⟨rfl, hk1⟩; have HK1 : Hid (Ok w w1) := HK0.out.step hk1; have HX1 : Hid (Six w1 w.heap.size (.slice ao ns.length cap) (.slice x1 l.sc.length y1) (.slice x2 l.ar.length y2) (.slice x3 l.sy.length y3) (.slice x4 l.si.length y4) (.slice x5 l.so.length y5)) := HX0.out.below hk1; obtain ⟨z1, c0, c1, c2, c3, c4, c5⟩ := HX1.out.pc;  clear hk1)
   | fail)
  go_ret
  exact ⟨by rw [HA.out]; rfl, HK1.out⟩
 | true =>
  rw [hg] at HGC
  have HLN : Hid (ns.length ≤ 300) := (readD_len ns (good_read hg)).2
  by_cases h1 : x < 0
  ·have HA : Hid (ax = -1) := by unfold Hid; rw [HAX.out]; unfold cAt; rw [if_neg (by omega)]
   have h1d : decide (x < 0) = true := decide_eq_true h1
   go_enter Tryz.func17, Tryz.ntmps17
   go_wp2_with (first
    | (go_at_call 23; refine (HGC.out ()).mono ?_; rintro e w1 ⟨rfl, hk1⟩; have HK1 : Hid (Ok w w1) := HK0.out.step hk1; have HX1 : Hid (Six w1 w.heap.size (.slice ao ns.length cap) (.slice x1 l.sc.length y1) (.slice x2 l.ar.length y2) (.slice x3 l.sy.length y3) (.slice x4 l.si.length y4) (.slice x5 l.so.length y5)) := HX0.out.below hk1; obtain ⟨z1, c0, c1, c2, c3, c4, c5⟩ := HX1.out.pc;  clear hk1)
    | fail)
   go_ret
   exact ⟨by rw [HA.out]; rfl, HK1.out⟩
  ·have h1d : decide (x < 0) = false := decide_eq_false h1
   by_cases h2 : (ns.length : Int) ≤ x
   ·have HA : Hid (ax = -1) := by unfold Hid; rw [HAX.out]; unfold cAt; rw [if_neg (by omega)]
    have h2d : decide ((ns.length : Int) ≤ x) = true := decide_eq_true h2
    go_enter Tryz.func17, Tryz.ntmps17
    go_wp2_with (first
     | (go_at_call 23; refine (HGC.out ()).mono ?_; rintro e w1 ⟨rfl, hk1⟩; have HK1 : Hid (Ok w w1) := HK0.out.step hk1; have HX1 : Hid (Six w1 w.heap.size (.slice ao ns.length cap) (.slice x1 l.sc.length y1) (.slice x2 l.ar.length y2) (.slice x3 l.sy.length y3) (.slice x4 l.si.length y4) (.slice x5 l.so.length y5)) := HX0.out.below hk1; obtain ⟨z1, c0, c1, c2, c3, c4, c5⟩ := HX1.out.pc;  clear hk1)
     | fail)
    go_ret
    exact ⟨by rw [HA.out]; rfl, HK1.out⟩
   ·have h2d : decide ((ns.length : Int) ≤ x) = false := decide_eq_false h2
    obtain ⟨p, rfl⟩ : ∃ p : Nat, x = (p : Int) := ⟨x.toNat, by omega⟩
    have hpl : p < ns.length := by omega
    have hpl' : (p : Int) < (ns.length : Int) := by omega
    obtain ⟨n, hn⟩ : ∃ n, ns[p]? = some n := ⟨_, List.getElem?_eq_getElem hpl⟩
    obtain ⟨_, ao', cap', e1, _, _, hN⟩ := HP.out.nodes
    injection e1 with e1 e2 e3; clear e2
    subst e1 e3
    obtain ⟨b, o, rfl, N1⟩ := hN.resolve_left (fun e => by rw [e] at hpl; simp at hpl)
    have HCL : Hid (∀ W, Ok w W → _) := fun W hW => (N1.below hW).get hn
    have HCB : Hid (∀ W, Ok w W → b < W.heap.size) := fun W hW => (N1.below hW).lt
    have hkd : kdA ns p = n.kind := kdA_get hn
    obtain ⟨nd, nk, nm, nu, no, nps⟩ := n
    simp only at HCL hkd
    clear hn N1 hN
    by_cases hs : 2 ≤ nk ∧ nk ≤ 8
    ·have HST : Hid ((decide (2 ≤ nk) && decide (nk ≤ 8)) = true) := by unfold Hid; rw [decide_eq_true hs.1, decide_eq_true hs.2]; rfl
     have HA : Hid (ax = (ptF ns p : Nat)) := by unfold Hid; rw [HAX.out]; unfold cAt; rw [Int.toNat_natCast, if_pos ⟨by omega, by omega, hg, by rw [hkd]; exact hs⟩]
     have HHP : Hid (ProgIs w _ _ _ _ _ _ ns l) := HP.out
     clear hs hkd hg
     go_enter Tryz.func17, Tryz.ntmps17
     go_wp2_with (first
      | (go_at_call 23; refine (HGC.out ()).mono ?_; rintro e w1 ⟨rfl, hk1⟩; have HK1 : Hid (Ok w w1) := HK0.out.step hk1; have HX1 : Hid (Six w1 w.heap.size (.slice (some ⟨b, o, none⟩) ns.length cap) (.slice x1 l.sc.length y1) (.slice x2 l.ar.length y2) (.slice x3 l.sy.length y3) (.slice x4 l.si.length y4) (.slice x5 l.so.length y5)) := HX0.out.below hk1; obtain ⟨z1, c0, c1, c2, c3, c4, c5⟩ := HX1.out.pc; obtain ⟨n0, n1, n2, n3, n4, n5⟩ := HCL.out w1 HK1.out; have lb := HCB.out w1 HK1.out; clear hk1)
      | (go_at_call 25; refine (rstep_any _ _ _ _ _ _ _).mono ?_; rintro e w2 ⟨rfl, hk2⟩; have HK2 : Hid (Ok w w2) := HK1.out.step hk2; have HX2 : Hid (Six w2 w.heap.size (.slice (some ⟨b, o, none⟩) ns.length cap) (.slice x1 l.sc.length y1) (.slice x2 l.ar.length y2) (.slice x3 l.sy.length y3) (.slice x4 l.si.length y4) (.slice x5 l.so.length y5)) := HX1.out.below hk2; obtain ⟨Z1, C0, C1, C2, C3, C4, C5⟩ := HX2.out.pc; rw [HST.out]; clear hk2)
      | (go_at_call 24; refine (rnumber_any _ ns p _ ((HHP.out.below HK2.out).nodes) (by have := HLN.out; omega)).mono ?_; rintro e w3 ⟨rfl, hk3⟩; have HK3 : Hid (Ok w w3) := HK2.out.step hk3; clear hk3)
      | fail)
     go_ret
     exact ⟨by rw [HA.out]; rfl, HK3.out⟩
    ·have HST : Hid ((decide (2 ≤ nk) && decide (nk ≤ 8)) = false) := by
      unfold Hid
      by_cases h2 : 2 ≤ nk
      ·rw [decide_eq_false (show ¬ nk ≤ 8 from fun h8 => hs ⟨h2, h8⟩), Bool.and_false]
      ·rw [decide_eq_false h2]; rfl
     have HA : Hid (ax = -1) := by unfold Hid; rw [HAX.out]; unfold cAt; rw [Int.toNat_natCast, if_neg (fun h => hs (by rw [← hkd]; exact h.2.2.2))]
     clear hs hkd hg
     go_enter Tryz.func17, Tryz.ntmps17
     go_wp2_with (first
      | (go_at_call 23; refine (HGC.out ()).mono ?_; rintro e w1 ⟨rfl, hk1⟩; have HK1 : Hid (Ok w w1) := HK0.out.step hk1; have HX1 : Hid (Six w1 w.heap.size (.slice (some ⟨b, o, none⟩) ns.length cap) (.slice x1 l.sc.length y1) (.slice x2 l.ar.length y2) (.slice x3 l.sy.length y3) (.slice x4 l.si.length y4) (.slice x5 l.so.length y5)) := HX0.out.below hk1; obtain ⟨z1, c0, c1, c2, c3, c4, c5⟩ := HX1.out.pc; obtain ⟨n0, n1, n2, n3, n4, n5⟩ := HCL.out w1 HK1.out; have lb := HCB.out w1 HK1.out; clear hk1)
      | (go_at_call 25; refine (rstep_any _ _ _ _ _ _ _).mono ?_; rintro e w2 ⟨rfl, hk2⟩; have HK2 : Hid (Ok w w2) := HK1.out.step hk2; have HX2 : Hid (Six w2 w.heap.size (.slice (some ⟨b, o, none⟩) ns.length cap) (.slice x1 l.sc.length y1) (.slice x2 l.ar.length y2) (.slice x3 l.sy.length y3) (.slice x4 l.si.length y4) (.slice x5 l.so.length y5)) := HX1.out.below hk2; obtain ⟨Z1, C0, C1, C2, C3, C4, C5⟩ := HX2.out.pc; rw [HST.out]; clear hk2)
      | fail)
     go_ret
     exact ⟨by rw [HA.out]; rfl, HK2.out⟩
end Go.Proofs.YtklkpaekdpaloaaGreatDoor
