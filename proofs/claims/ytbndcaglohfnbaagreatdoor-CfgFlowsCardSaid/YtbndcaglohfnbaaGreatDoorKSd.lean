import Derived.Deep.CutRange
import Derived.Test.YtbndcaglohfnbaaGreatDoorKSd0
set_option linter.unusedVariables false
set_option linter.unusedSimpArgs false
set_option linter.unnecessarySimpa false
/- Sd -/
namespace Go.Proofs.YtbndcaglohfnbaaGreatDoor
open Go.RowKit
theorem progFrom_lens (ns : List Nd) : ∀ (t : List Nd) (i : Nat) (l : Ls), (progFrom ns t i l).1 = 0 → (progFrom ns t i l).2.2.sy.length = l.sy.length + t.length ∧ (progFrom ns t i l).2.2.so.length = l.so.length + t.length ∧ (progFrom ns t i l).2.2.sc.length ≤ l.sc.length + t.length ∧ (progFrom ns t i l).2.2.ar.length ≤ l.ar.length + t.length ∧ (progFrom ns t i l).2.2.si.length ≤ l.si.length + t.length
  | [], i, l, _ => ⟨rfl, rfl, Nat.le_refl _, Nat.le_refl _, Nat.le_refl _⟩
  | n :: t, i, l, h => by
    rw [progFrom] at h ⊢
    split at h
    · next h0 =>
      rw [if_pos h0]
      have := progFrom_lens ns t (i + 1) (nextR ns i n l) h
      have k : (nextR ns i n l).sy.length = l.sy.length + 1 ∧ (nextR ns i n l).so.length = l.so.length + 1 ∧ (nextR ns i n l).sc.length ≤ l.sc.length + 1 ∧ (nextR ns i n l).ar.length ≤ l.ar.length + 1 ∧ (nextR ns i n l).si.length ≤ l.si.length + 1 := by
        unfold nextR
        simp only
        refine ⟨by simp, by simp, ?_, ?_, ?_⟩ <;> (split <;> simp)
      rw [List.length_cons]
      omega
    · next h0 => rw [if_neg h0] at *; exact absurd h h0
theorem prog_lens {ns : List Nd} (h0 : (readD ns rd0).1 = 0) (hok : ∀ n ∈ ns, n.Ok) : ns.length ≤ 300 ∧ (lsOf (readD ns rd0).2.2).sy.length = ns.length ∧ (lsOf (readD ns rd0).2.2).so.length = ns.length ∧ (lsOf (readD ns rd0).2.2).sc.length ≤ 100000 ∧ (lsOf (readD ns rd0).2.2).ar.length ≤ 100000 ∧ (lsOf (readD ns rd0).2.2).si.length ≤ 100000 := by
  have hl := (readD_len ns h0).2
  have hp := program_eq ns hok
  have hz : (programR ns).1 = 0 := by rw [hp]; exact h0
  have e : (programR ns).2.2 = lsOf (readD ns rd0).2.2 := by rw [hp]
  have hs : (shapeR ns).1 = 0 := by
    by_cases c : (shapeR ns).1 = 0
    · exact c
    · unfold programR at hz; rw [if_neg c] at hz; exact absurd hz c
  have hq : programR ns = progFrom ns ns 0 ⟨[], [], [], [], []⟩ := by unfold programR; rw [if_pos hs]
  rw [← e, hq]
  rw [hq] at hz
  have := progFrom_lens ns ns 0 ⟨[], [], [], [], []⟩ hz
  simp only [List.length_nil, Nat.zero_add] at this
  omega
set_option maxRecDepth 100000 in
set_option maxHeartbeats 4000000 in
theorem refuses_any (s : ByteArray) (way at0 : Int) (w : World) (hR : RulesIs w) (hS : StepsIs w) (hw : -9223372036854775808 ≤ way ∧ way ≤ 9223372036854775807) (ha : -9223372036854775808 ≤ at0 ∧ at0 ≤ 9223372036854775807) :
    Calls Tryz.prog 4 #[.string s, .int .i64 way, .int .i64 at0] w fun e w' => e = .returned (.bool true) ∧ Ok w w' := by
  have HR : Hid (RulesIs w) := hR
  have HS : Hid (StepsIs w) := hS
  have HW : Hid (-9223372036854775808 ≤ way ∧ way ≤ 9223372036854775807) := hw
  have HA : Hid (-9223372036854775808 ≤ at0 ∧ at0 ≤ 9223372036854775807) := ha
  clear hR hS hw ha
  go_enter Tryz.func4, Tryz.ntmps4
  go_wp2_with fail
  refine (fixed_any w HR.out HS.out).mono ?_
  rintro e w1 ⟨rfl, hk1⟩
  have HK1 : Hid (Ok w w1) := hk1
  clear hk1
  go_wp2_with fail
  refine (lprog_any s w1).mono ?_
  rintro e w2 ⟨ht, hk2⟩
  have HK2 : Hid (Ok w w2) := HK1.out.step hk2
  clear hk2
  rcases ht with ⟨ns, u, h1, rfl, h2, h3⟩ | ⟨h1, rfl⟩
  rotate_left
  · clear h1
    go_wp2_with fail
    go_ret
    exact ⟨rfl, HK2.out.alloc _⟩
  obtain ⟨m, hm⟩ : ∃ x, x = (programR ns).2.2 := ⟨_, rfl⟩
  rw [← hm] at h2
  have HU2 : Hid (PrIs w2 w1.heap.size u ns m) := h2
  have HOK : Hid (∀ n ∈ ns, n.Ok) := fun n hn => fit_ok (h3 n hn)
  have HRD : Hid ((readD ns rd0).1 = 0 ∧ m = lsOf (readD ns rd0).2.2) := by
    obtain ⟨P, _, _, _, _, hp⟩ := h1
    have hq := program_eq ns HOK.out
    rw [hq] at hp hm
    exact ⟨hp, hm⟩
  have HPG : Hid (goodD ns m = true) := by
    obtain ⟨P, _, _, _, _, hp⟩ := h1
    unfold Hid; rw [hm]; exact good_own HOK.out hp
  clear h1 h2 h3 hm
  obtain ⟨o0, p0, e0⟩ := own_form (HU2.out 0 (by decide))
  obtain ⟨o1, p1, e1⟩ := own_form (HU2.out 1 (by decide))
  obtain ⟨o2, p2, e2⟩ := own_form (HU2.out 2 (by decide))
  obtain ⟨o3, p3, e3⟩ := own_form (HU2.out 3 (by decide))
  obtain ⟨o4, p4, e4⟩ := own_form (HU2.out 4 (by decide))
  obtain ⟨o5, p5, e5⟩ := own_form (HU2.out 5 (by decide))
  have HP2 : Hid (ProgIs w2 (.slice o0 (nOf ns.length m 0) p0) (.slice o1 (nOf ns.length m 1) p1) (.slice o2 (nOf ns.length m 2) p2) (.slice o3 (nOf ns.length m 3) p3) (.slice o4 (nOf ns.length m 4) p4) (.slice o5 (nOf ns.length m 5) p5) ns m) := by have := HU2.out.prog HOK.out; rw [e0, e1, e2, e3, e4, e5] at this; exact this
  rw [e0, e1, e2, e3, e4, e5]
  obtain ⟨n0, hn0⟩ : ∃ x, x = nOf ns.length m 0 := ⟨_, rfl⟩
  obtain ⟨n1, hn1⟩ : ∃ x, x = nOf ns.length m 1 := ⟨_, rfl⟩
  obtain ⟨n2, hn2⟩ : ∃ x, x = nOf ns.length m 2 := ⟨_, rfl⟩
  obtain ⟨n3, hn3⟩ : ∃ x, x = nOf ns.length m 3 := ⟨_, rfl⟩
  obtain ⟨n4, hn4⟩ : ∃ x, x = nOf ns.length m 4 := ⟨_, rfl⟩
  obtain ⟨n5, hn5⟩ : ∃ x, x = nOf ns.length m 5 := ⟨_, rfl⟩
  rw [← hn0, ← hn1, ← hn2, ← hn3, ← hn4, ← hn5] at HP2 ⊢
  have HN : Hid (n0 = nOf ns.length m 0 ∧ n1 = nOf ns.length m 1 ∧ n2 = nOf ns.length m 2 ∧ n3 = nOf ns.length m 3 ∧ n4 = nOf ns.length m 4 ∧ n5 = nOf ns.length m 5) := ⟨hn0, hn1, hn2, hn3, hn4, hn5⟩
  have HLB : Hid (n0 = ns.length ∧ n0 ≤ 300 ∧ n3 = ns.length ∧ n5 = ns.length ∧ m.sc.length ≤ 100000 ∧ m.ar.length ≤ 100000 ∧ m.sy.length ≤ 100000 ∧ m.si.length ≤ 100000 ∧ m.so.length ≤ 100000) := by
    have hl := prog_lens HRD.out.1 HOK.out
    rw [← HRD.out.2] at hl
    obtain ⟨k1, k2, k3, k4, k5, k6⟩ := hl
    have hn3' : nOf ns.length m 3 = m.sy.length := rfl
    have hn5' : nOf ns.length m 5 = m.so.length := rfl
    have hn0' : nOf ns.length m 0 = ns.length := rfl
    unfold Hid; omega
  clear e0 e1 e2 e3 e4 e5 hn0 hn1 hn2 hn3 hn4 hn5
  by_cases h00 : n0 = 0
  · subst h00
    go_wp2_with fail
    go_ret
    exact ⟨rfl, HK2.out.alloc _⟩
  have h00' : ((n0 : Int) == 0) = false := by rw [beq_eq_false_iff_ne]; omega
  have HPOS : Hid (0 < n0) := by unfold Hid; omega
  have h00i : ¬ (n0 : Int) = 0 := by omega
  go_wp2_with fail
  obtain ⟨w3, hw3⟩ : ∃ x, x = w2.alloc (Obj.cells #[Value.slice o0 n0 p0, Value.slice o1 n1 p1, Value.slice o2 n2 p2, Value.slice o3 n3 p3, Value.slice o4 n4 p4, Value.slice o5 n5 p5] 28) := ⟨_, rfl⟩
  obtain ⟨gp, hgp⟩ : ∃ x, x = w2.heap.size := ⟨_, rfl⟩
  rw [← hw3, ← hgp]
  have hk3 : Ok w2 w3 := by rw [hw3]; exact (Ok.refl _).alloc _
  have HK3 : Hid (Ok w w3) := HK2.out.step hk3
  have HX3 : Hid (Six w3 gp (.slice o0 n0 p0) (.slice o1 n1 p1) (.slice o2 n2 p2) (.slice o3 n3 p3) (.slice o4 n4 p4) (.slice o5 n5 p5)) := by unfold Hid; rw [hw3, hgp]; exact Six.new _ _ _ _ _ _ _
  have HP3 : Hid (ProgIs w3 (.slice o0 n0 p0) (.slice o1 n1 p1) (.slice o2 n2 p2) (.slice o3 n3 p3) (.slice o4 n4 p4) (.slice o5 n5 p5) ns m) := HP2.out.below hk3
  clear hw3 hgp hk3 HP2 HU2
  refine (copied_any _ _ _ _ _ _ ns m w3 HP3.out (by have := HLB.out; omega)).mono ?_
  rintro e w4 ⟨gq, dq, rfl, hcp, hk4⟩
  have HK4 : Hid (Ok w w4) := HK3.out.step hk4
  have HX4 : Hid (Six w4 gp (.slice o0 n0 p0) (.slice o1 n1 p1) (.slice o2 n2 p2) (.slice o3 n3 p3) (.slice o4 n4 p4) (.slice o5 n5 p5)) := HX3.out.below hk4
  have HP4 : Hid (ProgIs w4 (.slice o0 n0 p0) (.slice o1 n1 p1) (.slice o2 n2 p2) (.slice o3 n3 p3) (.slice o4 n4 p4) (.slice o5 n5 p5) ns m) := HP3.out.below hk4
  have HCP : Hid (CpIs w4 w3.heap.size gq dq ns m) := hcp
  have HGP : Hid (gp < w3.heap.size) := HX3.out.lt
  unfold cpV
  rw [← HN.out.1]
  rw [← HN.out.2.1]
  rw [← HN.out.2.2.1]
  rw [← HN.out.2.2.2.1]
  rw [← HN.out.2.2.2.2.1]
  rw [← HN.out.2.2.2.2.2]
  obtain ⟨a0, ha0⟩ : ∃ x, x = gq 0 := ⟨_, rfl⟩
  obtain ⟨q0, hq0⟩ : ∃ x, x = dq 0 := ⟨_, rfl⟩
  obtain ⟨a1, ha1⟩ : ∃ x, x = gq 1 := ⟨_, rfl⟩
  obtain ⟨q1, hq1⟩ : ∃ x, x = dq 1 := ⟨_, rfl⟩
  obtain ⟨a2, ha2⟩ : ∃ x, x = gq 2 := ⟨_, rfl⟩
  obtain ⟨q2, hq2⟩ : ∃ x, x = dq 2 := ⟨_, rfl⟩
  obtain ⟨a3, ha3⟩ : ∃ x, x = gq 3 := ⟨_, rfl⟩
  obtain ⟨q3, hq3⟩ : ∃ x, x = dq 3 := ⟨_, rfl⟩
  obtain ⟨a4, ha4⟩ : ∃ x, x = gq 4 := ⟨_, rfl⟩
  obtain ⟨q4, hq4⟩ : ∃ x, x = dq 4 := ⟨_, rfl⟩
  obtain ⟨a5, ha5⟩ : ∃ x, x = gq 5 := ⟨_, rfl⟩
  obtain ⟨q5, hq5⟩ : ∃ x, x = dq 5 := ⟨_, rfl⟩
  rw [← ha0, ← hq0, ← ha1, ← hq1, ← ha2, ← hq2, ← ha3, ← hq3, ← ha4, ← hq4, ← ha5, ← hq5]
  have HQ : Hid (a0 = gq 0 ∧ q0 = dq 0 ∧ a1 = gq 1 ∧ q1 = dq 1 ∧ a2 = gq 2 ∧ q2 = dq 2 ∧ a3 = gq 3 ∧ q3 = dq 3 ∧ a4 = gq 4 ∧ q4 = dq 4 ∧ a5 = gq 5 ∧ q5 = dq 5) := ⟨ha0, hq0, ha1, hq1, ha2, hq2, ha3, hq3, ha4, hq4, ha5, hq5⟩
  clear hk4 hcp HX3 HP3 ha0 hq0 ha1 hq1 ha2 hq2 ha3 hq3 ha4 hq4 ha5 hq5
  obtain ⟨z1, c0, c1, c2, c3, c4, c5⟩ := HX4.out.pc
  go_upto_if 36 with (fail)
  obtain ⟨w5, hw5⟩ : ∃ x, x = w4.alloc (Obj.cells #[Value.slice (some ⟨a0, 0, none⟩) n0 q0, Value.slice (some ⟨a1, 0, none⟩) n1 q1, Value.slice (some ⟨a2, 0, none⟩) n2 q2, Value.slice (some ⟨a3, 0, none⟩) n3 q3, Value.slice (some ⟨a4, 0, none⟩) n4 q4, Value.slice (some ⟨a5, 0, none⟩) n5 q5] 28) := ⟨_, rfl⟩
  obtain ⟨gb, hgb⟩ : ∃ x, x = w4.heap.size := ⟨_, rfl⟩
  rw [← hw5, ← hgb]
  have hk5 : Ok w4 w5 := by rw [hw5]; exact (Ok.refl _).alloc _
  have HK5 : Hid (Ok w w5) := HK4.out.step hk5
  have HX5 : Hid (Six w5 gp (.slice o0 n0 p0) (.slice o1 n1 p1) (.slice o2 n2 p2) (.slice o3 n3 p3) (.slice o4 n4 p4) (.slice o5 n5 p5)) := HX4.out.below hk5
  have HB5 : Hid (Six w5 gb (.slice (some ⟨a0, 0, none⟩) n0 q0) (.slice (some ⟨a1, 0, none⟩) n1 q1) (.slice (some ⟨a2, 0, none⟩) n2 q2) (.slice (some ⟨a3, 0, none⟩) n3 q3) (.slice (some ⟨a4, 0, none⟩) n4 q4) (.slice (some ⟨a5, 0, none⟩) n5 q5)) := by unfold Hid; rw [hw5, hgb]; exact Six.new _ _ _ _ _ _ _
  have HC5 : Hid (∀ k, k < 6 → w5.ownsRow (w3.heap.size + 2) (TY k) (SZ k) (.slice (some ⟨gq k, 0, none⟩) (nOf ns.length m k + 1) (dq k)) (nOf ns.length m k + 1) (xOf ns ns.length m k ++ mkOf k)) := fun k hk => own_ok (HCP.out.row k hk) hk5
  have HGB : Hid (gp ≠ gb ∧ w4.heap.size ≤ gb ∧ ∀ k, k < 6 → gq k < gb) := ⟨by have := HX4.out.lt; omega, by omega, fun k hk => by have := ((HCP.out.row k hk).lt (gq k) rfl).2; omega⟩
  clear hw5 hgb hk5 HX4 z1 c0 c1 c2 c3 c4 c5
  obtain ⟨pi, hpi⟩ : ∃ p : Nat, p < n0 ∧ ((at0.tmod (n0 : Int) < 0 ∧ at0.tmod (n0 : Int) + n0 = (p : Int)) ∨ (¬ at0.tmod (n0 : Int) < 0 ∧ at0.tmod (n0 : Int) = (p : Int))) := by
    have hp := HPOS.out
    have h1 := Int.tmod_lt_of_pos at0 (show (0 : Int) < (n0 : Int) by omega)
    have h2 := Int.lt_tmod_of_pos at0 (show (0 : Int) < (n0 : Int) by omega)
    by_cases c : at0.tmod (n0 : Int) < 0
    · exact ⟨(at0.tmod (n0 : Int) + n0).toNat, by omega, .inl ⟨c, by omega⟩⟩
    · exact ⟨(at0.tmod (n0 : Int)).toNat, by omega, .inr ⟨c, by omega⟩⟩
  have HPI : Hid (pi < n0) := hpi.1
  obtain ⟨z1, c0, c1, c2, c3, c4, c5⟩ := HX5.out.pc
  go_cut [10, 36] from 37 to 41 (fun s10 s36 u => Hid (s10 = .int .i64 (pi : Nat) ∧ u = w5))
  case first =>
    rcases hpi.2 with ⟨h1, h2⟩ | ⟨h1, h2⟩
    · have h2w : wrap64 (at0.tmod (n0 : Int) + n0) = (pi : Int) := by rw [h2]; have := HLB.out; unfold wrap64; omega
      clear h2
      go_wp2_with fail
      go_meet
      case rel => exact ⟨rfl, rfl⟩
    · have HH : Hid (at0.tmod (n0 : Int) = (pi : Int)) := h2
      clear h2
      go_wp2_with fail
      go_meet
      case rel => exact ⟨by rw [HH.out], rfl⟩
  case rest =>
  obtain ⟨e1, e2⟩ := hcut.out
  subst e1
  replace e2 := e2.symm
  subst e2
  clear hcut hpi z1 c0 c1 c2 c3 c4 c5
  go_upto_region 12 with (fail)
  obtain ⟨r, hr4, hr⟩ : ∃ r : Nat, r < 4 ∧ (wrap64 (way.tmod 4 + 4)).tmod 4 = (r : Int) := by
    have h1 := Int.tmod_lt_of_pos way (show (0 : Int) < 4 by omega)
    have h2 := Int.lt_tmod_of_pos way (show (0 : Int) < 4 by omega)
    have e : wrap64 (way.tmod 4 + 4) = way.tmod 4 + 4 := by unfold wrap64; omega
    rw [e, Int.tmod_eq_emod_of_nonneg (by omega)]
    exact ⟨((way.tmod 4 + 4) % 4).toNat, by omega, by omega⟩
  rw [hr]
  clear hr
  have HCR : Hid (CRows w5 (w3.heap.size + 2) gq dq ns m) := HC5.out
  have HCV : Hid (cpV ns m gq dq 0 = .slice (some ⟨a0, 0, none⟩) n0 q0 ∧ cpV ns m gq dq 1 = .slice (some ⟨a1, 0, none⟩) n1 q1 ∧ cpV ns m gq dq 2 = .slice (some ⟨a2, 0, none⟩) n2 q2 ∧ cpV ns m gq dq 3 = .slice (some ⟨a3, 0, none⟩) n3 q3 ∧ cpV ns m gq dq 4 = .slice (some ⟨a4, 0, none⟩) n4 q4 ∧ cpV ns m gq dq 5 = .slice (some ⟨a5, 0, none⟩) n5 q5) := by
    obtain ⟨f0, f1, f2, f3, f4, f5⟩ := HN.out
    obtain ⟨g0, g1, g2, g3, g4, g5, g6, g7, g8, g9, g10, g11⟩ := HQ.out
    unfold Hid cpV
    rw [f0, f1, f2, f3, f4, f5, g0, g1, g2, g3, g4, g5, g6, g7, g8, g9, g10, g11]
    exact ⟨rfl, rfl, rfl, rfl, rfl, rfl⟩
  obtain ⟨zb, b0, b1, b2, b3, b4, b5⟩ := HB5.out.pc
  have wfb := HB5.out.warm
  rcases (show r = 0 ∨ r = 1 ∨ r = 2 ∨ r = 3 by omega) with rfl | rfl | rfl | rfl
  · obtain ⟨x, hx⟩ : ∃ x, m.sy[pi]? = some x := ⟨_, List.getElem?_eq_getElem (by have h2 := HPI.out; have h3 := HLB.out; have h4 := HN.out; have h5 : nOf ns.length m 3 = m.sy.length := rfl; omega)⟩
    have hrow := HCR.out.pr 3 (by decide)
    have hcell : w5.cell? ⟨a3, pi, none⟩ = some (.int .i64 x) := by
      have := hrow.cells (g := gq 3) rfl pi (.int .i64 x) (by show (m.sy.map fun s => Value.int IntKind.i64 s)[pi]? = _; rw [List.getElem?_map, hx]; rfl)
      rw [add_off, Nat.zero_add] at this
      rw [HQ.out.2.2.2.2.2.2.1]; exact this
    have hfz : w5.frozen? ⟨a3, pi, none⟩ = false := by
      rcases hrow.2 with ⟨e1, _⟩ | ⟨g', cap', cur, e1, _, h2, _⟩
      · cases e1
      · injection e1 with e2
        injection e2 with e2
        injection e2 with e2
        rw [HQ.out.2.2.2.2.2.2.1, e2]
        exact frozen_of_row _ _ _ _ _ h2
    have hlt3 : a3 < w5.heap.size := by rw [HQ.out.2.2.2.2.2.2.1]; exact (hrow.lt (gq 3) rfl).2
    have hp3 : (pi : Int) < (n3 : Int) := by have h2 := HPI.out; have h3 := HLB.out; omega
    have hp3' : pi < n3 := by omega
    clear hrow hx
    go_upto_region 13 with (fail)
    go_region
    all_goals
      obtain ⟨y, hy⟩ : ∃ y, y = wrap64 (x + 1) := ⟨_, rfl⟩
      obtain ⟨w6, hw6⟩ : ∃ w6, w6 = (w5.setCell ⟨a3, pi, none⟩ (.int .i64 y)).drew := ⟨_, rfl⟩
      rw [← hy, ← hw6]
      have HK6 : Hid (Ok w w6) := by unfold Hid; rw [hw6]; exact (HK5.out.set (p := ⟨a3, pi, none⟩) (by have h1 := ((HCR.out.pr 3 (by decide)).lt (gq 3) rfl).1; have h2 := HK3.out.le; have h3 := HQ.out; show w.heap.size ≤ a3; omega) _).draws 1
      have HB6 : Hid (Six w6 gb (.slice (some ⟨a0, 0, none⟩) n0 q0) (.slice (some ⟨a1, 0, none⟩) n1 q1) (.slice (some ⟨a2, 0, none⟩) n2 q2) (.slice (some ⟨a3, 0, none⟩) n3 q3) (.slice (some ⟨a4, 0, none⟩) n4 q4) (.slice (some ⟨a5, 0, none⟩) n5 q5)) := by unfold Hid; rw [hw6]; exact (HB5.out.kept (Below.heap_setCell _ _ _ _ (by have h1 := HGB.out.2.2 3 (by decide); have h3 := HQ.out; show gb ≠ a3; omega))).below ((Ok.refl _).draws 1)
      have HP6 : Hid (ProgIs w6 (.slice (some ⟨a0, 0, none⟩) n0 q0) (.slice (some ⟨a1, 0, none⟩) n1 q1) (.slice (some ⟨a2, 0, none⟩) n2 q2) (.slice (some ⟨a3, 0, none⟩) n3 q3) (.slice (some ⟨a4, 0, none⟩) n4 q4) (.slice (some ⟨a5, 0, none⟩) n5 q5) ns { m with sy := m.sy.set pi y }) := by
        have h1 := set_sy (p := pi) HCR.out HCP.out.up y
        have h2 := (h1.prog HOK.out).below ((Ok.refl _).draws 1)
        rw [← HQ.out.2.2.2.2.2.2.1] at h2
        rw [hw6]
        obtain ⟨v0, v1, v2, v3, v4, v5⟩ := HCV.out
        rw [← v0, ← v1, ← v2, ← v3, ← v4, ← v5]
        exact h2
      clear hw6 hy zb b0 b1 b2 b3 b4 b5 wfb hcell hfz hlt3 hp3 hp3'
      obtain ⟨zb, d0, d1, d2, d3, d4, d5⟩ := HB6.out.pc
      go_wp2_with fail
      refine (rgood_any _ _ _ _ _ _ ns { m with sy := m.sy.set pi y } w6 HP6.out).mono ?_
      rintro e w7 ⟨rfl, hk7⟩
      have HK7 : Hid (Ok w w7) := HK6.out.step hk7
      have HB7 : Hid (Six w7 gb (.slice (some ⟨a0, 0, none⟩) n0 q0) (.slice (some ⟨a1, 0, none⟩) n1 q1) (.slice (some ⟨a2, 0, none⟩) n2 q2) (.slice (some ⟨a3, 0, none⟩) n3 q3) (.slice (some ⟨a4, 0, none⟩) n4 q4) (.slice (some ⟨a5, 0, none⟩) n5 q5)) := HB6.out.below hk7
      have HP7 : Hid (ProgIs w7 (.slice (some ⟨a0, 0, none⟩) n0 q0) (.slice (some ⟨a1, 0, none⟩) n1 q1) (.slice (some ⟨a2, 0, none⟩) n2 q2) (.slice (some ⟨a3, 0, none⟩) n3 q3) (.slice (some ⟨a4, 0, none⟩) n4 q4) (.slice (some ⟨a5, 0, none⟩) n5 q5) ns { m with sy := m.sy.set pi y }) := HP6.out.below hk7
      clear hk7 zb d0 d1 d2 d3 d4 d5 HB6 HP6
      cases hg : goodD ns { m with sy := m.sy.set pi y } with
      | true =>
        clear hg
        go_wp2_with fail
        go_ret
        exact ⟨rfl, HK7.out⟩
      | false =>
        have HG : Hid (goodD ns { m with sy := m.sy.set pi y } = false) := hg
        clear hg
        obtain ⟨zb, d0, d1, d2, d3, d4, d5⟩ := HB7.out.pc
        go_wp2_with fail
        refine (lower_bad _ _ _ _ _ _ ns { m with sy := m.sy.set pi y } w7 (HR.out.below HK7.out) HP7.out HG.out).mono ?_
        rintro e w8 ⟨rfl, hk8⟩
        have HK8 : Hid (Ok w w8) := HK7.out.step hk8
        have HB8 : Hid (Six w8 gb (.slice (some ⟨a0, 0, none⟩) n0 q0) (.slice (some ⟨a1, 0, none⟩) n1 q1) (.slice (some ⟨a2, 0, none⟩) n2 q2) (.slice (some ⟨a3, 0, none⟩) n3 q3) (.slice (some ⟨a4, 0, none⟩) n4 q4) (.slice (some ⟨a5, 0, none⟩) n5 q5)) := HB7.out.below hk8
        have HP8 : Hid (ProgIs w8 (.slice (some ⟨a0, 0, none⟩) n0 q0) (.slice (some ⟨a1, 0, none⟩) n1 q1) (.slice (some ⟨a2, 0, none⟩) n2 q2) (.slice (some ⟨a3, 0, none⟩) n3 q3) (.slice (some ⟨a4, 0, none⟩) n4 q4) (.slice (some ⟨a5, 0, none⟩) n5 q5) ns { m with sy := m.sy.set pi y }) := HP7.out.below hk8
        clear hk8 zb d0 d1 d2 d3 d4 d5 HB7 HP7
        obtain ⟨zb, d0, d1, d2, d3, d4, d5⟩ := HB8.out.pc
        have HAT : Hid (cAt ns { m with sy := m.sy.set pi y } (pi : Nat) = -1) := by unfold Hid cAt; rw [HG.out, if_neg (by simp)]
        go_wp2_with (first
          | (go_at_call 15; refine (at_any _ _ _ _ _ _ ns { m with sy := m.sy.set pi y } (pi : Nat) _ (HR.out.below (HK8.out.alloc _)) (HS.out.below (HK8.out.alloc _)) (HP8.out.below ((Ok.refl _).alloc _))).mono ?_; rintro e w9 ⟨rfl, hk9⟩; rw [HAT.out]; have HK9 : Hid (Ok w w9) := (HK8.out.alloc _).step hk9; clear hk9)
          | fail)
        go_ret
        exact ⟨rfl, HK9.out⟩
  · have hpl2 : pi ≤ q5 := by have h1 := HCR.out.room 5 (by decide); have h2 := HPI.out; have h3 := HLB.out; have h4 := HN.out; have h5 := HQ.out; omega
    have hpl : (pi : Int) ≤ (q5 : Int) := by omega
    go_upto_region 18 with (fail)
    obtain ⟨w6, hw6⟩ : ∃ x, x = w5.setCell ⟨gb, 5, none⟩ (.slice (some ⟨a5, 0, none⟩) pi q5) := ⟨_, rfl⟩
    rw [← hw6]
    have HK6 : Hid (Ok w w6) := by unfold Hid; rw [hw6]; exact HK5.out.set (p := ⟨gb, 5, none⟩) (by have h1 := HGB.out.2.1; have h2 := HK4.out.le; show w.heap.size ≤ gb; omega) _
    have HB6 : Hid (Six w6 gb (.slice (some ⟨a0, 0, none⟩) n0 q0) (.slice (some ⟨a1, 0, none⟩) n1 q1) (.slice (some ⟨a2, 0, none⟩) n2 q2) (.slice (some ⟨a3, 0, none⟩) n3 q3) (.slice (some ⟨a4, 0, none⟩) n4 q4) (.slice (some ⟨a5, 0, none⟩) pi q5)) := by unfold Hid; rw [hw6]; exact ⟨by have := heap_setCell_same w5 gb 5 _ _ (.slice (some ⟨a5, 0, none⟩) pi q5) HB5.out.heap; simpa using this⟩
    have HP6 : Hid (ProgIs w6 (.slice (some ⟨a0, 0, none⟩) n0 q0) (.slice (some ⟨a1, 0, none⟩) n1 q1) (.slice (some ⟨a2, 0, none⟩) n2 q2) (.slice (some ⟨a3, 0, none⟩) n3 q3) (.slice (some ⟨a4, 0, none⟩) n4 q4) (.slice (some ⟨a5, 0, none⟩) pi q5) ns { m with so := m.so.take pi }) := by
      have h1 := pr_past (g := gb) (cut_so (p := pi) HCR.out (by have h2 := HPI.out; have h3 := HLB.out; have h4 : nOf ns.length m 5 = m.so.length := rfl; have h5 := HN.out; omega)) (six_cases (by intro b hbb; have e : gq 0 = b := Option.some.inj hbb; have := HGB.out.2.2 0 (by decide); omega) (by intro b hbb; have e : gq 1 = b := Option.some.inj hbb; have := HGB.out.2.2 1 (by decide); omega) (by intro b hbb; have e : gq 2 = b := Option.some.inj hbb; have := HGB.out.2.2 2 (by decide); omega) (by intro b hbb; have e : gq 3 = b := Option.some.inj hbb; have := HGB.out.2.2 3 (by decide); omega) (by intro b hbb; have e : gq 4 = b := Option.some.inj hbb; have := HGB.out.2.2 4 (by decide); omega) (by intro b hbb; have e : gq 5 = b := Option.some.inj hbb; have := HGB.out.2.2 5 (by decide); omega)) 5 (.slice (some ⟨a5, 0, none⟩) pi q5)
      have h2 := h1.prog HOK.out
      rw [← hw6] at h2
      obtain ⟨v0, v1, v2, v3, v4, v5⟩ := HCV.out
      have e5 : putAt (cpV ns m gq dq) 5 (.slice (some ⟨gq 5, 0, none⟩) pi (dq 5)) 5 = .slice (some ⟨a5, 0, none⟩) pi q5 := by rw [HQ.out.2.2.2.2.2.2.2.2.2.2.1, HQ.out.2.2.2.2.2.2.2.2.2.2.2]; rfl
      rw [e5] at h2
      rw [← v0, ← v1, ← v2, ← v3, ← v4]
      exact h2
    clear hw6 zb b0 b1 b2 b3 b4 b5 wfb
    obtain ⟨zb, d0, d1, d2, d3, d4, d5⟩ := HB6.out.pc
    go_wp2_with fail
    refine (rgood_any _ _ _ _ _ _ ns { m with so := m.so.take pi } w6 HP6.out).mono ?_
    rintro e w7 ⟨rfl, hk7⟩
    have HK7 : Hid (Ok w w7) := HK6.out.step hk7
    have HB7 : Hid (Six w7 gb (.slice (some ⟨a0, 0, none⟩) n0 q0) (.slice (some ⟨a1, 0, none⟩) n1 q1) (.slice (some ⟨a2, 0, none⟩) n2 q2) (.slice (some ⟨a3, 0, none⟩) n3 q3) (.slice (some ⟨a4, 0, none⟩) n4 q4) (.slice (some ⟨a5, 0, none⟩) pi q5)) := HB6.out.below hk7
    have HP7 : Hid (ProgIs w7 (.slice (some ⟨a0, 0, none⟩) n0 q0) (.slice (some ⟨a1, 0, none⟩) n1 q1) (.slice (some ⟨a2, 0, none⟩) n2 q2) (.slice (some ⟨a3, 0, none⟩) n3 q3) (.slice (some ⟨a4, 0, none⟩) n4 q4) (.slice (some ⟨a5, 0, none⟩) pi q5) ns { m with so := m.so.take pi }) := HP6.out.below hk7
    clear hk7 zb d0 d1 d2 d3 d4 d5 HB6 HP6
    cases hg : goodD ns { m with so := m.so.take pi } with
    | true =>
      clear hg
      go_wp2_with fail
      go_ret
      exact ⟨rfl, HK7.out⟩
    | false =>
      have HG : Hid (goodD ns { m with so := m.so.take pi } = false) := hg
      clear hg
      obtain ⟨zb, d0, d1, d2, d3, d4, d5⟩ := HB7.out.pc
      go_wp2_with fail
      refine (lower_bad _ _ _ _ _ _ ns { m with so := m.so.take pi } w7 (HR.out.below HK7.out) HP7.out HG.out).mono ?_
      rintro e w8 ⟨rfl, hk8⟩
      have HK8 : Hid (Ok w w8) := HK7.out.step hk8
      have HB8 : Hid (Six w8 gb (.slice (some ⟨a0, 0, none⟩) n0 q0) (.slice (some ⟨a1, 0, none⟩) n1 q1) (.slice (some ⟨a2, 0, none⟩) n2 q2) (.slice (some ⟨a3, 0, none⟩) n3 q3) (.slice (some ⟨a4, 0, none⟩) n4 q4) (.slice (some ⟨a5, 0, none⟩) pi q5)) := HB7.out.below hk8
      have HP8 : Hid (ProgIs w8 (.slice (some ⟨a0, 0, none⟩) n0 q0) (.slice (some ⟨a1, 0, none⟩) n1 q1) (.slice (some ⟨a2, 0, none⟩) n2 q2) (.slice (some ⟨a3, 0, none⟩) n3 q3) (.slice (some ⟨a4, 0, none⟩) n4 q4) (.slice (some ⟨a5, 0, none⟩) pi q5) ns { m with so := m.so.take pi }) := HP7.out.below hk8
      clear hk8 zb d0 d1 d2 d3 d4 d5 HB7 HP7
      obtain ⟨zb, d0, d1, d2, d3, d4, d5⟩ := HB8.out.pc
      have HAT : Hid (cAt ns { m with so := m.so.take pi } (pi : Nat) = -1) := by unfold Hid cAt; rw [HG.out, if_neg (by simp)]
      go_wp2_with (first
        | (go_at_call 15; refine (at_any _ _ _ _ _ _ ns { m with so := m.so.take pi } (pi : Nat) _ (HR.out.below (HK8.out.alloc _)) (HS.out.below (HK8.out.alloc _)) (HP8.out.below ((Ok.refl _).alloc _))).mono ?_; rintro e w9 ⟨rfl, hk9⟩; rw [HAT.out]; have HK9 : Hid (Ok w w9) := (HK8.out.alloc _).step hk9; clear hk9)
        | fail)
      go_ret
      exact ⟨rfl, HK9.out⟩
  · have hpl2 : pi ≤ q0 := by have h1 := HCR.out.room 0 (by decide); have h2 := HPI.out; have h3 := HLB.out; have h4 := HN.out; have h5 := HQ.out; omega
    have hpl : (pi : Int) ≤ (q0 : Int) := by omega
    go_upto_region 18 with (fail)
    obtain ⟨w6, hw6⟩ : ∃ x, x = w5.setCell ⟨gb, 0, none⟩ (.slice (some ⟨a0, 0, none⟩) pi q0) := ⟨_, rfl⟩
    rw [← hw6]
    have HK6 : Hid (Ok w w6) := by unfold Hid; rw [hw6]; exact HK5.out.set (p := ⟨gb, 0, none⟩) (by have h1 := HGB.out.2.1; have h2 := HK4.out.le; show w.heap.size ≤ gb; omega) _
    have HB6 : Hid (Six w6 gb (.slice (some ⟨a0, 0, none⟩) pi q0) (.slice (some ⟨a1, 0, none⟩) n1 q1) (.slice (some ⟨a2, 0, none⟩) n2 q2) (.slice (some ⟨a3, 0, none⟩) n3 q3) (.slice (some ⟨a4, 0, none⟩) n4 q4) (.slice (some ⟨a5, 0, none⟩) n5 q5)) := by unfold Hid; rw [hw6]; exact ⟨by have := heap_setCell_same w5 gb 0 _ _ (.slice (some ⟨a0, 0, none⟩) pi q0) HB5.out.heap; simpa using this⟩
    have HP6 : Hid (ProgIs w6 (.slice (some ⟨a0, 0, none⟩) pi q0) (.slice (some ⟨a1, 0, none⟩) n1 q1) (.slice (some ⟨a2, 0, none⟩) n2 q2) (.slice (some ⟨a3, 0, none⟩) n3 q3) (.slice (some ⟨a4, 0, none⟩) n4 q4) (.slice (some ⟨a5, 0, none⟩) n5 q5) (ns.take pi) m) := by
      have h1 := pr_past (g := gb) (cut_nd (p := pi) HCR.out (by have h2 := HPI.out; have h3 := HLB.out; omega)) (six_cases (by intro b hbb; have e : gq 0 = b := Option.some.inj hbb; have := HGB.out.2.2 0 (by decide); omega) (by intro b hbb; have e : gq 1 = b := Option.some.inj hbb; have := HGB.out.2.2 1 (by decide); omega) (by intro b hbb; have e : gq 2 = b := Option.some.inj hbb; have := HGB.out.2.2 2 (by decide); omega) (by intro b hbb; have e : gq 3 = b := Option.some.inj hbb; have := HGB.out.2.2 3 (by decide); omega) (by intro b hbb; have e : gq 4 = b := Option.some.inj hbb; have := HGB.out.2.2 4 (by decide); omega) (by intro b hbb; have e : gq 5 = b := Option.some.inj hbb; have := HGB.out.2.2 5 (by decide); omega)) 0 (.slice (some ⟨a0, 0, none⟩) pi q0)
      have h2 := h1.prog (fun n hn => HOK.out n (List.mem_of_mem_take hn))
      rw [← hw6] at h2
      obtain ⟨v0, v1, v2, v3, v4, v5⟩ := HCV.out
      have e5 : putAt (cpV ns m gq dq) 0 (.slice (some ⟨gq 0, 0, none⟩) pi (dq 0)) 0 = .slice (some ⟨a0, 0, none⟩) pi q0 := by rw [HQ.out.1, HQ.out.2.1]; rfl
      rw [e5] at h2
      rw [← v1, ← v2, ← v3, ← v4, ← v5]
      exact h2
    clear hw6 zb b0 b1 b2 b3 b4 b5 wfb
    obtain ⟨zb, d0, d1, d2, d3, d4, d5⟩ := HB6.out.pc
    go_wp2_with fail
    refine (rgood_any _ _ _ _ _ _ (ns.take pi) m w6 HP6.out).mono ?_
    rintro e w7 ⟨rfl, hk7⟩
    have HK7 : Hid (Ok w w7) := HK6.out.step hk7
    have HB7 : Hid (Six w7 gb (.slice (some ⟨a0, 0, none⟩) pi q0) (.slice (some ⟨a1, 0, none⟩) n1 q1) (.slice (some ⟨a2, 0, none⟩) n2 q2) (.slice (some ⟨a3, 0, none⟩) n3 q3) (.slice (some ⟨a4, 0, none⟩) n4 q4) (.slice (some ⟨a5, 0, none⟩) n5 q5)) := HB6.out.below hk7
    have HP7 : Hid (ProgIs w7 (.slice (some ⟨a0, 0, none⟩) pi q0) (.slice (some ⟨a1, 0, none⟩) n1 q1) (.slice (some ⟨a2, 0, none⟩) n2 q2) (.slice (some ⟨a3, 0, none⟩) n3 q3) (.slice (some ⟨a4, 0, none⟩) n4 q4) (.slice (some ⟨a5, 0, none⟩) n5 q5) (ns.take pi) m) := HP6.out.below hk7
    clear hk7 zb d0 d1 d2 d3 d4 d5 HB6 HP6
    cases hg : goodD (ns.take pi) m with
    | true =>
      clear hg
      go_wp2_with fail
      go_ret
      exact ⟨rfl, HK7.out⟩
    | false =>
      have HG : Hid (goodD (ns.take pi) m = false) := hg
      clear hg
      obtain ⟨zb, d0, d1, d2, d3, d4, d5⟩ := HB7.out.pc
      go_wp2_with fail
      refine (lower_bad _ _ _ _ _ _ (ns.take pi) m w7 (HR.out.below HK7.out) HP7.out HG.out).mono ?_
      rintro e w8 ⟨rfl, hk8⟩
      have HK8 : Hid (Ok w w8) := HK7.out.step hk8
      have HB8 : Hid (Six w8 gb (.slice (some ⟨a0, 0, none⟩) pi q0) (.slice (some ⟨a1, 0, none⟩) n1 q1) (.slice (some ⟨a2, 0, none⟩) n2 q2) (.slice (some ⟨a3, 0, none⟩) n3 q3) (.slice (some ⟨a4, 0, none⟩) n4 q4) (.slice (some ⟨a5, 0, none⟩) n5 q5)) := HB7.out.below hk8
      have HP8 : Hid (ProgIs w8 (.slice (some ⟨a0, 0, none⟩) pi q0) (.slice (some ⟨a1, 0, none⟩) n1 q1) (.slice (some ⟨a2, 0, none⟩) n2 q2) (.slice (some ⟨a3, 0, none⟩) n3 q3) (.slice (some ⟨a4, 0, none⟩) n4 q4) (.slice (some ⟨a5, 0, none⟩) n5 q5) (ns.take pi) m) := HP7.out.below hk8
      clear hk8 zb d0 d1 d2 d3 d4 d5 HB7 HP7
      obtain ⟨zb, d0, d1, d2, d3, d4, d5⟩ := HB8.out.pc
      have HAT : Hid (cAt (ns.take pi) m (pi : Nat) = -1) := by unfold Hid cAt; rw [HG.out, if_neg (by simp)]
      go_wp2_with (first
        | (go_at_call 15; refine (at_any _ _ _ _ _ _ (ns.take pi) m (pi : Nat) _ (HR.out.below (HK8.out.alloc _)) (HS.out.below (HK8.out.alloc _)) (HP8.out.below ((Ok.refl _).alloc _))).mono ?_; rintro e w9 ⟨rfl, hk9⟩; rw [HAT.out]; have HK9 : Hid (Ok w w9) := (HK8.out.alloc _).step hk9; clear hk9)
        | fail)
      go_ret
      exact ⟨rfl, HK9.out⟩
  · have hrow := HCR.out.pr 1 (by decide)
    rw [HCV.out.2.1] at hrow
    have HRW : Hid (w5.ownsRow (w3.heap.size + 2) 9 1 (.slice (some ⟨a1, 0, none⟩) n1 q1) n1 (m.sc.map fun s => Value.string s)) := by
      have e := HN.out.2.1
      unfold Hid; rw [e]; rw [e] at hrow; exact hrow
    have HLE : Hid (w3.heap.size + 2 ≤ w5.heap.size) := by have h1 := (HRW.out.lt a1 rfl); unfold Hid; omega
    have HN1 : Hid (n1 ≤ 100000) := by have h3 := HLB.out; have h4 := HN.out; have h5 : nOf ns.length m 1 = m.sc.length := rfl; unfold Hid; omega
    clear hrow
    go_upto_region 18 with (first
      | (at_builtin; refine wpList_append_ow rfl _ _ 24 9 1 16 _ rfl Tryz.underlying24 infFS (by rfl) (by decide) (by decide) (w3.heap.size + 2) (.slice (some ⟨a1, 0, none⟩) n1 q1) n1 (m.sc.map fun s => Value.string s) (by rfl) (World.ownsRow.alloc HRW.out _) (.slice (some ⟨w5.heap.size, 0, none⟩) 1 1) 1 [.string ⟨#[]⟩] (by rfl) (SL.one _ _ _ (by rfl) (by simp [Value.oneCell'])) (by have := HN1.out; omega) (by have := HLE.out; simp; omega) ?_; intro v' w' k1 k2; have HKW : Hid (Ok w w') := (HK5.out.alloc _).grown k2 (fun b e => by have e2 : a1 = b := Option.some.inj e; have h1 := (HRW.out.lt a1 rfl).1; have h2 := HK3.out.le; omega); obtain ⟨a9, q9, rfl, _⟩ := k1.form (by omega); have HX6 : Hid (Six w' gb (.slice (some ⟨a0, 0, none⟩) n0 q0) (.slice (some ⟨a1, 0, none⟩) n1 q1) (.slice (some ⟨a2, 0, none⟩) n2 q2) (.slice (some ⟨a3, 0, none⟩) n3 q3) (.slice (some ⟨a4, 0, none⟩) n4 q4) (.slice (some ⟨a5, 0, none⟩) n5 q5)) := ⟨(k2.block gb (by have := HB5.out.lt; simp; omega) (fun e => by have e2 : gb = a1 := Option.some.inj e; have h1 := HGB.out.2.2 1 (by decide); have h2 := HQ.out; omega)).trans (HB5.out.below ((Ok.refl _).alloc _)).heap⟩; have HRR : Hid (w'.ownsRow (w3.heap.size + 2) 9 1 (.slice (some ⟨a9, 0, none⟩) (n1 + 1) q9) (n1 + 1) ((m.sc.map fun s => Value.string s) ++ [.string ⟨#[]⟩])) := k1; have HRK : Hid (∀ k, k < 6 → k ≠ 1 → w'.ownsRow (w3.heap.size + 2) (TY k) (SZ k) (cpV ns m gq dq k) (nOf ns.length m k) (xOf ns ns.length m k)) := (fun k hk hne => own_same (World.ownsRow.alloc (HCR.out.pr k hk) _) (fun b hb => k2.block b (by have := ((HCR.out.pr k hk).lt b hb).2; simp; omega) (fun e => by have e2 : b = a1 := Option.some.inj e; have e3 : gq k = b := Option.some.inj hb; have e4 := HQ.out.2.2.1; rcases Nat.lt_or_ge k 1 with c | c; (· have := HCP.out.up k 1 c (by decide); omega); (· have := HCP.out.up 1 k (by omega) hk; omega)))); obtain ⟨zb, b0, b1, b2, b3, b4, b5⟩ := HX6.out.pc; have wfb := HX6.out.warm; clear k1 k2)
      | fail)
    obtain ⟨w6, hw6⟩ : ∃ x, x = w'.setCell ⟨gb, 1, none⟩ (.slice (some ⟨a9, 0, none⟩) (n1 + 1) q9) := ⟨_, rfl⟩
    rw [← hw6]
    have HK6 : Hid (Ok w w6) := by unfold Hid; rw [hw6]; exact HKW.out.set (p := ⟨gb, 1, none⟩) (by have h1 := HGB.out.2.1; have h2 := HK4.out.le; show w.heap.size ≤ gb; omega) _
    have HB6 : Hid (Six w6 gb (.slice (some ⟨a0, 0, none⟩) n0 q0) (.slice (some ⟨a9, 0, none⟩) (n1 + 1) q9) (.slice (some ⟨a2, 0, none⟩) n2 q2) (.slice (some ⟨a3, 0, none⟩) n3 q3) (.slice (some ⟨a4, 0, none⟩) n4 q4) (.slice (some ⟨a5, 0, none⟩) n5 q5)) := by unfold Hid; rw [hw6]; exact ⟨by have := heap_setCell_same w' gb 1 _ _ (.slice (some ⟨a9, 0, none⟩) (n1 + 1) q9) HX6.out.heap; simpa using this⟩
    have HA9 : Hid (a9 ≠ gb) := by
      intro e
      have h1 := HRR.out
      rcases h1.2 with ⟨e1, _⟩ | ⟨g', cap', cur, e1, _, h2, _⟩
      · cases e1
      · injection e1 with e2
        injection e2 with e2
        injection e2 with e2
        subst e2
        rw [e] at h2
        have h3 := h2.symm.trans HX6.out.heap
        injection h3 with h3
        injection h3 with _ h4 _
        exact absurd h4 (by decide)
    have HP6 : Hid (ProgIs w6 (.slice (some ⟨a0, 0, none⟩) n0 q0) (.slice (some ⟨a9, 0, none⟩) (n1 + 1) q9) (.slice (some ⟨a2, 0, none⟩) n2 q2) (.slice (some ⟨a3, 0, none⟩) n3 q3) (.slice (some ⟨a4, 0, none⟩) n4 q4) (.slice (some ⟨a5, 0, none⟩) n5 q5) ns { m with sc := m.sc ++ [⟨#[]⟩] }) := by
      have h1 := pr_past (g := gb) (put_sc (v := .slice (some ⟨a9, 0, none⟩) (n1 + 1) q9) HRK.out (by have e := HN.out.2.1; have h1 := HRR.out; rw [e] at h1 ⊢; exact h1)) (six_cases (by intro b hbb; have e : gq 0 = b := Option.some.inj hbb; have := HGB.out.2.2 0 (by decide); omega) (by intro b hbb; have e : a9 = b := Option.some.inj hbb; have := HA9.out; omega) (by intro b hbb; have e : gq 2 = b := Option.some.inj hbb; have := HGB.out.2.2 2 (by decide); omega) (by intro b hbb; have e : gq 3 = b := Option.some.inj hbb; have := HGB.out.2.2 3 (by decide); omega) (by intro b hbb; have e : gq 4 = b := Option.some.inj hbb; have := HGB.out.2.2 4 (by decide); omega) (by intro b hbb; have e : gq 5 = b := Option.some.inj hbb; have := HGB.out.2.2 5 (by decide); omega)) 1 (.slice (some ⟨a9, 0, none⟩) (n1 + 1) q9)
      have h2 := h1.prog HOK.out
      rw [← hw6] at h2
      obtain ⟨v0, v1, v2, v3, v4, v5⟩ := HCV.out
      rw [← v0, ← v2, ← v3, ← v4, ← v5]
      exact h2
    clear hw6 zb b0 b1 b2 b3 b4 b5 wfb
    obtain ⟨zb, d0, d1, d2, d3, d4, d5⟩ := HB6.out.pc
    go_wp2_with fail
    refine (rgood_any _ _ _ _ _ _ ns { m with sc := m.sc ++ [⟨#[]⟩] } w6 HP6.out).mono ?_
    rintro e w7 ⟨rfl, hk7⟩
    have HK7 : Hid (Ok w w7) := HK6.out.step hk7
    have HB7 : Hid (Six w7 gb (.slice (some ⟨a0, 0, none⟩) n0 q0) (.slice (some ⟨a9, 0, none⟩) (n1 + 1) q9) (.slice (some ⟨a2, 0, none⟩) n2 q2) (.slice (some ⟨a3, 0, none⟩) n3 q3) (.slice (some ⟨a4, 0, none⟩) n4 q4) (.slice (some ⟨a5, 0, none⟩) n5 q5)) := HB6.out.below hk7
    have HP7 : Hid (ProgIs w7 (.slice (some ⟨a0, 0, none⟩) n0 q0) (.slice (some ⟨a9, 0, none⟩) (n1 + 1) q9) (.slice (some ⟨a2, 0, none⟩) n2 q2) (.slice (some ⟨a3, 0, none⟩) n3 q3) (.slice (some ⟨a4, 0, none⟩) n4 q4) (.slice (some ⟨a5, 0, none⟩) n5 q5) ns { m with sc := m.sc ++ [⟨#[]⟩] }) := HP6.out.below hk7
    clear hk7 zb d0 d1 d2 d3 d4 d5 HB6 HP6
    cases hg : goodD ns { m with sc := m.sc ++ [⟨#[]⟩] } with
    | true =>
      clear hg
      go_wp2_with fail
      go_ret
      exact ⟨rfl, HK7.out⟩
    | false =>
      have HG : Hid (goodD ns { m with sc := m.sc ++ [⟨#[]⟩] } = false) := hg
      clear hg
      obtain ⟨zb, d0, d1, d2, d3, d4, d5⟩ := HB7.out.pc
      go_wp2_with fail
      refine (lower_bad _ _ _ _ _ _ ns { m with sc := m.sc ++ [⟨#[]⟩] } w7 (HR.out.below HK7.out) HP7.out HG.out).mono ?_
      rintro e w8 ⟨rfl, hk8⟩
      have HK8 : Hid (Ok w w8) := HK7.out.step hk8
      have HB8 : Hid (Six w8 gb (.slice (some ⟨a0, 0, none⟩) n0 q0) (.slice (some ⟨a9, 0, none⟩) (n1 + 1) q9) (.slice (some ⟨a2, 0, none⟩) n2 q2) (.slice (some ⟨a3, 0, none⟩) n3 q3) (.slice (some ⟨a4, 0, none⟩) n4 q4) (.slice (some ⟨a5, 0, none⟩) n5 q5)) := HB7.out.below hk8
      have HP8 : Hid (ProgIs w8 (.slice (some ⟨a0, 0, none⟩) n0 q0) (.slice (some ⟨a9, 0, none⟩) (n1 + 1) q9) (.slice (some ⟨a2, 0, none⟩) n2 q2) (.slice (some ⟨a3, 0, none⟩) n3 q3) (.slice (some ⟨a4, 0, none⟩) n4 q4) (.slice (some ⟨a5, 0, none⟩) n5 q5) ns { m with sc := m.sc ++ [⟨#[]⟩] }) := HP7.out.below hk8
      clear hk8 zb d0 d1 d2 d3 d4 d5 HB7 HP7
      obtain ⟨zb, d0, d1, d2, d3, d4, d5⟩ := HB8.out.pc
      have HAT : Hid (cAt ns { m with sc := m.sc ++ [⟨#[]⟩] } (pi : Nat) = -1) := by unfold Hid cAt; rw [HG.out, if_neg (by simp)]
      go_wp2_with (first
        | (go_at_call 15; refine (at_any _ _ _ _ _ _ ns { m with sc := m.sc ++ [⟨#[]⟩] } (pi : Nat) _ (HR.out.below (HK8.out.alloc _)) (HS.out.below (HK8.out.alloc _)) (HP8.out.below ((Ok.refl _).alloc _))).mono ?_; rintro e w9 ⟨rfl, hk9⟩; rw [HAT.out]; have HK9 : Hid (Ok w w9) := (HK8.out.alloc _).step hk9; clear hk9)
        | fail)
      go_ret
      exact ⟨rfl, HK9.out⟩
end Go.Proofs.YtbndcaglohfnbaaGreatDoor
