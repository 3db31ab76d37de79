import Derived.Test.YtbndcaglohfnbaaGreatDoorKSg
import Derived.Test.YtbndcaglohfnbaaGreatDoorKSroot
set_option linter.unusedVariables false
set_option linter.unusedSimpArgs false
set_option linter.unnecessarySimpa false
/- winnowlaw08: CfgFlows. -/
namespace Go.Proofs.YtbndcaglohfnbaaGreatDoor
open Go.RowKit
def capOf : Value → Nat
  | .slice _ _ c => c
  | _ => 0
set_option maxRecDepth 100000 in
set_option maxHeartbeats 4000000 in
theorem flows_any (s : ByteArray) (w : World) (hR : RulesIs w) (hS : StepsIs w) :
    Calls Tryz.prog 3 #[.string s] w fun e w' => e = .returned (.bool true) ∧ Ok w w' := by
  have HR : Hid (RulesIs w) := hR
  have HS : Hid (StepsIs w) := hS
  clear hR hS
  go_enter Tryz.func3, Tryz.ntmps3
  go_wp2_with fail
  refine (fixed_any w HR.out HS.out).mono ?_
  rintro e w1 ⟨rfl, hk1⟩
  have HK1 : Hid (Ok w w1) := hk1
  clear hk1
  go_wp2_with fail
  refine (lprog_any s w1).mono ?_
  rintro e w2 ⟨ht, hk2⟩
  have HK2 : Hid (Ok w w2) := HK1.out.step hk2
  clear hk2
  rcases ht with ⟨ns, u, h1, rfl, h2, h3⟩ | ⟨h1, rfl⟩
  rotate_left
  · clear h1
    go_wp2_with fail
    go_ret
    exact ⟨rfl, HK2.out.alloc _⟩
  obtain ⟨m, hm⟩ : ∃ x, x = (programR ns).2.2 := ⟨_, rfl⟩
  rw [← hm] at h2
  have HU2 : Hid (PrIs w2 w1.heap.size u ns m) := h2
  have HOK : Hid (∀ n ∈ ns, n.Ok) := fun n hn => fit_ok (h3 n hn)
  have HRD : Hid ((readD ns rd0).1 = 0 ∧ m = lsOf (readD ns rd0).2.2) := by
    obtain ⟨P, _, _, _, _, hp⟩ := h1
    have hq := program_eq ns HOK.out
    rw [hq] at hp hm
    exact ⟨hp, hm⟩
  have HPG : Hid (goodD ns m = true) := by
    obtain ⟨P, _, _, _, _, hp⟩ := h1
    unfold Hid; rw [hm]; exact good_own HOK.out hp
  clear h1 h2 h3 hm
  obtain ⟨o0, p0, e0⟩ := own_form (HU2.out 0 (by decide))
  obtain ⟨o1, p1, e1⟩ := own_form (HU2.out 1 (by decide))
  obtain ⟨o2, p2, e2⟩ := own_form (HU2.out 2 (by decide))
  obtain ⟨o3, p3, e3⟩ := own_form (HU2.out 3 (by decide))
  obtain ⟨o4, p4, e4⟩ := own_form (HU2.out 4 (by decide))
  obtain ⟨o5, p5, e5⟩ := own_form (HU2.out 5 (by decide))
  have HP2 : Hid (ProgIs w2 (.slice o0 (nOf ns.length m 0) p0) (.slice o1 (nOf ns.length m 1) p1) (.slice o2 (nOf ns.length m 2) p2) (.slice o3 (nOf ns.length m 3) p3) (.slice o4 (nOf ns.length m 4) p4) (.slice o5 (nOf ns.length m 5) p5) ns m) := by have := HU2.out.prog HOK.out; rw [e0, e1, e2, e3, e4, e5] at this; exact this
  rw [e0, e1, e2, e3, e4, e5]
  obtain ⟨n0, hn0⟩ : ∃ x, x = nOf ns.length m 0 := ⟨_, rfl⟩
  obtain ⟨n1, hn1⟩ : ∃ x, x = nOf ns.length m 1 := ⟨_, rfl⟩
  obtain ⟨n2, hn2⟩ : ∃ x, x = nOf ns.length m 2 := ⟨_, rfl⟩
  obtain ⟨n3, hn3⟩ : ∃ x, x = nOf ns.length m 3 := ⟨_, rfl⟩
  obtain ⟨n4, hn4⟩ : ∃ x, x = nOf ns.length m 4 := ⟨_, rfl⟩
  obtain ⟨n5, hn5⟩ : ∃ x, x = nOf ns.length m 5 := ⟨_, rfl⟩
  rw [← hn0, ← hn1, ← hn2, ← hn3, ← hn4, ← hn5] at HP2 ⊢
  have HN : Hid (n0 = nOf ns.length m 0 ∧ n1 = nOf ns.length m 1 ∧ n2 = nOf ns.length m 2 ∧ n3 = nOf ns.length m 3 ∧ n4 = nOf ns.length m 4 ∧ n5 = nOf ns.length m 5) := ⟨hn0, hn1, hn2, hn3, hn4, hn5⟩
  have HLB : Hid (n0 = ns.length ∧ n0 ≤ 300 ∧ n3 = ns.length ∧ n5 = ns.length ∧ m.sc.length ≤ 100000 ∧ m.ar.length ≤ 100000 ∧ m.sy.length ≤ 100000 ∧ m.si.length ≤ 100000 ∧ m.so.length ≤ 100000) := by
    have hl := prog_lens HRD.out.1 HOK.out
    rw [← HRD.out.2] at hl
    obtain ⟨k1, k2, k3, k4, k5, k6⟩ := hl
    have hn3' : nOf ns.length m 3 = m.sy.length := rfl
    have hn5' : nOf ns.length m 5 = m.so.length := rfl
    have hn0' : nOf ns.length m 0 = ns.length := rfl
    unfold Hid; omega
  clear e0 e1 e2 e3 e4 e5 hn0 hn1 hn2 hn3 hn4 hn5
  go_wp2_with fail
  obtain ⟨w3, hw3⟩ : ∃ x, x = w2.alloc (Obj.cells #[Value.slice o0 n0 p0, Value.slice o1 n1 p1, Value.slice o2 n2 p2, Value.slice o3 n3 p3, Value.slice o4 n4 p4, Value.slice o5 n5 p5] 28) := ⟨_, rfl⟩
  obtain ⟨gp, hgp⟩ : ∃ x, x = w2.heap.size := ⟨_, rfl⟩
  rw [← hw3, ← hgp]
  have hk3 : Ok w2 w3 := by rw [hw3]; exact (Ok.refl _).alloc _
  have HK3 : Hid (Ok w w3) := HK2.out.step hk3
  have HX3 : Hid (Six w3 gp (.slice o0 n0 p0) (.slice o1 n1 p1) (.slice o2 n2 p2) (.slice o3 n3 p3) (.slice o4 n4 p4) (.slice o5 n5 p5)) := by unfold Hid; rw [hw3, hgp]; exact Six.new _ _ _ _ _ _ _
  have HP3 : Hid (ProgIs w3 (.slice o0 n0 p0) (.slice o1 n1 p1) (.slice o2 n2 p2) (.slice o3 n3 p3) (.slice o4 n4 p4) (.slice o5 n5 p5) ns m) := HP2.out.below hk3
  clear hw3 hgp hk3 HP2 HU2
  refine (copied_any _ _ _ _ _ _ ns m w3 HP3.out (by have := HLB.out; omega)).mono ?_
  rintro e w4 ⟨gq, dq, rfl, hcp, hk4⟩
  have HK4 : Hid (Ok w w4) := HK3.out.step hk4
  have HX4 : Hid (Six w4 gp (.slice o0 n0 p0) (.slice o1 n1 p1) (.slice o2 n2 p2) (.slice o3 n3 p3) (.slice o4 n4 p4) (.slice o5 n5 p5)) := HX3.out.below hk4
  have HP4 : Hid (ProgIs w4 (.slice o0 n0 p0) (.slice o1 n1 p1) (.slice o2 n2 p2) (.slice o3 n3 p3) (.slice o4 n4 p4) (.slice o5 n5 p5) ns m) := HP3.out.below hk4
  have HCP : Hid (CpIs w4 w3.heap.size gq dq ns m) := hcp
  have HGP : Hid (gp < w3.heap.size) := HX3.out.lt
  have HT : Hid (TreeOK ns) := tree_of (read_shape HRD.out.1)
  have HPQ : Hid (ProgIs w4 (cpV ns m gq dq 0) (cpV ns m gq dq 1) (cpV ns m gq dq 2) (cpV ns m gq dq 3) (cpV ns m gq dq 4) (cpV ns m gq dq 5) ns m) := HCP.out.pr.prog HOK.out
  clear hk4 hcp HX3 HP3
  generalize cpV ns m gq dq 0 = y0 at *
  generalize cpV ns m gq dq 1 = y1 at *
  generalize cpV ns m gq dq 2 = y2 at *
  generalize cpV ns m gq dq 3 = y3 at *
  generalize cpV ns m gq dq 4 = y4 at *
  generalize cpV ns m gq dq 5 = y5 at *
  clear HCP
  go_wp2_with fail
  refine (lower_good _ _ _ _ _ _ ns m w4 (HR.out.below HK4.out) (HS.out.below HK4.out) HPQ.out HPG.out).mono ?_
  rintro e w5 ⟨u2, ev, rfl, hu2, hev, hk5⟩
  have HK5 : Hid (Ok w w5) := HK4.out.step hk5
  have HX5 : Hid (Six w5 gp (.slice o0 n0 p0) (.slice o1 n1 p1) (.slice o2 n2 p2) (.slice o3 n3 p3) (.slice o4 n4 p4) (.slice o5 n5 p5)) := HX4.out.below hk5
  have HP5 : Hid (ProgIs w5 (.slice o0 n0 p0) (.slice o1 n1 p1) (.slice o2 n2 p2) (.slice o3 n3 p3) (.slice o4 n4 p4) (.slice o5 n5 p5) ns m) := HP4.out.below hk5
  obtain ⟨N, hN⟩ : ∃ x, x = ptF ns ns.length := ⟨_, rfl⟩
  have HNN : Hid (N = ptF ns ns.length ∧ N ≤ n0) := ⟨hN, by rw [hN, HLB.out.1]; exact ptF_le _ _⟩
  obtain ⟨L, hL⟩ : ∃ x, x = (elF ns).length := ⟨_, rfl⟩
  have HL : Hid (L = (elF ns).length) := hL
  have HED : Hid ((elF ns).length = 0 ∨ ∃ ge, ev = .slice (some ⟨ge, 0, none⟩) (elF ns).length (capOf ev) ∧ EdsAt w5 ge (elF ns)) := by
    by_cases c : (elF ns).length = 0
    · exact .inl c
    · obtain ⟨g, cp, e1, _⟩ := hev.form (by omega)
      subst e1
      exact .inr ⟨g, rfl, own_eds hev⟩
  obtain ⟨eo, ec, rfl⟩ := own_form hev
  have HE5 : Hid ((elF ns).length = 0 ∨ ∃ ge, eo = some ⟨ge, 0, none⟩ ∧ EdsAt w5 ge (elF ns)) := HED.out.imp id (fun ⟨ge, e1, h⟩ => by injection e1 with e1; exact ⟨ge, e1, h⟩)
  have HU : Hid (PrIs w5 w4.heap.size u2 ns (lsOf (readD ns rd0).2.2)) := hu2
  obtain ⟨a0, q0, e0⟩ := own_form (HU.out 0 (by decide))
  obtain ⟨a1, q1, e1⟩ := own_form (HU.out 1 (by decide))
  obtain ⟨a2, q2, e2⟩ := own_form (HU.out 2 (by decide))
  obtain ⟨a3, q3, e3⟩ := own_form (HU.out 3 (by decide))
  obtain ⟨a4, q4, e4⟩ := own_form (HU.out 4 (by decide))
  obtain ⟨a5, q5, e5⟩ := own_form (HU.out 5 (by decide))
  rw [e0, e1, e2, e3, e4, e5]
  obtain ⟨m0, hm0⟩ : ∃ x, x = nOf ns.length (lsOf (readD ns rd0).2.2) 0 := ⟨_, rfl⟩
  obtain ⟨m1, hm1⟩ : ∃ x, x = nOf ns.length (lsOf (readD ns rd0).2.2) 1 := ⟨_, rfl⟩
  obtain ⟨m2, hm2⟩ : ∃ x, x = nOf ns.length (lsOf (readD ns rd0).2.2) 2 := ⟨_, rfl⟩
  obtain ⟨m3, hm3⟩ : ∃ x, x = nOf ns.length (lsOf (readD ns rd0).2.2) 3 := ⟨_, rfl⟩
  obtain ⟨m4, hm4⟩ : ∃ x, x = nOf ns.length (lsOf (readD ns rd0).2.2) 4 := ⟨_, rfl⟩
  obtain ⟨m5, hm5⟩ : ∃ x, x = nOf ns.length (lsOf (readD ns rd0).2.2) 5 := ⟨_, rfl⟩
  rw [← hm0, ← hm1, ← hm2, ← hm3, ← hm4, ← hm5, ← hN, ← hL]
  clear hk5 hu2 hev HU e0 e1 e2 e3 e4 e5 hm0 hm1 hm2 hm3 hm4 hm5 HX4 HP4 hN hL HED HPQ
  obtain ⟨z1, c0, c1, c2, c3, c4, c5⟩ := HX5.out.pc
  have hn1 : ¬ (N : Int) + 1 < 1 := by omega
  have hn1d : decide ((N : Int) + 1 < 1) = false := decide_eq_false hn1
  have hn2 : ¬ (n0 : Int) + 1 < (N : Int) + 1 := by have := HNN.out; omega
  have hn2d : decide ((n0 : Int) + 1 < (N : Int) + 1) = false := decide_eq_false hn2
  have hn3 : IntKind.i64.wrap ((n0 : Int) + 1) = ((n0 + 1 : Nat) : Int) := kw_bnd (by have := HLB.out; omega)
  have hn4 : IntKind.i64.wrap ((N : Int) + 1 - 1) = (N : Int) := kw_sub (by have h1 := HLB.out; have h2 := HNN.out; omega)
  have hn5 : wrap64 (N : Int) = (N : Int) := k64_id (by have h1 := HLB.out; have h2 := HNN.out; omega)
  have hn6 : IntKind.i64.wrap (N : Int) = (N : Int) := kw_id (by have h1 := HLB.out; have h2 := HNN.out; omega)
  go_wp2_with fail
  obtain ⟨gg, hgg⟩ : ∃ x, x = w5.heap.size := ⟨_, rfl⟩
  obtain ⟨W0, hW0⟩ : ∃ x, x = w5.alloc (Obj.cells #[Value.slice a0 m0 q0, Value.slice a1 m1 q1, Value.slice a2 m2 q2, Value.slice a3 m3 q3, Value.slice a4 m4 q4, Value.slice a5 m5 q5, Value.int IntKind.i64 ((N : Int) + 1), Value.int IntKind.i64 (N : Nat), Value.slice eo L ec] 33) := ⟨_, rfl⟩
  rw [← hgg, ← hW0]
  have HK5W : Hid (Ok w5 W0) := by unfold Hid; rw [hW0]; exact (Ok.refl _).alloc _
  have HK0 : Hid (Ok w W0) := HK5.out.step HK5W.out
  have HX0 : Hid (Six W0 gp (.slice o0 n0 p0) (.slice o1 n1 p1) (.slice o2 n2 p2) (.slice o3 n3 p3) (.slice o4 n4 p4) (.slice o5 n5 p5)) := HX5.out.below HK5W.out
  have HP0 : Hid (ProgIs W0 (.slice o0 n0 p0) (.slice o1 n1 p1) (.slice o2 n2 p2) (.slice o3 n3 p3) (.slice o4 n4 p4) (.slice o5 n5 p5) ns m) := HP5.out.below HK5W.out
  have HG0 : Hid (W0.heap[gg]? = some (.cells #[Value.slice a0 m0 q0, Value.slice a1 m1 q1, Value.slice a2 m2 q2, Value.slice a3 m3 q3, Value.slice a4 m4 q4, Value.slice a5 m5 q5, Value.int IntKind.i64 ((N : Int) + 1), Value.int IntKind.i64 (N : Nat), Value.slice eo L ec] 33 (0, 0))) := by unfold Hid; rw [hW0, hgg]; exact heap_at _ _ _ (by simp)
  have HE0 : Hid ((elF ns).length = 0 ∨ ∃ ge, eo = some ⟨ge, 0, none⟩ ∧ EdsAt W0 ge (elF ns)) := HE5.out.imp id (fun ⟨ge, e1, h⟩ => ⟨ge, e1, h.below HK5W.out⟩)
  clear hgg hW0 z1 c0 c1 c2 c3 c4 c5 hn1 hn1d hn2 hn2d hn3 hn4 hn5 hn6 HX5 HP5 HE5
  obtain ⟨bs, hfl, hbn, hbk⟩ := (elF_flow HT.out).seg
  have HBS : Hid (elF ns = bs.flatten ∧ bs.length = N ∧ ∀ (i : Nat) (b : List Ed), bs[i]? = some b → Blk (0 + i) b) := ⟨hfl, by have := HNN.out.1; omega, hbk⟩
  clear hfl hbn hbk
  have HOF : Hid (offB bs N = L) := by unfold Hid; rw [← HBS.out.2.1, offB_end, ← HBS.out.1, HL.out]
  go_loopw [7, 8] (fun t v wr => ∃ x : Nat, t = .int .i64 (offB bs x : Nat) ∧ v = .int .i64 (x : Nat) ∧ x ≤ N ∧ Hid (Ok W0 wr)) (fun _ v _ => N - (intOf v).toNat)
  case atStart => exact ⟨0, rfl, rfl, Nat.zero_le _, Ok.refl _⟩
  case round =>
    obtain ⟨x, rfl, rfl, hx, HWR⟩ := hrel
    have b7 : wr.cell? ⟨gg, 7, none⟩ = some (.int .i64 (N : Nat)) := (cell_of_row _ _ 7 _ _ _ (Ok.row' HWR.out HG0.out)).trans (by simp)
    have b8 : wr.cell? ⟨gg, 8, none⟩ = some (.slice eo L ec) := (cell_of_row _ _ 8 _ _ _ (Ok.row' HWR.out HG0.out)).trans (by simp)
    have lb := lt_row (Ok.row' HWR.out HG0.out)
    by_cases hxN : x < N
    · have hxN' : (x : Int) < (N : Int) := by omega
      obtain ⟨b, hb⟩ : ∃ b, bs[x]? = some b := ⟨_, List.getElem?_eq_getElem (by have := HBS.out.2.1; omega)⟩
      obtain ⟨ho1, ho2⟩ := offB_get hb
      have hB := HBS.out.2.2 x b hb
      rw [Nat.zero_add] at hB
      rw [← HBS.out.1] at ho2
      obtain ⟨k, hkk⟩ : ∃ k, k = offB bs x := ⟨_, rfl⟩
      rw [← hkk] at ho1 ho2 ⊢
      have hxw : IntKind.i64.wrap ((x : Int) + 1) = ((x + 1 : Nat) : Int) := kw_bnd (by have h1 := HLB.out; have h2 := HNN.out; omega)
      have hL2 := elF_len HT.out
      rw [← HL.out, ← HNN.out.1] at hL2
      rcases hB with ⟨e, rfl, f1, f2, f3, f4⟩ | ⟨e, d, rfl, f1, g1, f2, g2, g3, f3, g4, g5⟩
      · have he : (elF ns)[k]? = some e := by have := ho2 0 (by simp); simpa using this
        have hkl : k < L := by have := (List.getElem?_eq_some_iff.1 he).1; have := HL.out; omega
        have ho3 : offB bs (x + 1) = k + 1 := by simpa using ho1
        obtain ⟨ge, rfl, hEd⟩ := HE0.out.resolve_left (by have := HL.out; omega)
        have hEd' := hEd.below HWR.out
        obtain ⟨x0, x1, x2, x3, x4, x5⟩ := hEd'.2 k e he
        have lge := hEd'.1
        rw [f1] at x0
        rw [f3] at x4
        rw [f4] at x5
        obtain ⟨eop, heo⟩ : ∃ y, y = e.op := ⟨_, rfl⟩
        obtain ⟨ep, hep⟩ : ∃ y, y = e.place := ⟨_, rfl⟩
        obtain ⟨et, het⟩ : ∃ y, y = e.to' := ⟨_, rfl⟩
        rw [← heo] at x2 f2
        rw [← hep] at x3
        rw [← het] at x1
        have h5 : (eop == 5) = false := by rw [beq_eq_false_iff_ne]; exact f2
        have hk1 : ¬ (L : Int) ≤ (k : Int) := by omega
        have hk1d : decide ((L : Int) ≤ (k : Int)) = false := decide_eq_false hk1
        have hk2 : (k : Int) < (L : Int) := by omega
        have hkw : IntKind.i64.wrap ((k : Int) + 1) = ((k + 1 : Nat) : Int) := kw_bnd (by have h1 := HLB.out; have h2 := HNN.out; omega)
        have HO3 : Hid (offB bs (x + 1) = k + 1) := ho3
        clear hEd hEd' he heo hep het f1 f2 f3 f4 ho1 ho2 ho3 hkk hb hL2
        go_wp2_with fail
        go_roundw
        case rel => exact ⟨x + 1, by rw [HO3.out]; rfl, rfl, hxN, HWR.out.alloc _⟩
        case measure => simp only [intOf, Int.toNat_natCast]; omega
      · have he : (elF ns)[k]? = some e := by have := ho2 0 (by simp); simpa using this
        have hd : (elF ns)[k + 1]? = some d := by have := ho2 1 (by simp); simpa using this
        have hkl : k + 1 < L := by have := (List.getElem?_eq_some_iff.1 hd).1; have := HL.out; omega
        have ho3 : offB bs (x + 1) = k + 2 := by simpa using ho1
        obtain ⟨ge, rfl, hEd⟩ := HE0.out.resolve_left (by have := HL.out; omega)
        have hEd' := hEd.below HWR.out
        obtain ⟨x0, x1, x2, x3, x4, x5⟩ := hEd'.2 k e he
        obtain ⟨r0, r1, r2, r3, r4, r5⟩ := hEd'.2 (k + 1) d hd
        have lge := hEd'.1
        rw [f1] at x0
        rw [f2] at x2
        rw [f3] at x4
        rw [g1] at r0
        rw [g2] at r2
        rw [g3] at r3
        rw [g4] at r4
        rw [g5] at r5
        obtain ⟨ep, hep⟩ : ∃ y, y = e.place := ⟨_, rfl⟩
        obtain ⟨et, het⟩ : ∃ y, y = e.to' := ⟨_, rfl⟩
        obtain ⟨dt, hdt⟩ : ∃ y, y = d.to' := ⟨_, rfl⟩
        obtain ⟨el, hel⟩ : ∃ y, y = e.loop := ⟨_, rfl⟩
        rw [← hep] at x3 r3
        rw [← het] at x1
        rw [← hdt] at r1
        rw [← hel] at x5 r5
        have hk1 : ¬ (L : Int) ≤ (k : Int) := by omega
        have hk1d : decide ((L : Int) ≤ (k : Int)) = false := decide_eq_false hk1
        have hk2 : (k : Int) < (L : Int) := by omega
        have hk3 : ¬ (L : Int) ≤ (k : Int) + 1 := by omega
        have hk3d : decide ((L : Int) ≤ (k : Int) + 1) = false := decide_eq_false hk3
        have hk4 : (k : Int) + 1 < (L : Int) := by omega
        have hkw : IntKind.i64.wrap ((k : Int) + 1) = ((k + 1 : Nat) : Int) := kw_bnd (by have h1 := HLB.out; have h2 := HNN.out; omega)
        have hkw2 : IntKind.i64.wrap ((k : Int) + 1 + 1) = ((k + 1 + 1 : Nat) : Int) := by have := kw_bnd (k := k + 1) (by have h1 := HLB.out; have h2 := HNN.out; omega); simpa using this
        have HO3 : Hid (offB bs (x + 1) = k + 2) := ho3
        clear hEd hEd' he hd hep het hdt hel f1 f2 f3 g1 g2 g3 g4 g5 ho1 ho2 ho3 hkk hb hL2
        go_wp2_with fail
        go_roundw
        case rel => exact ⟨x + 1, by rw [HO3.out]; rfl, rfl, hxN, (HWR.out.alloc _).alloc _⟩
        case measure => simp only [intOf, Int.toNat_natCast]; omega
    · have hxN' : ¬ (x : Int) < (N : Int) := by omega
      have exN : x = N := by omega
      subst exN
      rw [HOF.out]
      have HGR := Ok.row' HWR.out HG0.out
      have t0 : wr.cell? ⟨gg, 0, none⟩ = some (.slice a0 m0 q0) := (cell_of_row _ _ 0 _ _ _ HGR).trans (by simp)
      have t1 : wr.cell? ⟨gg, 1, none⟩ = some (.slice a1 m1 q1) := (cell_of_row _ _ 1 _ _ _ HGR).trans (by simp)
      have t2 : wr.cell? ⟨gg, 2, none⟩ = some (.slice a2 m2 q2) := (cell_of_row _ _ 2 _ _ _ HGR).trans (by simp)
      have t3 : wr.cell? ⟨gg, 3, none⟩ = some (.slice a3 m3 q3) := (cell_of_row _ _ 3 _ _ _ HGR).trans (by simp)
      have t4 : wr.cell? ⟨gg, 4, none⟩ = some (.slice a4 m4 q4) := (cell_of_row _ _ 4 _ _ _ HGR).trans (by simp)
      have t5 : wr.cell? ⟨gg, 5, none⟩ = some (.slice a5 m5 q5) := (cell_of_row _ _ 5 _ _ _ HGR).trans (by simp)
      have t6 : wr.cell? ⟨gg, 6, none⟩ = some (.int .i64 ((x : Int) + 1)) := (cell_of_row _ _ 6 _ _ _ HGR).trans (by simp)
      clear HGR
      have HRC : Hid (∀ (W : World), Ok W0 W → Calls Tryz.prog 12 #[.agg #[.slice a0 m0 q0, .slice a1 m1 q1, .slice a2 m2 q2, .slice a3 m3 q3, .slice a4 m4 q4, .slice a5 m5 q5, .int .i64 ((x : Int) + 1), .int .i64 (x : Nat), .slice eo L ec]] W fun e w' => e = .returned (.bool true) ∧ Ok W w') := fun W hW => by
        have := reached_any (.slice a0 m0 q0) (.slice a1 m1 q1) (.slice a2 m2 q2) (.slice a3 m3 q3) (.slice a4 m4 q4) (.slice a5 m5 q5) ns eo ec W HT.out (by have := HLB.out; omega) (HE0.out.imp id (fun ⟨ge, e1, h⟩ => ⟨ge, e1, h.below hW⟩))
        rw [← HL.out, ← HNN.out.1] at this
        exact this
      have HPC : Hid (∀ (W : World), Ok W0 W → Calls Tryz.prog 13 #[.agg #[.slice o0 n0 p0, .slice o1 n1 p1, .slice o2 n2 p2, .slice o3 n3 p3, .slice o4 n4 p4, .slice o5 n5 p5], .agg #[.slice a0 m0 q0, .slice a1 m1 q1, .slice a2 m2 q2, .slice a3 m3 q3, .slice a4 m4 q4, .slice a5 m5 q5, .int .i64 ((x : Int) + 1), .int .i64 (x : Nat), .slice eo L ec]] W fun e w' => e = .returned (.bool true) ∧ Ok W w') := fun W hW => by
        have := places_any _ _ _ _ _ _ (.slice a0 m0 q0) (.slice a1 m1 q1) (.slice a2 m2 q2) (.slice a3 m3 q3) (.slice a4 m4 q4) (.slice a5 m5 q5) ns m eo ec W (HR.out.below (HK0.out.step hW)) (HS.out.below (HK0.out.step hW)) (HP0.out.below hW) HPG.out HT.out (by have := HLB.out; omega) (HE0.out.imp id (fun ⟨ge, e1, h⟩ => ⟨ge, e1, h.below hW⟩))
        rw [← HL.out, ← HNN.out.1] at this
        exact this
      obtain ⟨z1, c0, c1, c2, c3, c4, c5⟩ := (HX0.out.below HWR.out).pc
      go_wp2_with (first
        | (go_at_call 12; refine (HRC.out wr HWR.out).mono ?_; rintro e w6 ⟨rfl, hk6⟩; have HK6 : Hid (Ok W0 w6) := HWR.out.step hk6; clear t0 t1 t2 t3 t4 t5 t6 b7 b8 lb z1 c0 c1 c2 c3 c4 c5 hk6; have HGR := Ok.row' HK6.out HG0.out; have t0 : w6.cell? ⟨gg, 0, none⟩ = some (.slice a0 m0 q0) := (cell_of_row _ _ 0 _ _ _ HGR).trans (by simp); have t1 : w6.cell? ⟨gg, 1, none⟩ = some (.slice a1 m1 q1) := (cell_of_row _ _ 1 _ _ _ HGR).trans (by simp); have t2 : w6.cell? ⟨gg, 2, none⟩ = some (.slice a2 m2 q2) := (cell_of_row _ _ 2 _ _ _ HGR).trans (by simp); have t3 : w6.cell? ⟨gg, 3, none⟩ = some (.slice a3 m3 q3) := (cell_of_row _ _ 3 _ _ _ HGR).trans (by simp); have t4 : w6.cell? ⟨gg, 4, none⟩ = some (.slice a4 m4 q4) := (cell_of_row _ _ 4 _ _ _ HGR).trans (by simp); have t5 : w6.cell? ⟨gg, 5, none⟩ = some (.slice a5 m5 q5) := (cell_of_row _ _ 5 _ _ _ HGR).trans (by simp); have t6 : w6.cell? ⟨gg, 6, none⟩ = some (.int .i64 ((x : Int) + 1)) := (cell_of_row _ _ 6 _ _ _ HGR).trans (by simp); have t7 : w6.cell? ⟨gg, 7, none⟩ = some (.int .i64 (x : Nat)) := (cell_of_row _ _ 7 _ _ _ HGR).trans (by simp); have t8 : w6.cell? ⟨gg, 8, none⟩ = some (.slice eo L ec) := (cell_of_row _ _ 8 _ _ _ HGR).trans (by simp); have lb := lt_row HGR; obtain ⟨z1, c0, c1, c2, c3, c4, c5⟩ := (HX0.out.below HK6.out).pc; clear HGR)
        | (go_at_call 13; refine (HPC.out w6 HK6.out).mono ?_; rintro e w7 ⟨rfl, hk7⟩; have HK7 : Hid (Ok w w7) := HK0.out.step (HK6.out.step hk7); clear hk7)
        | fail)
      go_ret
      exact ⟨rfl, HK7.out⟩
end Go.Proofs.YtbndcaglohfnbaaGreatDoor
