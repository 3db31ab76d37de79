import Derived.Test.YtbndcaglohfnbaaGreatDoorKSf
import Derived.Deep.CutRange
set_option linter.unusedVariables false
set_option linter.unusedSimpArgs false
set_option linter.unnecessarySimpa false
/- winnowlaw08: places. -/
namespace Go.Proofs.YtbndcaglohfnbaaGreatDoor
open Go.RowKit
theorem kinds_get {kd : Nat} (h1 : 2 ≤ kd) (h2 : kd ≤ 6) : (#[Value.int IntKind.i64 2, Value.int IntKind.i64 3, Value.int IntKind.i64 4, Value.int IntKind.i64 5, Value.int IntKind.i64 6] : Array Value)[kd - 2]? = some (.int .i64 (kd : Nat)) := by
  rcases (show kd = 2 ∨ kd = 3 ∨ kd = 4 ∨ kd = 5 ∨ kd = 6 by omega) with rfl | rfl | rfl | rfl | rfl <;> rfl
theorem kw_id {k : Nat} (h : k < 1000000) : IntKind.i64.wrap (k : Int) = (k : Int) := wrap_nat rfl (by omega)
theorem k64_id {k : Nat} (h : k < 1000000) : wrap64 (k : Int) = (k : Int) := by unfold wrap64; omega
theorem kw_sub {k : Nat} (h : k < 1000000) : IntKind.i64.wrap ((k : Int) + 1 - 1) = (k : Int) := by rw [show (k : Int) + 1 - 1 = (k : Int) by omega]; exact kw_id h
/-- What At answers of an edge's place. -/
theorem cAt_step {ns : List Nd} {m : Ls} {p : Nat} (hg : goodD ns m = true) (hp : p < ns.length) (hk : 2 ≤ kdA ns p ∧ kdA ns p ≤ 8) : cAt ns m (p : Nat) = (ptF ns p : Nat) := by
  unfold cAt
  rw [if_pos ⟨by omega, by omega, hg, by rw [Int.toNat_natCast]; exact hk⟩, Int.toNat_natCast]
set_option maxRecDepth 100000 in
set_option maxHeartbeats 4000000 in
theorem places_any (v0 v1 v2 v3 v4 v5 gv0 gv1 gv2 gv3 gv4 gv5 : Value) (ns : List Nd) (m : Ls) (ao : Option Addr) (ec : Nat) (w : World) (hR : RulesIs w) (hS : StepsIs w) (hP : ProgIs w v0 v1 v2 v3 v4 v5 ns m) (hg : goodD ns m = true) (hT : TreeOK ns) (hl : ns.length ≤ 300) (hE : (elF ns).length = 0 ∨ ∃ ge, ao = some ⟨ge, 0, none⟩ ∧ EdsAt w ge (elF ns)) :
    Calls Tryz.prog 13 #[.agg #[v0, v1, v2, v3, v4, v5], .agg #[gv0, gv1, gv2, gv3, gv4, gv5, .int .i64 ((ptF ns ns.length + 1 : Nat) : Int), .int .i64 (ptF ns ns.length : Nat), .slice ao (elF ns).length ec]] w fun e w' => e = .returned (.bool true) ∧ Ok w w' := by
  have HT : Hid (TreeOK ns) := hT
  have HE : Hid ((elF ns).length = 0 ∨ ∃ ge, ao = some ⟨ge, 0, none⟩ ∧ EdsAt w ge (elF ns)) := hE
  have HR : Hid (RulesIs w) := hR
  have HS : Hid (StepsIs w) := hS
  have HP : Hid (ProgIs w v0 v1 v2 v3 v4 v5 ns m) := hP
  have HGD : Hid (goodD ns m = true) := hg
  have HLN : Hid (ns.length ≤ 300) := hl
  obtain ⟨_, po, pc, ev0, _⟩ := hP.nodes
  subst ev0
  obtain ⟨N, hN⟩ : ∃ x, x = ptF ns ns.length := ⟨_, rfl⟩
  have HN : Hid (N = ptF ns ns.length ∧ N ≤ 300) := ⟨hN, by rw [hN]; exact Nat.le_trans (ptF_le _ _) hl⟩
  obtain ⟨L, hL⟩ : ∃ x, x = (elF ns).length := ⟨_, rfl⟩
  have HL : Hid (L = (elF ns).length) := hL
  rw [← hN, ← hL]
  clear hT hE hN hL hl hR hS hP hg
  go_enter Tryz.func13, Tryz.ntmps13
  go_wp2_with fail
  obtain ⟨gk, hgk⟩ : ∃ x, x = w.heap.size + 1 + 1 := ⟨_, rfl⟩
  obtain ⟨gg, hgg⟩ : ∃ x, x = w.heap.size + 1 := ⟨_, rfl⟩
  obtain ⟨gp, hgp⟩ : ∃ x, x = w.heap.size := ⟨_, rfl⟩
  obtain ⟨W0, hW0⟩ : ∃ x, x = ((w.alloc (Obj.cells #[Value.slice po ns.length pc, v1, v2, v3, v4, v5] 28)).alloc (Obj.cells #[gv0, gv1, gv2, gv3, gv4, gv5, Value.int IntKind.i64 ((N : Int) + 1), Value.int IntKind.i64 (N : Nat), Value.slice ao L ec] 33)).alloc (Obj.cells #[Value.int IntKind.i64 2, Value.int IntKind.i64 3, Value.int IntKind.i64 4, Value.int IntKind.i64 5, Value.int IntKind.i64 6] 73) := ⟨_, rfl⟩
  rw [← hgk, ← hgg, ← hgp, ← hW0]
  have HK0 : Hid (Ok w W0) := by unfold Hid; rw [hW0]; exact (((Ok.refl w).alloc _).alloc _).alloc _
  have HX0 : Hid (Six W0 gp (.slice po ns.length pc) v1 v2 v3 v4 v5) := by unfold Hid; rw [hW0, hgp]; exact ⟨heap_past _ _ _ (by simp; omega) (heap_past _ _ _ (by simp) (heap_at _ _ _ (by simp)))⟩
  have HG0 : Hid (W0.heap[gg]? = some (.cells #[gv0, gv1, gv2, gv3, gv4, gv5, Value.int IntKind.i64 ((N : Int) + 1), Value.int IntKind.i64 (N : Nat), Value.slice ao L ec] 33 (0, 0))) := by unfold Hid; rw [hW0, hgg]; exact heap_past _ _ _ (by simp) (heap_at _ _ _ (by simp))
  have HQ0 : Hid (W0.heap[gk]? = some (.cells #[Value.int IntKind.i64 2, Value.int IntKind.i64 3, Value.int IntKind.i64 4, Value.int IntKind.i64 5, Value.int IntKind.i64 6] 73 (0, 0))) := by unfold Hid; rw [hW0, hgk]; exact heap_at _ _ _ (by simp)
  clear hgk hgg hgp hW0
  go_loopw [6] (fun t wr => ∃ k : Nat, t = .int .i64 (k : Nat) ∧ k ≤ L ∧ Hid (Ok W0 wr)) (fun t _ => L - (intOf t).toNat)
  case atStart => exact ⟨0, rfl, Nat.zero_le _, Ok.refl _⟩
  case round =>
    obtain ⟨k, rfl, hk, HWR⟩ := hrel
    have b8 : wr.cell? ⟨gg, 8, none⟩ = some (.slice ao L ec) := (cell_of_row _ _ 8 _ _ _ (Ok.row' HWR.out HG0.out)).trans (by simp)
    have lb := lt_row (Ok.row' HWR.out HG0.out)
    by_cases hkL : k < L
    rotate_left
    · have hkL' : ¬ (k : Int) < (L : Int) := by omega
      go_wp2_with fail
      go_ret
      exact ⟨rfl, HK0.out.step HWR.out⟩
    have hkL' : (k : Int) < (L : Int) := by omega
    obtain ⟨e, he⟩ : ∃ e, (elF ns)[k]? = some e := ⟨_, List.getElem?_eq_getElem (by have := HL.out; omega)⟩
    obtain ⟨ge, rfl, hEd⟩ := HE.out.resolve_left (by have := HL.out; omega)
    have hEd' := hEd.below (HK0.out.step HWR.out)
    obtain ⟨x0, x1, x2, x3, x4, x5⟩ := hEd'.2 k e he
    have lge := hEd'.1
    have hPl := (elF_flow HT.out).pl e (List.mem_of_getElem? he)
    obtain ⟨eo, heo⟩ : ∃ x, x = e.op := ⟨_, rfl⟩
    obtain ⟨ep, hep⟩ : ∃ x, x = e.place := ⟨_, rfl⟩
    obtain ⟨es, hes⟩ : ∃ x, x = e.sense := ⟨_, rfl⟩
    obtain ⟨el, hel⟩ : ∃ x, x = e.loop := ⟨_, rfl⟩
    obtain ⟨ef, hef⟩ : ∃ x, x = e.from' := ⟨_, rfl⟩
    obtain ⟨et, het⟩ : ∃ x, x = e.to' := ⟨_, rfl⟩
    unfold PlOK at hPl
    rw [← heo, ← hep, ← hel, ← hef] at hPl
    have HPL : Hid _ := hPl
    rw [← hef] at x0
    rw [← het] at x1
    rw [← heo] at x2
    rw [← hep] at x3
    rw [← hes] at x4
    rw [← hel] at x5
    have hkw : IntKind.i64.wrap ((k : Int) + 1) = ((k + 1 : Nat) : Int) := kw_bnd (by have h1 := HL.out; have h2 := elF_len HT.out; have h3 := HN.out; omega)
    clear hEd hEd' he heo hep hes hel hef het hPl
    go_upto_region 6 with (fail)
    obtain ⟨gE, hgE⟩ : ∃ x, x = wr.heap.size := ⟨_, rfl⟩
    obtain ⟨V, hV⟩ : ∃ x, x = wr.alloc (Obj.cells #[Value.int IntKind.i64 ef, Value.int IntKind.i64 et, Value.int IntKind.i64 eo, Value.int IntKind.i64 ep, Value.bool es, Value.bool el] 40) := ⟨_, rfl⟩
    rw [← hgE, ← hV]
    have HVW : Hid (Ok W0 V) := by unfold Hid; rw [hV]; exact HWR.out.alloc _
    have HKV : Hid (Ok w V) := HK0.out.step HVW.out
    have HEV : Hid (ER V gE ⟨ef, et, eo, ep, es, el⟩) := by unfold Hid; rw [hV, hgE]; exact heap_at _ _ _ (by simp)
    have HXV : Hid (Six V gp (.slice po ns.length pc) v1 v2 v3 v4 v5) := HX0.out.below HVW.out
    have HKV2 : Hid (V.heap[gk]? = some (.cells #[Value.int IntKind.i64 2, Value.int IntKind.i64 3, Value.int IntKind.i64 4, Value.int IntKind.i64 5, Value.int IntKind.i64 6] 73 (0, 0))) := Ok.row' HVW.out HQ0.out
    clear hgE hV x0 x1 x2 x3 x4 x5 lge b8 lb
    obtain ⟨z1, c0, c1, c2, c3, c4, c5⟩ := HXV.out.pc
    obtain ⟨x0, x1, x2, x3, x4, x5⟩ := HEV.out.cs
    have lE := lt_row HEV.out
    rcases HPL.out with ⟨q1, p, q2, q3, q4, q5, q6⟩ | ⟨p, q1, q2, q3, q4, q5, q6⟩
    · obtain ⟨fr, hfr⟩ : ∃ x, x = ptF ns p := ⟨_, rfl⟩
      rw [← hfr] at q6
      subst q1 q2 q6
      have HFR : Hid (fr = ptF ns p) := hfr
      have HAT : Hid (cAt ns m (p : Nat) = (fr : Nat)) := by unfold Hid; rw [hfr]; exact cAt_step HGD.out (by omega) (by rcases q4 with h | h <;> omega)
      have HND : Hid (∀ u, Ok V u → ∃ b o, po = some ⟨b, o, none⟩ ∧ b < u.heap.size ∧ u.cell? ⟨b, o + p * 6 + 1, none⟩ = some (.int .i64 (kdA ns p))) := fun u hu => by
        obtain ⟨_, ao', cap', e1, _, _, hN⟩ := (HP.out.below (HKV.out.step hu)).nodes
        injection e1 with e1 e2 e3; clear e2
        subst e1 e3
        obtain ⟨b, o, rfl, N1⟩ := hN.resolve_left (fun e => by rw [e] at q3; simp at q3)
        obtain ⟨np, hnp⟩ : ∃ n, ns[p]? = some n := ⟨_, List.getElem?_eq_getElem (by omega)⟩
        obtain ⟨-, m1, -, -, -, -⟩ := N1.get hnp
        exact ⟨b, o, rfl, N1.lt, by rw [kdA_get hnp]; exact m1⟩
      obtain ⟨b, o, rfl, lb, m1⟩ := HND.out V (Ok.refl _)
      have hpK : p < 1000000 := by have := HLN.out; omega
      have hp1 : ¬ (p : Int) + 1 < 0 := by omega
      have hp1d : decide ((p : Int) + 1 < 0) = false := decide_eq_false hp1
      have hp2 : ¬ (ns.length : Int) ≤ (p : Int) + 1 := by omega
      have hp2d : decide ((ns.length : Int) ≤ (p : Int) + 1) = false := decide_eq_false hp2
      have hp3 : ¬ (p : Int) + 1 < 1 := by omega
      have hp3d : decide ((p : Int) + 1 < 1) = false := decide_eq_false hp3
      have hp4 : (p : Int) < (ns.length : Int) := by omega
      have hp5 : IntKind.i64.wrap ((p : Int) + 1 - 1) = (p : Int) := kw_sub hpK
      have hp6 : (p : Int) + 1 - 1 = (p : Int) := by omega
      have hp7 : wrap64 (p : Int) = (p : Int) := k64_id hpK
      have hp8 : IntKind.i64.wrap (p : Int) = (p : Int) := kw_id hpK
      clear hfr q3
      rcases q4 with h7 | h7
      · rw [h7] at q5 m1
        replace q5 : el = false := by rw [q5]; rfl
        subst q5
        go_upto_region 12 with (fail)
        clear m1 lb hp1 hp1d hp2 hp2d hp3 hp3d h7 hp5 hp7
        go_cut [69] from 47 to 69 (fun s69 u => Hid (s69 = .bool false ∧ Ok V u))
        case first =>
          as_aux_lemma =>
            refine wp_region_held_drew (S := fun w' => Ok V w') (by kernel_rfl) (Below.drew (Ok.refl _)) (fun hHeld => ?_)
            refine wpAnyH_take (i := 0) (v := .agg #[.slice (some ⟨b, o, none⟩) ns.length pc, v1, v2, v3, v4, v5]) rfl (by kernel_rfl) (by kernel_rfl) (by kernel_rfl) (fun _ _ _ h => h) (Or.inl ⟨by rfl, ?_⟩) hHeld ?_
            · intro w hSw; (try dsimp only at hSw); obtain ⟨z1, c0, c1, c2, c3, c4, c5⟩ := (HXV.out.below hSw).pc; (go_simp; try with_reducible rfl)
            (try simp only [Act.put, List.getElem_toArray, List.getElem_cons_succ, List.getElem_cons_zero, List.setIfInBounds_toArray, List.set_cons_zero, List.set_cons_succ])
            refine wpAnyH_take (i := 1) (v := ?_) rfl (by kernel_rfl) (by kernel_rfl) (by kernel_rfl) (fun _ _ _ h => h) (Or.inl ⟨by rfl, ?_⟩) hHeld ?_
            rotate_left
            · intro w hSw; (try dsimp only at hSw); (go_simp; try with_reducible rfl)
            (try simp only [Act.put, List.getElem_toArray, List.getElem_cons_succ, List.getElem_cons_zero, List.setIfInBounds_toArray, List.set_cons_zero, List.set_cons_succ])
            refine wpAnyH_take (i := 2) (v := .int .i64 ((p : Int) + 1)) rfl (by kernel_rfl) (by kernel_rfl) (by kernel_rfl) (fun _ _ _ h => h) (Or.inl ⟨by rfl, ?_⟩) hHeld ?_
            · intro w hSw; (try dsimp only at hSw); obtain ⟨x0, x1, x2, x3, x4, x5⟩ := (HEV.out.ok hSw).cs; have lE := lt_row (HEV.out.ok hSw); (go_simp; try with_reducible rfl)
            (try simp only [Act.put, List.getElem_toArray, List.getElem_cons_succ, List.getElem_cons_zero, List.setIfInBounds_toArray, List.set_cons_zero, List.set_cons_succ])
            refine wpAnyH_take (i := 3) (v := ?_) rfl (by kernel_rfl) (by kernel_rfl) (by kernel_rfl) (fun _ _ _ h => h) (Or.inl ⟨by rfl, ?_⟩) hHeld ?_
            rotate_left
            · intro w hSw; (try dsimp only at hSw); (go_simp; try with_reducible rfl)
            (try simp only [Act.put, List.getElem_toArray, List.getElem_cons_succ, List.getElem_cons_zero, List.setIfInBounds_toArray, List.set_cons_zero, List.set_cons_succ])
            refine wpAnyH_take (i := 5) (v := ?_) rfl (by kernel_rfl) (by kernel_rfl) (by kernel_rfl) (fun _ _ _ h => h) (Or.inl ⟨by rfl, ?_⟩) hHeld ?_
            rotate_left
            · intro w hSw; (try dsimp only at hSw); (go_simp; try with_reducible rfl)
            (try simp only [Act.put, List.getElem_toArray, List.getElem_cons_succ, List.getElem_cons_zero, List.setIfInBounds_toArray, List.set_cons_zero, List.set_cons_succ])
            refine wpAnyH_take (i := 6) (v := .int .i64 (fr : Nat)) rfl (by kernel_rfl) (by kernel_rfl) (by kernel_rfl) (fun _ _ _ h => h) (Or.inl ⟨by rfl, ?_⟩) hHeld ?_
            · intro w hSw; (try dsimp only at hSw); obtain ⟨x0, x1, x2, x3, x4, x5⟩ := (HEV.out.ok hSw).cs; have lE := lt_row (HEV.out.ok hSw); (go_simp; try with_reducible rfl)
            (try simp only [Act.put, List.getElem_toArray, List.getElem_cons_succ, List.getElem_cons_zero, List.setIfInBounds_toArray, List.set_cons_zero, List.set_cons_succ])
            refine wpAnyH_ready (rs := [4]) (by kernel_rfl) (by simp) ?_
            refine AllReadyH.cons rfl (fun K hK => ?_) AllReadyH.nil
            go_simp
            refine (at_any _ _ _ _ _ _ ns m (p : Nat) _ (HR.out.below (HKV.out.step hHeld)) (HS.out.below (HKV.out.step hHeld)) (HP.out.below (HKV.out.step hHeld))).mono ?_
            rintro e1 u1 ⟨rfl, hx⟩
            have hb := hHeld.step hx
            rw [HAT.out]
            dsimp only
            refine hK.out _ _ hb (fun hHeld => ?_)
            clear hK K hb
            (try simp only [Act.put, List.getElem_toArray, List.getElem_cons_succ, List.getElem_cons_zero, List.setIfInBounds_toArray, List.set_cons_zero, List.set_cons_succ])
            refine wpAnyH_take (i := 7) (v := ?_) rfl (by kernel_rfl) (by kernel_rfl) (by kernel_rfl) (fun _ _ _ h => h) (Or.inl ⟨by rfl, ?_⟩) hHeld ?_
            rotate_left
            · intro w hSw; (try dsimp only at hSw); (go_simp; try with_reducible rfl)
            (try simp only [Act.put, List.getElem_toArray, List.getElem_cons_succ, List.getElem_cons_zero, List.setIfInBounds_toArray, List.set_cons_zero, List.set_cons_succ])
            refine wpAnyH_take (i := 8) (v := ?_) rfl (by kernel_rfl) (by kernel_rfl) (by kernel_rfl) (fun _ _ _ h => h) (Or.inl ⟨by rfl, ?_⟩) hHeld ?_
            rotate_left
            · intro w hSw; (try dsimp only at hSw); (go_simp; try with_reducible rfl)
            (try simp only [Act.put, List.getElem_toArray, List.getElem_cons_succ, List.getElem_cons_zero, List.setIfInBounds_toArray, List.set_cons_zero, List.set_cons_succ])
            refine wpAnyH_take (i := 9) (v := ?_) rfl (by kernel_rfl) (by kernel_rfl) (by kernel_rfl) (fun _ _ _ h => h) (Or.inl ⟨by rfl, ?_⟩) hHeld ?_
            rotate_left
            · intro w hSw; (try dsimp only at hSw); (go_simp; try with_reducible rfl)
            (try simp only [Act.put, List.getElem_toArray, List.getElem_cons_succ, List.getElem_cons_zero, List.setIfInBounds_toArray, List.set_cons_zero, List.set_cons_succ])
            refine wpAnyH_take (i := 10) (v := .bool false) rfl (by kernel_rfl) (by kernel_rfl) (by kernel_rfl) (fun _ _ _ h => h) (Or.inl ⟨by rfl, ?_⟩) hHeld ?_
            · intro w hSw; (try dsimp only at hSw); obtain ⟨x0, x1, x2, x3, x4, x5⟩ := (HEV.out.ok hSw).cs; have lE := lt_row (HEV.out.ok hSw); (go_simp; try with_reducible rfl)
            (try simp only [Act.put, List.getElem_toArray, List.getElem_cons_succ, List.getElem_cons_zero, List.setIfInBounds_toArray, List.set_cons_zero, List.set_cons_succ])
            refine wpAnyH_take (i := 11) (v := ?_) rfl (by kernel_rfl) (by kernel_rfl) (by kernel_rfl) (fun _ _ _ h => h) (Or.inl ⟨by rfl, ?_⟩) hHeld ?_
            rotate_left
            · intro w hSw; (try dsimp only at hSw); (go_simp; try with_reducible rfl)
            (try simp only [Act.put, List.getElem_toArray, List.getElem_cons_succ, List.getElem_cons_zero, List.setIfInBounds_toArray, List.set_cons_zero, List.set_cons_succ])
            refine wpAnyH_take (i := 12) (v := ?_) rfl (by kernel_rfl) (by kernel_rfl) (by kernel_rfl) (fun _ _ _ h => h) (Or.inl ⟨by rfl, ?_⟩) hHeld ?_
            rotate_left
            · intro w hSw; (try dsimp only at hSw); (go_simp; try with_reducible rfl)
            (try simp only [Act.put, List.getElem_toArray, List.getElem_cons_succ, List.getElem_cons_zero, List.setIfInBounds_toArray, List.set_cons_zero, List.set_cons_succ])
            refine wpAnyH_take (i := 13) (v := ?_) rfl (by kernel_rfl) (by kernel_rfl) (by kernel_rfl) (fun _ _ _ h => h) (Or.inl ⟨by rfl, ?_⟩) hHeld ?_
            rotate_left
            · intro w hSw; (try dsimp only at hSw); (go_simp; try with_reducible rfl)
            (try simp only [Act.put, List.getElem_toArray, List.getElem_cons_succ, List.getElem_cons_zero, List.setIfInBounds_toArray, List.set_cons_zero, List.set_cons_succ])
            refine wpAnyH_take (i := 14) (v := ?_) rfl (by kernel_rfl) (by kernel_rfl) (by kernel_rfl) (fun _ _ _ h => h) (Or.inl ⟨by rfl, ?_⟩) hHeld ?_
            rotate_left
            · intro w hSw; (try dsimp only at hSw); (go_simp; try with_reducible rfl)
            (try simp only [Act.put, List.getElem_toArray, List.getElem_cons_succ, List.getElem_cons_zero, List.setIfInBounds_toArray, List.set_cons_zero, List.set_cons_succ])
            refine wpAnyH_take (i := 15) (v := ?_) rfl (by kernel_rfl) (by kernel_rfl) (by kernel_rfl) (fun _ _ _ h => h) (Or.inl ⟨by rfl, ?_⟩) hHeld ?_
            rotate_left
            · intro w hSw; (try dsimp only at hSw); (go_simp; try with_reducible rfl)
            (try simp only [Act.put, List.getElem_toArray, List.getElem_cons_succ, List.getElem_cons_zero, List.setIfInBounds_toArray, List.set_cons_zero, List.set_cons_succ])
            refine wpAnyH_take (i := 16) (v := ?_) rfl (by kernel_rfl) (by kernel_rfl) (by kernel_rfl) (fun _ _ _ h => h) (Or.inl ⟨by rfl, ?_⟩) hHeld ?_
            rotate_left
            · intro w hSw; (try dsimp only at hSw); (go_simp; try with_reducible rfl)
            (try simp only [Act.put, List.getElem_toArray, List.getElem_cons_succ, List.getElem_cons_zero, List.setIfInBounds_toArray, List.set_cons_zero, List.set_cons_succ])
            refine wpAnyH_take (i := 17) (v := ?_) rfl (by kernel_rfl) (by kernel_rfl) (by kernel_rfl) (fun _ _ _ h => h) (Or.inl ⟨by rfl, ?_⟩) hHeld ?_
            rotate_left
            · intro w hSw; (try dsimp only at hSw); (go_simp; try with_reducible rfl)
            (try simp only [Act.put, List.getElem_toArray, List.getElem_cons_succ, List.getElem_cons_zero, List.setIfInBounds_toArray, List.set_cons_zero, List.set_cons_succ])
            refine wpAnyH_take (i := 18) (v := ?_) rfl (by kernel_rfl) (by kernel_rfl) (by kernel_rfl) (fun _ _ _ h => h) (Or.inl ⟨by rfl, ?_⟩) hHeld ?_
            rotate_left
            · intro w hSw; (try dsimp only at hSw); (go_simp; try with_reducible rfl)
            (try simp only [Act.put, List.getElem_toArray, List.getElem_cons_succ, List.getElem_cons_zero, List.setIfInBounds_toArray, List.set_cons_zero, List.set_cons_succ])
            refine wpAnyH_take (i := 19) (v := ?_) rfl (by kernel_rfl) (by kernel_rfl) (by kernel_rfl) (fun _ _ _ h => h) (Or.inl ⟨by rfl, ?_⟩) hHeld ?_
            rotate_left
            · intro w hSw; (try dsimp only at hSw); (go_simp; try with_reducible rfl)
            (try simp only [Act.put, List.getElem_toArray, List.getElem_cons_succ, List.getElem_cons_zero, List.setIfInBounds_toArray, List.set_cons_zero, List.set_cons_succ])
            refine wpAnyH_take (i := 20) (v := ?_) rfl (by kernel_rfl) (by kernel_rfl) (by kernel_rfl) (fun _ _ _ h => h) (Or.inl ⟨by rfl, ?_⟩) hHeld ?_
            rotate_left
            · intro w hSw; (try dsimp only at hSw); (go_simp; try with_reducible rfl)
            (try simp only [Act.put, List.getElem_toArray, List.getElem_cons_succ, List.getElem_cons_zero, List.setIfInBounds_toArray, List.set_cons_zero, List.set_cons_succ])
            refine wpAnyH_take (i := 21) (v := ?_) rfl (by kernel_rfl) (by kernel_rfl) (by kernel_rfl) (fun _ _ _ h => h) (Or.inl ⟨by rfl, ?_⟩) hHeld ?_
            rotate_left
            · intro w hSw; (try dsimp only at hSw); (go_simp; try with_reducible rfl)
            (try simp only [Act.put, List.getElem_toArray, List.getElem_cons_succ, List.getElem_cons_zero, List.setIfInBounds_toArray, List.set_cons_zero, List.set_cons_succ])
            refine wpAnyH_take (i := 22) (v := ?_) rfl (by kernel_rfl) (by kernel_rfl) (by kernel_rfl) (fun _ _ _ h => h) (Or.inl ⟨by rfl, ?_⟩) hHeld ?_
            rotate_left
            · intro w hSw; (try dsimp only at hSw); (go_simp; try with_reducible rfl)
            (try simp only [Act.put, List.getElem_toArray, List.getElem_cons_succ, List.getElem_cons_zero, List.setIfInBounds_toArray, List.set_cons_zero, List.set_cons_succ])
            refine wpAnyH_done (by kernel_rfl) ?_ _
            go_wp2_with fail
            go_meet
            case rel => exact ⟨rfl, hHeld⟩
        case rest =>
        clear hp8 hp6 hp4
        obtain ⟨e1, HU'⟩ := hcut.out
        subst e1
        have HU : Hid (Ok V wc) := HU'
        clear hcut HU'
        go_wp2_with fail
        go_roundw
        case rel => exact ⟨k + 1, rfl, hkL, HVW.out.step HU.out⟩
        case measure => simp only [intOf, Int.toNat_natCast]; omega
      · rw [h7] at q5 m1
        replace q5 : el = true := by rw [q5]; rfl
        subst q5
        go_upto_region 12 with (fail)
        clear m1 lb hp1 hp1d hp2 hp2d hp3 hp3d h7 hp5 hp7
        go_cut [69] from 47 to 69 (fun s69 u => Hid (s69 = .bool false ∧ Ok V u))
        case first =>
          as_aux_lemma =>
            refine wp_region_held_drew (S := fun w' => Ok V w') (by kernel_rfl) (Below.drew (Ok.refl _)) (fun hHeld => ?_)
            refine wpAnyH_take (i := 0) (v := .agg #[.slice (some ⟨b, o, none⟩) ns.length pc, v1, v2, v3, v4, v5]) rfl (by kernel_rfl) (by kernel_rfl) (by kernel_rfl) (fun _ _ _ h => h) (Or.inl ⟨by rfl, ?_⟩) hHeld ?_
            · intro w hSw; (try dsimp only at hSw); obtain ⟨z1, c0, c1, c2, c3, c4, c5⟩ := (HXV.out.below hSw).pc; (go_simp; try with_reducible rfl)
            (try simp only [Act.put, List.getElem_toArray, List.getElem_cons_succ, List.getElem_cons_zero, List.setIfInBounds_toArray, List.set_cons_zero, List.set_cons_succ])
            refine wpAnyH_take (i := 1) (v := ?_) rfl (by kernel_rfl) (by kernel_rfl) (by kernel_rfl) (fun _ _ _ h => h) (Or.inl ⟨by rfl, ?_⟩) hHeld ?_
            rotate_left
            · intro w hSw; (try dsimp only at hSw); (go_simp; try with_reducible rfl)
            (try simp only [Act.put, List.getElem_toArray, List.getElem_cons_succ, List.getElem_cons_zero, List.setIfInBounds_toArray, List.set_cons_zero, List.set_cons_succ])
            refine wpAnyH_take (i := 2) (v := .int .i64 ((p : Int) + 1)) rfl (by kernel_rfl) (by kernel_rfl) (by kernel_rfl) (fun _ _ _ h => h) (Or.inl ⟨by rfl, ?_⟩) hHeld ?_
            · intro w hSw; (try dsimp only at hSw); obtain ⟨x0, x1, x2, x3, x4, x5⟩ := (HEV.out.ok hSw).cs; have lE := lt_row (HEV.out.ok hSw); (go_simp; try with_reducible rfl)
            (try simp only [Act.put, List.getElem_toArray, List.getElem_cons_succ, List.getElem_cons_zero, List.setIfInBounds_toArray, List.set_cons_zero, List.set_cons_succ])
            refine wpAnyH_take (i := 3) (v := ?_) rfl (by kernel_rfl) (by kernel_rfl) (by kernel_rfl) (fun _ _ _ h => h) (Or.inl ⟨by rfl, ?_⟩) hHeld ?_
            rotate_left
            · intro w hSw; (try dsimp only at hSw); (go_simp; try with_reducible rfl)
            (try simp only [Act.put, List.getElem_toArray, List.getElem_cons_succ, List.getElem_cons_zero, List.setIfInBounds_toArray, List.set_cons_zero, List.set_cons_succ])
            refine wpAnyH_take (i := 5) (v := ?_) rfl (by kernel_rfl) (by kernel_rfl) (by kernel_rfl) (fun _ _ _ h => h) (Or.inl ⟨by rfl, ?_⟩) hHeld ?_
            rotate_left
            · intro w hSw; (try dsimp only at hSw); (go_simp; try with_reducible rfl)
            (try simp only [Act.put, List.getElem_toArray, List.getElem_cons_succ, List.getElem_cons_zero, List.setIfInBounds_toArray, List.set_cons_zero, List.set_cons_succ])
            refine wpAnyH_take (i := 6) (v := .int .i64 (fr : Nat)) rfl (by kernel_rfl) (by kernel_rfl) (by kernel_rfl) (fun _ _ _ h => h) (Or.inl ⟨by rfl, ?_⟩) hHeld ?_
            · intro w hSw; (try dsimp only at hSw); obtain ⟨x0, x1, x2, x3, x4, x5⟩ := (HEV.out.ok hSw).cs; have lE := lt_row (HEV.out.ok hSw); (go_simp; try with_reducible rfl)
            (try simp only [Act.put, List.getElem_toArray, List.getElem_cons_succ, List.getElem_cons_zero, List.setIfInBounds_toArray, List.set_cons_zero, List.set_cons_succ])
            refine wpAnyH_ready (rs := [4]) (by kernel_rfl) (by simp) ?_
            refine AllReadyH.cons rfl (fun K hK => ?_) AllReadyH.nil
            go_simp
            refine (at_any _ _ _ _ _ _ ns m (p : Nat) _ (HR.out.below (HKV.out.step hHeld)) (HS.out.below (HKV.out.step hHeld)) (HP.out.below (HKV.out.step hHeld))).mono ?_
            rintro e1 u1 ⟨rfl, hx⟩
            have hb := hHeld.step hx
            rw [HAT.out]
            dsimp only
            refine hK.out _ _ hb (fun hHeld => ?_)
            clear hK K hb
            (try simp only [Act.put, List.getElem_toArray, List.getElem_cons_succ, List.getElem_cons_zero, List.setIfInBounds_toArray, List.set_cons_zero, List.set_cons_succ])
            refine wpAnyH_take (i := 7) (v := ?_) rfl (by kernel_rfl) (by kernel_rfl) (by kernel_rfl) (fun _ _ _ h => h) (Or.inl ⟨by rfl, ?_⟩) hHeld ?_
            rotate_left
            · intro w hSw; (try dsimp only at hSw); (go_simp; try with_reducible rfl)
            (try simp only [Act.put, List.getElem_toArray, List.getElem_cons_succ, List.getElem_cons_zero, List.setIfInBounds_toArray, List.set_cons_zero, List.set_cons_succ])
            refine wpAnyH_take (i := 8) (v := ?_) rfl (by kernel_rfl) (by kernel_rfl) (by kernel_rfl) (fun _ _ _ h => h) (Or.inl ⟨by rfl, ?_⟩) hHeld ?_
            rotate_left
            · intro w hSw; (try dsimp only at hSw); (go_simp; try with_reducible rfl)
            (try simp only [Act.put, List.getElem_toArray, List.getElem_cons_succ, List.getElem_cons_zero, List.setIfInBounds_toArray, List.set_cons_zero, List.set_cons_succ])
            refine wpAnyH_take (i := 9) (v := ?_) rfl (by kernel_rfl) (by kernel_rfl) (by kernel_rfl) (fun _ _ _ h => h) (Or.inl ⟨by rfl, ?_⟩) hHeld ?_
            rotate_left
            · intro w hSw; (try dsimp only at hSw); (go_simp; try with_reducible rfl)
            (try simp only [Act.put, List.getElem_toArray, List.getElem_cons_succ, List.getElem_cons_zero, List.setIfInBounds_toArray, List.set_cons_zero, List.set_cons_succ])
            refine wpAnyH_take (i := 10) (v := .bool true) rfl (by kernel_rfl) (by kernel_rfl) (by kernel_rfl) (fun _ _ _ h => h) (Or.inl ⟨by rfl, ?_⟩) hHeld ?_
            · intro w hSw; (try dsimp only at hSw); obtain ⟨x0, x1, x2, x3, x4, x5⟩ := (HEV.out.ok hSw).cs; have lE := lt_row (HEV.out.ok hSw); (go_simp; try with_reducible rfl)
            (try simp only [Act.put, List.getElem_toArray, List.getElem_cons_succ, List.getElem_cons_zero, List.setIfInBounds_toArray, List.set_cons_zero, List.set_cons_succ])
            refine wpAnyH_take (i := 11) (v := ?_) rfl (by kernel_rfl) (by kernel_rfl) (by kernel_rfl) (fun _ _ _ h => h) (Or.inl ⟨by rfl, ?_⟩) hHeld ?_
            rotate_left
            · intro w hSw; (try dsimp only at hSw); (go_simp; try with_reducible rfl)
            (try simp only [Act.put, List.getElem_toArray, List.getElem_cons_succ, List.getElem_cons_zero, List.setIfInBounds_toArray, List.set_cons_zero, List.set_cons_succ])
            refine wpAnyH_take (i := 12) (v := ?_) rfl (by kernel_rfl) (by kernel_rfl) (by kernel_rfl) (fun _ _ _ h => h) (Or.inl ⟨by rfl, ?_⟩) hHeld ?_
            rotate_left
            · intro w hSw; (try dsimp only at hSw); (go_simp; try with_reducible rfl)
            (try simp only [Act.put, List.getElem_toArray, List.getElem_cons_succ, List.getElem_cons_zero, List.setIfInBounds_toArray, List.set_cons_zero, List.set_cons_succ])
            refine wpAnyH_take (i := 13) (v := ?_) rfl (by kernel_rfl) (by kernel_rfl) (by kernel_rfl) (fun _ _ _ h => h) (Or.inl ⟨by rfl, ?_⟩) hHeld ?_
            rotate_left
            · intro w hSw; (try dsimp only at hSw); (go_simp; try with_reducible rfl)
            (try simp only [Act.put, List.getElem_toArray, List.getElem_cons_succ, List.getElem_cons_zero, List.setIfInBounds_toArray, List.set_cons_zero, List.set_cons_succ])
            refine wpAnyH_take (i := 14) (v := ?_) rfl (by kernel_rfl) (by kernel_rfl) (by kernel_rfl) (fun _ _ _ h => h) (Or.inl ⟨by rfl, ?_⟩) hHeld ?_
            rotate_left
            · intro w hSw; (try dsimp only at hSw); (go_simp; try with_reducible rfl)
            (try simp only [Act.put, List.getElem_toArray, List.getElem_cons_succ, List.getElem_cons_zero, List.setIfInBounds_toArray, List.set_cons_zero, List.set_cons_succ])
            refine wpAnyH_take (i := 15) (v := ?_) rfl (by kernel_rfl) (by kernel_rfl) (by kernel_rfl) (fun _ _ _ h => h) (Or.inl ⟨by rfl, ?_⟩) hHeld ?_
            rotate_left
            · intro w hSw; (try dsimp only at hSw); (go_simp; try with_reducible rfl)
            (try simp only [Act.put, List.getElem_toArray, List.getElem_cons_succ, List.getElem_cons_zero, List.setIfInBounds_toArray, List.set_cons_zero, List.set_cons_succ])
            refine wpAnyH_take (i := 16) (v := ?_) rfl (by kernel_rfl) (by kernel_rfl) (by kernel_rfl) (fun _ _ _ h => h) (Or.inl ⟨by rfl, ?_⟩) hHeld ?_
            rotate_left
            · intro w hSw; (try dsimp only at hSw); (go_simp; try with_reducible rfl)
            (try simp only [Act.put, List.getElem_toArray, List.getElem_cons_succ, List.getElem_cons_zero, List.setIfInBounds_toArray, List.set_cons_zero, List.set_cons_succ])
            refine wpAnyH_take (i := 17) (v := ?_) rfl (by kernel_rfl) (by kernel_rfl) (by kernel_rfl) (fun _ _ _ h => h) (Or.inl ⟨by rfl, ?_⟩) hHeld ?_
            rotate_left
            · intro w hSw; (try dsimp only at hSw); (go_simp; try with_reducible rfl)
            (try simp only [Act.put, List.getElem_toArray, List.getElem_cons_succ, List.getElem_cons_zero, List.setIfInBounds_toArray, List.set_cons_zero, List.set_cons_succ])
            refine wpAnyH_take (i := 18) (v := ?_) rfl (by kernel_rfl) (by kernel_rfl) (by kernel_rfl) (fun _ _ _ h => h) (Or.inl ⟨by rfl, ?_⟩) hHeld ?_
            rotate_left
            · intro w hSw; (try dsimp only at hSw); (go_simp; try with_reducible rfl)
            (try simp only [Act.put, List.getElem_toArray, List.getElem_cons_succ, List.getElem_cons_zero, List.setIfInBounds_toArray, List.set_cons_zero, List.set_cons_succ])
            refine wpAnyH_take (i := 19) (v := undef) rfl (by kernel_rfl) (by kernel_rfl) (by kernel_rfl) (fun _ _ _ h => h) (Or.inr ⟨by rfl, rfl⟩) hHeld ?_
            (try simp only [Act.put, List.getElem_toArray, List.getElem_cons_succ, List.getElem_cons_zero, List.setIfInBounds_toArray, List.set_cons_zero, List.set_cons_succ])
            refine wpAnyH_take (i := 20) (v := undef) rfl (by kernel_rfl) (by kernel_rfl) (by kernel_rfl) (fun _ _ _ h => h) (Or.inr ⟨by rfl, rfl⟩) hHeld ?_
            (try simp only [Act.put, List.getElem_toArray, List.getElem_cons_succ, List.getElem_cons_zero, List.setIfInBounds_toArray, List.set_cons_zero, List.set_cons_succ])
            refine wpAnyH_take (i := 21) (v := ?_) rfl (by kernel_rfl) (by kernel_rfl) (by kernel_rfl) (fun _ _ _ h => h) (Or.inl ⟨by rfl, ?_⟩) hHeld ?_
            rotate_left
            · intro w hSw; (try dsimp only at hSw); (go_simp; try with_reducible rfl)
            (try simp only [Act.put, List.getElem_toArray, List.getElem_cons_succ, List.getElem_cons_zero, List.setIfInBounds_toArray, List.set_cons_zero, List.set_cons_succ])
            refine wpAnyH_take (i := 22) (v := ?_) rfl (by kernel_rfl) (by kernel_rfl) (by kernel_rfl) (fun _ _ _ h => h) (Or.inl ⟨by rfl, ?_⟩) hHeld ?_
            rotate_left
            · intro w hSw; (try dsimp only at hSw); (go_simp; try with_reducible rfl)
            (try simp only [Act.put, List.getElem_toArray, List.getElem_cons_succ, List.getElem_cons_zero, List.setIfInBounds_toArray, List.set_cons_zero, List.set_cons_succ])
            refine wpAnyH_done (by kernel_rfl) ?_ _
            go_wp2_with fail
            go_meet
            case rel => exact ⟨rfl, hHeld⟩
        case rest =>
        clear hp8 hp6 hp4
        obtain ⟨e1, HU'⟩ := hcut.out
        subst e1
        have HU : Hid (Ok V wc) := HU'
        clear hcut HU'
        go_wp2_with fail
        go_roundw
        case rel => exact ⟨k + 1, rfl, hkL, HVW.out.step HU.out⟩
        case measure => simp only [intOf, Int.toNat_natCast]; omega
    · obtain ⟨fr, hfr⟩ : ∃ x, x = ptF ns p := ⟨_, rfl⟩
      obtain ⟨kd, hkd⟩ : ∃ k : Nat, kdA ns p = (k : Int) := ⟨(kdA ns p).toNat, by omega⟩
      obtain ⟨oq, hoq⟩ : ∃ k : Nat, kd = k + 2 := ⟨kd - 2, by omega⟩
      have hoq5 : oq < 5 := by omega
      rw [← hfr] at q6
      have hq5 : eo = (oq : Int) := by omega
      have HAT : Hid (cAt ns m (p : Nat) = (fr : Nat)) := by unfold Hid; rw [hfr]; exact cAt_step HGD.out q2 (by omega)
      have HKC : Hid ((#[Value.int IntKind.i64 2, Value.int IntKind.i64 3, Value.int IntKind.i64 4, Value.int IntKind.i64 5, Value.int IntKind.i64 6] : Array Value)[oq]? = some (.int .i64 (kd : Nat))) := by have := kinds_get (kd := kd) (by omega) (by omega); rw [show kd - 2 = oq by omega] at this; exact this
      subst q1 hq5 q6
      have HND0 : Hid (∀ u, Ok V u → ∃ b o, po = some ⟨b, o, none⟩ ∧ b < u.heap.size ∧ u.cell? ⟨b, o + p * 6 + 1, none⟩ = some (.int .i64 (kd : Nat))) := fun u hu => by
        obtain ⟨_, ao', cap', e1, _, _, hN⟩ := (HP.out.below (HKV.out.step hu)).nodes
        injection e1 with e1 e2 e3; clear e2
        subst e1 e3
        obtain ⟨b, o, rfl, N1⟩ := hN.resolve_left (fun e => by rw [e] at q2; simp at q2)
        obtain ⟨np, hnp⟩ : ∃ n, ns[p]? = some n := ⟨_, List.getElem?_eq_getElem q2⟩
        obtain ⟨-, m1, -, -, -, -⟩ := N1.get hnp
        exact ⟨b, o, rfl, N1.lt, by rw [← hkd, kdA_get hnp]; exact m1⟩
      obtain ⟨b, o, rfl, -, -⟩ := HND0.out V (Ok.refl _)
      have HND : Hid (∀ u, Ok V u → b < u.heap.size ∧ u.cell? ⟨b, o + p * 6 + 1, none⟩ = some (.int .i64 (kd : Nat))) := fun u hu => by
        obtain ⟨b', o', e1, h1, h2⟩ := HND0.out u hu
        injection e1 with e1
        injection e1 with e1 e2
        subst e1 e2
        exact ⟨h1, h2⟩
      have hp1 : ¬ (p : Int) < 0 := by omega
      have hp1d : decide ((p : Int) < 0) = false := decide_eq_false hp1
      have hp2 : ¬ (ns.length : Int) ≤ (p : Int) := by omega
      have hp2d : decide ((ns.length : Int) ≤ (p : Int)) = false := decide_eq_false hp2
      have hp4 : (p : Int) < (ns.length : Int) := by omega
      have ho1 : ((oq : Int) == 5) = false := by rw [beq_eq_false_iff_ne]; omega
      have ho2 : ¬ (oq : Int) < 0 := by omega
      have ho2d : decide ((oq : Int) < 0) = false := decide_eq_false ho2
      have ho3 : ¬ (5 : Int) ≤ (oq : Int) := by omega
      have ho3d : decide ((5 : Int) ≤ (oq : Int)) = false := decide_eq_false ho3
      have ho4 : (oq : Int) < 5 := by omega
      clear hfr q3 q4 q5 hkd hoq HND0
      go_upto_region 14 with (fail)
      clear hp1 hp1d hp2 hp2d ho1
      go_cut [100] from 70 to 100 (fun s100 u => Hid (s100 = .bool false ∧ Ok V u))
      case first =>
        as_aux_lemma =>
          refine wp_region_held_drew (S := fun w' => Ok V w') (by kernel_rfl) (Below.drew (Ok.refl _)) (fun hHeld => ?_)
          refine wpAnyH_take (i := 0) (v := ?_) rfl (by kernel_rfl) (by kernel_rfl) (by kernel_rfl) (fun _ _ _ h => h) (Or.inl ⟨by rfl, ?_⟩) hHeld ?_
          rotate_left
          · intro w hSw; (try dsimp only at hSw); (go_simp; try with_reducible rfl)
          (try simp only [Act.put, List.getElem_toArray, List.getElem_cons_succ, List.getElem_cons_zero, List.setIfInBounds_toArray, List.set_cons_zero, List.set_cons_succ])
          refine wpAnyH_take (i := 1) (v := .int .i64 (oq : Nat)) rfl (by kernel_rfl) (by kernel_rfl) (by kernel_rfl) (fun _ _ _ h => h) (Or.inl ⟨by rfl, ?_⟩) hHeld ?_
          · intro w hSw; (try dsimp only at hSw); obtain ⟨x0, x1, x2, x3, x4, x5⟩ := (HEV.out.ok hSw).cs; have lE := lt_row (HEV.out.ok hSw); (go_simp; try with_reducible rfl)
          (try simp only [Act.put, List.getElem_toArray, List.getElem_cons_succ, List.getElem_cons_zero, List.setIfInBounds_toArray, List.set_cons_zero, List.set_cons_succ])
          refine wpAnyH_take (i := 2) (v := ?_) rfl (by kernel_rfl) (by kernel_rfl) (by kernel_rfl) (fun _ _ _ h => h) (Or.inl ⟨by rfl, ?_⟩) hHeld ?_
          rotate_left
          · intro w hSw; (try dsimp only at hSw); (go_simp; try with_reducible rfl)
          (try simp only [Act.put, List.getElem_toArray, List.getElem_cons_succ, List.getElem_cons_zero, List.setIfInBounds_toArray, List.set_cons_zero, List.set_cons_succ])
          refine wpAnyH_take (i := 3) (v := ?_) rfl (by kernel_rfl) (by kernel_rfl) (by kernel_rfl) (fun _ _ _ h => h) (Or.inl ⟨by rfl, ?_⟩) hHeld ?_
          rotate_left
          · intro w hSw; (try dsimp only at hSw); (go_simp; try with_reducible rfl)
          (try simp only [Act.put, List.getElem_toArray, List.getElem_cons_succ, List.getElem_cons_zero, List.setIfInBounds_toArray, List.set_cons_zero, List.set_cons_succ])
          refine wpAnyH_take (i := 4) (v := ?_) rfl (by kernel_rfl) (by kernel_rfl) (by kernel_rfl) (fun _ _ _ h => h) (Or.inl ⟨by rfl, ?_⟩) hHeld ?_
          rotate_left
          · intro w hSw; (try dsimp only at hSw); (go_simp; try with_reducible rfl)
          (try simp only [Act.put, List.getElem_toArray, List.getElem_cons_succ, List.getElem_cons_zero, List.setIfInBounds_toArray, List.set_cons_zero, List.set_cons_succ])
          refine wpAnyH_take (i := 5) (v := .int .i64 (oq : Nat)) rfl (by kernel_rfl) (by kernel_rfl) (by kernel_rfl) (fun _ _ _ h => h) (Or.inl ⟨by rfl, ?_⟩) hHeld ?_
          · intro w hSw; (try dsimp only at hSw); obtain ⟨x0, x1, x2, x3, x4, x5⟩ := (HEV.out.ok hSw).cs; have lE := lt_row (HEV.out.ok hSw); (go_simp; try with_reducible rfl)
          (try simp only [Act.put, List.getElem_toArray, List.getElem_cons_succ, List.getElem_cons_zero, List.setIfInBounds_toArray, List.set_cons_zero, List.set_cons_succ])
          refine wpAnyH_take (i := 6) (v := ?_) rfl (by kernel_rfl) (by kernel_rfl) (by kernel_rfl) (fun _ _ _ h => h) (Or.inl ⟨by rfl, ?_⟩) hHeld ?_
          rotate_left
          · intro w hSw; (try dsimp only at hSw); (go_simp; try with_reducible rfl)
          (try simp only [Act.put, List.getElem_toArray, List.getElem_cons_succ, List.getElem_cons_zero, List.setIfInBounds_toArray, List.set_cons_zero, List.set_cons_succ])
          refine wpAnyH_take (i := 7) (v := ?_) rfl (by kernel_rfl) (by kernel_rfl) (by kernel_rfl) (fun _ _ _ h => h) (Or.inl ⟨by rfl, ?_⟩) hHeld ?_
          rotate_left
          · intro w hSw; (try dsimp only at hSw); (go_simp; try with_reducible rfl)
          (try simp only [Act.put, List.getElem_toArray, List.getElem_cons_succ, List.getElem_cons_zero, List.setIfInBounds_toArray, List.set_cons_zero, List.set_cons_succ])
          refine wpAnyH_take (i := 8) (v := ?_) rfl (by kernel_rfl) (by kernel_rfl) (by kernel_rfl) (fun _ _ _ h => h) (Or.inl ⟨by rfl, ?_⟩) hHeld ?_
          rotate_left
          · intro w hSw; (try dsimp only at hSw); (go_simp; try with_reducible rfl)
          (try simp only [Act.put, List.getElem_toArray, List.getElem_cons_succ, List.getElem_cons_zero, List.setIfInBounds_toArray, List.set_cons_zero, List.set_cons_succ])
          refine wpAnyH_take (i := 9) (v := ?_) rfl (by kernel_rfl) (by kernel_rfl) (by kernel_rfl) (fun _ _ _ h => h) (Or.inl ⟨by rfl, ?_⟩) hHeld ?_
          rotate_left
          · intro w hSw; (try dsimp only at hSw); (go_simp; try with_reducible rfl)
          (try simp only [Act.put, List.getElem_toArray, List.getElem_cons_succ, List.getElem_cons_zero, List.setIfInBounds_toArray, List.set_cons_zero, List.set_cons_succ])
          refine wpAnyH_take (i := 10) (v := .slice (some ⟨b, o, none⟩) ns.length pc) rfl (by kernel_rfl) (by kernel_rfl) (by kernel_rfl) (fun _ _ _ h => h) (Or.inl ⟨by rfl, ?_⟩) hHeld ?_
          · intro w hSw; (try dsimp only at hSw); obtain ⟨z1, c0, c1, c2, c3, c4, c5⟩ := (HXV.out.below hSw).pc; (go_simp; try with_reducible rfl)
          (try simp only [Act.put, List.getElem_toArray, List.getElem_cons_succ, List.getElem_cons_zero, List.setIfInBounds_toArray, List.set_cons_zero, List.set_cons_succ])
          refine wpAnyH_take (i := 11) (v := ?_) rfl (by kernel_rfl) (by kernel_rfl) (by kernel_rfl) (fun _ _ _ h => h) (Or.inl ⟨by rfl, ?_⟩) hHeld ?_
          rotate_left
          · intro w hSw; (try dsimp only at hSw); (go_simp; try with_reducible rfl)
          (try simp only [Act.put, List.getElem_toArray, List.getElem_cons_succ, List.getElem_cons_zero, List.setIfInBounds_toArray, List.set_cons_zero, List.set_cons_succ])
          refine wpAnyH_take (i := 12) (v := .int .i64 (p : Nat)) rfl (by kernel_rfl) (by kernel_rfl) (by kernel_rfl) (fun _ _ _ h => h) (Or.inl ⟨by rfl, ?_⟩) hHeld ?_
          · intro w hSw; (try dsimp only at hSw); obtain ⟨x0, x1, x2, x3, x4, x5⟩ := (HEV.out.ok hSw).cs; have lE := lt_row (HEV.out.ok hSw); (go_simp; try with_reducible rfl)
          (try simp only [Act.put, List.getElem_toArray, List.getElem_cons_succ, List.getElem_cons_zero, List.setIfInBounds_toArray, List.set_cons_zero, List.set_cons_succ])
          refine wpAnyH_take (i := 13) (v := ?_) rfl (by kernel_rfl) (by kernel_rfl) (by kernel_rfl) (fun _ _ _ h => h) (Or.inl ⟨by rfl, ?_⟩) hHeld ?_
          rotate_left
          · intro w hSw; (try dsimp only at hSw); (go_simp; try with_reducible rfl)
          (try simp only [Act.put, List.getElem_toArray, List.getElem_cons_succ, List.getElem_cons_zero, List.setIfInBounds_toArray, List.set_cons_zero, List.set_cons_succ])
          refine wpAnyH_take (i := 14) (v := ?_) rfl (by kernel_rfl) (by kernel_rfl) (by kernel_rfl) (fun _ _ _ h => h) (Or.inl ⟨by rfl, ?_⟩) hHeld ?_
          rotate_left
          · intro w hSw; (try dsimp only at hSw); (go_simp; try with_reducible rfl)
          (try simp only [Act.put, List.getElem_toArray, List.getElem_cons_succ, List.getElem_cons_zero, List.setIfInBounds_toArray, List.set_cons_zero, List.set_cons_succ])
          refine wpAnyH_take (i := 15) (v := .int .i64 (kd : Nat)) rfl (by kernel_rfl) (by kernel_rfl) (by kernel_rfl) (fun _ _ _ h => h) (Or.inl ⟨by rfl, ?_⟩) hHeld ?_
          · intro w hSw; (try dsimp only at hSw); obtain ⟨lb, m1⟩ := HND.out w hSw; (go_simp; try with_reducible rfl)
          (try simp only [Act.put, List.getElem_toArray, List.getElem_cons_succ, List.getElem_cons_zero, List.setIfInBounds_toArray, List.set_cons_zero, List.set_cons_succ])
          refine wpAnyH_take (i := 16) (v := ?_) rfl (by kernel_rfl) (by kernel_rfl) (by kernel_rfl) (fun _ _ _ h => h) (Or.inl ⟨by rfl, ?_⟩) hHeld ?_
          rotate_left
          · intro w hSw; (try dsimp only at hSw); (go_simp; try with_reducible rfl)
          (try simp only [Act.put, List.getElem_toArray, List.getElem_cons_succ, List.getElem_cons_zero, List.setIfInBounds_toArray, List.set_cons_zero, List.set_cons_succ])
          refine wpAnyH_take (i := 17) (v := .int .i64 (oq : Nat)) rfl (by kernel_rfl) (by kernel_rfl) (by kernel_rfl) (fun _ _ _ h => h) (Or.inl ⟨by rfl, ?_⟩) hHeld ?_
          · intro w hSw; (try dsimp only at hSw); obtain ⟨x0, x1, x2, x3, x4, x5⟩ := (HEV.out.ok hSw).cs; have lE := lt_row (HEV.out.ok hSw); (go_simp; try with_reducible rfl)
          (try simp only [Act.put, List.getElem_toArray, List.getElem_cons_succ, List.getElem_cons_zero, List.setIfInBounds_toArray, List.set_cons_zero, List.set_cons_succ])
          refine wpAnyH_take (i := 18) (v := ?_) rfl (by kernel_rfl) (by kernel_rfl) (by kernel_rfl) (fun _ _ _ h => h) (Or.inl ⟨by rfl, ?_⟩) hHeld ?_
          rotate_left
          · intro w hSw; (try dsimp only at hSw); (go_simp; try with_reducible rfl)
          (try simp only [Act.put, List.getElem_toArray, List.getElem_cons_succ, List.getElem_cons_zero, List.setIfInBounds_toArray, List.set_cons_zero, List.set_cons_succ])
          refine wpAnyH_take (i := 19) (v := .int .i64 (kd : Nat)) rfl (by kernel_rfl) (by kernel_rfl) (by kernel_rfl) (fun _ _ _ h => h) (Or.inl ⟨by rfl, ?_⟩) hHeld ?_
          · intro w hSw; (try dsimp only at hSw); have q1 := (cell_of_row _ _ oq _ _ _ (Ok.row' hSw HKV2.out)).trans HKC.out; have lk := lt_row (Ok.row' hSw HKV2.out); (go_simp; try with_reducible rfl)
          (try simp only [Act.put, List.getElem_toArray, List.getElem_cons_succ, List.getElem_cons_zero, List.setIfInBounds_toArray, List.set_cons_zero, List.set_cons_succ])
          refine wpAnyH_take (i := 20) (v := ?_) rfl (by kernel_rfl) (by kernel_rfl) (by kernel_rfl) (fun _ _ _ h => h) (Or.inl ⟨by rfl, ?_⟩) hHeld ?_
          rotate_left
          · intro w hSw; (try dsimp only at hSw); (go_simp; try with_reducible rfl)
          (try simp only [Act.put, List.getElem_toArray, List.getElem_cons_succ, List.getElem_cons_zero, List.setIfInBounds_toArray, List.set_cons_zero, List.set_cons_succ])
          refine wpAnyH_take (i := 21) (v := ?_) rfl (by kernel_rfl) (by kernel_rfl) (by kernel_rfl) (fun _ _ _ h => h) (Or.inl ⟨by rfl, ?_⟩) hHeld ?_
          rotate_left
          · intro w hSw; (try dsimp only at hSw); (go_simp; try with_reducible rfl)
          (try simp only [Act.put, List.getElem_toArray, List.getElem_cons_succ, List.getElem_cons_zero, List.setIfInBounds_toArray, List.set_cons_zero, List.set_cons_succ])
          refine wpAnyH_take (i := 22) (v := ?_) rfl (by kernel_rfl) (by kernel_rfl) (by kernel_rfl) (fun _ _ _ h => h) (Or.inl ⟨by rfl, ?_⟩) hHeld ?_
          rotate_left
          · intro w hSw; (try dsimp only at hSw); (go_simp; try with_reducible rfl)
          (try simp only [Act.put, List.getElem_toArray, List.getElem_cons_succ, List.getElem_cons_zero, List.setIfInBounds_toArray, List.set_cons_zero, List.set_cons_succ])
          refine wpAnyH_take (i := 23) (v := .agg #[.slice (some ⟨b, o, none⟩) ns.length pc, v1, v2, v3, v4, v5]) rfl (by kernel_rfl) (by kernel_rfl) (by kernel_rfl) (fun _ _ _ h => h) (Or.inl ⟨by rfl, ?_⟩) hHeld ?_
          · intro w hSw; (try dsimp only at hSw); obtain ⟨z1, c0, c1, c2, c3, c4, c5⟩ := (HXV.out.below hSw).pc; (go_simp; try with_reducible rfl)
          (try simp only [Act.put, List.getElem_toArray, List.getElem_cons_succ, List.getElem_cons_zero, List.setIfInBounds_toArray, List.set_cons_zero, List.set_cons_succ])
          refine wpAnyH_take (i := 24) (v := ?_) rfl (by kernel_rfl) (by kernel_rfl) (by kernel_rfl) (fun _ _ _ h => h) (Or.inl ⟨by rfl, ?_⟩) hHeld ?_
          rotate_left
          · intro w hSw; (try dsimp only at hSw); (go_simp; try with_reducible rfl)
          (try simp only [Act.put, List.getElem_toArray, List.getElem_cons_succ, List.getElem_cons_zero, List.setIfInBounds_toArray, List.set_cons_zero, List.set_cons_succ])
          refine wpAnyH_take (i := 25) (v := .int .i64 (p : Nat)) rfl (by kernel_rfl) (by kernel_rfl) (by kernel_rfl) (fun _ _ _ h => h) (Or.inl ⟨by rfl, ?_⟩) hHeld ?_
          · intro w hSw; (try dsimp only at hSw); obtain ⟨x0, x1, x2, x3, x4, x5⟩ := (HEV.out.ok hSw).cs; have lE := lt_row (HEV.out.ok hSw); (go_simp; try with_reducible rfl)
          (try simp only [Act.put, List.getElem_toArray, List.getElem_cons_succ, List.getElem_cons_zero, List.setIfInBounds_toArray, List.set_cons_zero, List.set_cons_succ])
          refine wpAnyH_take (i := 27) (v := ?_) rfl (by kernel_rfl) (by kernel_rfl) (by kernel_rfl) (fun _ _ _ h => h) (Or.inl ⟨by rfl, ?_⟩) hHeld ?_
          rotate_left
          · intro w hSw; (try dsimp only at hSw); (go_simp; try with_reducible rfl)
          (try simp only [Act.put, List.getElem_toArray, List.getElem_cons_succ, List.getElem_cons_zero, List.setIfInBounds_toArray, List.set_cons_zero, List.set_cons_succ])
          refine wpAnyH_take (i := 28) (v := .int .i64 (fr : Nat)) rfl (by kernel_rfl) (by kernel_rfl) (by kernel_rfl) (fun _ _ _ h => h) (Or.inl ⟨by rfl, ?_⟩) hHeld ?_
          · intro w hSw; (try dsimp only at hSw); obtain ⟨x0, x1, x2, x3, x4, x5⟩ := (HEV.out.ok hSw).cs; have lE := lt_row (HEV.out.ok hSw); (go_simp; try with_reducible rfl)
          (try simp only [Act.put, List.getElem_toArray, List.getElem_cons_succ, List.getElem_cons_zero, List.setIfInBounds_toArray, List.set_cons_zero, List.set_cons_succ])
          refine wpAnyH_ready (rs := [26]) (by kernel_rfl) (by simp) ?_
          refine AllReadyH.cons rfl (fun K hK => ?_) AllReadyH.nil
          go_simp
          refine (at_any _ _ _ _ _ _ ns m (p : Nat) _ (HR.out.below (HKV.out.step hHeld)) (HS.out.below (HKV.out.step hHeld)) (HP.out.below (HKV.out.step hHeld))).mono ?_
          rintro e1 u1 ⟨rfl, hx⟩
          have hb := hHeld.step hx
          rw [HAT.out]
          dsimp only
          refine hK.out _ _ hb (fun hHeld => ?_)
          clear hK K hb
          (try simp only [Act.put, List.getElem_toArray, List.getElem_cons_succ, List.getElem_cons_zero, List.setIfInBounds_toArray, List.set_cons_zero, List.set_cons_succ])
          refine wpAnyH_take (i := 29) (v := ?_) rfl (by kernel_rfl) (by kernel_rfl) (by kernel_rfl) (fun _ _ _ h => h) (Or.inl ⟨by rfl, ?_⟩) hHeld ?_
          rotate_left
          · intro w hSw; (try dsimp only at hSw); (go_simp; try with_reducible rfl)
          (try simp only [Act.put, List.getElem_toArray, List.getElem_cons_succ, List.getElem_cons_zero, List.setIfInBounds_toArray, List.set_cons_zero, List.set_cons_succ])
          refine wpAnyH_take (i := 30) (v := ?_) rfl (by kernel_rfl) (by kernel_rfl) (by kernel_rfl) (fun _ _ _ h => h) (Or.inl ⟨by rfl, ?_⟩) hHeld ?_
          rotate_left
          · intro w hSw; (try dsimp only at hSw); (go_simp; try with_reducible rfl)
          (try simp only [Act.put, List.getElem_toArray, List.getElem_cons_succ, List.getElem_cons_zero, List.setIfInBounds_toArray, List.set_cons_zero, List.set_cons_succ])
          refine wpAnyH_done (by kernel_rfl) ?_ _
          go_wp2_with fail
          go_meet
          case rel => exact ⟨rfl, hHeld⟩
      case rest =>
      clear hp4 ho2 ho2d ho3 ho3d ho4
      obtain ⟨e1, HU'⟩ := hcut.out
      subst e1
      have HU : Hid (Ok V wc) := HU'
      clear hcut HU'
      go_wp2_with fail
      go_roundw
      case rel => exact ⟨k + 1, rfl, hkL, HVW.out.step HU.out⟩
      case measure => simp only [intOf, Int.toNat_natCast]; omega
end Go.Proofs.YtbndcaglohfnbaaGreatDoor
