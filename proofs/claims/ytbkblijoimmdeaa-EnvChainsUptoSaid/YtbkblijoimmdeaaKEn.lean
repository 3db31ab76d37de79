import Derived.Deep.Cut
import Derived.Deep.CutRange
import Derived.Test.YtbkblijoimmdeaaKEj
import Derived.Test.YtbkblijoimmdeaaKEk
set_option linter.unusedVariables false
set_option linter.unusedSimpArgs false
set_option linter.unnecessarySimpa false
/- En -/
namespace Go.Proofs.Ytbkblijoimmdeaa
open Go.RowKit
theorem eHas_at (x : ET) (xv sw : Value) (sv : List Int) (sa : List (List Int)) (hx : RawE x) {B : Nat} (W w : World) (hok : Ok W w) (hX : EnvIs B W xv x) (hS : StIs W sw sv sa) :
    Calls Try.prog 7 #[xv, sw] w fun e w' => e = .returned (.bool (has0 (normE x) sv sa)) ∧ Ok W w' := eHas_any x xv sw sv sa hx W w hok (hX.ok hok) (hS.ok hok)
theorem erow2_facts {w : World} {g : Nat} {x y : Value} {t : TypeId} (h : w.heap[g]? = some (.cells #[x, y] t (0, 0))) : w.cell? ⟨g, 0, none⟩ = some x ∧ w.cell? ⟨g, 1, none⟩ = some y := ⟨(row_facts h).1, (row_facts h).2.1⟩
set_option maxRecDepth 100000 in
set_option maxHeartbeats 40000000 in
theorem members_any (x y : ET) (xv yv sw tv : Value) (sv : List Int) (sa : List (List Int)) (ts : List Int) (hx : RawE x) (hy : RawE y) {B C : Nat} (w : World) (hT : SInts w tv ts) (hX : EnvIs B w xv x) (hY : EnvIs C w yv y) (hS : StIs w sw sv sa) (i1 : ∀ v ∈ sv, In64 v) (i2 : ∀ l ∈ sa, ∀ v ∈ l, In64 v) :
    Calls Try.prog 3 #[xv, yv, sw, tv] w fun e w' => e = .returned (.bool true) ∧ Ok w w' := by
  have Ex0 := hX
  obtain ⟨po, pc, pp, pd, ex, _, _, _, _⟩ := hX
  subst ex
  have Ex : Hid (EnvIs B w (.agg #[.bool x.1, .slice po x.2.1.length pc, .slice pp x.2.2.length pd]) x) := Ex0
  have Rx : Hid (RawE x) := hx
  clear Ex0 hx
  have Ey0 := hY
  obtain ⟨qo, qc, qp, qd, ey, _, _, _, _⟩ := hY
  subst ey
  have Ey : Hid (EnvIs C w (.agg #[.bool y.1, .slice qo y.2.1.length qc, .slice qp y.2.2.length qd]) y) := Ey0
  have Ry : Hid (RawE y) := hy
  clear Ey0 hy
  have Es0 := hS
  obtain ⟨so, sc, ao, ac, es, _, _, _, _⟩ := hS
  subst es
  have ES : Hid (StIs w (.agg #[.slice so sv.length sc, .slice ao sa.length ac]) sv sa) := Es0
  clear Es0
  have HI1 : Hid (∀ v ∈ sv, In64 v) := i1
  have HI2 : Hid (∀ l ∈ sa, ∀ v ∈ l, In64 v) := i2
  clear i1 i2
  obtain ⟨ho, hn, hc, rfl⟩ := SInts.form hT
  have HT : Hid (SInts w (.slice ho hn hc) ts) := hT
  clear hT
  have NX : Hid (NorE (normE x)) := normE_nor Rx.out
  have NY : Hid (NorE (normE y)) := normE_nor Ry.out
  obtain ⟨ba, hba⟩ : ∃ b, has0 (normE x) sv sa = b := ⟨_, rfl⟩
  have Hba : Hid (has0 (normE x) sv sa = ba) := hba
  clear hba
  obtain ⟨bb, hbb⟩ : ∃ b, has0 (normE y) sv sa = b := ⟨_, rfl⟩
  have Hbb : Hid (has0 (normE y) sv sa = bb) := hbb
  clear hbb
  obtain ⟨b1, hb1⟩ : ∃ b, leq0 (normE x) (normE y) = b := ⟨_, rfl⟩
  have Hb1 : Hid (leq0 (normE x) (normE y) = b1) := hb1
  clear hb1
  obtain ⟨L, hL⟩ : ∃ b, shp0 (normE x) (normE y) = b := ⟨_, rfl⟩
  have HL : Hid (shp0 (normE x) (normE y) = L) := hL
  clear hL
  obtain ⟨M, hM⟩ : ∃ b, meet0 (normE x) (normE y) = b := ⟨_, rfl⟩
  have NM : Hid (NorE M) := by unfold Hid; rw [← hM]; exact meet_nor NX.out NY.out
  have HM : Hid (meet0 (normE x) (normE y) = M) := hM
  clear hM
  obtain ⟨J, hJ⟩ : ∃ b, tog0 joinN (normE x) (normE y) = b := ⟨_, rfl⟩
  have NJ : Hid (NorE J) := by unfold Hid; rw [← hJ]; exact tog_nor join_ok NX.out NY.out
  have HJ : Hid (tog0 joinN (normE x) (normE y) = J) := hJ
  clear hJ
  obtain ⟨U, hU⟩ : ∃ b, tog0 (fun a b => widenN a b ts) (normE x) (normE y) = b := ⟨_, rfl⟩
  have NU : Hid (NorE U) := by unfold Hid; rw [← hU]; exact tog_nor (wid_ok ts) NX.out NY.out
  have HU : Hid (tog0 (fun a b => widenN a b ts) (normE x) (normE y) = U) := hU
  clear hU
  have FN : Hid (has0 (normE (normE x)) sv sa = ba) := by unfold Hid; rw [normE_id NX.out]; exact Hba.out
  have FL : Hid (b1 = true → ba = true → bb = true) := by unfold Hid; rw [← Hb1.out, ← Hba.out, ← Hbb.out]; exact fun h k => mem_leq NX.out NY.out HI1.out HI2.out h k
  have FD : Hid (L = false → M.1 = true ∧ J.1 = true ∧ U.1 = true) := by unfold Hid; rw [← HL.out, ← HM.out, ← HJ.out, ← HU.out]; exact fun h => ⟨(shp_not h).1, (shp_not h).2 _, (shp_not h).2 _⟩
  have FM : Hid (L = true → (∀ l ∈ sa, l ≠ []) → has0 (normE M) sv sa = (ba && bb)) := by unfold Hid; rw [normE_id NM.out, ← HM.out, ← HL.out, ← Hba.out, ← Hbb.out]; exact fun h k => mem_meet NX.out NY.out h HI1.out HI2.out k
  have FJ : Hid (L = true → ba = true ∨ bb = true → has0 (normE J) sv sa = true) := by unfold Hid; rw [normE_id NJ.out, ← HJ.out, ← HL.out, ← Hba.out, ← Hbb.out]; exact fun h k => mem_join NX.out NY.out h HI1.out HI2.out k
  have FU : Hid (L = true → ba = true ∨ bb = true → has0 (normE U) sv sa = true) := by unfold Hid; rw [normE_id NU.out, ← HU.out, ← HL.out, ← Hba.out, ← Hbb.out]; exact fun h k => mem_wid ts NX.out NY.out h HI1.out HI2.out k
  have RM : Hid (RawE M) := NM.out.raw
  have RJ : Hid (RawE J) := NJ.out.raw
  have RU : Hid (RawE U) := NU.out.raw
  obtain ⟨n, hnn⟩ : ∃ n, n = sa.length := ⟨_, rfl⟩
  have NB : Hid (n ≤ 17592186044416) := by unfold Hid; rw [hnn]; exact (storeL ES.out).2.2.2
  have hnb : n ≤ 17592186044416 := NB.out
  have HN : Hid (n = sa.length) := hnn
  rw [← hnn] at ES ⊢
  clear hnn
  go_enter Try.func3, Try.ntmps3
  go_wp2_with fail
  obtain ⟨W, hW⟩ : ∃ W, W = (((w).alloc (.cells #[.bool x.1, .slice po x.2.1.length pc, .slice pp x.2.2.length pd] 24)).alloc (.cells #[.bool y.1, .slice qo y.2.1.length qc, .slice qp y.2.2.length qd] 24)).alloc (.cells #[.slice so sv.length sc, .slice ao n ac] 28) := ⟨_, rfl⟩
  have rx : Hid (W.heap[w.heap.size]? = some (.cells #[.bool x.1, .slice po x.2.1.length pc, .slice pp x.2.2.length pd] 24)) := by unfold Hid; rw [hW]; exact (by repeat (first | (refine heap_at _ _ _ ?hx; case hx => (first | (simp; done) | (simp; omega))) | (refine heap_past _ _ _ ?hy ?_; case hy => (first | (simp; done) | (simp; omega))) | fail))
  have ry : Hid (W.heap[w.heap.size + 1]? = some (.cells #[.bool y.1, .slice qo y.2.1.length qc, .slice qp y.2.2.length qd] 24)) := by unfold Hid; rw [hW]; exact (by repeat (first | (refine heap_at _ _ _ ?hx; case hx => (first | (simp; done) | (simp; omega))) | (refine heap_past _ _ _ ?hy ?_; case hy => (first | (simp; done) | (simp; omega))) | fail))
  have rs : Hid (W.heap[w.heap.size + 1 + 1]? = some (.cells #[.slice so sv.length sc, .slice ao n ac] 28)) := by unfold Hid; rw [hW]; exact (by repeat (first | (refine heap_at _ _ _ ?hx; case hx => (first | (simp; done) | (simp; omega))) | (refine heap_past _ _ _ ?hy ?_; case hy => (first | (simp; done) | (simp; omega))) | fail))
  have HW : Hid (Ok w W) := by unfold Hid; rw [hW]; have hok := Ok.refl w; exact (by repeat (first | exact hok | refine Ok.alloc ?_ _ | refine Ok.draws ?_ _ | fail))
  rw [← hW]
  clear hW
  obtain ⟨gs, egs⟩ : ∃ g, g = w.heap.size + 1 + 1 := ⟨_, rfl⟩
  rw [← egs] at rs ⊢
  obtain ⟨gy, egy⟩ : ∃ g, g = w.heap.size + 1 := ⟨_, rfl⟩
  rw [← egy] at ry ⊢
  obtain ⟨gx, egx⟩ : ∃ g, g = w.heap.size := ⟨_, rfl⟩
  rw [← egx] at rx ⊢
  have lgx : w.heap.size ≤ gx := by omega
  have nxy : ¬ gx = gy := by omega
  have nxs : ¬ gx = gs := by omega
  have lgy : w.heap.size ≤ gy := by omega
  have nyx : ¬ gy = gx := by omega
  have nys : ¬ gy = gs := by omega
  have lgs : w.heap.size ≤ gs := by omega
  have nsx : ¬ gs = gx := by omega
  have nsy : ¬ gs = gy := by omega
  clear egx egy egs
  have ExW : Hid (EnvIs B W (.agg #[.bool x.1, .slice po x.2.1.length pc, .slice pp x.2.2.length pd]) x) := Ex.out.ok HW.out
  have EyW : Hid (EnvIs C W (.agg #[.bool y.1, .slice qo y.2.1.length qc, .slice qp y.2.2.length qd]) y) := Ey.out.ok HW.out
  have Lx : Hid (gx < W.heap.size) := lt_row rx.out
  have Ly : Hid (gy < W.heap.size) := lt_row ry.out
  have Ls : Hid (gs < W.heap.size) := lt_row rs.out
  refine (eawake_any W _ (Ok.refl _)).mono ?_
  rintro e V ⟨rfl, hb⟩
  replace rx : Hid _ := Ok.row' hb rx.out
  replace ry : Hid _ := Ok.row' hb ry.out
  replace rs : Hid _ := Ok.row' hb rs.out
  have HV : Hid (Ok w V) := HW.out.step hb
  have ExV : Hid (EnvIs B V (.agg #[.bool x.1, .slice po x.2.1.length pc, .slice pp x.2.2.length pd]) x) := ExW.out.ok hb
  have EyV : Hid (EnvIs C V (.agg #[.bool y.1, .slice qo y.2.1.length qc, .slice qp y.2.2.length qd]) y) := EyW.out.ok hb
  have ESV : Hid (StIs V (.agg #[.slice so sv.length sc, .slice ao n ac]) sv sa) := ES.out.ok HV.out
  clear hb ExW EyW
  go_wp2_with fail
  go_loopw [9] (fun s9 wr => ∃ (k : Nat), k ≤ n ∧ s9 = .int .i64 (k : Int) ∧ Hid (∀ i (h : i < sa.length), i < k → sa[i] ≠ []) ∧ wr = V) (fun s9 _ => n - (intOf s9).toNat)
  case atStart => exact ⟨0, by omega, rfl, fun i _ h => by omega, rfl⟩
  case round =>
    obtain ⟨k, hk, rfl, HI, rfl⟩ := hrel
    obtain ⟨s0, s1⟩ := erow2_facts rs.out
    by_cases k3 : k < n
    · have k3i : (k : Int) < (n : Int) := by omega
      have k0i : (0 : Int) ≤ (k : Int) := by omega
      have h1 : k < sa.length := by rw [← HN.out]; exact k3
      obtain ⟨tb, o, eo, ec, ero, htb, r0, _, nq⟩ := SSs.at (storeL ESV.out).2.1 (Ok.refl _) (k := k) h1
      obtain ⟨m, hm⟩ : ∃ m, m = sa[k].length := ⟨_, rfl⟩
      rw [← hm] at r0
      subst ero
      by_cases hm0 : m = 0
      · have hz : ((m : Int) == 0) = true := by simp; omega
        go_wp2_with fail
        go_ret
        exact ⟨rfl, HV.out⟩
      · have hz : ((m : Int) == 0) = false := by simp; omega
        have HI2b : Hid (∀ i (h : i < sa.length), i < k + 1 → sa[i] ≠ []) := by
          intro i hi hlt e
          by_cases e2 : i < k
          · exact HI.out i hi e2 e
          · have : i = k := by omega
            subst this
            rw [e] at hm
            exact hm0 (by simpa using hm)
        clear hm
        go_wp2_with fail
        exact ⟨⟨k + 1, by omega, by simp, HI2b.out, (by first | trivial | rfl)⟩, by simp [intOf]; omega⟩
    · have k3e : k = n := by omega
      subst k3e
      have HNE : Hid (∀ l ∈ sa, l ≠ []) := by
        intro l hl
        obtain ⟨i, hi, rfl⟩ := List.mem_iff_getElem.1 hl
        exact HI.out i hi (by rw [HN.out]; exact hi)
      clear HI s0 s1
      have s0 := (erow2_facts rs.out).1
      have s1 := (erow2_facts rs.out).2
      obtain ⟨a0, a1, a2, a3, a4, a5⟩ := erow3_facts rx.out
      obtain ⟨b0, b1, b2, b3, b4, b5⟩ := erow3_facts ry.out
      go_wp2_with fail
      clear a0 a1 a2 a3 a4 a5
      clear b0 b1 b2 b3 b4 b5
      clear s0 s1
      have bz : Ok wr wr := Ok.refl _
      refine (eHas_at x _ _ sv sa Rx.out wr _ bz ExV.out ESV.out).mono ?_
      rintro e w1 ⟨rfl, k1⟩
      rw [Hba.out]
      obtain ⟨b0, b1_, b2, b3, b4, b5⟩ := erow3_facts (Ok.row' k1 ry.out)
      obtain ⟨s0, s1⟩ := erow2_facts (Ok.row' k1 rs.out)
      go_wp2_with fail
      clear b0 b1_ b2 b3 b4 b5 s0 s1
      refine (eHas_at y _ _ sv sa Ry.out wr _ k1 EyV.out ESV.out).mono ?_
      rintro e w2 ⟨rfl, k2⟩
      rw [Hbb.out]
      go_wp2_with fail
      replace rx : Hid _ := Ok.row' k2 rx.out
      replace ry : Hid _ := Ok.row' k2 ry.out
      replace rs : Hid _ := Ok.row' k2 rs.out
      replace ExV : Hid (EnvIs B w2 (.agg #[.bool x.1, .slice po x.2.1.length pc, .slice pp x.2.2.length pd]) x) := ExV.out.ok k2
      replace EyV : Hid (EnvIs C w2 (.agg #[.bool y.1, .slice qo y.2.1.length qc, .slice qp y.2.2.length qd]) y) := EyV.out.ok k2
      replace ESV : Hid (StIs w2 (.agg #[.slice so sv.length sc, .slice ao k ac]) sv sa) := ESV.out.ok k2
      have HV2 : Hid (Ok w w2) := HV.out.step k2
      clear k1 k2 HV bz
      obtain ⟨A, eA⟩ : ∃ t, t = w2 := ⟨_, rfl⟩
      rw [← eA] at rx ry rs ExV EyV ESV HV2 ⊢
      clear eA
      have ExA : Hid (EnvIs B A (.agg #[.bool x.1, .slice po x.2.1.length pc, .slice pp x.2.2.length pd]) x) := ExV
      have EyA : Hid (EnvIs C A (.agg #[.bool y.1, .slice qo y.2.1.length qc, .slice qp y.2.2.length qd]) y) := EyV
      have ESVA : Hid (StIs A (.agg #[.slice so sv.length sc, .slice ao k ac]) sv sa) := ESV
      have HA : Hid (Ok w A) := HV2
      clear ExV EyV ESV HV2
      go_cut [51] from 34 to 51 (fun s51 u => Hid (s51 = .bool false ∧ Ok A u))
      case first =>
        as_aux_lemma =>
          cases b1
          · refine wp_region_held_drew (S := fun w' => Ok A w') (by kernel_rfl) (Below.drew (Ok.refl _)) (fun hHeld => ?_)
            refine wpAnyH_take (i := 0) (v := .agg #[.bool x.1, .slice po x.2.1.length pc, .slice pp x.2.2.length pd]) rfl (by kernel_rfl) (by kernel_rfl) (by kernel_rfl) (fun _ _ _ h => h) (Or.inl ⟨by rfl, ?_⟩) hHeld ?_
            · intro w hSw; (try dsimp only at hSw); obtain ⟨c0, c1, c2, -⟩ := erow3_facts (Ok.row' hSw rx.out); (go_simp; try with_reducible rfl)
            (try simp only [Act.put, List.getElem_toArray, List.getElem_cons_succ, List.getElem_cons_zero, List.setIfInBounds_toArray, List.set_cons_zero, List.set_cons_succ])
            refine wpAnyH_take (i := 2) (v := .agg #[.slice so sv.length sc, .slice ao k ac]) rfl (by kernel_rfl) (by kernel_rfl) (by kernel_rfl) (fun _ _ _ h => h) (Or.inl ⟨by rfl, ?_⟩) hHeld ?_
            · intro w hSw; (try dsimp only at hSw); obtain ⟨c0, c1⟩ := erow2_facts (Ok.row' hSw rs.out); (go_simp; try with_reducible rfl)
            (try simp only [Act.put, List.getElem_toArray, List.getElem_cons_succ, List.getElem_cons_zero, List.setIfInBounds_toArray, List.set_cons_zero, List.set_cons_succ])
            refine wpAnyH_take (i := 4) (v := ?_) rfl (by kernel_rfl) (by kernel_rfl) (by kernel_rfl) (fun _ _ _ h => h) (Or.inl ⟨by rfl, ?_⟩) hHeld ?_
            rotate_left
            · intro w hSw; (try dsimp only at hSw); (go_simp; try with_reducible rfl)
            (try simp only [Act.put, List.getElem_toArray, List.getElem_cons_succ, List.getElem_cons_zero, List.setIfInBounds_toArray, List.set_cons_zero, List.set_cons_succ])
            refine wpAnyH_ready (rs := [1]) (by kernel_rfl) (by simp) ?_
            refine AllReadyH.cons rfl (fun K hK => ?_) AllReadyH.nil
            go_simp
            refine (eNorm_at x _ Rx.out A _ hHeld ExA.out).mono ?_
            rintro e1 w' ⟨r1, rfl, hE, _, hb⟩
            have E1 : Hid (EnvIs A.heap.size w' r1 (normE x)) := hE
            obtain ⟨z1o, z1c, z1p, z1d, e3, _, _, _, _⟩ := hE
            subst e3
            dsimp only
            refine hK.out _ _ hb (fun hHeld => ?_)
            clear hK K hb
            (try simp only [Act.put, List.getElem_toArray, List.getElem_cons_succ, List.getElem_cons_zero, List.setIfInBounds_toArray, List.set_cons_zero, List.set_cons_succ])
            refine wpAnyH_ready (rs := [3]) (by kernel_rfl) (by simp) ?_
            refine AllReadyH.cons rfl (fun K hK => ?_) AllReadyH.nil
            go_simp
            refine (eHas_any (normE x) _ _ sv sa NX.out.raw A _ hHeld E1.out (ESVA.out.ok hHeld)).mono ?_
            rintro e1 w' ⟨rfl, hb⟩
            rw [FN.out]
            dsimp only
            refine hK.out _ _ hb (fun hHeld => ?_)
            clear hK K hb
            (try simp only [Act.put, List.getElem_toArray, List.getElem_cons_succ, List.getElem_cons_zero, List.setIfInBounds_toArray, List.set_cons_zero, List.set_cons_succ])
            refine wpAnyH_take (i := 5) (v := .bool false) rfl (by kernel_rfl) (by kernel_rfl) (by kernel_rfl) (fun _ _ _ h => h) (Or.inl ⟨by rfl, ?_⟩) hHeld ?_
            · intro w hSw; (try dsimp only at hSw); (go_simp; try with_reducible rfl)
            (try simp only [Act.put, List.getElem_toArray, List.getElem_cons_succ, List.getElem_cons_zero, List.setIfInBounds_toArray, List.set_cons_zero, List.set_cons_succ])
            refine wpAnyH_take (i := 6) (v := ?_) rfl (by kernel_rfl) (by kernel_rfl) (by kernel_rfl) (fun _ _ _ h => h) (Or.inl ⟨by rfl, ?_⟩) hHeld ?_
            rotate_left
            · intro w hSw; (try dsimp only at hSw); (go_simp; try with_reducible rfl)
            (try simp only [Act.put, List.getElem_toArray, List.getElem_cons_succ, List.getElem_cons_zero, List.setIfInBounds_toArray, List.set_cons_zero, List.set_cons_succ])
            refine wpAnyH_take (i := 7) (v := .agg #[.bool x.1, .slice po x.2.1.length pc, .slice pp x.2.2.length pd]) rfl (by kernel_rfl) (by kernel_rfl) (by kernel_rfl) (fun _ _ _ h => h) (Or.inl ⟨by rfl, ?_⟩) hHeld ?_
            · intro w hSw; (try dsimp only at hSw); obtain ⟨c0, c1, c2, -⟩ := erow3_facts (Ok.row' hSw rx.out); (go_simp; try with_reducible rfl)
            (try simp only [Act.put, List.getElem_toArray, List.getElem_cons_succ, List.getElem_cons_zero, List.setIfInBounds_toArray, List.set_cons_zero, List.set_cons_succ])
            refine wpAnyH_take (i := 8) (v := .agg #[.bool y.1, .slice qo y.2.1.length qc, .slice qp y.2.2.length qd]) rfl (by kernel_rfl) (by kernel_rfl) (by kernel_rfl) (fun _ _ _ h => h) (Or.inl ⟨by rfl, ?_⟩) hHeld ?_
            · intro w hSw; (try dsimp only at hSw); obtain ⟨c0, c1, c2, -⟩ := erow3_facts (Ok.row' hSw ry.out); (go_simp; try with_reducible rfl)
            (try simp only [Act.put, List.getElem_toArray, List.getElem_cons_succ, List.getElem_cons_zero, List.setIfInBounds_toArray, List.set_cons_zero, List.set_cons_succ])
            refine wpAnyH_ready (rs := [9]) (by kernel_rfl) (by simp) ?_
            refine AllReadyH.cons rfl (fun K hK => ?_) AllReadyH.nil
            go_simp
            refine (eLeq_at x y _ _ Rx.out Ry.out A _ hHeld ExA.out EyA.out).mono ?_
            rintro e1 w' ⟨rfl, hb⟩
            rw [Hb1.out]
            dsimp only
            refine hK.out _ _ hb (fun hHeld => ?_)
            clear hK K hb
            (try simp only [Act.put, List.getElem_toArray, List.getElem_cons_succ, List.getElem_cons_zero, List.setIfInBounds_toArray, List.set_cons_zero, List.set_cons_succ])
            refine wpAnyH_take (i := 10) (v := ?_) rfl (by kernel_rfl) (by kernel_rfl) (by kernel_rfl) (fun _ _ _ h => h) (Or.inl ⟨by rfl, ?_⟩) hHeld ?_
            rotate_left
            · intro w hSw; (try dsimp only at hSw); (go_simp; try with_reducible rfl)
            (try simp only [Act.put, List.getElem_toArray, List.getElem_cons_succ, List.getElem_cons_zero, List.setIfInBounds_toArray, List.set_cons_zero, List.set_cons_succ])
            refine wpAnyH_take (i := 11) (v := undef) rfl (by kernel_rfl) (by kernel_rfl) (by kernel_rfl) (fun _ _ _ h => h) (Or.inr ⟨by rfl, rfl⟩) hHeld ?_
            (try simp only [Act.put, List.getElem_toArray, List.getElem_cons_succ, List.getElem_cons_zero, List.setIfInBounds_toArray, List.set_cons_zero, List.set_cons_succ])
            refine wpAnyH_take (i := 12) (v := ?_) rfl (by kernel_rfl) (by kernel_rfl) (by kernel_rfl) (fun _ _ _ h => h) (Or.inl ⟨by rfl, ?_⟩) hHeld ?_
            rotate_left
            · intro w hSw; (try dsimp only at hSw); (go_simp; try with_reducible rfl)
            (try simp only [Act.put, List.getElem_toArray, List.getElem_cons_succ, List.getElem_cons_zero, List.setIfInBounds_toArray, List.set_cons_zero, List.set_cons_succ])
            refine wpAnyH_take (i := 13) (v := ?_) rfl (by kernel_rfl) (by kernel_rfl) (by kernel_rfl) (fun _ _ _ h => h) (Or.inl ⟨by rfl, ?_⟩) hHeld ?_
            rotate_left
            · intro w hSw; (try dsimp only at hSw); (go_simp; try with_reducible rfl)
            (try simp only [Act.put, List.getElem_toArray, List.getElem_cons_succ, List.getElem_cons_zero, List.setIfInBounds_toArray, List.set_cons_zero, List.set_cons_succ])
            refine wpAnyH_take (i := 14) (v := undef) rfl (by kernel_rfl) (by kernel_rfl) (by kernel_rfl) (fun _ _ _ h => h) (Or.inr ⟨by rfl, rfl⟩) hHeld ?_
            (try simp only [Act.put, List.getElem_toArray, List.getElem_cons_succ, List.getElem_cons_zero, List.setIfInBounds_toArray, List.set_cons_zero, List.set_cons_succ])
            refine wpAnyH_take (i := 15) (v := undef) rfl (by kernel_rfl) (by kernel_rfl) (by kernel_rfl) (fun _ _ _ h => h) (Or.inr ⟨by rfl, rfl⟩) hHeld ?_
            (try simp only [Act.put, List.getElem_toArray, List.getElem_cons_succ, List.getElem_cons_zero, List.setIfInBounds_toArray, List.set_cons_zero, List.set_cons_succ])
            refine wpAnyH_take (i := 16) (v := ?_) rfl (by kernel_rfl) (by kernel_rfl) (by kernel_rfl) (fun _ _ _ h => h) (Or.inl ⟨by rfl, ?_⟩) hHeld ?_
            rotate_left
            · intro w hSw; (try dsimp only at hSw); (go_simp; try with_reducible rfl)
            (try simp only [Act.put, List.getElem_toArray, List.getElem_cons_succ, List.getElem_cons_zero, List.setIfInBounds_toArray, List.set_cons_zero, List.set_cons_succ])
            refine wpAnyH_take (i := 17) (v := ?_) rfl (by kernel_rfl) (by kernel_rfl) (by kernel_rfl) (fun _ _ _ h => h) (Or.inl ⟨by rfl, ?_⟩) hHeld ?_
            rotate_left
            · intro w hSw; (try dsimp only at hSw); (go_simp; try with_reducible rfl)
            (try simp only [Act.put, List.getElem_toArray, List.getElem_cons_succ, List.getElem_cons_zero, List.setIfInBounds_toArray, List.set_cons_zero, List.set_cons_succ])
            refine wpAnyH_done (by kernel_rfl) ?_ _
            go_wp2_with fail
            go_meet
            case rel => exact ⟨rfl, hHeld⟩
          · cases ba
            · refine wp_region_held_drew (S := fun w' => Ok A w') (by kernel_rfl) (Below.drew (Ok.refl _)) (fun hHeld => ?_)
              refine wpAnyH_take (i := 0) (v := .agg #[.bool x.1, .slice po x.2.1.length pc, .slice pp x.2.2.length pd]) rfl (by kernel_rfl) (by kernel_rfl) (by kernel_rfl) (fun _ _ _ h => h) (Or.inl ⟨by rfl, ?_⟩) hHeld ?_
              · intro w hSw; (try dsimp only at hSw); obtain ⟨c0, c1, c2, -⟩ := erow3_facts (Ok.row' hSw rx.out); (go_simp; try with_reducible rfl)
              (try simp only [Act.put, List.getElem_toArray, List.getElem_cons_succ, List.getElem_cons_zero, List.setIfInBounds_toArray, List.set_cons_zero, List.set_cons_succ])
              refine wpAnyH_take (i := 2) (v := .agg #[.slice so sv.length sc, .slice ao k ac]) rfl (by kernel_rfl) (by kernel_rfl) (by kernel_rfl) (fun _ _ _ h => h) (Or.inl ⟨by rfl, ?_⟩) hHeld ?_
              · intro w hSw; (try dsimp only at hSw); obtain ⟨c0, c1⟩ := erow2_facts (Ok.row' hSw rs.out); (go_simp; try with_reducible rfl)
              (try simp only [Act.put, List.getElem_toArray, List.getElem_cons_succ, List.getElem_cons_zero, List.setIfInBounds_toArray, List.set_cons_zero, List.set_cons_succ])
              refine wpAnyH_take (i := 4) (v := ?_) rfl (by kernel_rfl) (by kernel_rfl) (by kernel_rfl) (fun _ _ _ h => h) (Or.inl ⟨by rfl, ?_⟩) hHeld ?_
              rotate_left
              · intro w hSw; (try dsimp only at hSw); (go_simp; try with_reducible rfl)
              (try simp only [Act.put, List.getElem_toArray, List.getElem_cons_succ, List.getElem_cons_zero, List.setIfInBounds_toArray, List.set_cons_zero, List.set_cons_succ])
              refine wpAnyH_ready (rs := [1]) (by kernel_rfl) (by simp) ?_
              refine AllReadyH.cons rfl (fun K hK => ?_) AllReadyH.nil
              go_simp
              refine (eNorm_at x _ Rx.out A _ hHeld ExA.out).mono ?_
              rintro e1 w' ⟨r1, rfl, hE, _, hb⟩
              have E1 : Hid (EnvIs A.heap.size w' r1 (normE x)) := hE
              obtain ⟨z1o, z1c, z1p, z1d, e3, _, _, _, _⟩ := hE
              subst e3
              dsimp only
              refine hK.out _ _ hb (fun hHeld => ?_)
              clear hK K hb
              (try simp only [Act.put, List.getElem_toArray, List.getElem_cons_succ, List.getElem_cons_zero, List.setIfInBounds_toArray, List.set_cons_zero, List.set_cons_succ])
              refine wpAnyH_ready (rs := [3]) (by kernel_rfl) (by simp) ?_
              refine AllReadyH.cons rfl (fun K hK => ?_) AllReadyH.nil
              go_simp
              refine (eHas_any (normE x) _ _ sv sa NX.out.raw A _ hHeld E1.out (ESVA.out.ok hHeld)).mono ?_
              rintro e1 w' ⟨rfl, hb⟩
              rw [FN.out]
              dsimp only
              refine hK.out _ _ hb (fun hHeld => ?_)
              clear hK K hb
              (try simp only [Act.put, List.getElem_toArray, List.getElem_cons_succ, List.getElem_cons_zero, List.setIfInBounds_toArray, List.set_cons_zero, List.set_cons_succ])
              refine wpAnyH_take (i := 5) (v := .bool false) rfl (by kernel_rfl) (by kernel_rfl) (by kernel_rfl) (fun _ _ _ h => h) (Or.inl ⟨by rfl, ?_⟩) hHeld ?_
              · intro w hSw; (try dsimp only at hSw); (go_simp; try with_reducible rfl)
              (try simp only [Act.put, List.getElem_toArray, List.getElem_cons_succ, List.getElem_cons_zero, List.setIfInBounds_toArray, List.set_cons_zero, List.set_cons_succ])
              refine wpAnyH_take (i := 6) (v := ?_) rfl (by kernel_rfl) (by kernel_rfl) (by kernel_rfl) (fun _ _ _ h => h) (Or.inl ⟨by rfl, ?_⟩) hHeld ?_
              rotate_left
              · intro w hSw; (try dsimp only at hSw); (go_simp; try with_reducible rfl)
              (try simp only [Act.put, List.getElem_toArray, List.getElem_cons_succ, List.getElem_cons_zero, List.setIfInBounds_toArray, List.set_cons_zero, List.set_cons_succ])
              refine wpAnyH_take (i := 7) (v := .agg #[.bool x.1, .slice po x.2.1.length pc, .slice pp x.2.2.length pd]) rfl (by kernel_rfl) (by kernel_rfl) (by kernel_rfl) (fun _ _ _ h => h) (Or.inl ⟨by rfl, ?_⟩) hHeld ?_
              · intro w hSw; (try dsimp only at hSw); obtain ⟨c0, c1, c2, -⟩ := erow3_facts (Ok.row' hSw rx.out); (go_simp; try with_reducible rfl)
              (try simp only [Act.put, List.getElem_toArray, List.getElem_cons_succ, List.getElem_cons_zero, List.setIfInBounds_toArray, List.set_cons_zero, List.set_cons_succ])
              refine wpAnyH_take (i := 8) (v := .agg #[.bool y.1, .slice qo y.2.1.length qc, .slice qp y.2.2.length qd]) rfl (by kernel_rfl) (by kernel_rfl) (by kernel_rfl) (fun _ _ _ h => h) (Or.inl ⟨by rfl, ?_⟩) hHeld ?_
              · intro w hSw; (try dsimp only at hSw); obtain ⟨c0, c1, c2, -⟩ := erow3_facts (Ok.row' hSw ry.out); (go_simp; try with_reducible rfl)
              (try simp only [Act.put, List.getElem_toArray, List.getElem_cons_succ, List.getElem_cons_zero, List.setIfInBounds_toArray, List.set_cons_zero, List.set_cons_succ])
              refine wpAnyH_ready (rs := [9]) (by kernel_rfl) (by simp) ?_
              refine AllReadyH.cons rfl (fun K hK => ?_) AllReadyH.nil
              go_simp
              refine (eLeq_at x y _ _ Rx.out Ry.out A _ hHeld ExA.out EyA.out).mono ?_
              rintro e1 w' ⟨rfl, hb⟩
              rw [Hb1.out]
              dsimp only
              refine hK.out _ _ hb (fun hHeld => ?_)
              clear hK K hb
              (try simp only [Act.put, List.getElem_toArray, List.getElem_cons_succ, List.getElem_cons_zero, List.setIfInBounds_toArray, List.set_cons_zero, List.set_cons_succ])
              refine wpAnyH_take (i := 10) (v := ?_) rfl (by kernel_rfl) (by kernel_rfl) (by kernel_rfl) (fun _ _ _ h => h) (Or.inl ⟨by rfl, ?_⟩) hHeld ?_
              rotate_left
              · intro w hSw; (try dsimp only at hSw); (go_simp; try with_reducible rfl)
              (try simp only [Act.put, List.getElem_toArray, List.getElem_cons_succ, List.getElem_cons_zero, List.setIfInBounds_toArray, List.set_cons_zero, List.set_cons_succ])
              refine wpAnyH_take (i := 11) (v := ?_) rfl (by kernel_rfl) (by kernel_rfl) (by kernel_rfl) (fun _ _ _ h => h) (Or.inl ⟨by rfl, ?_⟩) hHeld ?_
              rotate_left
              · intro w hSw; (try dsimp only at hSw); (go_simp; try with_reducible rfl)
              (try simp only [Act.put, List.getElem_toArray, List.getElem_cons_succ, List.getElem_cons_zero, List.setIfInBounds_toArray, List.set_cons_zero, List.set_cons_succ])
              refine wpAnyH_take (i := 12) (v := ?_) rfl (by kernel_rfl) (by kernel_rfl) (by kernel_rfl) (fun _ _ _ h => h) (Or.inl ⟨by rfl, ?_⟩) hHeld ?_
              rotate_left
              · intro w hSw; (try dsimp only at hSw); (go_simp; try with_reducible rfl)
              (try simp only [Act.put, List.getElem_toArray, List.getElem_cons_succ, List.getElem_cons_zero, List.setIfInBounds_toArray, List.set_cons_zero, List.set_cons_succ])
              refine wpAnyH_take (i := 13) (v := ?_) rfl (by kernel_rfl) (by kernel_rfl) (by kernel_rfl) (fun _ _ _ h => h) (Or.inl ⟨by rfl, ?_⟩) hHeld ?_
              rotate_left
              · intro w hSw; (try dsimp only at hSw); (go_simp; try with_reducible rfl)
              (try simp only [Act.put, List.getElem_toArray, List.getElem_cons_succ, List.getElem_cons_zero, List.setIfInBounds_toArray, List.set_cons_zero, List.set_cons_succ])
              refine wpAnyH_take (i := 14) (v := undef) rfl (by kernel_rfl) (by kernel_rfl) (by kernel_rfl) (fun _ _ _ h => h) (Or.inr ⟨by rfl, rfl⟩) hHeld ?_
              (try simp only [Act.put, List.getElem_toArray, List.getElem_cons_succ, List.getElem_cons_zero, List.setIfInBounds_toArray, List.set_cons_zero, List.set_cons_succ])
              refine wpAnyH_take (i := 15) (v := undef) rfl (by kernel_rfl) (by kernel_rfl) (by kernel_rfl) (fun _ _ _ h => h) (Or.inr ⟨by rfl, rfl⟩) hHeld ?_
              (try simp only [Act.put, List.getElem_toArray, List.getElem_cons_succ, List.getElem_cons_zero, List.setIfInBounds_toArray, List.set_cons_zero, List.set_cons_succ])
              refine wpAnyH_take (i := 16) (v := ?_) rfl (by kernel_rfl) (by kernel_rfl) (by kernel_rfl) (fun _ _ _ h => h) (Or.inl ⟨by rfl, ?_⟩) hHeld ?_
              rotate_left
              · intro w hSw; (try dsimp only at hSw); (go_simp; try with_reducible rfl)
              (try simp only [Act.put, List.getElem_toArray, List.getElem_cons_succ, List.getElem_cons_zero, List.setIfInBounds_toArray, List.set_cons_zero, List.set_cons_succ])
              refine wpAnyH_take (i := 17) (v := ?_) rfl (by kernel_rfl) (by kernel_rfl) (by kernel_rfl) (fun _ _ _ h => h) (Or.inl ⟨by rfl, ?_⟩) hHeld ?_
              rotate_left
              · intro w hSw; (try dsimp only at hSw); (go_simp; try with_reducible rfl)
              (try simp only [Act.put, List.getElem_toArray, List.getElem_cons_succ, List.getElem_cons_zero, List.setIfInBounds_toArray, List.set_cons_zero, List.set_cons_succ])
              refine wpAnyH_done (by kernel_rfl) ?_ _
              go_wp2_with fail
              go_meet
              case rel => exact ⟨rfl, hHeld⟩
            · have FB : Hid (bb = true) := FL.out rfl rfl
              have e9 := FB.out
              clear FB FL
              subst e9
              refine wp_region_held_drew (S := fun w' => Ok A w') (by kernel_rfl) (Below.drew (Ok.refl _)) (fun hHeld => ?_)
              refine wpAnyH_take (i := 0) (v := .agg #[.bool x.1, .slice po x.2.1.length pc, .slice pp x.2.2.length pd]) rfl (by kernel_rfl) (by kernel_rfl) (by kernel_rfl) (fun _ _ _ h => h) (Or.inl ⟨by rfl, ?_⟩) hHeld ?_
              · intro w hSw; (try dsimp only at hSw); obtain ⟨c0, c1, c2, -⟩ := erow3_facts (Ok.row' hSw rx.out); (go_simp; try with_reducible rfl)
              (try simp only [Act.put, List.getElem_toArray, List.getElem_cons_succ, List.getElem_cons_zero, List.setIfInBounds_toArray, List.set_cons_zero, List.set_cons_succ])
              refine wpAnyH_take (i := 2) (v := .agg #[.slice so sv.length sc, .slice ao k ac]) rfl (by kernel_rfl) (by kernel_rfl) (by kernel_rfl) (fun _ _ _ h => h) (Or.inl ⟨by rfl, ?_⟩) hHeld ?_
              · intro w hSw; (try dsimp only at hSw); obtain ⟨c0, c1⟩ := erow2_facts (Ok.row' hSw rs.out); (go_simp; try with_reducible rfl)
              (try simp only [Act.put, List.getElem_toArray, List.getElem_cons_succ, List.getElem_cons_zero, List.setIfInBounds_toArray, List.set_cons_zero, List.set_cons_succ])
              refine wpAnyH_take (i := 4) (v := ?_) rfl (by kernel_rfl) (by kernel_rfl) (by kernel_rfl) (fun _ _ _ h => h) (Or.inl ⟨by rfl, ?_⟩) hHeld ?_
              rotate_left
              · intro w hSw; (try dsimp only at hSw); (go_simp; try with_reducible rfl)
              (try simp only [Act.put, List.getElem_toArray, List.getElem_cons_succ, List.getElem_cons_zero, List.setIfInBounds_toArray, List.set_cons_zero, List.set_cons_succ])
              refine wpAnyH_ready (rs := [1]) (by kernel_rfl) (by simp) ?_
              refine AllReadyH.cons rfl (fun K hK => ?_) AllReadyH.nil
              go_simp
              refine (eNorm_at x _ Rx.out A _ hHeld ExA.out).mono ?_
              rintro e1 w' ⟨r1, rfl, hE, _, hb⟩
              have E1 : Hid (EnvIs A.heap.size w' r1 (normE x)) := hE
              obtain ⟨z1o, z1c, z1p, z1d, e3, _, _, _, _⟩ := hE
              subst e3
              dsimp only
              refine hK.out _ _ hb (fun hHeld => ?_)
              clear hK K hb
              (try simp only [Act.put, List.getElem_toArray, List.getElem_cons_succ, List.getElem_cons_zero, List.setIfInBounds_toArray, List.set_cons_zero, List.set_cons_succ])
              refine wpAnyH_ready (rs := [3]) (by kernel_rfl) (by simp) ?_
              refine AllReadyH.cons rfl (fun K hK => ?_) AllReadyH.nil
              go_simp
              refine (eHas_any (normE x) _ _ sv sa NX.out.raw A _ hHeld E1.out (ESVA.out.ok hHeld)).mono ?_
              rintro e1 w' ⟨rfl, hb⟩
              rw [FN.out]
              dsimp only
              refine hK.out _ _ hb (fun hHeld => ?_)
              clear hK K hb
              (try simp only [Act.put, List.getElem_toArray, List.getElem_cons_succ, List.getElem_cons_zero, List.setIfInBounds_toArray, List.set_cons_zero, List.set_cons_succ])
              refine wpAnyH_take (i := 5) (v := .bool false) rfl (by kernel_rfl) (by kernel_rfl) (by kernel_rfl) (fun _ _ _ h => h) (Or.inl ⟨by rfl, ?_⟩) hHeld ?_
              · intro w hSw; (try dsimp only at hSw); (go_simp; try with_reducible rfl)
              (try simp only [Act.put, List.getElem_toArray, List.getElem_cons_succ, List.getElem_cons_zero, List.setIfInBounds_toArray, List.set_cons_zero, List.set_cons_succ])
              refine wpAnyH_take (i := 6) (v := ?_) rfl (by kernel_rfl) (by kernel_rfl) (by kernel_rfl) (fun _ _ _ h => h) (Or.inl ⟨by rfl, ?_⟩) hHeld ?_
              rotate_left
              · intro w hSw; (try dsimp only at hSw); (go_simp; try with_reducible rfl)
              (try simp only [Act.put, List.getElem_toArray, List.getElem_cons_succ, List.getElem_cons_zero, List.setIfInBounds_toArray, List.set_cons_zero, List.set_cons_succ])
              refine wpAnyH_take (i := 7) (v := .agg #[.bool x.1, .slice po x.2.1.length pc, .slice pp x.2.2.length pd]) rfl (by kernel_rfl) (by kernel_rfl) (by kernel_rfl) (fun _ _ _ h => h) (Or.inl ⟨by rfl, ?_⟩) hHeld ?_
              · intro w hSw; (try dsimp only at hSw); obtain ⟨c0, c1, c2, -⟩ := erow3_facts (Ok.row' hSw rx.out); (go_simp; try with_reducible rfl)
              (try simp only [Act.put, List.getElem_toArray, List.getElem_cons_succ, List.getElem_cons_zero, List.setIfInBounds_toArray, List.set_cons_zero, List.set_cons_succ])
              refine wpAnyH_take (i := 8) (v := .agg #[.bool y.1, .slice qo y.2.1.length qc, .slice qp y.2.2.length qd]) rfl (by kernel_rfl) (by kernel_rfl) (by kernel_rfl) (fun _ _ _ h => h) (Or.inl ⟨by rfl, ?_⟩) hHeld ?_
              · intro w hSw; (try dsimp only at hSw); obtain ⟨c0, c1, c2, -⟩ := erow3_facts (Ok.row' hSw ry.out); (go_simp; try with_reducible rfl)
              (try simp only [Act.put, List.getElem_toArray, List.getElem_cons_succ, List.getElem_cons_zero, List.setIfInBounds_toArray, List.set_cons_zero, List.set_cons_succ])
              refine wpAnyH_ready (rs := [9]) (by kernel_rfl) (by simp) ?_
              refine AllReadyH.cons rfl (fun K hK => ?_) AllReadyH.nil
              go_simp
              refine (eLeq_at x y _ _ Rx.out Ry.out A _ hHeld ExA.out EyA.out).mono ?_
              rintro e1 w' ⟨rfl, hb⟩
              rw [Hb1.out]
              dsimp only
              refine hK.out _ _ hb (fun hHeld => ?_)
              clear hK K hb
              (try simp only [Act.put, List.getElem_toArray, List.getElem_cons_succ, List.getElem_cons_zero, List.setIfInBounds_toArray, List.set_cons_zero, List.set_cons_succ])
              refine wpAnyH_take (i := 10) (v := ?_) rfl (by kernel_rfl) (by kernel_rfl) (by kernel_rfl) (fun _ _ _ h => h) (Or.inl ⟨by rfl, ?_⟩) hHeld ?_
              rotate_left
              · intro w hSw; (try dsimp only at hSw); (go_simp; try with_reducible rfl)
              (try simp only [Act.put, List.getElem_toArray, List.getElem_cons_succ, List.getElem_cons_zero, List.setIfInBounds_toArray, List.set_cons_zero, List.set_cons_succ])
              refine wpAnyH_take (i := 11) (v := ?_) rfl (by kernel_rfl) (by kernel_rfl) (by kernel_rfl) (fun _ _ _ h => h) (Or.inl ⟨by rfl, ?_⟩) hHeld ?_
              rotate_left
              · intro w hSw; (try dsimp only at hSw); (go_simp; try with_reducible rfl)
              (try simp only [Act.put, List.getElem_toArray, List.getElem_cons_succ, List.getElem_cons_zero, List.setIfInBounds_toArray, List.set_cons_zero, List.set_cons_succ])
              refine wpAnyH_take (i := 12) (v := ?_) rfl (by kernel_rfl) (by kernel_rfl) (by kernel_rfl) (fun _ _ _ h => h) (Or.inl ⟨by rfl, ?_⟩) hHeld ?_
              rotate_left
              · intro w hSw; (try dsimp only at hSw); (go_simp; try with_reducible rfl)
              (try simp only [Act.put, List.getElem_toArray, List.getElem_cons_succ, List.getElem_cons_zero, List.setIfInBounds_toArray, List.set_cons_zero, List.set_cons_succ])
              refine wpAnyH_take (i := 13) (v := ?_) rfl (by kernel_rfl) (by kernel_rfl) (by kernel_rfl) (fun _ _ _ h => h) (Or.inl ⟨by rfl, ?_⟩) hHeld ?_
              rotate_left
              · intro w hSw; (try dsimp only at hSw); (go_simp; try with_reducible rfl)
              (try simp only [Act.put, List.getElem_toArray, List.getElem_cons_succ, List.getElem_cons_zero, List.setIfInBounds_toArray, List.set_cons_zero, List.set_cons_succ])
              refine wpAnyH_take (i := 14) (v := ?_) rfl (by kernel_rfl) (by kernel_rfl) (by kernel_rfl) (fun _ _ _ h => h) (Or.inl ⟨by rfl, ?_⟩) hHeld ?_
              rotate_left
              · intro w hSw; (try dsimp only at hSw); (go_simp; try with_reducible rfl)
              (try simp only [Act.put, List.getElem_toArray, List.getElem_cons_succ, List.getElem_cons_zero, List.setIfInBounds_toArray, List.set_cons_zero, List.set_cons_succ])
              refine wpAnyH_take (i := 15) (v := ?_) rfl (by kernel_rfl) (by kernel_rfl) (by kernel_rfl) (fun _ _ _ h => h) (Or.inl ⟨by rfl, ?_⟩) hHeld ?_
              rotate_left
              · intro w hSw; (try dsimp only at hSw); (go_simp; try with_reducible rfl)
              (try simp only [Act.put, List.getElem_toArray, List.getElem_cons_succ, List.getElem_cons_zero, List.setIfInBounds_toArray, List.set_cons_zero, List.set_cons_succ])
              refine wpAnyH_take (i := 16) (v := ?_) rfl (by kernel_rfl) (by kernel_rfl) (by kernel_rfl) (fun _ _ _ h => h) (Or.inl ⟨by rfl, ?_⟩) hHeld ?_
              rotate_left
              · intro w hSw; (try dsimp only at hSw); (go_simp; try with_reducible rfl)
              (try simp only [Act.put, List.getElem_toArray, List.getElem_cons_succ, List.getElem_cons_zero, List.setIfInBounds_toArray, List.set_cons_zero, List.set_cons_succ])
              refine wpAnyH_take (i := 17) (v := ?_) rfl (by kernel_rfl) (by kernel_rfl) (by kernel_rfl) (fun _ _ _ h => h) (Or.inl ⟨by rfl, ?_⟩) hHeld ?_
              rotate_left
              · intro w hSw; (try dsimp only at hSw); (go_simp; try with_reducible rfl)
              (try simp only [Act.put, List.getElem_toArray, List.getElem_cons_succ, List.getElem_cons_zero, List.setIfInBounds_toArray, List.set_cons_zero, List.set_cons_succ])
              refine wpAnyH_done (by kernel_rfl) ?_ _
              go_wp2_with fail
              go_meet
              case rel => exact ⟨rfl, hHeld⟩
      case rest =>
        obtain ⟨h51, hO⟩ := hcut.out
        subst h51
        clear hcut
        replace rx : Hid _ := Ok.row' hO rx.out
        replace ry : Hid _ := Ok.row' hO ry.out
        replace rs : Hid _ := Ok.row' hO rs.out
        obtain ⟨D, ew⟩ : ∃ t, t = wc := ⟨_, rfl⟩
        rw [← ew] at hO rx ry rs ⊢
        have ExD : Hid (EnvIs B D (.agg #[.bool x.1, .slice po x.2.1.length pc, .slice pp x.2.2.length pd]) x) := ExA.out.ok hO
        have EyD : Hid (EnvIs C D (.agg #[.bool y.1, .slice qo y.2.1.length qc, .slice qp y.2.2.length qd]) y) := EyA.out.ok hO
        have ESVD : Hid (StIs D (.agg #[.slice so sv.length sc, .slice ao k ac]) sv sa) := ESVA.out.ok hO
        have HD : Hid (Ok w D) := HA.out.step hO
        clear ew hO ExA EyA ESVA
        go_wp2_with fail
        go_cut [57] from 52 to 57 (fun s57 u => Hid (s57 = .bool (!L) ∧ Ok D u))
        case first =>
          as_aux_lemma =>
            refine wp_region_held_drew (S := fun w' => Ok D w') (by kernel_rfl) (Below.drew (Ok.refl _)) (fun hHeld => ?_)
            refine wpAnyH_take (i := 0) (v := .agg #[.bool x.1, .slice po x.2.1.length pc, .slice pp x.2.2.length pd]) rfl (by kernel_rfl) (by kernel_rfl) (by kernel_rfl) (fun _ _ _ h => h) (Or.inl ⟨by rfl, ?_⟩) hHeld ?_
            · intro w hSw; (try dsimp only at hSw); obtain ⟨c0, c1, c2, -⟩ := erow3_facts (Ok.row' hSw rx.out); (go_simp; try with_reducible rfl)
            (try simp only [Act.put, List.getElem_toArray, List.getElem_cons_succ, List.getElem_cons_zero, List.setIfInBounds_toArray, List.set_cons_zero, List.set_cons_succ])
            refine wpAnyH_take (i := 2) (v := .agg #[.bool y.1, .slice qo y.2.1.length qc, .slice qp y.2.2.length qd]) rfl (by kernel_rfl) (by kernel_rfl) (by kernel_rfl) (fun _ _ _ h => h) (Or.inl ⟨by rfl, ?_⟩) hHeld ?_
            · intro w hSw; (try dsimp only at hSw); obtain ⟨c0, c1, c2, -⟩ := erow3_facts (Ok.row' hSw ry.out); (go_simp; try with_reducible rfl)
            (try simp only [Act.put, List.getElem_toArray, List.getElem_cons_succ, List.getElem_cons_zero, List.setIfInBounds_toArray, List.set_cons_zero, List.set_cons_succ])
            refine wpAnyH_ready (rs := [1]) (by kernel_rfl) (by simp) ?_
            refine AllReadyH.cons rfl (fun K hK => ?_) AllReadyH.nil
            go_simp
            refine (eNorm_at x _ Rx.out D _ hHeld ExD.out).mono ?_
            rintro e1 n1 ⟨r1, rfl, hE, hx, hb⟩
            have E1 : Hid (EnvIs D.heap.size n1 r1 (normE x)) := hE
            clear hE hx
            dsimp only
            refine hK.out _ _ hb (fun hHeld => ?_)
            clear hK K hb
            (try simp only [Act.put, List.getElem_toArray, List.getElem_cons_succ, List.getElem_cons_zero, List.setIfInBounds_toArray, List.set_cons_zero, List.set_cons_succ])
            refine wpAnyH_ready (rs := [3]) (by kernel_rfl) (by simp) ?_
            refine AllReadyH.cons rfl (fun K hK => ?_) AllReadyH.nil
            go_simp
            refine (eNorm_at y _ Ry.out D _ hHeld EyD.out).mono ?_
            rintro e1 n3 ⟨r3, rfl, hE, hx, hb⟩
            replace E1 : Hid (EnvIs D.heap.size n3 r1 (normE x)) := E1.out.ok hx
            have E3 : Hid (EnvIs D.heap.size n3 r3 (normE y)) := hE
            clear hE hx
            dsimp only
            refine hK.out _ _ hb (fun hHeld => ?_)
            clear hK K hb
            (try simp only [Act.put, List.getElem_toArray, List.getElem_cons_succ, List.getElem_cons_zero, List.setIfInBounds_toArray, List.set_cons_zero, List.set_cons_succ])
            refine wpAnyH_ready (rs := [4]) (by kernel_rfl) (by simp) ?_
            refine AllReadyH.cons rfl (fun K hK => ?_) AllReadyH.nil
            go_simp
            refine (eshaped_any (normE x) (normE y) _ _ D _ hHeld E1.out E3.out).mono ?_
            rintro e1 w' ⟨rfl, hb⟩
            rw [HL.out]
            dsimp only
            refine hK.out _ _ hb (fun hHeld => ?_)
            clear hK K hb
            (try simp only [Act.put, List.getElem_toArray, List.getElem_cons_succ, List.getElem_cons_zero, List.setIfInBounds_toArray, List.set_cons_zero, List.set_cons_succ])
            refine wpAnyH_take (i := 5) (v := .bool (!L)) rfl (by kernel_rfl) (by kernel_rfl) (by kernel_rfl) (fun _ _ _ h => h) (Or.inl ⟨by rfl, ?_⟩) hHeld ?_
            · intro w hSw; (try dsimp only at hSw); (go_simp; try with_reducible rfl)
            (try simp only [Act.put, List.getElem_toArray, List.getElem_cons_succ, List.getElem_cons_zero, List.setIfInBounds_toArray, List.set_cons_zero, List.set_cons_succ])
            refine wpAnyH_done (by kernel_rfl) ?_ _
            go_wp2_with fail
            go_meet
            case rel => exact ⟨rfl, hHeld⟩
        case rest =>
          obtain ⟨h57, hO⟩ := hcut.out
          subst h57
          clear hcut
          replace rx : Hid _ := Ok.row' hO rx.out
          replace ry : Hid _ := Ok.row' hO ry.out
          replace rs : Hid _ := Ok.row' hO rs.out
          obtain ⟨F, ew⟩ : ∃ t, t = wc := ⟨_, rfl⟩
          rw [← ew] at hO rx ry rs ⊢
          have ExF : Hid (EnvIs B F (.agg #[.bool x.1, .slice po x.2.1.length pc, .slice pp x.2.2.length pd]) x) := ExD.out.ok hO
          have EyF : Hid (EnvIs C F (.agg #[.bool y.1, .slice qo y.2.1.length qc, .slice qp y.2.2.length qd]) y) := EyD.out.ok hO
          have ESVF : Hid (StIs F (.agg #[.slice so sv.length sc, .slice ao k ac]) sv sa) := ESVD.out.ok hO
          have HF : Hid (Ok w F) := HD.out.step hO
          clear ew hO ExD EyD ESVD
          cases L
          · obtain ⟨D1, D2, D3⟩ := FD.out rfl
            have G1 : Hid _ := D1
            have G2 : Hid _ := D2
            have G3 : Hid _ := D3
            clear D1 D2 D3 FD FM FJ FU
            have hf := fld0
            obtain ⟨a0, a1, a2, a3, a4, a5⟩ := erow3_facts rx.out
            obtain ⟨b0, b1_, b2, b3, b4, b5⟩ := erow3_facts ry.out
            go_wp2_with fail
            clear a0 a1 a2 a3 a4 a5
            clear b0 b1_ b2 b3 b4 b5
            refine (eMeet_at x y _ _ Rx.out Ry.out F _ (Ok.refl _) ExF.out EyF.out).mono ?_
            rintro e f1 ⟨r, rfl, hE, kf1⟩
            rw [HM.out] at hE
            obtain ⟨mo, mc, mp, md, e3, _, _, _, _⟩ := hE
            subst e3
            rw [G1.out]
            obtain ⟨a0, a1, a2, a3, a4, a5⟩ := erow3_facts (Ok.row' kf1 rx.out)
            obtain ⟨b0, b1_, b2, b3, b4, b5⟩ := erow3_facts (Ok.row' kf1 ry.out)
            go_wp2_with fail
            clear a0 a1 a2 a3 a4 a5
            clear b0 b1_ b2 b3 b4 b5
            refine (eJoin_at x y _ _ Rx.out Ry.out F _ kf1 ExF.out EyF.out).mono ?_
            rintro e f2 ⟨r, rfl, hE, kf2⟩
            rw [HJ.out] at hE
            obtain ⟨jo, jc, jp, jd, e3, _, _, _, _⟩ := hE
            subst e3
            rw [G2.out]
            obtain ⟨a0, a1, a2, a3, a4, a5⟩ := erow3_facts (Ok.row' kf2 rx.out)
            obtain ⟨b0, b1_, b2, b3, b4, b5⟩ := erow3_facts (Ok.row' kf2 ry.out)
            go_wp2_with fail
            clear a0 a1 a2 a3 a4 a5
            clear b0 b1_ b2 b3 b4 b5
            refine (eWiden_at x y _ _ (.slice ho hn hc) ts Rx.out Ry.out F _ kf2 (SInts.ok HT.out HF.out) ExF.out EyF.out).mono ?_
            rintro e f3 ⟨r, rfl, hE, kf3⟩
            rw [HU.out] at hE
            obtain ⟨vo, vc, vp, vd, e3, _, _, _, _⟩ := hE
            subst e3
            rw [G3.out]
            go_wp2_with fail
            go_ret
            exact ⟨rfl, HF.out.step kf3⟩
          · have GM : Hid (has0 (normE M) sv sa = (ba && bb)) := FM.out rfl HNE.out
            have GJ : Hid (ba = true ∨ bb = true → has0 (normE J) sv sa = true) := FJ.out rfl
            have GU : Hid (ba = true ∨ bb = true → has0 (normE U) sv sa = true) := FU.out rfl
            clear FD FM FJ FU
            go_wp2_with fail
            go_cut [84] from 75 to 84 (fun s84 u => Hid (s84 = .bool false ∧ Ok F u))
            case first =>
              as_aux_lemma =>
                cases ba
                · refine wp_region_held_drew (S := fun w' => Ok F w') (by kernel_rfl) (Below.drew (Ok.refl _)) (fun hHeld => ?_)
                  refine wpAnyH_take (i := 0) (v := .agg #[.bool x.1, .slice po x.2.1.length pc, .slice pp x.2.2.length pd]) rfl (by kernel_rfl) (by kernel_rfl) (by kernel_rfl) (fun _ _ _ h => h) (Or.inl ⟨by rfl, ?_⟩) hHeld ?_
                  · intro w hSw; (try dsimp only at hSw); obtain ⟨c0, c1, c2, -⟩ := erow3_facts (Ok.row' hSw rx.out); (go_simp; try with_reducible rfl)
                  (try simp only [Act.put, List.getElem_toArray, List.getElem_cons_succ, List.getElem_cons_zero, List.setIfInBounds_toArray, List.set_cons_zero, List.set_cons_succ])
                  refine wpAnyH_take (i := 1) (v := .agg #[.bool y.1, .slice qo y.2.1.length qc, .slice qp y.2.2.length qd]) rfl (by kernel_rfl) (by kernel_rfl) (by kernel_rfl) (fun _ _ _ h => h) (Or.inl ⟨by rfl, ?_⟩) hHeld ?_
                  · intro w hSw; (try dsimp only at hSw); obtain ⟨c0, c1, c2, -⟩ := erow3_facts (Ok.row' hSw ry.out); (go_simp; try with_reducible rfl)
                  (try simp only [Act.put, List.getElem_toArray, List.getElem_cons_succ, List.getElem_cons_zero, List.setIfInBounds_toArray, List.set_cons_zero, List.set_cons_succ])
                  refine wpAnyH_take (i := 3) (v := .agg #[.slice so sv.length sc, .slice ao k ac]) rfl (by kernel_rfl) (by kernel_rfl) (by kernel_rfl) (fun _ _ _ h => h) (Or.inl ⟨by rfl, ?_⟩) hHeld ?_
                  · intro w hSw; (try dsimp only at hSw); obtain ⟨c0, c1⟩ := erow2_facts (Ok.row' hSw rs.out); (go_simp; try with_reducible rfl)
                  (try simp only [Act.put, List.getElem_toArray, List.getElem_cons_succ, List.getElem_cons_zero, List.setIfInBounds_toArray, List.set_cons_zero, List.set_cons_succ])
                  refine wpAnyH_take (i := 5) (v := ?_) rfl (by kernel_rfl) (by kernel_rfl) (by kernel_rfl) (fun _ _ _ h => h) (Or.inl ⟨by rfl, ?_⟩) hHeld ?_
                  rotate_left
                  · intro w hSw; (try dsimp only at hSw); (go_simp; try with_reducible rfl)
                  (try simp only [Act.put, List.getElem_toArray, List.getElem_cons_succ, List.getElem_cons_zero, List.setIfInBounds_toArray, List.set_cons_zero, List.set_cons_succ])
                  refine wpAnyH_ready (rs := [2]) (by kernel_rfl) (by simp) ?_
                  refine AllReadyH.cons rfl (fun K hK => ?_) AllReadyH.nil
                  go_simp
                  refine (eMeet_at x y _ _ Rx.out Ry.out F _ hHeld ExF.out EyF.out).mono ?_
                  rintro e1 w' ⟨r5, rfl, hE, hb⟩
                  rw [HM.out] at hE
                  have E5 : Hid (EnvIs F.heap.size w' r5 M) := hE
                  obtain ⟨z5o, z5c, z5p, z5d, e3, _, _, _, _⟩ := hE
                  subst e3
                  dsimp only
                  refine hK.out _ _ hb (fun hHeld => ?_)
                  clear hK K hb
                  (try simp only [Act.put, List.getElem_toArray, List.getElem_cons_succ, List.getElem_cons_zero, List.setIfInBounds_toArray, List.set_cons_zero, List.set_cons_succ])
                  refine wpAnyH_ready (rs := [4]) (by kernel_rfl) (by simp) ?_
                  refine AllReadyH.cons rfl (fun K hK => ?_) AllReadyH.nil
                  go_simp
                  refine (eHas_any M _ _ sv sa RM.out F _ hHeld E5.out (ESVF.out.ok hHeld)).mono ?_
                  rintro e1 w' ⟨rfl, hb⟩
                  rw [GM.out]
                  dsimp only
                  refine hK.out _ _ hb (fun hHeld => ?_)
                  clear hK K hb
                  (try simp only [Act.put, List.getElem_toArray, List.getElem_cons_succ, List.getElem_cons_zero, List.setIfInBounds_toArray, List.set_cons_zero, List.set_cons_succ])
                  refine wpAnyH_take (i := 6) (v := ?_) rfl (by kernel_rfl) (by kernel_rfl) (by kernel_rfl) (fun _ _ _ h => h) (Or.inl ⟨by rfl, ?_⟩) hHeld ?_
                  rotate_left
                  · intro w hSw; (try dsimp only at hSw); (go_simp; try with_reducible rfl)
                  (try simp only [Act.put, List.getElem_toArray, List.getElem_cons_succ, List.getElem_cons_zero, List.setIfInBounds_toArray, List.set_cons_zero, List.set_cons_succ])
                  refine wpAnyH_take (i := 7) (v := undef) rfl (by kernel_rfl) (by kernel_rfl) (by kernel_rfl) (fun _ _ _ h => h) (Or.inr ⟨by rfl, rfl⟩) hHeld ?_
                  (try simp only [Act.put, List.getElem_toArray, List.getElem_cons_succ, List.getElem_cons_zero, List.setIfInBounds_toArray, List.set_cons_zero, List.set_cons_succ])
                  refine wpAnyH_take (i := 8) (v := ?_) rfl (by kernel_rfl) (by kernel_rfl) (by kernel_rfl) (fun _ _ _ h => h) (Or.inl ⟨by rfl, ?_⟩) hHeld ?_
                  rotate_left
                  · intro w hSw; (try dsimp only at hSw); (go_simp; try with_reducible rfl)
                  (try simp only [Act.put, List.getElem_toArray, List.getElem_cons_succ, List.getElem_cons_zero, List.setIfInBounds_toArray, List.set_cons_zero, List.set_cons_succ])
                  refine wpAnyH_take (i := 9) (v := .bool false) rfl (by kernel_rfl) (by kernel_rfl) (by kernel_rfl) (fun _ _ _ h => h) (Or.inl ⟨by rfl, ?_⟩) hHeld ?_
                  · intro w hSw; (try dsimp only at hSw); (go_simp; try with_reducible rfl)
                  (try simp only [Act.put, List.getElem_toArray, List.getElem_cons_succ, List.getElem_cons_zero, List.setIfInBounds_toArray, List.set_cons_zero, List.set_cons_succ])
                  refine wpAnyH_done (by kernel_rfl) ?_ _
                  go_wp2_with fail
                  go_meet
                  case rel => exact ⟨rfl, hHeld⟩
                · replace GM : Hid (has0 (normE M) sv sa = bb) := by unfold Hid; rw [GM.out]; exact Bool.true_and _
                  refine wp_region_held_drew (S := fun w' => Ok F w') (by kernel_rfl) (Below.drew (Ok.refl _)) (fun hHeld => ?_)
                  refine wpAnyH_take (i := 0) (v := .agg #[.bool x.1, .slice po x.2.1.length pc, .slice pp x.2.2.length pd]) rfl (by kernel_rfl) (by kernel_rfl) (by kernel_rfl) (fun _ _ _ h => h) (Or.inl ⟨by rfl, ?_⟩) hHeld ?_
                  · intro w hSw; (try dsimp only at hSw); obtain ⟨c0, c1, c2, -⟩ := erow3_facts (Ok.row' hSw rx.out); (go_simp; try with_reducible rfl)
                  (try simp only [Act.put, List.getElem_toArray, List.getElem_cons_succ, List.getElem_cons_zero, List.setIfInBounds_toArray, List.set_cons_zero, List.set_cons_succ])
                  refine wpAnyH_take (i := 1) (v := .agg #[.bool y.1, .slice qo y.2.1.length qc, .slice qp y.2.2.length qd]) rfl (by kernel_rfl) (by kernel_rfl) (by kernel_rfl) (fun _ _ _ h => h) (Or.inl ⟨by rfl, ?_⟩) hHeld ?_
                  · intro w hSw; (try dsimp only at hSw); obtain ⟨c0, c1, c2, -⟩ := erow3_facts (Ok.row' hSw ry.out); (go_simp; try with_reducible rfl)
                  (try simp only [Act.put, List.getElem_toArray, List.getElem_cons_succ, List.getElem_cons_zero, List.setIfInBounds_toArray, List.set_cons_zero, List.set_cons_succ])
                  refine wpAnyH_take (i := 3) (v := .agg #[.slice so sv.length sc, .slice ao k ac]) rfl (by kernel_rfl) (by kernel_rfl) (by kernel_rfl) (fun _ _ _ h => h) (Or.inl ⟨by rfl, ?_⟩) hHeld ?_
                  · intro w hSw; (try dsimp only at hSw); obtain ⟨c0, c1⟩ := erow2_facts (Ok.row' hSw rs.out); (go_simp; try with_reducible rfl)
                  (try simp only [Act.put, List.getElem_toArray, List.getElem_cons_succ, List.getElem_cons_zero, List.setIfInBounds_toArray, List.set_cons_zero, List.set_cons_succ])
                  refine wpAnyH_take (i := 5) (v := ?_) rfl (by kernel_rfl) (by kernel_rfl) (by kernel_rfl) (fun _ _ _ h => h) (Or.inl ⟨by rfl, ?_⟩) hHeld ?_
                  rotate_left
                  · intro w hSw; (try dsimp only at hSw); (go_simp; try with_reducible rfl)
                  (try simp only [Act.put, List.getElem_toArray, List.getElem_cons_succ, List.getElem_cons_zero, List.setIfInBounds_toArray, List.set_cons_zero, List.set_cons_succ])
                  refine wpAnyH_ready (rs := [2]) (by kernel_rfl) (by simp) ?_
                  refine AllReadyH.cons rfl (fun K hK => ?_) AllReadyH.nil
                  go_simp
                  refine (eMeet_at x y _ _ Rx.out Ry.out F _ hHeld ExF.out EyF.out).mono ?_
                  rintro e1 w' ⟨r5, rfl, hE, hb⟩
                  rw [HM.out] at hE
                  have E5 : Hid (EnvIs F.heap.size w' r5 M) := hE
                  obtain ⟨z5o, z5c, z5p, z5d, e3, _, _, _, _⟩ := hE
                  subst e3
                  dsimp only
                  refine hK.out _ _ hb (fun hHeld => ?_)
                  clear hK K hb
                  (try simp only [Act.put, List.getElem_toArray, List.getElem_cons_succ, List.getElem_cons_zero, List.setIfInBounds_toArray, List.set_cons_zero, List.set_cons_succ])
                  refine wpAnyH_ready (rs := [4]) (by kernel_rfl) (by simp) ?_
                  refine AllReadyH.cons rfl (fun K hK => ?_) AllReadyH.nil
                  go_simp
                  refine (eHas_any M _ _ sv sa RM.out F _ hHeld E5.out (ESVF.out.ok hHeld)).mono ?_
                  rintro e1 w' ⟨rfl, hb⟩
                  rw [GM.out]
                  dsimp only
                  refine hK.out _ _ hb (fun hHeld => ?_)
                  clear hK K hb
                  (try simp only [Act.put, List.getElem_toArray, List.getElem_cons_succ, List.getElem_cons_zero, List.setIfInBounds_toArray, List.set_cons_zero, List.set_cons_succ])
                  refine wpAnyH_take (i := 6) (v := ?_) rfl (by kernel_rfl) (by kernel_rfl) (by kernel_rfl) (fun _ _ _ h => h) (Or.inl ⟨by rfl, ?_⟩) hHeld ?_
                  rotate_left
                  · intro w hSw; (try dsimp only at hSw); (go_simp; try with_reducible rfl)
                  (try simp only [Act.put, List.getElem_toArray, List.getElem_cons_succ, List.getElem_cons_zero, List.setIfInBounds_toArray, List.set_cons_zero, List.set_cons_succ])
                  refine wpAnyH_take (i := 7) (v := ?_) rfl (by kernel_rfl) (by kernel_rfl) (by kernel_rfl) (fun _ _ _ h => h) (Or.inl ⟨by rfl, ?_⟩) hHeld ?_
                  rotate_left
                  · intro w hSw; (try dsimp only at hSw); (go_simp; try with_reducible rfl)
                  (try simp only [Act.put, List.getElem_toArray, List.getElem_cons_succ, List.getElem_cons_zero, List.setIfInBounds_toArray, List.set_cons_zero, List.set_cons_succ])
                  refine wpAnyH_take (i := 8) (v := ?_) rfl (by kernel_rfl) (by kernel_rfl) (by kernel_rfl) (fun _ _ _ h => h) (Or.inl ⟨by rfl, ?_⟩) hHeld ?_
                  rotate_left
                  · intro w hSw; (try dsimp only at hSw); (go_simp; try with_reducible rfl)
                  (try simp only [Act.put, List.getElem_toArray, List.getElem_cons_succ, List.getElem_cons_zero, List.setIfInBounds_toArray, List.set_cons_zero, List.set_cons_succ])
                  refine wpAnyH_take (i := 9) (v := .bool false) rfl (by kernel_rfl) (by kernel_rfl) (by kernel_rfl) (fun _ _ _ h => h) (Or.inl ⟨by rfl, ?_⟩) hHeld ?_
                  · intro w hSw; (try dsimp only at hSw); (go_simp; try with_reducible rfl)
                  (try simp only [Act.put, List.getElem_toArray, List.getElem_cons_succ, List.getElem_cons_zero, List.setIfInBounds_toArray, List.set_cons_zero, List.set_cons_succ])
                  refine wpAnyH_done (by kernel_rfl) ?_ _
                  go_wp2_with fail
                  go_meet
                  case rel => exact ⟨rfl, hHeld⟩
            case rest =>
              obtain ⟨h84, hO⟩ := hcut.out
              subst h84
              clear hcut
              replace rx : Hid _ := Ok.row' hO rx.out
              replace ry : Hid _ := Ok.row' hO ry.out
              replace rs : Hid _ := Ok.row' hO rs.out
              obtain ⟨G, ew⟩ : ∃ t, t = wc := ⟨_, rfl⟩
              rw [← ew] at hO rx ry rs ⊢
              have ExG : Hid (EnvIs B G (.agg #[.bool x.1, .slice po x.2.1.length pc, .slice pp x.2.2.length pd]) x) := ExF.out.ok hO
              have EyG : Hid (EnvIs C G (.agg #[.bool y.1, .slice qo y.2.1.length qc, .slice qp y.2.2.length qd]) y) := EyF.out.ok hO
              have ESVG : Hid (StIs G (.agg #[.slice so sv.length sc, .slice ao k ac]) sv sa) := ESVF.out.ok hO
              have HG : Hid (Ok w G) := HF.out.step hO
              clear ew hO ExF EyF ESVF
              go_wp2_with fail
              cases ba
              · cases bb
                · clear GJ GU
                  refine wp_region_held_drew (S := fun w' => Ok G w') (by kernel_rfl) (Below.drew (Ok.refl _)) (fun hHeld => ?_)
                  refine wpAnyH_take (i := 0) (v := ?_) rfl (by kernel_rfl) (by kernel_rfl) (by kernel_rfl) (fun _ _ _ h => h) (Or.inl ⟨by rfl, ?_⟩) hHeld ?_
                  rotate_left
                  · intro w hSw; (try dsimp only at hSw); (go_simp; try with_reducible rfl)
                  (try simp only [Act.put, List.getElem_toArray, List.getElem_cons_succ, List.getElem_cons_zero, List.setIfInBounds_toArray, List.set_cons_zero, List.set_cons_succ])
                  refine wpAnyH_take (i := 1) (v := ?_) rfl (by kernel_rfl) (by kernel_rfl) (by kernel_rfl) (fun _ _ _ h => h) (Or.inl ⟨by rfl, ?_⟩) hHeld ?_
                  rotate_left
                  · intro w hSw; (try dsimp only at hSw); (go_simp; try with_reducible rfl)
                  (try simp only [Act.put, List.getElem_toArray, List.getElem_cons_succ, List.getElem_cons_zero, List.setIfInBounds_toArray, List.set_cons_zero, List.set_cons_succ])
                  refine wpAnyH_take (i := 2) (v := ?_) rfl (by kernel_rfl) (by kernel_rfl) (by kernel_rfl) (fun _ _ _ h => h) (Or.inl ⟨by rfl, ?_⟩) hHeld ?_
                  rotate_left
                  · intro w hSw; (try dsimp only at hSw); (go_simp; try with_reducible rfl)
                  (try simp only [Act.put, List.getElem_toArray, List.getElem_cons_succ, List.getElem_cons_zero, List.setIfInBounds_toArray, List.set_cons_zero, List.set_cons_succ])
                  refine wpAnyH_take (i := 3) (v := ?_) rfl (by kernel_rfl) (by kernel_rfl) (by kernel_rfl) (fun _ _ _ h => h) (Or.inl ⟨by rfl, ?_⟩) hHeld ?_
                  rotate_left
                  · intro w hSw; (try dsimp only at hSw); (go_simp; try with_reducible rfl)
                  (try simp only [Act.put, List.getElem_toArray, List.getElem_cons_succ, List.getElem_cons_zero, List.setIfInBounds_toArray, List.set_cons_zero, List.set_cons_succ])
                  refine wpAnyH_take (i := 4) (v := ?_) rfl (by kernel_rfl) (by kernel_rfl) (by kernel_rfl) (fun _ _ _ h => h) (Or.inl ⟨by rfl, ?_⟩) hHeld ?_
                  rotate_left
                  · intro w hSw; (try dsimp only at hSw); (go_simp; try with_reducible rfl)
                  (try simp only [Act.put, List.getElem_toArray, List.getElem_cons_succ, List.getElem_cons_zero, List.setIfInBounds_toArray, List.set_cons_zero, List.set_cons_succ])
                  refine wpAnyH_take (i := 5) (v := ?_) rfl (by kernel_rfl) (by kernel_rfl) (by kernel_rfl) (fun _ _ _ h => h) (Or.inl ⟨by rfl, ?_⟩) hHeld ?_
                  rotate_left
                  · intro w hSw; (try dsimp only at hSw); (go_simp; try with_reducible rfl)
                  (try simp only [Act.put, List.getElem_toArray, List.getElem_cons_succ, List.getElem_cons_zero, List.setIfInBounds_toArray, List.set_cons_zero, List.set_cons_succ])
                  refine wpAnyH_take (i := 6) (v := undef) rfl (by kernel_rfl) (by kernel_rfl) (by kernel_rfl) (fun _ _ _ h => h) (Or.inr ⟨by rfl, rfl⟩) hHeld ?_
                  (try simp only [Act.put, List.getElem_toArray, List.getElem_cons_succ, List.getElem_cons_zero, List.setIfInBounds_toArray, List.set_cons_zero, List.set_cons_succ])
                  refine wpAnyH_take (i := 7) (v := undef) rfl (by kernel_rfl) (by kernel_rfl) (by kernel_rfl) (fun _ _ _ h => h) (Or.inr ⟨by rfl, rfl⟩) hHeld ?_
                  (try simp only [Act.put, List.getElem_toArray, List.getElem_cons_succ, List.getElem_cons_zero, List.setIfInBounds_toArray, List.set_cons_zero, List.set_cons_succ])
                  refine wpAnyH_take (i := 8) (v := undef) rfl (by kernel_rfl) (by kernel_rfl) (by kernel_rfl) (fun _ _ _ h => h) (Or.inr ⟨by rfl, rfl⟩) hHeld ?_
                  (try simp only [Act.put, List.getElem_toArray, List.getElem_cons_succ, List.getElem_cons_zero, List.setIfInBounds_toArray, List.set_cons_zero, List.set_cons_succ])
                  refine wpAnyH_take (i := 9) (v := undef) rfl (by kernel_rfl) (by kernel_rfl) (by kernel_rfl) (fun _ _ _ h => h) (Or.inr ⟨by rfl, rfl⟩) hHeld ?_
                  (try simp only [Act.put, List.getElem_toArray, List.getElem_cons_succ, List.getElem_cons_zero, List.setIfInBounds_toArray, List.set_cons_zero, List.set_cons_succ])
                  refine wpAnyH_take (i := 10) (v := undef) rfl (by kernel_rfl) (by kernel_rfl) (by kernel_rfl) (fun _ _ _ h => h) (Or.inr ⟨by rfl, rfl⟩) hHeld ?_
                  (try simp only [Act.put, List.getElem_toArray, List.getElem_cons_succ, List.getElem_cons_zero, List.setIfInBounds_toArray, List.set_cons_zero, List.set_cons_succ])
                  refine wpAnyH_take (i := 11) (v := undef) rfl (by kernel_rfl) (by kernel_rfl) (by kernel_rfl) (fun _ _ _ h => h) (Or.inr ⟨by rfl, rfl⟩) hHeld ?_
                  (try simp only [Act.put, List.getElem_toArray, List.getElem_cons_succ, List.getElem_cons_zero, List.setIfInBounds_toArray, List.set_cons_zero, List.set_cons_succ])
                  refine wpAnyH_take (i := 12) (v := undef) rfl (by kernel_rfl) (by kernel_rfl) (by kernel_rfl) (fun _ _ _ h => h) (Or.inr ⟨by rfl, rfl⟩) hHeld ?_
                  (try simp only [Act.put, List.getElem_toArray, List.getElem_cons_succ, List.getElem_cons_zero, List.setIfInBounds_toArray, List.set_cons_zero, List.set_cons_succ])
                  refine wpAnyH_take (i := 13) (v := undef) rfl (by kernel_rfl) (by kernel_rfl) (by kernel_rfl) (fun _ _ _ h => h) (Or.inr ⟨by rfl, rfl⟩) hHeld ?_
                  (try simp only [Act.put, List.getElem_toArray, List.getElem_cons_succ, List.getElem_cons_zero, List.setIfInBounds_toArray, List.set_cons_zero, List.set_cons_succ])
                  refine wpAnyH_take (i := 14) (v := undef) rfl (by kernel_rfl) (by kernel_rfl) (by kernel_rfl) (fun _ _ _ h => h) (Or.inr ⟨by rfl, rfl⟩) hHeld ?_
                  (try simp only [Act.put, List.getElem_toArray, List.getElem_cons_succ, List.getElem_cons_zero, List.setIfInBounds_toArray, List.set_cons_zero, List.set_cons_succ])
                  refine wpAnyH_take (i := 15) (v := undef) rfl (by kernel_rfl) (by kernel_rfl) (by kernel_rfl) (fun _ _ _ h => h) (Or.inr ⟨by rfl, rfl⟩) hHeld ?_
                  (try simp only [Act.put, List.getElem_toArray, List.getElem_cons_succ, List.getElem_cons_zero, List.setIfInBounds_toArray, List.set_cons_zero, List.set_cons_succ])
                  refine wpAnyH_take (i := 16) (v := undef) rfl (by kernel_rfl) (by kernel_rfl) (by kernel_rfl) (fun _ _ _ h => h) (Or.inr ⟨by rfl, rfl⟩) hHeld ?_
                  (try simp only [Act.put, List.getElem_toArray, List.getElem_cons_succ, List.getElem_cons_zero, List.setIfInBounds_toArray, List.set_cons_zero, List.set_cons_succ])
                  refine wpAnyH_take (i := 17) (v := undef) rfl (by kernel_rfl) (by kernel_rfl) (by kernel_rfl) (fun _ _ _ h => h) (Or.inr ⟨by rfl, rfl⟩) hHeld ?_
                  (try simp only [Act.put, List.getElem_toArray, List.getElem_cons_succ, List.getElem_cons_zero, List.setIfInBounds_toArray, List.set_cons_zero, List.set_cons_succ])
                  refine wpAnyH_take (i := 18) (v := undef) rfl (by kernel_rfl) (by kernel_rfl) (by kernel_rfl) (fun _ _ _ h => h) (Or.inr ⟨by rfl, rfl⟩) hHeld ?_
                  (try simp only [Act.put, List.getElem_toArray, List.getElem_cons_succ, List.getElem_cons_zero, List.setIfInBounds_toArray, List.set_cons_zero, List.set_cons_succ])
                  refine wpAnyH_take (i := 19) (v := ?_) rfl (by kernel_rfl) (by kernel_rfl) (by kernel_rfl) (fun _ _ _ h => h) (Or.inl ⟨by rfl, ?_⟩) hHeld ?_
                  rotate_left
                  · intro w hSw; (try dsimp only at hSw); (go_simp; try with_reducible rfl)
                  (try simp only [Act.put, List.getElem_toArray, List.getElem_cons_succ, List.getElem_cons_zero, List.setIfInBounds_toArray, List.set_cons_zero, List.set_cons_succ])
                  refine wpAnyH_ready (rs := [20]) (by kernel_rfl) (by simp) ?_
                  refine AllReadyH.cons rfl (fun K hK => ?_) AllReadyH.nil
                  go_simp
                  refine hK.out _ _ hHeld (fun hHeld => ?_)
                  clear hK K
                  (try simp only [Act.put, List.getElem_toArray, List.getElem_cons_succ, List.getElem_cons_zero, List.setIfInBounds_toArray, List.set_cons_zero, List.set_cons_succ])
                  refine wpAnyH_done (by kernel_rfl) ?_ _
                  go_wp2_with fail
                  go_ret
                  exact ⟨rfl, HG.out.step hHeld⟩
                · have G1 : Hid (has0 (normE J) sv sa = true) := GJ.out (Or.inr rfl)
                  have G2 : Hid (has0 (normE U) sv sa = true) := GU.out (Or.inr rfl)
                  clear GJ GU
                  refine wp_region_held_drew (S := fun w' => Ok G w') (by kernel_rfl) (Below.drew (Ok.refl _)) (fun hHeld => ?_)
                  refine wpAnyH_take (i := 0) (v := ?_) rfl (by kernel_rfl) (by kernel_rfl) (by kernel_rfl) (fun _ _ _ h => h) (Or.inl ⟨by rfl, ?_⟩) hHeld ?_
                  rotate_left
                  · intro w hSw; (try dsimp only at hSw); (go_simp; try with_reducible rfl)
                  (try simp only [Act.put, List.getElem_toArray, List.getElem_cons_succ, List.getElem_cons_zero, List.setIfInBounds_toArray, List.set_cons_zero, List.set_cons_succ])
                  refine wpAnyH_take (i := 1) (v := ?_) rfl (by kernel_rfl) (by kernel_rfl) (by kernel_rfl) (fun _ _ _ h => h) (Or.inl ⟨by rfl, ?_⟩) hHeld ?_
                  rotate_left
                  · intro w hSw; (try dsimp only at hSw); (go_simp; try with_reducible rfl)
                  (try simp only [Act.put, List.getElem_toArray, List.getElem_cons_succ, List.getElem_cons_zero, List.setIfInBounds_toArray, List.set_cons_zero, List.set_cons_succ])
                  refine wpAnyH_take (i := 2) (v := ?_) rfl (by kernel_rfl) (by kernel_rfl) (by kernel_rfl) (fun _ _ _ h => h) (Or.inl ⟨by rfl, ?_⟩) hHeld ?_
                  rotate_left
                  · intro w hSw; (try dsimp only at hSw); (go_simp; try with_reducible rfl)
                  (try simp only [Act.put, List.getElem_toArray, List.getElem_cons_succ, List.getElem_cons_zero, List.setIfInBounds_toArray, List.set_cons_zero, List.set_cons_succ])
                  refine wpAnyH_take (i := 3) (v := ?_) rfl (by kernel_rfl) (by kernel_rfl) (by kernel_rfl) (fun _ _ _ h => h) (Or.inl ⟨by rfl, ?_⟩) hHeld ?_
                  rotate_left
                  · intro w hSw; (try dsimp only at hSw); (go_simp; try with_reducible rfl)
                  (try simp only [Act.put, List.getElem_toArray, List.getElem_cons_succ, List.getElem_cons_zero, List.setIfInBounds_toArray, List.set_cons_zero, List.set_cons_succ])
                  refine wpAnyH_take (i := 4) (v := ?_) rfl (by kernel_rfl) (by kernel_rfl) (by kernel_rfl) (fun _ _ _ h => h) (Or.inl ⟨by rfl, ?_⟩) hHeld ?_
                  rotate_left
                  · intro w hSw; (try dsimp only at hSw); (go_simp; try with_reducible rfl)
                  (try simp only [Act.put, List.getElem_toArray, List.getElem_cons_succ, List.getElem_cons_zero, List.setIfInBounds_toArray, List.set_cons_zero, List.set_cons_succ])
                  refine wpAnyH_take (i := 5) (v := ?_) rfl (by kernel_rfl) (by kernel_rfl) (by kernel_rfl) (fun _ _ _ h => h) (Or.inl ⟨by rfl, ?_⟩) hHeld ?_
                  rotate_left
                  · intro w hSw; (try dsimp only at hSw); (go_simp; try with_reducible rfl)
                  (try simp only [Act.put, List.getElem_toArray, List.getElem_cons_succ, List.getElem_cons_zero, List.setIfInBounds_toArray, List.set_cons_zero, List.set_cons_succ])
                  refine wpAnyH_take (i := 6) (v := .agg #[.bool x.1, .slice po x.2.1.length pc, .slice pp x.2.2.length pd]) rfl (by kernel_rfl) (by kernel_rfl) (by kernel_rfl) (fun _ _ _ h => h) (Or.inl ⟨by rfl, ?_⟩) hHeld ?_
                  · intro w hSw; (try dsimp only at hSw); obtain ⟨c0, c1, c2, -⟩ := erow3_facts (Ok.row' hSw rx.out); (go_simp; try with_reducible rfl)
                  (try simp only [Act.put, List.getElem_toArray, List.getElem_cons_succ, List.getElem_cons_zero, List.setIfInBounds_toArray, List.set_cons_zero, List.set_cons_succ])
                  refine wpAnyH_take (i := 7) (v := .agg #[.bool y.1, .slice qo y.2.1.length qc, .slice qp y.2.2.length qd]) rfl (by kernel_rfl) (by kernel_rfl) (by kernel_rfl) (fun _ _ _ h => h) (Or.inl ⟨by rfl, ?_⟩) hHeld ?_
                  · intro w hSw; (try dsimp only at hSw); obtain ⟨c0, c1, c2, -⟩ := erow3_facts (Ok.row' hSw ry.out); (go_simp; try with_reducible rfl)
                  (try simp only [Act.put, List.getElem_toArray, List.getElem_cons_succ, List.getElem_cons_zero, List.setIfInBounds_toArray, List.set_cons_zero, List.set_cons_succ])
                  refine wpAnyH_take (i := 9) (v := .agg #[.slice so sv.length sc, .slice ao k ac]) rfl (by kernel_rfl) (by kernel_rfl) (by kernel_rfl) (fun _ _ _ h => h) (Or.inl ⟨by rfl, ?_⟩) hHeld ?_
                  · intro w hSw; (try dsimp only at hSw); obtain ⟨c0, c1⟩ := erow2_facts (Ok.row' hSw rs.out); (go_simp; try with_reducible rfl)
                  (try simp only [Act.put, List.getElem_toArray, List.getElem_cons_succ, List.getElem_cons_zero, List.setIfInBounds_toArray, List.set_cons_zero, List.set_cons_succ])
                  refine wpAnyH_ready (rs := [8]) (by kernel_rfl) (by simp) ?_
                  refine AllReadyH.cons rfl (fun K hK => ?_) AllReadyH.nil
                  go_simp
                  refine (eJoin_at x y _ _ Rx.out Ry.out G _ hHeld ExG.out EyG.out).mono ?_
                  rintro e1 w' ⟨r6, rfl, hE, hb⟩
                  rw [HJ.out] at hE
                  have E6 : Hid (EnvIs G.heap.size w' r6 J) := hE
                  obtain ⟨z6o, z6c, z6p, z6d, e3, _, _, _, _⟩ := hE
                  subst e3
                  dsimp only
                  refine hK.out _ _ hb (fun hHeld => ?_)
                  clear hK K hb
                  (try simp only [Act.put, List.getElem_toArray, List.getElem_cons_succ, List.getElem_cons_zero, List.setIfInBounds_toArray, List.set_cons_zero, List.set_cons_succ])
                  refine wpAnyH_ready (rs := [10]) (by kernel_rfl) (by simp) ?_
                  refine AllReadyH.cons rfl (fun K hK => ?_) AllReadyH.nil
                  go_simp
                  refine (eHas_any J _ _ sv sa RJ.out G _ hHeld E6.out (ESVG.out.ok hHeld)).mono ?_
                  rintro e1 w' ⟨rfl, hb⟩
                  rw [G1.out]
                  dsimp only
                  refine hK.out _ _ hb (fun hHeld => ?_)
                  clear hK K hb
                  (try simp only [Act.put, List.getElem_toArray, List.getElem_cons_succ, List.getElem_cons_zero, List.setIfInBounds_toArray, List.set_cons_zero, List.set_cons_succ])
                  refine wpAnyH_take (i := 11) (v := ?_) rfl (by kernel_rfl) (by kernel_rfl) (by kernel_rfl) (fun _ _ _ h => h) (Or.inl ⟨by rfl, ?_⟩) hHeld ?_
                  rotate_left
                  · intro w hSw; (try dsimp only at hSw); (go_simp; try with_reducible rfl)
                  (try simp only [Act.put, List.getElem_toArray, List.getElem_cons_succ, List.getElem_cons_zero, List.setIfInBounds_toArray, List.set_cons_zero, List.set_cons_succ])
                  refine wpAnyH_take (i := 12) (v := .agg #[.bool x.1, .slice po x.2.1.length pc, .slice pp x.2.2.length pd]) rfl (by kernel_rfl) (by kernel_rfl) (by kernel_rfl) (fun _ _ _ h => h) (Or.inl ⟨by rfl, ?_⟩) hHeld ?_
                  · intro w hSw; (try dsimp only at hSw); obtain ⟨c0, c1, c2, -⟩ := erow3_facts (Ok.row' hSw rx.out); (go_simp; try with_reducible rfl)
                  (try simp only [Act.put, List.getElem_toArray, List.getElem_cons_succ, List.getElem_cons_zero, List.setIfInBounds_toArray, List.set_cons_zero, List.set_cons_succ])
                  refine wpAnyH_take (i := 13) (v := .agg #[.bool y.1, .slice qo y.2.1.length qc, .slice qp y.2.2.length qd]) rfl (by kernel_rfl) (by kernel_rfl) (by kernel_rfl) (fun _ _ _ h => h) (Or.inl ⟨by rfl, ?_⟩) hHeld ?_
                  · intro w hSw; (try dsimp only at hSw); obtain ⟨c0, c1, c2, -⟩ := erow3_facts (Ok.row' hSw ry.out); (go_simp; try with_reducible rfl)
                  (try simp only [Act.put, List.getElem_toArray, List.getElem_cons_succ, List.getElem_cons_zero, List.setIfInBounds_toArray, List.set_cons_zero, List.set_cons_succ])
                  refine wpAnyH_take (i := 14) (v := ?_) rfl (by kernel_rfl) (by kernel_rfl) (by kernel_rfl) (fun _ _ _ h => h) (Or.inl ⟨by rfl, ?_⟩) hHeld ?_
                  rotate_left
                  · intro w hSw; (try dsimp only at hSw); (go_simp; try with_reducible rfl)
                  (try simp only [Act.put, List.getElem_toArray, List.getElem_cons_succ, List.getElem_cons_zero, List.setIfInBounds_toArray, List.set_cons_zero, List.set_cons_succ])
                  refine wpAnyH_take (i := 16) (v := .agg #[.slice so sv.length sc, .slice ao k ac]) rfl (by kernel_rfl) (by kernel_rfl) (by kernel_rfl) (fun _ _ _ h => h) (Or.inl ⟨by rfl, ?_⟩) hHeld ?_
                  · intro w hSw; (try dsimp only at hSw); obtain ⟨c0, c1⟩ := erow2_facts (Ok.row' hSw rs.out); (go_simp; try with_reducible rfl)
                  (try simp only [Act.put, List.getElem_toArray, List.getElem_cons_succ, List.getElem_cons_zero, List.setIfInBounds_toArray, List.set_cons_zero, List.set_cons_succ])
                  refine wpAnyH_ready (rs := [15]) (by kernel_rfl) (by simp) ?_
                  refine AllReadyH.cons rfl (fun K hK => ?_) AllReadyH.nil
                  go_simp
                  refine (eWiden_at x y _ _ (.slice ho hn hc) ts Rx.out Ry.out G _ hHeld (SInts.ok HT.out HG.out) ExG.out EyG.out).mono ?_
                  rintro e1 w' ⟨r7, rfl, hE, hb⟩
                  rw [HU.out] at hE
                  have E7 : Hid (EnvIs G.heap.size w' r7 U) := hE
                  obtain ⟨z7o, z7c, z7p, z7d, e3, _, _, _, _⟩ := hE
                  subst e3
                  dsimp only
                  refine hK.out _ _ hb (fun hHeld => ?_)
                  clear hK K hb
                  (try simp only [Act.put, List.getElem_toArray, List.getElem_cons_succ, List.getElem_cons_zero, List.setIfInBounds_toArray, List.set_cons_zero, List.set_cons_succ])
                  refine wpAnyH_ready (rs := [17]) (by kernel_rfl) (by simp) ?_
                  refine AllReadyH.cons rfl (fun K hK => ?_) AllReadyH.nil
                  go_simp
                  refine (eHas_any U _ _ sv sa RU.out G _ hHeld E7.out (ESVG.out.ok hHeld)).mono ?_
                  rintro e1 w' ⟨rfl, hb⟩
                  rw [G2.out]
                  dsimp only
                  refine hK.out _ _ hb (fun hHeld => ?_)
                  clear hK K hb
                  (try simp only [Act.put, List.getElem_toArray, List.getElem_cons_succ, List.getElem_cons_zero, List.setIfInBounds_toArray, List.set_cons_zero, List.set_cons_succ])
                  refine wpAnyH_take (i := 18) (v := ?_) rfl (by kernel_rfl) (by kernel_rfl) (by kernel_rfl) (fun _ _ _ h => h) (Or.inl ⟨by rfl, ?_⟩) hHeld ?_
                  rotate_left
                  · intro w hSw; (try dsimp only at hSw); (go_simp; try with_reducible rfl)
                  (try simp only [Act.put, List.getElem_toArray, List.getElem_cons_succ, List.getElem_cons_zero, List.setIfInBounds_toArray, List.set_cons_zero, List.set_cons_succ])
                  refine wpAnyH_take (i := 19) (v := ?_) rfl (by kernel_rfl) (by kernel_rfl) (by kernel_rfl) (fun _ _ _ h => h) (Or.inl ⟨by rfl, ?_⟩) hHeld ?_
                  rotate_left
                  · intro w hSw; (try dsimp only at hSw); (go_simp; try with_reducible rfl)
                  (try simp only [Act.put, List.getElem_toArray, List.getElem_cons_succ, List.getElem_cons_zero, List.setIfInBounds_toArray, List.set_cons_zero, List.set_cons_succ])
                  refine wpAnyH_ready (rs := [20]) (by kernel_rfl) (by simp) ?_
                  refine AllReadyH.cons rfl (fun K hK => ?_) AllReadyH.nil
                  go_simp
                  refine hK.out _ _ hHeld (fun hHeld => ?_)
                  clear hK K
                  (try simp only [Act.put, List.getElem_toArray, List.getElem_cons_succ, List.getElem_cons_zero, List.setIfInBounds_toArray, List.set_cons_zero, List.set_cons_succ])
                  refine wpAnyH_done (by kernel_rfl) ?_ _
                  go_wp2_with fail
                  go_ret
                  exact ⟨rfl, HG.out.step hHeld⟩
              · have G1 : Hid (has0 (normE J) sv sa = true) := GJ.out (Or.inl rfl)
                have G2 : Hid (has0 (normE U) sv sa = true) := GU.out (Or.inl rfl)
                clear GJ GU
                refine wp_region_held_drew (S := fun w' => Ok G w') (by kernel_rfl) (Below.drew (Ok.refl _)) (fun hHeld => ?_)
                refine wpAnyH_take (i := 0) (v := ?_) rfl (by kernel_rfl) (by kernel_rfl) (by kernel_rfl) (fun _ _ _ h => h) (Or.inl ⟨by rfl, ?_⟩) hHeld ?_
                rotate_left
                · intro w hSw; (try dsimp only at hSw); (go_simp; try with_reducible rfl)
                (try simp only [Act.put, List.getElem_toArray, List.getElem_cons_succ, List.getElem_cons_zero, List.setIfInBounds_toArray, List.set_cons_zero, List.set_cons_succ])
                refine wpAnyH_take (i := 1) (v := ?_) rfl (by kernel_rfl) (by kernel_rfl) (by kernel_rfl) (fun _ _ _ h => h) (Or.inl ⟨by rfl, ?_⟩) hHeld ?_
                rotate_left
                · intro w hSw; (try dsimp only at hSw); (go_simp; try with_reducible rfl)
                (try simp only [Act.put, List.getElem_toArray, List.getElem_cons_succ, List.getElem_cons_zero, List.setIfInBounds_toArray, List.set_cons_zero, List.set_cons_succ])
                refine wpAnyH_take (i := 2) (v := undef) rfl (by kernel_rfl) (by kernel_rfl) (by kernel_rfl) (fun _ _ _ h => h) (Or.inr ⟨by rfl, rfl⟩) hHeld ?_
                (try simp only [Act.put, List.getElem_toArray, List.getElem_cons_succ, List.getElem_cons_zero, List.setIfInBounds_toArray, List.set_cons_zero, List.set_cons_succ])
                refine wpAnyH_take (i := 3) (v := ?_) rfl (by kernel_rfl) (by kernel_rfl) (by kernel_rfl) (fun _ _ _ h => h) (Or.inl ⟨by rfl, ?_⟩) hHeld ?_
                rotate_left
                · intro w hSw; (try dsimp only at hSw); (go_simp; try with_reducible rfl)
                (try simp only [Act.put, List.getElem_toArray, List.getElem_cons_succ, List.getElem_cons_zero, List.setIfInBounds_toArray, List.set_cons_zero, List.set_cons_succ])
                refine wpAnyH_take (i := 4) (v := ?_) rfl (by kernel_rfl) (by kernel_rfl) (by kernel_rfl) (fun _ _ _ h => h) (Or.inl ⟨by rfl, ?_⟩) hHeld ?_
                rotate_left
                · intro w hSw; (try dsimp only at hSw); (go_simp; try with_reducible rfl)
                (try simp only [Act.put, List.getElem_toArray, List.getElem_cons_succ, List.getElem_cons_zero, List.setIfInBounds_toArray, List.set_cons_zero, List.set_cons_succ])
                refine wpAnyH_take (i := 5) (v := ?_) rfl (by kernel_rfl) (by kernel_rfl) (by kernel_rfl) (fun _ _ _ h => h) (Or.inl ⟨by rfl, ?_⟩) hHeld ?_
                rotate_left
                · intro w hSw; (try dsimp only at hSw); (go_simp; try with_reducible rfl)
                (try simp only [Act.put, List.getElem_toArray, List.getElem_cons_succ, List.getElem_cons_zero, List.setIfInBounds_toArray, List.set_cons_zero, List.set_cons_succ])
                refine wpAnyH_take (i := 6) (v := .agg #[.bool x.1, .slice po x.2.1.length pc, .slice pp x.2.2.length pd]) rfl (by kernel_rfl) (by kernel_rfl) (by kernel_rfl) (fun _ _ _ h => h) (Or.inl ⟨by rfl, ?_⟩) hHeld ?_
                · intro w hSw; (try dsimp only at hSw); obtain ⟨c0, c1, c2, -⟩ := erow3_facts (Ok.row' hSw rx.out); (go_simp; try with_reducible rfl)
                (try simp only [Act.put, List.getElem_toArray, List.getElem_cons_succ, List.getElem_cons_zero, List.setIfInBounds_toArray, List.set_cons_zero, List.set_cons_succ])
                refine wpAnyH_take (i := 7) (v := .agg #[.bool y.1, .slice qo y.2.1.length qc, .slice qp y.2.2.length qd]) rfl (by kernel_rfl) (by kernel_rfl) (by kernel_rfl) (fun _ _ _ h => h) (Or.inl ⟨by rfl, ?_⟩) hHeld ?_
                · intro w hSw; (try dsimp only at hSw); obtain ⟨c0, c1, c2, -⟩ := erow3_facts (Ok.row' hSw ry.out); (go_simp; try with_reducible rfl)
                (try simp only [Act.put, List.getElem_toArray, List.getElem_cons_succ, List.getElem_cons_zero, List.setIfInBounds_toArray, List.set_cons_zero, List.set_cons_succ])
                refine wpAnyH_take (i := 9) (v := .agg #[.slice so sv.length sc, .slice ao k ac]) rfl (by kernel_rfl) (by kernel_rfl) (by kernel_rfl) (fun _ _ _ h => h) (Or.inl ⟨by rfl, ?_⟩) hHeld ?_
                · intro w hSw; (try dsimp only at hSw); obtain ⟨c0, c1⟩ := erow2_facts (Ok.row' hSw rs.out); (go_simp; try with_reducible rfl)
                (try simp only [Act.put, List.getElem_toArray, List.getElem_cons_succ, List.getElem_cons_zero, List.setIfInBounds_toArray, List.set_cons_zero, List.set_cons_succ])
                refine wpAnyH_ready (rs := [8]) (by kernel_rfl) (by simp) ?_
                refine AllReadyH.cons rfl (fun K hK => ?_) AllReadyH.nil
                go_simp
                refine (eJoin_at x y _ _ Rx.out Ry.out G _ hHeld ExG.out EyG.out).mono ?_
                rintro e1 w' ⟨r6, rfl, hE, hb⟩
                rw [HJ.out] at hE
                have E6 : Hid (EnvIs G.heap.size w' r6 J) := hE
                obtain ⟨z6o, z6c, z6p, z6d, e3, _, _, _, _⟩ := hE
                subst e3
                dsimp only
                refine hK.out _ _ hb (fun hHeld => ?_)
                clear hK K hb
                (try simp only [Act.put, List.getElem_toArray, List.getElem_cons_succ, List.getElem_cons_zero, List.setIfInBounds_toArray, List.set_cons_zero, List.set_cons_succ])
                refine wpAnyH_ready (rs := [10]) (by kernel_rfl) (by simp) ?_
                refine AllReadyH.cons rfl (fun K hK => ?_) AllReadyH.nil
                go_simp
                refine (eHas_any J _ _ sv sa RJ.out G _ hHeld E6.out (ESVG.out.ok hHeld)).mono ?_
                rintro e1 w' ⟨rfl, hb⟩
                rw [G1.out]
                dsimp only
                refine hK.out _ _ hb (fun hHeld => ?_)
                clear hK K hb
                (try simp only [Act.put, List.getElem_toArray, List.getElem_cons_succ, List.getElem_cons_zero, List.setIfInBounds_toArray, List.set_cons_zero, List.set_cons_succ])
                refine wpAnyH_take (i := 11) (v := ?_) rfl (by kernel_rfl) (by kernel_rfl) (by kernel_rfl) (fun _ _ _ h => h) (Or.inl ⟨by rfl, ?_⟩) hHeld ?_
                rotate_left
                · intro w hSw; (try dsimp only at hSw); (go_simp; try with_reducible rfl)
                (try simp only [Act.put, List.getElem_toArray, List.getElem_cons_succ, List.getElem_cons_zero, List.setIfInBounds_toArray, List.set_cons_zero, List.set_cons_succ])
                refine wpAnyH_take (i := 12) (v := .agg #[.bool x.1, .slice po x.2.1.length pc, .slice pp x.2.2.length pd]) rfl (by kernel_rfl) (by kernel_rfl) (by kernel_rfl) (fun _ _ _ h => h) (Or.inl ⟨by rfl, ?_⟩) hHeld ?_
                · intro w hSw; (try dsimp only at hSw); obtain ⟨c0, c1, c2, -⟩ := erow3_facts (Ok.row' hSw rx.out); (go_simp; try with_reducible rfl)
                (try simp only [Act.put, List.getElem_toArray, List.getElem_cons_succ, List.getElem_cons_zero, List.setIfInBounds_toArray, List.set_cons_zero, List.set_cons_succ])
                refine wpAnyH_take (i := 13) (v := .agg #[.bool y.1, .slice qo y.2.1.length qc, .slice qp y.2.2.length qd]) rfl (by kernel_rfl) (by kernel_rfl) (by kernel_rfl) (fun _ _ _ h => h) (Or.inl ⟨by rfl, ?_⟩) hHeld ?_
                · intro w hSw; (try dsimp only at hSw); obtain ⟨c0, c1, c2, -⟩ := erow3_facts (Ok.row' hSw ry.out); (go_simp; try with_reducible rfl)
                (try simp only [Act.put, List.getElem_toArray, List.getElem_cons_succ, List.getElem_cons_zero, List.setIfInBounds_toArray, List.set_cons_zero, List.set_cons_succ])
                refine wpAnyH_take (i := 14) (v := ?_) rfl (by kernel_rfl) (by kernel_rfl) (by kernel_rfl) (fun _ _ _ h => h) (Or.inl ⟨by rfl, ?_⟩) hHeld ?_
                rotate_left
                · intro w hSw; (try dsimp only at hSw); (go_simp; try with_reducible rfl)
                (try simp only [Act.put, List.getElem_toArray, List.getElem_cons_succ, List.getElem_cons_zero, List.setIfInBounds_toArray, List.set_cons_zero, List.set_cons_succ])
                refine wpAnyH_take (i := 16) (v := .agg #[.slice so sv.length sc, .slice ao k ac]) rfl (by kernel_rfl) (by kernel_rfl) (by kernel_rfl) (fun _ _ _ h => h) (Or.inl ⟨by rfl, ?_⟩) hHeld ?_
                · intro w hSw; (try dsimp only at hSw); obtain ⟨c0, c1⟩ := erow2_facts (Ok.row' hSw rs.out); (go_simp; try with_reducible rfl)
                (try simp only [Act.put, List.getElem_toArray, List.getElem_cons_succ, List.getElem_cons_zero, List.setIfInBounds_toArray, List.set_cons_zero, List.set_cons_succ])
                refine wpAnyH_ready (rs := [15]) (by kernel_rfl) (by simp) ?_
                refine AllReadyH.cons rfl (fun K hK => ?_) AllReadyH.nil
                go_simp
                refine (eWiden_at x y _ _ (.slice ho hn hc) ts Rx.out Ry.out G _ hHeld (SInts.ok HT.out HG.out) ExG.out EyG.out).mono ?_
                rintro e1 w' ⟨r7, rfl, hE, hb⟩
                rw [HU.out] at hE
                have E7 : Hid (EnvIs G.heap.size w' r7 U) := hE
                obtain ⟨z7o, z7c, z7p, z7d, e3, _, _, _, _⟩ := hE
                subst e3
                dsimp only
                refine hK.out _ _ hb (fun hHeld => ?_)
                clear hK K hb
                (try simp only [Act.put, List.getElem_toArray, List.getElem_cons_succ, List.getElem_cons_zero, List.setIfInBounds_toArray, List.set_cons_zero, List.set_cons_succ])
                refine wpAnyH_ready (rs := [17]) (by kernel_rfl) (by simp) ?_
                refine AllReadyH.cons rfl (fun K hK => ?_) AllReadyH.nil
                go_simp
                refine (eHas_any U _ _ sv sa RU.out G _ hHeld E7.out (ESVG.out.ok hHeld)).mono ?_
                rintro e1 w' ⟨rfl, hb⟩
                rw [G2.out]
                dsimp only
                refine hK.out _ _ hb (fun hHeld => ?_)
                clear hK K hb
                (try simp only [Act.put, List.getElem_toArray, List.getElem_cons_succ, List.getElem_cons_zero, List.setIfInBounds_toArray, List.set_cons_zero, List.set_cons_succ])
                refine wpAnyH_take (i := 18) (v := ?_) rfl (by kernel_rfl) (by kernel_rfl) (by kernel_rfl) (fun _ _ _ h => h) (Or.inl ⟨by rfl, ?_⟩) hHeld ?_
                rotate_left
                · intro w hSw; (try dsimp only at hSw); (go_simp; try with_reducible rfl)
                (try simp only [Act.put, List.getElem_toArray, List.getElem_cons_succ, List.getElem_cons_zero, List.setIfInBounds_toArray, List.set_cons_zero, List.set_cons_succ])
                refine wpAnyH_take (i := 19) (v := ?_) rfl (by kernel_rfl) (by kernel_rfl) (by kernel_rfl) (fun _ _ _ h => h) (Or.inl ⟨by rfl, ?_⟩) hHeld ?_
                rotate_left
                · intro w hSw; (try dsimp only at hSw); (go_simp; try with_reducible rfl)
                (try simp only [Act.put, List.getElem_toArray, List.getElem_cons_succ, List.getElem_cons_zero, List.setIfInBounds_toArray, List.set_cons_zero, List.set_cons_succ])
                refine wpAnyH_ready (rs := [20]) (by kernel_rfl) (by simp) ?_
                refine AllReadyH.cons rfl (fun K hK => ?_) AllReadyH.nil
                go_simp
                refine hK.out _ _ hHeld (fun hHeld => ?_)
                clear hK K
                (try simp only [Act.put, List.getElem_toArray, List.getElem_cons_succ, List.getElem_cons_zero, List.setIfInBounds_toArray, List.set_cons_zero, List.set_cons_succ])
                refine wpAnyH_done (by kernel_rfl) ?_ _
                go_wp2_with fail
                go_ret
                exact ⟨rfl, HG.out.step hHeld⟩
end Go.Proofs.Ytbkblijoimmdeaa
