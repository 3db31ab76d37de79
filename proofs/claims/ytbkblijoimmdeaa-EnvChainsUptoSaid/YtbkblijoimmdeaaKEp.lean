import Derived.Test.YtbkblijoimmdeaaKEmc
import Derived.Deep.Cut
import Derived.Deep.CutRange
set_option linter.unusedVariables false
set_option linter.unusedSimpArgs false
set_option linter.unnecessarySimpa false
/- EnvChains: the law's walk. -/
namespace Go.Proofs.Ytbkblijoimmdeaa
open Go.RowKit
/-- A slice of Envs; an empty one may have any address. -/
def SEs (w : World) (ro : Option Addr) (es : List ET) : Prop :=
  es ≠ [] → ∃ tb o, ro = some ⟨tb, o, none⟩ ∧ tb < w.heap.size ∧ ∀ i (h : i < es.length), ∃ po pc pp pd, w.cell? ⟨tb, o + i * 3, none⟩ = some (.bool es[i].1) ∧ w.cell? ⟨tb, o + i * 3 + 1, none⟩ = some (.slice po es[i].2.1.length pc) ∧ w.cell? ⟨tb, o + i * 3 + 2, none⟩ = some (.slice pp es[i].2.2.length pd) ∧ EnvIs 0 w (.agg #[.bool es[i].1, .slice po es[i].2.1.length pc, .slice pp es[i].2.2.length pd]) es[i]
theorem SEs.at {w w1 : World} {ro : Option Addr} {es : List ET} (h : SEs w ro es) (hb : Ok w w1) {k : Nat} (hk : k < es.length) :
    ∃ tb o po pc pp pd, ro = some ⟨tb, o, none⟩ ∧ tb < w.heap.size ∧ w1.cell? ⟨tb, o + k * 3, none⟩ = some (.bool es[k].1) ∧ w1.cell? ⟨tb, o + k * 3 + 1, none⟩ = some (.slice po es[k].2.1.length pc) ∧ w1.cell? ⟨tb, o + k * 3 + 2, none⟩ = some (.slice pp es[k].2.2.length pd) ∧ EnvIs 0 w1 (.agg #[.bool es[k].1, .slice po es[k].2.1.length pc, .slice pp es[k].2.2.length pd]) es[k] := by
  obtain ⟨tb, o, e, hlt, hc⟩ := h (fun c => by rw [c] at hk; simp at hk)
  obtain ⟨po, pc, pp, pd, h1, h2, h3, h4⟩ := hc k hk
  exact ⟨tb, o, po, pc, pp, pd, e, hlt, (Below.cell hb hlt).trans h1, (Below.cell hb hlt).trans h2, (Below.cell hb hlt).trans h3, h4.ok hb⟩
def lenE (e : ET) : Nat := e.2.1.length + e.2.2.length
theorem norm_len (e : ET) : lenE (normE e) ≤ lenE e := by
  unfold normE
  split
  · exact Nat.zero_le _
  · unfold madE
    split
    · exact Nat.zero_le _
    · simp [lenE]
theorem chain_len {ts : List Int} {E F X : ET} (hE : NorE E) (hF : NorE F) (hs : E.1 = true ∨ shp0 E F = true) (hX : X = tog0 (fun a b => widenN a b ts) E (tog0 joinN E F)) : lenE X = lenE E ∨ lenE X = lenE F := by
  rcases hE.cas with rfl | ⟨v, a, rfl, h1, h2⟩
  · rw [tog_ded, tog_ded] at hX
    exact Or.inr (by rw [hX])
  · have hs2 : shp0 (false, v, a) F = true := by
      rcases hs with k | k
      · cases k
      · exact k
    obtain ⟨v2, a2, e1, g1, g2, l1, l2⟩ := join_cas rfl h1 h2 hF hs2
    rw [e1, tog_al (fun a b ha hb => wid_liv ha hb ts) h1 h2 g1 g2 l1 l2] at hX
    left
    rw [hX]
    simp [lenE, ← l1, ← l2]
theorem sints_len {w : World} {o : Option Addr} {n c : Nat} {ts : List Int} (h : SInts w (.slice o n c) ts) : n = ts.length := by
  rcases h with ⟨tb, o', cap, e, _⟩ | ⟨ao, cap, e, rfl⟩
  · injection e
  · injection e
set_option maxRecDepth 100000 in
set_option maxHeartbeats 40000000 in
theorem chains_any (x : ET) (xv : Value) (es : List ET) (lo : Option Addr) (lc : Nat) (tv : Value) (ts : List Int) (hx : RawE x) (lx : lenE x ≤ 1048576) (hR : ∀ e ∈ es, RawE e) (hLe : ∀ e ∈ es, lenE e ≤ 1048576) (lm : es.length ≤ 1048576) (lt0 : ts.length ≤ 1048576) {B : Nat} (w : World) (hT : SInts w tv ts) (hS : SEs w lo es) (hX : EnvIs B w xv x) :
    Calls Try.prog 5 #[xv, .slice lo es.length lc, tv] w fun e w' => e = .returned (.bool true) ∧ Ok w w' := by
  have Ex0 := hX
  obtain ⟨po, pc, pp, pd, ex, _, _, _, _⟩ := hX
  subst ex
  have Ex : Hid (EnvIs B w (.agg #[.bool x.1, .slice po x.2.1.length pc, .slice pp x.2.2.length pd]) x) := Ex0
  have Rx : Hid (RawE x) := hx
  clear Ex0 hx
  obtain ⟨ho, hn, hc, rfl⟩ := SInts.form hT
  have HT : Hid (SInts w (.slice ho hn hc) ts) := hT
  have HTN : Hid (hn = ts.length) := sints_len hT
  have tb0 : hn ≤ 1048576 := by rw [HTN.out]; exact lt0
  have HS : Hid (SEs w lo es ∧ (∀ e ∈ es, RawE e) ∧ ∀ e ∈ es, lenE e ≤ 1048576) := ⟨hS, hR, hLe⟩
  clear hT hS hR hLe lt0
  obtain ⟨m, hmm⟩ : ∃ m, m = es.length := ⟨_, rfl⟩
  rw [← hmm] at lm ⊢
  have HM : Hid (m = es.length) := hmm
  clear hmm
  obtain ⟨E0, hE0⟩ : ∃ X, normE x = X := ⟨_, rfl⟩
  have N0 : Hid (NorE E0) := by unfold Hid; rw [← hE0]; exact normE_nor Rx.out
  have q0 : E0.2.1.length + E0.2.2.length ≤ 1048576 := by rw [← hE0]; exact Nat.le_trans (norm_len x) lx
  have HE0 : Hid (normE x = E0) := hE0
  clear hE0 lx
  go_enter Try.func5, Try.ntmps5
  go_wp2_with fail
  obtain ⟨W, hW⟩ : ∃ W, W = (w).alloc (.cells #[.bool x.1, .slice po x.2.1.length pc, .slice pp x.2.2.length pd] 24) := ⟨_, rfl⟩
  have rx : Hid (W.heap[w.heap.size]? = some (.cells #[.bool x.1, .slice po x.2.1.length pc, .slice pp x.2.2.length pd] 24)) := by unfold Hid; rw [hW]; exact (by repeat (first | (refine heap_at _ _ _ ?hx; case hx => (first | (simp; done) | (simp; omega))) | (refine heap_past _ _ _ ?hy ?_; case hy => (first | (simp; done) | (simp; omega))) | fail))
  have HW : Hid (Ok w W) := by unfold Hid; rw [hW]; have hok := Ok.refl w; exact (by repeat (first | exact hok | refine Ok.alloc ?_ _ | refine Ok.draws ?_ _ | fail))
  rw [← hW]
  clear hW
  obtain ⟨gx, egx⟩ : ∃ g, g = w.heap.size := ⟨_, rfl⟩
  rw [← egx] at rx ⊢
  have lgx : w.heap.size ≤ gx := by omega
  clear egx
  have ExW : Hid (EnvIs B W (.agg #[.bool x.1, .slice po x.2.1.length pc, .slice pp x.2.2.length pd]) x) := Ex.out.ok HW.out
  have Lx : Hid (gx < W.heap.size) := lt_row rx.out
  refine (eNorm_at x _ Rx.out W _ (Ok.refl _) ExW.out).mono ?_
  rintro e w1 ⟨r, rfl, hE, _, hb⟩
  rw [HE0.out] at hE
  have E1 : Hid (EnvIs W.heap.size w1 r E0) := hE
  obtain ⟨so, sc, sp, sd, e3, _, _, _, _⟩ := hE
  subst e3
  replace rx : Hid _ := Ok.row' hb rx.out
  have H1 : Hid (Ok w w1) := HW.out.step hb
  clear hb
  obtain ⟨k0, k1, k2, k3, k4, k5⟩ := erow3_facts rx.out
  obtain ⟨Z, hZ⟩ : ∃ Z, Z = ((w1.setCell ⟨gx, 0, none⟩ (.bool E0.1)).setCell ⟨gx, 1, none⟩ (.slice so E0.2.1.length sc)).setCell ⟨gx, 2, none⟩ (.slice sp E0.2.2.length sd) := ⟨_, rfl⟩
  have rX : Hid (Z.heap[gx]? = some (.cells #[.bool E0.1, .slice so E0.2.1.length sc, .slice sp E0.2.2.length sd] 24)) := by unfold Hid; rw [hZ]; exact erow_set3 rx.out _ _ _
  have EZ : Hid (EnvIs 0 Z (.agg #[.bool E0.1, .slice so E0.2.1.length sc, .slice sp E0.2.2.length sd]) E0) := by unfold Hid; rw [hZ]; exact (E1.out.set3 Lx.out _ _ _).mono (Nat.zero_le _)
  have HZ : Hid (Ok w Z) := by unfold Hid; rw [hZ]; exact set3_ok H1.out lgx _ _ _
  go_wp2_with fail
  rw [← hZ]
  clear k0 k1 k2 k3 k4 k5
  clear hZ rx E1 H1
  go_loopw [7, 8, 9] (fun s7 s8 s9 wr => ∃ (k ch N : Nat) (E : ET) (po pp : Option Addr) (pc pd : Nat), k ≤ m ∧ s9 = .int .i64 (k : Int) ∧ s8 = .int .i64 (ch : Int) ∧ s7 = .int .i64 (N : Int) ∧ ch ≤ k ∧ N ≤ 1048576 ∧ E.2.1.length + E.2.2.length ≤ 1048576 ∧ Hid (ChI ts E N ch ∧ NorE E) ∧ Hid (wr.heap[gx]? = some (.cells #[.bool E.1, .slice po E.2.1.length pc, .slice pp E.2.2.length pd] 24)) ∧ Hid (EnvIs 0 wr (.agg #[.bool E.1, .slice po E.2.1.length pc, .slice pp E.2.2.length pd]) E) ∧ Hid (Ok w wr)) (fun _ _ s9 _ => m - (intOf s9).toNat)
  case atStart => exact ⟨0, 0, E0.2.1.length + E0.2.2.length, E0, so, sp, sc, sd, by omega, rfl, rfl, (by simp), by omega, q0, q0, ⟨ChI.start N0.out, N0.out⟩, rX.out, EZ.out, HZ.out⟩
  case round =>
    clear rX EZ HZ N0 q0
    obtain ⟨k, ch, N, E, po, pp, pc, pd, hk, rfl, rfl, rfl, hck, hN, hEl, HI, rx, EE, HK⟩ := hrel
    by_cases k3 : k < m
    · have k3i : (k : Int) < (m : Int) := by omega
      have k0i : (0 : Int) ≤ (k : Int) := by omega
      have h1 : k < es.length := by rw [← HM.out]; exact k3
      obtain ⟨tb, o, qo, qc, qp, qd, ero, htb, c0, c1, c2, Ey0⟩ := SEs.at HS.out.1 HK.out (k := k) h1
      obtain ⟨y, hy⟩ : ∃ y, y = es[k] := ⟨_, rfl⟩
      have RY : Hid (RawE y ∧ lenE y ≤ 1048576) := by unfold Hid; rw [hy]; exact ⟨HS.out.2.1 _ (List.getElem_mem _), HS.out.2.2 _ (List.getElem_mem _)⟩
      rw [← hy] at c0 c1 c2 Ey0
      have Ey : Hid (EnvIs 0 wr (.agg #[.bool y.1, .slice qo y.2.1.length qc, .slice qp y.2.2.length qd]) y) := Ey0
      clear Ey0 hy h1
      subst ero
      obtain ⟨F, hF⟩ : ∃ F, normE y = F := ⟨_, rfl⟩
      have HF : Hid (normE y = F) := hF
      have NF : Hid (NorE F) := by unfold Hid; rw [← hF]; exact normE_nor RY.out.1
      have LF : Hid (lenE F ≤ 1048576) := by unfold Hid; rw [← hF]; exact Nat.le_trans (norm_len y) RY.out.2
      clear hF
      go_wp2_with fail
      clear c0 c1 c2
      refine (eNorm_at y _ RY.out.1 wr _ (Ok.refl _) Ey.out).mono ?_
      rintro e w1 ⟨r, rfl, hE, _, hb⟩
      rw [HF.out] at hE
      have F1 : Hid (EnvIs wr.heap.size w1 r F) := hE
      obtain ⟨fo, fc, fp, fd, e3, _, _, _, _⟩ := hE
      subst e3
      obtain ⟨a0, a1, a2, a3, a4, a5⟩ := erow3_facts (Ok.row' hb rx.out)
      have la := lt_row (Ok.row' hb rx.out)
      have na : ¬ gx = w1.heap.size := by omega
      have ma : ¬ w1.heap.size = gx := by omega
      obtain ⟨V, hV⟩ : ∃ W, W = w1.alloc (.cells #[.bool F.1, .slice fo F.2.1.length fc, .slice fp F.2.2.length fd] 24) := ⟨_, rfl⟩
      have OV : Ok wr V := by rw [hV]; exact hb.alloc _
      have OV1 : Ok w1 V := by rw [hV]; exact (Ok.refl _).alloc _
      have rf : Hid (V.heap[w1.heap.size]? = some (.cells #[.bool F.1, .slice fo F.2.1.length fc, .slice fp F.2.2.length fd] 24)) := by unfold Hid; rw [hV]; exact heap_new0 _ _
      have rxV : Hid (V.heap[gx]? = some (.cells #[.bool E.1, .slice po E.2.1.length pc, .slice pp E.2.2.length pd] 24)) := Ok.row' OV rx.out
      have FV : Hid (EnvIs 0 V (.agg #[.bool F.1, .slice fo F.2.1.length fc, .slice fp F.2.2.length fd]) F) := (F1.out.ok OV1).mono (Nat.zero_le _)
      have EV : Hid (EnvIs 0 V (.agg #[.bool E.1, .slice po E.2.1.length pc, .slice pp E.2.2.length pd]) E) := EE.out.ok OV
      have KV : Hid (Ok w V) := HK.out.step OV
      have NE : Hid (NorE E) := HI.out.2
      have CE : Hid (ChI ts E N ch) := HI.out.1
      clear HI OV OV1 hb F1 Ey EE HK rx
      obtain ⟨gf, egf⟩ : ∃ g, g = w1.heap.size := ⟨_, rfl⟩
      have ngf : ¬ gx = gf := by omega
      have mgf : ¬ gf = gx := by omega
      rcases Bool.eq_false_or_eq_true E.1 with h0 | h0
      · rw [h0] at a0
        have HSH : Hid (E.1 = true ∨ shp0 E F = true) := Or.inl h0
        clear h0
        go_wp2_with fail
        rw [← hV]
        rw [← egf] at rf ⊢
        clear a0 a1 a2 a3 a4 a5 la na ma
        clear hV egf
        obtain ⟨X, hX⟩ : ∃ X, X = tog0 (fun a b => widenN a b ts) E (tog0 joinN E F) := ⟨_, rfl⟩
        obtain ⟨J, hJ⟩ : ∃ J, tog0 joinN (normE E) (normE F) = J := ⟨_, rfl⟩
        have HJ : Hid (tog0 joinN (normE E) (normE F) = J) := hJ
        have NJ : Hid (NorE J) := by unfold Hid; rw [← hJ]; exact tog_nor join_ok (normE_nor NE.out.raw) (normE_nor NF.out.raw)
        have HXX : Hid (tog0 (fun a b => widenN a b ts) (normE E) (normE J) = X) := by unfold Hid; rw [hX, normE_id NE.out, normE_id NJ.out, ← hJ, normE_id NE.out, normE_id NF.out]
        have NXX : Hid (NorE X) := by unfold Hid; rw [← HXX.out]; exact tog_nor (wid_ok ts) (normE_nor NE.out.raw) (normE_nor NJ.out.raw)
        have ST : Hid (leq0 E X = true ∧ ChI ts X (max N (X.2.1.length + X.2.2.length)) (if same0 E X = true then ch else ch + 1)) := ChI.step NE.out NF.out CE.out HSH.out hX
        have XL : X.2.1.length + X.2.2.length ≤ 1048576 := by rcases chain_len NE.out NF.out HSH.out hX with k | k; (· show lenE X ≤ _; rw [k]; exact hEl); (· show lenE X ≤ _; rw [k]; exact LF.out)
        clear hX hJ CE HSH
        go_cut [11] from 41 to 46 (fun s11 u => Hid (∃ (gn : Nat) (no np : Option Addr) (nc nd : Nat), s11 = .pointer (some ⟨gn, 0, none⟩) ∧ Ok V u ∧ u.heap[gn]? = some (.cells #[.bool X.1, .slice no X.2.1.length nc, .slice np X.2.2.length nd] 24 (0, 0)) ∧ EnvIs V.heap.size u (.agg #[.bool X.1, .slice no X.2.1.length nc, .slice np X.2.2.length nd]) X ∧ V.heap.size ≤ gn))
        case first =>
          refine wp_region_held_drew (S := fun w' => Ok V w') (by kernel_rfl) (Below.drew (Ok.refl _)) (fun hHeld => ?_)
          obtain ⟨D0, hD0⟩ : ∃ D, D = V.drew := ⟨_, rfl⟩
          rw [← hD0] at hHeld ⊢
          clear hD0
          refine wpAnyH_take (i := 0) (v := .agg #[.bool E.1, .slice po E.2.1.length pc, .slice pp E.2.2.length pd]) rfl (by kernel_rfl) (by kernel_rfl) (by kernel_rfl) (fun _ _ _ h => h) (Or.inl ⟨by rfl, ?_⟩) hHeld ?_
          · intro w hSw; (try dsimp only at hSw); obtain ⟨c0, c1, c2, -⟩ := erow3_facts (Ok.row' hSw rxV.out); (go_simp; try with_reducible rfl)
          (try simp only [Act.put, List.getElem_toArray, List.getElem_cons_succ, List.getElem_cons_zero, List.setIfInBounds_toArray, List.set_cons_zero, List.set_cons_succ])
          refine wpAnyH_take (i := 1) (v := .agg #[.bool E.1, .slice po E.2.1.length pc, .slice pp E.2.2.length pd]) rfl (by kernel_rfl) (by kernel_rfl) (by kernel_rfl) (fun _ _ _ h => h) (Or.inl ⟨by rfl, ?_⟩) hHeld ?_
          · intro w hSw; (try dsimp only at hSw); obtain ⟨c0, c1, c2, -⟩ := erow3_facts (Ok.row' hSw rxV.out); (go_simp; try with_reducible rfl)
          (try simp only [Act.put, List.getElem_toArray, List.getElem_cons_succ, List.getElem_cons_zero, List.setIfInBounds_toArray, List.set_cons_zero, List.set_cons_succ])
          refine wpAnyH_take (i := 2) (v := .agg #[.bool F.1, .slice fo F.2.1.length fc, .slice fp F.2.2.length fd]) rfl (by kernel_rfl) (by kernel_rfl) (by kernel_rfl) (fun _ _ _ h => h) (Or.inl ⟨by rfl, ?_⟩) hHeld ?_
          · intro w hSw; (try dsimp only at hSw); obtain ⟨c0, c1, c2, -⟩ := erow3_facts (Ok.row' hSw rf.out); (go_simp; try with_reducible rfl)
          (try simp only [Act.put, List.getElem_toArray, List.getElem_cons_succ, List.getElem_cons_zero, List.setIfInBounds_toArray, List.set_cons_zero, List.set_cons_succ])
          refine wpAnyH_take (i := 4) (v := .slice ho hn hc) rfl (by kernel_rfl) (by kernel_rfl) (by kernel_rfl) (fun _ _ _ h => h) (Or.inl ⟨by rfl, ?_⟩) hHeld ?_
          · intro w hSw; (try dsimp only at hSw); (go_simp; try with_reducible rfl)
          (try simp only [Act.put, List.getElem_toArray, List.getElem_cons_succ, List.getElem_cons_zero, List.setIfInBounds_toArray, List.set_cons_zero, List.set_cons_succ])
          refine wpAnyH_ready (rs := [3, 6]) (by kernel_rfl) (by simp) ?_
          refine AllReadyH.cons rfl (fun K hK => ?_) (AllReadyH.cons rfl (fun K hK => ?_) AllReadyH.nil)
          · go_simp
            refine (eJoin_any E F _ _ NE.out.raw NF.out.raw _ (EV.out.ok hHeld) (FV.out.ok hHeld)).mono ?_
            rintro e1 uj ⟨r, rfl, hE, hx⟩
            rw [HJ.out] at hE
            have hb := hHeld.step hx
            have Fd0 := hE.mono (Nat.zero_le _)
            obtain ⟨jo, jc, jp, jd, e3, _, _, _, _⟩ := hE
            subst e3
            have Fd : Hid (EnvIs 0 uj (.agg #[.bool J.1, .slice jo J.2.1.length jc, .slice jp J.2.2.length jd]) J) := Fd0
            clear Fd0
            dsimp only
            refine hK.out _ _ hb (fun hHeld => ?_)
            clear hK K hb hx
            (try simp only [Act.put, List.getElem_toArray, List.getElem_cons_succ, List.getElem_cons_zero, List.setIfInBounds_toArray, List.set_cons_zero, List.set_cons_succ])
            refine wpAnyH_ready (rs := [5, 6]) (by kernel_rfl) (by simp) ?_
            refine AllReadyH.cons rfl (fun K hK => ?_) (AllReadyH.cons rfl (fun K hK => ?_) AllReadyH.nil)
            · go_simp
              refine (eWiden_any E J _ _ (.slice ho hn hc) ts NE.out.raw NJ.out.raw _ (SInts.ok HT.out (KV.out.step hHeld)) (EV.out.ok hHeld) Fd.out).mono ?_
              rintro e1 uw ⟨r, rfl, hE, hx⟩
              rw [HXX.out] at hE
              have hb := hHeld.step hx
              have FjB := hE
              obtain ⟨no, nc, np, nd, e3, _, _, _, _⟩ := hE
              subst e3
              have Fj : Hid (EnvIs V.heap.size uw (.agg #[.bool X.1, .slice no X.2.1.length nc, .slice np X.2.2.length nd]) X) := FjB.mono hHeld.le
              clear FjB Fd
              dsimp only
              refine hK.out _ _ hb (fun hHeld => ?_)
              clear hK K hb hx
              (try simp only [Act.put, List.getElem_toArray, List.getElem_cons_succ, List.getElem_cons_zero, List.setIfInBounds_toArray, List.set_cons_zero, List.set_cons_succ])
              refine wpAnyH_ready (rs := [6]) (by kernel_rfl) (by simp) ?_
              refine AllReadyH.cons rfl (fun K hK => ?_) AllReadyH.nil
              · go_simp
                obtain ⟨ua, hua⟩ : ∃ Y, Y = uw.alloc (.cells #[.bool false, .slice none 0 0, .slice none 0 0] 24) := ⟨_, rfl⟩
                have rj : Hid (ua.heap[uw.heap.size]? = some (.cells #[.bool false, .slice none 0 0, .slice none 0 0] 24)) := by unfold Hid; rw [hua]; exact heap_new0 _ _
                have hx : Ok uw ua := by rw [hua]; exact (Ok.refl _).alloc _
                rw [← hua]
                obtain ⟨gj, egj⟩ : ∃ g, g = uw.heap.size := ⟨_, rfl⟩
                rw [← egj] at rj ⊢
                have lj : V.heap.size ≤ gj := by have := hHeld.le; omega
                have hcur : uw.heap.size ≤ gj := by omega
                have hb := hHeld.step hx
                refine hK.out _ _ hb (fun hHeld => ?_)
                clear hK K hua egj hb
                (try simp only [Act.put, List.getElem_toArray, List.getElem_cons_succ, List.getElem_cons_zero, List.setIfInBounds_toArray, List.set_cons_zero, List.set_cons_succ])
                have FE : Hid (∀ p q r : Value, EnvIs V.heap.size (((ua.setCell ⟨gj, 0, none⟩ p).setCell ⟨gj, 1, none⟩ q).setCell ⟨gj, 2, none⟩ r) (.agg #[.bool X.1, .slice no X.2.1.length nc, .slice np X.2.2.length nd]) X) := fun p q r => Fj.out.ok (set3_ok hx hcur p q r)
                clear hx hcur
                refine wpAnyH_ready (rs := [7]) (by kernel_rfl) (by simp) ?_
                refine AllReadyH.cons rfl (fun K hK => ?_) AllReadyH.nil
                obtain ⟨k0, k1, k2, k3, k4, k5⟩ := erow3_facts rj.out
                go_simp
                refine hK.out _ _ (set3_ok hHeld lj _ _ _) (fun hHeld => ?_)
                clear hK K
                (try simp only [Act.put, List.getElem_toArray, List.getElem_cons_succ, List.getElem_cons_zero, List.setIfInBounds_toArray, List.set_cons_zero, List.set_cons_succ])
                refine wpAnyH_done (by kernel_rfl) ?_ _
                go_wp2_with fail
                go_meet
                case rel => exact ⟨gj, no, np, nc, nd, rfl, hHeld, erow_set3 rj.out _ _ _, FE.out _ _ _, lj⟩
            · go_simp
              obtain ⟨ua, hua⟩ : ∃ Y, Y = uj.alloc (.cells #[.bool false, .slice none 0 0, .slice none 0 0] 24) := ⟨_, rfl⟩
              have rj : Hid (ua.heap[uj.heap.size]? = some (.cells #[.bool false, .slice none 0 0, .slice none 0 0] 24)) := by unfold Hid; rw [hua]; exact heap_new0 _ _
              have hx : Ok uj ua := by rw [hua]; exact (Ok.refl _).alloc _
              rw [← hua]
              obtain ⟨gj, egj⟩ : ∃ g, g = uj.heap.size := ⟨_, rfl⟩
              rw [← egj] at rj ⊢
              have lj : V.heap.size ≤ gj := by have := hHeld.le; omega
              have hcur : uj.heap.size ≤ gj := by omega
              have hb := hHeld.step hx
              refine hK.out _ _ hb (fun hHeld => ?_)
              clear hK K hua egj hb
              (try simp only [Act.put, List.getElem_toArray, List.getElem_cons_succ, List.getElem_cons_zero, List.setIfInBounds_toArray, List.set_cons_zero, List.set_cons_succ])
              replace Fd : Hid (EnvIs 0 ua (.agg #[.bool J.1, .slice jo J.2.1.length jc, .slice jp J.2.2.length jd]) J) := Fd.out.ok hx
              clear hx hcur
              refine wpAnyH_ready (rs := [5]) (by kernel_rfl) (by simp) ?_
              refine AllReadyH.cons rfl (fun K hK => ?_) AllReadyH.nil
              · go_simp
                refine (eWiden_any E J _ _ (.slice ho hn hc) ts NE.out.raw NJ.out.raw _ (SInts.ok HT.out (KV.out.step hHeld)) (EV.out.ok hHeld) Fd.out).mono ?_
                rintro e1 uw ⟨r, rfl, hE, hx⟩
                rw [HXX.out] at hE
                have hb := hHeld.step hx
                have Bj := lt_row rj.out
                have FjB := hE
                obtain ⟨no, nc, np, nd, e3, _, _, _, _⟩ := hE
                subst e3
                have FE : Hid (∀ p q r : Value, EnvIs V.heap.size (((uw.setCell ⟨gj, 0, none⟩ p).setCell ⟨gj, 1, none⟩ q).setCell ⟨gj, 2, none⟩ r) (.agg #[.bool X.1, .slice no X.2.1.length nc, .slice np X.2.2.length nd]) X) := fun p q r => (FjB.set3 Bj p q r).mono hHeld.le
                clear FjB Fd
                replace rj : Hid _ := Ok.row' hx rj.out
                dsimp only
                refine hK.out _ _ hb (fun hHeld => ?_)
                clear hK K hb hx
                (try simp only [Act.put, List.getElem_toArray, List.getElem_cons_succ, List.getElem_cons_zero, List.setIfInBounds_toArray, List.set_cons_zero, List.set_cons_succ])
                refine wpAnyH_ready (rs := [7]) (by kernel_rfl) (by simp) ?_
                refine AllReadyH.cons rfl (fun K hK => ?_) AllReadyH.nil
                obtain ⟨k0, k1, k2, k3, k4, k5⟩ := erow3_facts rj.out
                go_simp
                refine hK.out _ _ (set3_ok hHeld lj _ _ _) (fun hHeld => ?_)
                clear hK K
                (try simp only [Act.put, List.getElem_toArray, List.getElem_cons_succ, List.getElem_cons_zero, List.setIfInBounds_toArray, List.set_cons_zero, List.set_cons_succ])
                refine wpAnyH_done (by kernel_rfl) ?_ _
                go_wp2_with fail
                go_meet
                case rel => exact ⟨gj, no, np, nc, nd, rfl, hHeld, erow_set3 rj.out _ _ _, FE.out _ _ _, lj⟩
          · go_simp
            obtain ⟨ua, hua⟩ : ∃ Y, Y = D0.alloc (.cells #[.bool false, .slice none 0 0, .slice none 0 0] 24) := ⟨_, rfl⟩
            have rj : Hid (ua.heap[D0.heap.size]? = some (.cells #[.bool false, .slice none 0 0, .slice none 0 0] 24)) := by unfold Hid; rw [hua]; exact heap_new0 _ _
            have hx : Ok D0 ua := by rw [hua]; exact (Ok.refl _).alloc _
            rw [← hua]
            obtain ⟨gj, egj⟩ : ∃ g, g = D0.heap.size := ⟨_, rfl⟩
            rw [← egj] at rj ⊢
            have lj : V.heap.size ≤ gj := by have := hHeld.le; omega
            have hcur : D0.heap.size ≤ gj := by omega
            have hb := hHeld.step hx
            refine hK.out _ _ hb (fun hHeld => ?_)
            clear hK K hua egj hb
            (try simp only [Act.put, List.getElem_toArray, List.getElem_cons_succ, List.getElem_cons_zero, List.setIfInBounds_toArray, List.set_cons_zero, List.set_cons_succ])
            clear hx hcur
            refine wpAnyH_ready (rs := [3]) (by kernel_rfl) (by simp) ?_
            refine AllReadyH.cons rfl (fun K hK => ?_) AllReadyH.nil
            · go_simp
              refine (eJoin_any E F _ _ NE.out.raw NF.out.raw _ (EV.out.ok hHeld) (FV.out.ok hHeld)).mono ?_
              rintro e1 uj ⟨r, rfl, hE, hx⟩
              rw [HJ.out] at hE
              have hb := hHeld.step hx
              have Fd0 := hE.mono (Nat.zero_le _)
              obtain ⟨jo, jc, jp, jd, e3, _, _, _, _⟩ := hE
              subst e3
              have Fd : Hid (EnvIs 0 uj (.agg #[.bool J.1, .slice jo J.2.1.length jc, .slice jp J.2.2.length jd]) J) := Fd0
              clear Fd0
              replace rj : Hid _ := Ok.row' hx rj.out
              dsimp only
              refine hK.out _ _ hb (fun hHeld => ?_)
              clear hK K hb hx
              (try simp only [Act.put, List.getElem_toArray, List.getElem_cons_succ, List.getElem_cons_zero, List.setIfInBounds_toArray, List.set_cons_zero, List.set_cons_succ])
              refine wpAnyH_ready (rs := [5]) (by kernel_rfl) (by simp) ?_
              refine AllReadyH.cons rfl (fun K hK => ?_) AllReadyH.nil
              · go_simp
                refine (eWiden_any E J _ _ (.slice ho hn hc) ts NE.out.raw NJ.out.raw _ (SInts.ok HT.out (KV.out.step hHeld)) (EV.out.ok hHeld) Fd.out).mono ?_
                rintro e1 uw ⟨r, rfl, hE, hx⟩
                rw [HXX.out] at hE
                have hb := hHeld.step hx
                have Bj := lt_row rj.out
                have FjB := hE
                obtain ⟨no, nc, np, nd, e3, _, _, _, _⟩ := hE
                subst e3
                have FE : Hid (∀ p q r : Value, EnvIs V.heap.size (((uw.setCell ⟨gj, 0, none⟩ p).setCell ⟨gj, 1, none⟩ q).setCell ⟨gj, 2, none⟩ r) (.agg #[.bool X.1, .slice no X.2.1.length nc, .slice np X.2.2.length nd]) X) := fun p q r => (FjB.set3 Bj p q r).mono hHeld.le
                clear FjB Fd
                replace rj : Hid _ := Ok.row' hx rj.out
                dsimp only
                refine hK.out _ _ hb (fun hHeld => ?_)
                clear hK K hb hx
                (try simp only [Act.put, List.getElem_toArray, List.getElem_cons_succ, List.getElem_cons_zero, List.setIfInBounds_toArray, List.set_cons_zero, List.set_cons_succ])
                refine wpAnyH_ready (rs := [7]) (by kernel_rfl) (by simp) ?_
                refine AllReadyH.cons rfl (fun K hK => ?_) AllReadyH.nil
                obtain ⟨k0, k1, k2, k3, k4, k5⟩ := erow3_facts rj.out
                go_simp
                refine hK.out _ _ (set3_ok hHeld lj _ _ _) (fun hHeld => ?_)
                clear hK K
                (try simp only [Act.put, List.getElem_toArray, List.getElem_cons_succ, List.getElem_cons_zero, List.setIfInBounds_toArray, List.set_cons_zero, List.set_cons_succ])
                refine wpAnyH_done (by kernel_rfl) ?_ _
                go_wp2_with fail
                go_meet
                case rel => exact ⟨gj, no, np, nc, nd, rfl, hHeld, erow_set3 rj.out _ _ _, FE.out _ _ _, lj⟩
        case rest =>
          obtain ⟨gn, no, np, nc, nd, e11, hO, rn0, EX0, lgn⟩ := hcut.out
          subst e11
          clear hcut
          obtain ⟨U, ew⟩ : ∃ t, t = wc := ⟨_, rfl⟩
          rw [← ew] at hO rn0 EX0 ⊢
          clear ew
          have rn : Hid (U.heap[gn]? = some (.cells #[.bool X.1, .slice no X.2.1.length nc, .slice np X.2.2.length nd] 24)) := rn0
          have EXU : Hid (EnvIs V.heap.size U (.agg #[.bool X.1, .slice no X.2.1.length nc, .slice np X.2.2.length nd]) X) := EX0
          have rxU : Hid (U.heap[gx]? = some (.cells #[.bool E.1, .slice po E.2.1.length pc, .slice pp E.2.2.length pd] 24)) := Ok.row' hO rxV.out
          have EU : Hid (EnvIs 0 U (.agg #[.bool E.1, .slice po E.2.1.length pc, .slice pp E.2.2.length pd]) E) := EV.out.ok hO
          have KU : Hid (Ok w U) := KV.out.step hO
          have lxg : gx < V.heap.size := lt_row rxV.out
          have ngn : ¬ gx = gn := by omega
          have mgn : ¬ gn = gx := by omega
          clear hO rn0 EX0 rxV EV FV KV rf
          obtain ⟨a0, a1, a2, a3, a4, a5⟩ := erow3_facts rxU.out
          obtain ⟨b0, b1, b2, b3, b4, b5⟩ := erow3_facts rn.out
          go_wp2_with fail
          clear a0 a1 a2 a3 a4 a5
          clear b0 b1 b2 b3 b4 b5
          refine (eLeq_at E X _ _ NE.out.raw NXX.out.raw U _ (Ok.refl _) EU.out EXU.out).mono ?_
          rintro e u1 ⟨rfl, h1⟩
          rw [normE_id NE.out, normE_id NXX.out, ST.out.1]
          obtain ⟨a0, a1, a2, a3, a4, a5⟩ := erow3_facts (Ok.row' h1 rxU.out)
          obtain ⟨b0, b1, b2, b3, b4, b5⟩ := erow3_facts (Ok.row' h1 rn.out)
          go_wp2_with fail
          clear a0 a1 a2 a3 a4 a5
          clear b0 b1 b2 b3 b4 b5
          refine (eSame_at E X _ _ NE.out.raw NXX.out.raw U _ h1 EU.out EXU.out).mono ?_
          rintro e u2 ⟨rfl, h2⟩
          rw [normE_id NE.out, normE_id NXX.out]
          obtain ⟨bs, hbs⟩ : ∃ b, b = same0 E X := ⟨_, rfl⟩
          have ST2 : Hid (ChI ts X (max N (X.2.1.length + X.2.2.length)) (if bs = true then ch else ch + 1)) := by unfold Hid; rw [hbs]; exact ST.out.2
          rw [← hbs]
          clear hbs ST
          have rx2 : Hid _ := Ok.row' h2 rxU.out
          have rn2 : Hid _ := Ok.row' h2 rn.out
          have EX2 : Hid (EnvIs V.heap.size u2 (.agg #[.bool X.1, .slice no X.2.1.length nc, .slice np X.2.2.length nd]) X) := EXU.out.ok h2
          have KU2 : Hid (Ok w u2) := KU.out.step h2
          clear h1 h2
          obtain ⟨Z2, hZ2⟩ : ∃ Z, Z = ((u2.setCell ⟨gx, 0, none⟩ (.bool X.1)).setCell ⟨gx, 1, none⟩ (.slice no X.2.1.length nc)).setCell ⟨gx, 2, none⟩ (.slice np X.2.2.length nd) := ⟨_, rfl⟩
          have rZ : Hid (Z2.heap[gx]? = some (.cells #[.bool X.1, .slice no X.2.1.length nc, .slice np X.2.2.length nd] 24)) := by unfold Hid; rw [hZ2]; exact erow_set3 rx2.out _ _ _
          have KZ : Hid (Ok w Z2) := by unfold Hid; rw [hZ2]; exact set3_ok KU2.out lgx _ _ _
          have EZ2 : Hid (EnvIs 0 Z2 (.agg #[.bool X.1, .slice no X.2.1.length nc, .slice np X.2.2.length nd]) X) := by unfold Hid; rw [hZ2]; exact (EX2.out.set3 lxg _ _ _).mono (Nat.zero_le _)
          obtain ⟨a0, a1, a2, a3, a4, a5⟩ := erow3_facts rx2.out
          obtain ⟨b0, b1, b2, b3, b4, b5⟩ := erow3_facts rn2.out
          obtain ⟨mx, hmx⟩ : ∃ t, t = max N (X.2.1.length + X.2.2.length) := ⟨_, rfl⟩
          have hmx2 : mx ≤ 1048576 := by rw [hmx]; omega
          cases bs
          · have ST3 : Hid (ChI ts X (max N (X.2.1.length + X.2.2.length)) (ch + 1)) := ST2.out
            clear ST2
            go_wp2_with fail
            rw [← hZ2]
            go_roundw
            case rel => exact ⟨k + 1, ch + 1, mx, X, no, np, nc, nd, by omega, by simp, (by first | rfl | simp), (by rw [hmx]; first | rfl | (simp; done) | (simp; omega)), by omega, hmx2, XL, ⟨by rw [hmx]; exact ST3.out, NXX.out⟩, rZ.out, EZ2.out, KZ.out⟩
            case measure => simp [intOf]; omega
          · have ST3 : Hid (ChI ts X (max N (X.2.1.length + X.2.2.length)) ch) := ST2.out
            clear ST2
            go_wp2_with fail
            rw [← hZ2]
            go_roundw
            case rel => exact ⟨k + 1, ch, mx, X, no, np, nc, nd, by omega, by simp, (by first | rfl | simp), (by rw [hmx]; first | rfl | (simp; done) | (simp; omega)), by omega, hmx2, XL, ⟨by rw [hmx]; exact ST3.out, NXX.out⟩, rZ.out, EZ2.out, KZ.out⟩
            case measure => simp [intOf]; omega
      · rw [h0] at a0
        go_wp2_with fail
        rw [← hV]
        rw [← egf] at rf ⊢
        clear a0 a1 a2 a3 a4 a5 la na ma
        clear hV egf
        obtain ⟨L, hL⟩ : ∃ L, shp0 E F = L := ⟨_, rfl⟩
        have HL : Hid (shp0 E F = L) := hL
        clear hL
        have EVf : Hid (EnvIs 0 V (.agg #[.bool false, .slice po E.2.1.length pc, .slice pp E.2.2.length pd]) E) := by have z := EV.out; rw [h0] at z; exact z
        refine (eshaped_any E F _ _ V _ (Ok.refl _) EVf.out FV.out).mono ?_
        rintro e v1 ⟨rfl, hb⟩
        rw [HL.out]
        cases L
        · have KV1 : Hid (Ok w v1) := KV.out.step hb
          have rx1 : Hid _ := Ok.row' hb rxV.out
          have EV1 : Hid (EnvIs 0 v1 (.agg #[.bool E.1, .slice po E.2.1.length pc, .slice pp E.2.2.length pd]) E) := EV.out.ok hb
          clear hb
          go_wp2_with fail
          go_roundw
          case rel => exact ⟨k + 1, ch, N, E, po, pp, pc, pd, by omega, by simp, rfl, rfl, by omega, hN, hEl, ⟨CE.out, NE.out⟩, rx1.out, EV1.out, KV1.out⟩
          case measure => simp [intOf]; omega
        · have HSH : Hid (E.1 = true ∨ shp0 E F = true) := Or.inr HL.out
          replace rxV : Hid _ := Ok.row' hb rxV.out
          replace rf : Hid _ := Ok.row' hb rf.out
          replace EV : Hid (EnvIs 0 v1 (.agg #[.bool E.1, .slice po E.2.1.length pc, .slice pp E.2.2.length pd]) E) := EV.out.ok hb
          replace FV : Hid (EnvIs 0 v1 (.agg #[.bool F.1, .slice fo F.2.1.length fc, .slice fp F.2.2.length fd]) F) := FV.out.ok hb
          replace KV : Hid (Ok w v1) := KV.out.step hb
          clear hb h0 HL EVf
          obtain ⟨V2, eV2⟩ : ∃ t, t = v1 := ⟨_, rfl⟩
          rw [← eV2] at rxV rf EV FV KV ⊢
          clear eV2
          go_wp2_with fail
          obtain ⟨X, hX⟩ : ∃ X, X = tog0 (fun a b => widenN a b ts) E (tog0 joinN E F) := ⟨_, rfl⟩
          obtain ⟨J, hJ⟩ : ∃ J, tog0 joinN (normE E) (normE F) = J := ⟨_, rfl⟩
          have HJ : Hid (tog0 joinN (normE E) (normE F) = J) := hJ
          have NJ : Hid (NorE J) := by unfold Hid; rw [← hJ]; exact tog_nor join_ok (normE_nor NE.out.raw) (normE_nor NF.out.raw)
          have HXX : Hid (tog0 (fun a b => widenN a b ts) (normE E) (normE J) = X) := by unfold Hid; rw [hX, normE_id NE.out, normE_id NJ.out, ← hJ, normE_id NE.out, normE_id NF.out]
          have NXX : Hid (NorE X) := by unfold Hid; rw [← HXX.out]; exact tog_nor (wid_ok ts) (normE_nor NE.out.raw) (normE_nor NJ.out.raw)
          have ST : Hid (leq0 E X = true ∧ ChI ts X (max N (X.2.1.length + X.2.2.length)) (if same0 E X = true then ch else ch + 1)) := ChI.step NE.out NF.out CE.out HSH.out hX
          have XL : X.2.1.length + X.2.2.length ≤ 1048576 := by rcases chain_len NE.out NF.out HSH.out hX with k | k; (· show lenE X ≤ _; rw [k]; exact hEl); (· show lenE X ≤ _; rw [k]; exact LF.out)
          clear hX hJ CE HSH
          go_cut [11] from 41 to 46 (fun s11 u => Hid (∃ (gn : Nat) (no np : Option Addr) (nc nd : Nat), s11 = .pointer (some ⟨gn, 0, none⟩) ∧ Ok V2 u ∧ u.heap[gn]? = some (.cells #[.bool X.1, .slice no X.2.1.length nc, .slice np X.2.2.length nd] 24 (0, 0)) ∧ EnvIs V2.heap.size u (.agg #[.bool X.1, .slice no X.2.1.length nc, .slice np X.2.2.length nd]) X ∧ V2.heap.size ≤ gn))
          case first =>
            refine wp_region_held_drew (S := fun w' => Ok V2 w') (by kernel_rfl) (Below.drew (Ok.refl _)) (fun hHeld => ?_)
            obtain ⟨D0, hD0⟩ : ∃ D, D = V2.drew := ⟨_, rfl⟩
            rw [← hD0] at hHeld ⊢
            clear hD0
            refine wpAnyH_take (i := 0) (v := .agg #[.bool E.1, .slice po E.2.1.length pc, .slice pp E.2.2.length pd]) rfl (by kernel_rfl) (by kernel_rfl) (by kernel_rfl) (fun _ _ _ h => h) (Or.inl ⟨by rfl, ?_⟩) hHeld ?_
            · intro w hSw; (try dsimp only at hSw); obtain ⟨c0, c1, c2, -⟩ := erow3_facts (Ok.row' hSw rxV.out); (go_simp; try with_reducible rfl)
            (try simp only [Act.put, List.getElem_toArray, List.getElem_cons_succ, List.getElem_cons_zero, List.setIfInBounds_toArray, List.set_cons_zero, List.set_cons_succ])
            refine wpAnyH_take (i := 1) (v := .agg #[.bool E.1, .slice po E.2.1.length pc, .slice pp E.2.2.length pd]) rfl (by kernel_rfl) (by kernel_rfl) (by kernel_rfl) (fun _ _ _ h => h) (Or.inl ⟨by rfl, ?_⟩) hHeld ?_
            · intro w hSw; (try dsimp only at hSw); obtain ⟨c0, c1, c2, -⟩ := erow3_facts (Ok.row' hSw rxV.out); (go_simp; try with_reducible rfl)
            (try simp only [Act.put, List.getElem_toArray, List.getElem_cons_succ, List.getElem_cons_zero, List.setIfInBounds_toArray, List.set_cons_zero, List.set_cons_succ])
            refine wpAnyH_take (i := 2) (v := .agg #[.bool F.1, .slice fo F.2.1.length fc, .slice fp F.2.2.length fd]) rfl (by kernel_rfl) (by kernel_rfl) (by kernel_rfl) (fun _ _ _ h => h) (Or.inl ⟨by rfl, ?_⟩) hHeld ?_
            · intro w hSw; (try dsimp only at hSw); obtain ⟨c0, c1, c2, -⟩ := erow3_facts (Ok.row' hSw rf.out); (go_simp; try with_reducible rfl)
            (try simp only [Act.put, List.getElem_toArray, List.getElem_cons_succ, List.getElem_cons_zero, List.setIfInBounds_toArray, List.set_cons_zero, List.set_cons_succ])
            refine wpAnyH_take (i := 4) (v := .slice ho hn hc) rfl (by kernel_rfl) (by kernel_rfl) (by kernel_rfl) (fun _ _ _ h => h) (Or.inl ⟨by rfl, ?_⟩) hHeld ?_
            · intro w hSw; (try dsimp only at hSw); (go_simp; try with_reducible rfl)
            (try simp only [Act.put, List.getElem_toArray, List.getElem_cons_succ, List.getElem_cons_zero, List.setIfInBounds_toArray, List.set_cons_zero, List.set_cons_succ])
            refine wpAnyH_ready (rs := [3, 6]) (by kernel_rfl) (by simp) ?_
            refine AllReadyH.cons rfl (fun K hK => ?_) (AllReadyH.cons rfl (fun K hK => ?_) AllReadyH.nil)
            · go_simp
              refine (eJoin_any E F _ _ NE.out.raw NF.out.raw _ (EV.out.ok hHeld) (FV.out.ok hHeld)).mono ?_
              rintro e1 uj ⟨r, rfl, hE, hx⟩
              rw [HJ.out] at hE
              have hb := hHeld.step hx
              have Fd0 := hE.mono (Nat.zero_le _)
              obtain ⟨jo, jc, jp, jd, e3, _, _, _, _⟩ := hE
              subst e3
              have Fd : Hid (EnvIs 0 uj (.agg #[.bool J.1, .slice jo J.2.1.length jc, .slice jp J.2.2.length jd]) J) := Fd0
              clear Fd0
              dsimp only
              refine hK.out _ _ hb (fun hHeld => ?_)
              clear hK K hb hx
              (try simp only [Act.put, List.getElem_toArray, List.getElem_cons_succ, List.getElem_cons_zero, List.setIfInBounds_toArray, List.set_cons_zero, List.set_cons_succ])
              refine wpAnyH_ready (rs := [5, 6]) (by kernel_rfl) (by simp) ?_
              refine AllReadyH.cons rfl (fun K hK => ?_) (AllReadyH.cons rfl (fun K hK => ?_) AllReadyH.nil)
              · go_simp
                refine (eWiden_any E J _ _ (.slice ho hn hc) ts NE.out.raw NJ.out.raw _ (SInts.ok HT.out (KV.out.step hHeld)) (EV.out.ok hHeld) Fd.out).mono ?_
                rintro e1 uw ⟨r, rfl, hE, hx⟩
                rw [HXX.out] at hE
                have hb := hHeld.step hx
                have FjB := hE
                obtain ⟨no, nc, np, nd, e3, _, _, _, _⟩ := hE
                subst e3
                have Fj : Hid (EnvIs V2.heap.size uw (.agg #[.bool X.1, .slice no X.2.1.length nc, .slice np X.2.2.length nd]) X) := FjB.mono hHeld.le
                clear FjB Fd
                dsimp only
                refine hK.out _ _ hb (fun hHeld => ?_)
                clear hK K hb hx
                (try simp only [Act.put, List.getElem_toArray, List.getElem_cons_succ, List.getElem_cons_zero, List.setIfInBounds_toArray, List.set_cons_zero, List.set_cons_succ])
                refine wpAnyH_ready (rs := [6]) (by kernel_rfl) (by simp) ?_
                refine AllReadyH.cons rfl (fun K hK => ?_) AllReadyH.nil
                · go_simp
                  obtain ⟨ua, hua⟩ : ∃ Y, Y = uw.alloc (.cells #[.bool false, .slice none 0 0, .slice none 0 0] 24) := ⟨_, rfl⟩
                  have rj : Hid (ua.heap[uw.heap.size]? = some (.cells #[.bool false, .slice none 0 0, .slice none 0 0] 24)) := by unfold Hid; rw [hua]; exact heap_new0 _ _
                  have hx : Ok uw ua := by rw [hua]; exact (Ok.refl _).alloc _
                  rw [← hua]
                  obtain ⟨gj, egj⟩ : ∃ g, g = uw.heap.size := ⟨_, rfl⟩
                  rw [← egj] at rj ⊢
                  have lj : V2.heap.size ≤ gj := by have := hHeld.le; omega
                  have hcur : uw.heap.size ≤ gj := by omega
                  have hb := hHeld.step hx
                  refine hK.out _ _ hb (fun hHeld => ?_)
                  clear hK K hua egj hb
                  (try simp only [Act.put, List.getElem_toArray, List.getElem_cons_succ, List.getElem_cons_zero, List.setIfInBounds_toArray, List.set_cons_zero, List.set_cons_succ])
                  have FE : Hid (∀ p q r : Value, EnvIs V2.heap.size (((ua.setCell ⟨gj, 0, none⟩ p).setCell ⟨gj, 1, none⟩ q).setCell ⟨gj, 2, none⟩ r) (.agg #[.bool X.1, .slice no X.2.1.length nc, .slice np X.2.2.length nd]) X) := fun p q r => Fj.out.ok (set3_ok hx hcur p q r)
                  clear hx hcur
                  refine wpAnyH_ready (rs := [7]) (by kernel_rfl) (by simp) ?_
                  refine AllReadyH.cons rfl (fun K hK => ?_) AllReadyH.nil
                  obtain ⟨k0, k1, k2, k3, k4, k5⟩ := erow3_facts rj.out
                  go_simp
                  refine hK.out _ _ (set3_ok hHeld lj _ _ _) (fun hHeld => ?_)
                  clear hK K
                  (try simp only [Act.put, List.getElem_toArray, List.getElem_cons_succ, List.getElem_cons_zero, List.setIfInBounds_toArray, List.set_cons_zero, List.set_cons_succ])
                  refine wpAnyH_done (by kernel_rfl) ?_ _
                  go_wp2_with fail
                  go_meet
                  case rel => exact ⟨gj, no, np, nc, nd, rfl, hHeld, erow_set3 rj.out _ _ _, FE.out _ _ _, lj⟩
              · go_simp
                obtain ⟨ua, hua⟩ : ∃ Y, Y = uj.alloc (.cells #[.bool false, .slice none 0 0, .slice none 0 0] 24) := ⟨_, rfl⟩
                have rj : Hid (ua.heap[uj.heap.size]? = some (.cells #[.bool false, .slice none 0 0, .slice none 0 0] 24)) := by unfold Hid; rw [hua]; exact heap_new0 _ _
                have hx : Ok uj ua := by rw [hua]; exact (Ok.refl _).alloc _
                rw [← hua]
                obtain ⟨gj, egj⟩ : ∃ g, g = uj.heap.size := ⟨_, rfl⟩
                rw [← egj] at rj ⊢
                have lj : V2.heap.size ≤ gj := by have := hHeld.le; omega
                have hcur : uj.heap.size ≤ gj := by omega
                have hb := hHeld.step hx
                refine hK.out _ _ hb (fun hHeld => ?_)
                clear hK K hua egj hb
                (try simp only [Act.put, List.getElem_toArray, List.getElem_cons_succ, List.getElem_cons_zero, List.setIfInBounds_toArray, List.set_cons_zero, List.set_cons_succ])
                replace Fd : Hid (EnvIs 0 ua (.agg #[.bool J.1, .slice jo J.2.1.length jc, .slice jp J.2.2.length jd]) J) := Fd.out.ok hx
                clear hx hcur
                refine wpAnyH_ready (rs := [5]) (by kernel_rfl) (by simp) ?_
                refine AllReadyH.cons rfl (fun K hK => ?_) AllReadyH.nil
                · go_simp
                  refine (eWiden_any E J _ _ (.slice ho hn hc) ts NE.out.raw NJ.out.raw _ (SInts.ok HT.out (KV.out.step hHeld)) (EV.out.ok hHeld) Fd.out).mono ?_
                  rintro e1 uw ⟨r, rfl, hE, hx⟩
                  rw [HXX.out] at hE
                  have hb := hHeld.step hx
                  have Bj := lt_row rj.out
                  have FjB := hE
                  obtain ⟨no, nc, np, nd, e3, _, _, _, _⟩ := hE
                  subst e3
                  have FE : Hid (∀ p q r : Value, EnvIs V2.heap.size (((uw.setCell ⟨gj, 0, none⟩ p).setCell ⟨gj, 1, none⟩ q).setCell ⟨gj, 2, none⟩ r) (.agg #[.bool X.1, .slice no X.2.1.length nc, .slice np X.2.2.length nd]) X) := fun p q r => (FjB.set3 Bj p q r).mono hHeld.le
                  clear FjB Fd
                  replace rj : Hid _ := Ok.row' hx rj.out
                  dsimp only
                  refine hK.out _ _ hb (fun hHeld => ?_)
                  clear hK K hb hx
                  (try simp only [Act.put, List.getElem_toArray, List.getElem_cons_succ, List.getElem_cons_zero, List.setIfInBounds_toArray, List.set_cons_zero, List.set_cons_succ])
                  refine wpAnyH_ready (rs := [7]) (by kernel_rfl) (by simp) ?_
                  refine AllReadyH.cons rfl (fun K hK => ?_) AllReadyH.nil
                  obtain ⟨k0, k1, k2, k3, k4, k5⟩ := erow3_facts rj.out
                  go_simp
                  refine hK.out _ _ (set3_ok hHeld lj _ _ _) (fun hHeld => ?_)
                  clear hK K
                  (try simp only [Act.put, List.getElem_toArray, List.getElem_cons_succ, List.getElem_cons_zero, List.setIfInBounds_toArray, List.set_cons_zero, List.set_cons_succ])
                  refine wpAnyH_done (by kernel_rfl) ?_ _
                  go_wp2_with fail
                  go_meet
                  case rel => exact ⟨gj, no, np, nc, nd, rfl, hHeld, erow_set3 rj.out _ _ _, FE.out _ _ _, lj⟩
            · go_simp
              obtain ⟨ua, hua⟩ : ∃ Y, Y = D0.alloc (.cells #[.bool false, .slice none 0 0, .slice none 0 0] 24) := ⟨_, rfl⟩
              have rj : Hid (ua.heap[D0.heap.size]? = some (.cells #[.bool false, .slice none 0 0, .slice none 0 0] 24)) := by unfold Hid; rw [hua]; exact heap_new0 _ _
              have hx : Ok D0 ua := by rw [hua]; exact (Ok.refl _).alloc _
              rw [← hua]
              obtain ⟨gj, egj⟩ : ∃ g, g = D0.heap.size := ⟨_, rfl⟩
              rw [← egj] at rj ⊢
              have lj : V2.heap.size ≤ gj := by have := hHeld.le; omega
              have hcur : D0.heap.size ≤ gj := by omega
              have hb := hHeld.step hx
              refine hK.out _ _ hb (fun hHeld => ?_)
              clear hK K hua egj hb
              (try simp only [Act.put, List.getElem_toArray, List.getElem_cons_succ, List.getElem_cons_zero, List.setIfInBounds_toArray, List.set_cons_zero, List.set_cons_succ])
              clear hx hcur
              refine wpAnyH_ready (rs := [3]) (by kernel_rfl) (by simp) ?_
              refine AllReadyH.cons rfl (fun K hK => ?_) AllReadyH.nil
              · go_simp
                refine (eJoin_any E F _ _ NE.out.raw NF.out.raw _ (EV.out.ok hHeld) (FV.out.ok hHeld)).mono ?_
                rintro e1 uj ⟨r, rfl, hE, hx⟩
                rw [HJ.out] at hE
                have hb := hHeld.step hx
                have Fd0 := hE.mono (Nat.zero_le _)
                obtain ⟨jo, jc, jp, jd, e3, _, _, _, _⟩ := hE
                subst e3
                have Fd : Hid (EnvIs 0 uj (.agg #[.bool J.1, .slice jo J.2.1.length jc, .slice jp J.2.2.length jd]) J) := Fd0
                clear Fd0
                replace rj : Hid _ := Ok.row' hx rj.out
                dsimp only
                refine hK.out _ _ hb (fun hHeld => ?_)
                clear hK K hb hx
                (try simp only [Act.put, List.getElem_toArray, List.getElem_cons_succ, List.getElem_cons_zero, List.setIfInBounds_toArray, List.set_cons_zero, List.set_cons_succ])
                refine wpAnyH_ready (rs := [5]) (by kernel_rfl) (by simp) ?_
                refine AllReadyH.cons rfl (fun K hK => ?_) AllReadyH.nil
                · go_simp
                  refine (eWiden_any E J _ _ (.slice ho hn hc) ts NE.out.raw NJ.out.raw _ (SInts.ok HT.out (KV.out.step hHeld)) (EV.out.ok hHeld) Fd.out).mono ?_
                  rintro e1 uw ⟨r, rfl, hE, hx⟩
                  rw [HXX.out] at hE
                  have hb := hHeld.step hx
                  have Bj := lt_row rj.out
                  have FjB := hE
                  obtain ⟨no, nc, np, nd, e3, _, _, _, _⟩ := hE
                  subst e3
                  have FE : Hid (∀ p q r : Value, EnvIs V2.heap.size (((uw.setCell ⟨gj, 0, none⟩ p).setCell ⟨gj, 1, none⟩ q).setCell ⟨gj, 2, none⟩ r) (.agg #[.bool X.1, .slice no X.2.1.length nc, .slice np X.2.2.length nd]) X) := fun p q r => (FjB.set3 Bj p q r).mono hHeld.le
                  clear FjB Fd
                  replace rj : Hid _ := Ok.row' hx rj.out
                  dsimp only
                  refine hK.out _ _ hb (fun hHeld => ?_)
                  clear hK K hb hx
                  (try simp only [Act.put, List.getElem_toArray, List.getElem_cons_succ, List.getElem_cons_zero, List.setIfInBounds_toArray, List.set_cons_zero, List.set_cons_succ])
                  refine wpAnyH_ready (rs := [7]) (by kernel_rfl) (by simp) ?_
                  refine AllReadyH.cons rfl (fun K hK => ?_) AllReadyH.nil
                  obtain ⟨k0, k1, k2, k3, k4, k5⟩ := erow3_facts rj.out
                  go_simp
                  refine hK.out _ _ (set3_ok hHeld lj _ _ _) (fun hHeld => ?_)
                  clear hK K
                  (try simp only [Act.put, List.getElem_toArray, List.getElem_cons_succ, List.getElem_cons_zero, List.setIfInBounds_toArray, List.set_cons_zero, List.set_cons_succ])
                  refine wpAnyH_done (by kernel_rfl) ?_ _
                  go_wp2_with fail
                  go_meet
                  case rel => exact ⟨gj, no, np, nc, nd, rfl, hHeld, erow_set3 rj.out _ _ _, FE.out _ _ _, lj⟩
          case rest =>
            obtain ⟨gn, no, np, nc, nd, e11, hO, rn0, EX0, lgn⟩ := hcut.out
            subst e11
            clear hcut
            obtain ⟨U, ew⟩ : ∃ t, t = wc := ⟨_, rfl⟩
            rw [← ew] at hO rn0 EX0 ⊢
            clear ew
            have rn : Hid (U.heap[gn]? = some (.cells #[.bool X.1, .slice no X.2.1.length nc, .slice np X.2.2.length nd] 24)) := rn0
            have EXU : Hid (EnvIs V2.heap.size U (.agg #[.bool X.1, .slice no X.2.1.length nc, .slice np X.2.2.length nd]) X) := EX0
            have rxU : Hid (U.heap[gx]? = some (.cells #[.bool E.1, .slice po E.2.1.length pc, .slice pp E.2.2.length pd] 24)) := Ok.row' hO rxV.out
            have EU : Hid (EnvIs 0 U (.agg #[.bool E.1, .slice po E.2.1.length pc, .slice pp E.2.2.length pd]) E) := EV.out.ok hO
            have KU : Hid (Ok w U) := KV.out.step hO
            have lxg : gx < V2.heap.size := lt_row rxV.out
            have ngn : ¬ gx = gn := by omega
            have mgn : ¬ gn = gx := by omega
            clear hO rn0 EX0 rxV EV FV KV rf
            obtain ⟨a0, a1, a2, a3, a4, a5⟩ := erow3_facts rxU.out
            obtain ⟨b0, b1, b2, b3, b4, b5⟩ := erow3_facts rn.out
            go_wp2_with fail
            clear a0 a1 a2 a3 a4 a5
            clear b0 b1 b2 b3 b4 b5
            refine (eLeq_at E X _ _ NE.out.raw NXX.out.raw U _ (Ok.refl _) EU.out EXU.out).mono ?_
            rintro e u1 ⟨rfl, h1⟩
            rw [normE_id NE.out, normE_id NXX.out, ST.out.1]
            obtain ⟨a0, a1, a2, a3, a4, a5⟩ := erow3_facts (Ok.row' h1 rxU.out)
            obtain ⟨b0, b1, b2, b3, b4, b5⟩ := erow3_facts (Ok.row' h1 rn.out)
            go_wp2_with fail
            clear a0 a1 a2 a3 a4 a5
            clear b0 b1 b2 b3 b4 b5
            refine (eSame_at E X _ _ NE.out.raw NXX.out.raw U _ h1 EU.out EXU.out).mono ?_
            rintro e u2 ⟨rfl, h2⟩
            rw [normE_id NE.out, normE_id NXX.out]
            obtain ⟨bs, hbs⟩ : ∃ b, b = same0 E X := ⟨_, rfl⟩
            have ST2 : Hid (ChI ts X (max N (X.2.1.length + X.2.2.length)) (if bs = true then ch else ch + 1)) := by unfold Hid; rw [hbs]; exact ST.out.2
            rw [← hbs]
            clear hbs ST
            have rx2 : Hid _ := Ok.row' h2 rxU.out
            have rn2 : Hid _ := Ok.row' h2 rn.out
            have EX2 : Hid (EnvIs V2.heap.size u2 (.agg #[.bool X.1, .slice no X.2.1.length nc, .slice np X.2.2.length nd]) X) := EXU.out.ok h2
            have KU2 : Hid (Ok w u2) := KU.out.step h2
            clear h1 h2
            obtain ⟨Z2, hZ2⟩ : ∃ Z, Z = ((u2.setCell ⟨gx, 0, none⟩ (.bool X.1)).setCell ⟨gx, 1, none⟩ (.slice no X.2.1.length nc)).setCell ⟨gx, 2, none⟩ (.slice np X.2.2.length nd) := ⟨_, rfl⟩
            have rZ : Hid (Z2.heap[gx]? = some (.cells #[.bool X.1, .slice no X.2.1.length nc, .slice np X.2.2.length nd] 24)) := by unfold Hid; rw [hZ2]; exact erow_set3 rx2.out _ _ _
            have KZ : Hid (Ok w Z2) := by unfold Hid; rw [hZ2]; exact set3_ok KU2.out lgx _ _ _
            have EZ2 : Hid (EnvIs 0 Z2 (.agg #[.bool X.1, .slice no X.2.1.length nc, .slice np X.2.2.length nd]) X) := by unfold Hid; rw [hZ2]; exact (EX2.out.set3 lxg _ _ _).mono (Nat.zero_le _)
            obtain ⟨a0, a1, a2, a3, a4, a5⟩ := erow3_facts rx2.out
            obtain ⟨b0, b1, b2, b3, b4, b5⟩ := erow3_facts rn2.out
            obtain ⟨mx, hmx⟩ : ∃ t, t = max N (X.2.1.length + X.2.2.length) := ⟨_, rfl⟩
            have hmx2 : mx ≤ 1048576 := by rw [hmx]; omega
            cases bs
            · have ST3 : Hid (ChI ts X (max N (X.2.1.length + X.2.2.length)) (ch + 1)) := ST2.out
              clear ST2
              go_wp2_with fail
              rw [← hZ2]
              go_roundw
              case rel => exact ⟨k + 1, ch + 1, mx, X, no, np, nc, nd, by omega, by simp, (by first | rfl | simp), (by rw [hmx]; first | rfl | (simp; done) | (simp; omega)), by omega, hmx2, XL, ⟨by rw [hmx]; exact ST3.out, NXX.out⟩, rZ.out, EZ2.out, KZ.out⟩
              case measure => simp [intOf]; omega
            · have ST3 : Hid (ChI ts X (max N (X.2.1.length + X.2.2.length)) ch) := ST2.out
              clear ST2
              go_wp2_with fail
              rw [← hZ2]
              go_roundw
              case rel => exact ⟨k + 1, ch, mx, X, no, np, nc, nd, by omega, by simp, (by first | rfl | simp), (by rw [hmx]; first | rfl | (simp; done) | (simp; omega)), by omega, hmx2, XL, ⟨by rw [hmx]; exact ST3.out, NXX.out⟩, rZ.out, EZ2.out, KZ.out⟩
              case measure => simp [intOf]; omega
    · have k3e : k = m := by omega
      subst k3e
      obtain ⟨P, hP⟩ : ∃ P, P = N * (2 * (hn + 3) + 1) := ⟨_, rfl⟩
      have PI : (N : Int) * (2 * ((hn : Int) + 3) + 1) = (P : Int) := by rw [hP, Int.natCast_mul]; congr 1
      have NP : P ≤ 1048576 * 2097159 := by rw [hP]; exact Nat.mul_le_mul hN (by omega)
      have EN := ChI.end' HI.out.1
      rw [← HTN.out, ← hP] at EN
      have hle : (ch : Int) ≤ (N : Int) * (2 * ((hn : Int) + 3) + 1) + 1 := by rw [PI]; omega
      have NI : (N : Int) * (2 * ((hn : Int) + 3) + 1) ≤ 2199030595584 := by rw [PI]; omega
      have NI0 : (0 : Int) ≤ (N : Int) * (2 * ((hn : Int) + 3) + 1) := by rw [PI]; omega
      clear PI hP NP EN
      go_wp2_with fail
      refine (eawake_any wr _ (Ok.refl _)).mono ?_
      rintro e w9 ⟨rfl, hb⟩
      go_wp2_with fail
      go_ret
      exact ⟨rfl, HK.out.step hb⟩
end Go.Proofs.Ytbkblijoimmdeaa
