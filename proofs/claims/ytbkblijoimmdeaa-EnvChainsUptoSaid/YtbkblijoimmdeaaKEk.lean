import Derived.Deep.Cut
import Derived.Deep.CutRange
import Derived.Test.YtbkblijoimmdeaaKEi
set_option linter.unusedVariables false
set_option linter.unusedSimpArgs false
set_option linter.unnecessarySimpa false
/- Ek -/
namespace Go.Proofs.Ytbkblijoimmdeaa
open Go.RowKit
theorem lit_in {v : Int} (h1 : 0 ≤ v) (h2 : v ≤ 9) : In64 v := by unfold In64; omega
theorem const_liv {v : Int} (h : In64 v) : Liv (constN v) := ⟨const_raw h, const_norm h, rfl⟩
def r05 : NT := makeN 0 5 1 0
theorem memC_one (v : Int) : MemC 1 0 v := by unfold MemC; simp
theorem r05_mem {v : Int} (hv : In64 v) : MemN r05 v ↔ 0 ≤ v ∧ v ≤ 5 := by
  unfold r05
  rw [make_mem (lit_in (by omega) (by omega)) (lit_in (by omega) (by omega)) hv]
  exact ⟨fun h => ⟨h.1, h.2.1⟩, fun h => ⟨h.1, h.2, memC_one v⟩⟩
theorem r05_liv : Liv r05 := by
  refine ⟨make_raw (lit_in (by omega) (by omega)) (lit_in (by omega) (by omega)) (by unfold U64; omega) (by unfold U64; omega), make_norm (lit_in (by omega) (by omega)) (lit_in (by omega) (by omega)), ?_⟩
  exact ((r05_mem (v := 0) (lit_in (by omega) (by omega))).2 (by omega)).1
def ofE (a : NT) : ET := (false, [a], [])
theorem ofE_raw {a : NT} (h : RawN a) : RawE (ofE a) := ⟨fun x hx => by rw [List.mem_singleton.1 hx]; exact h, fun x hx => (List.not_mem_nil hx).elim⟩
theorem ofE_norm {a : NT} (h : Liv a) : normE (ofE a) = ofE a := normE_liv (fun x hx => by rw [List.mem_singleton.1 hx]; exact h) (fun x hx => (List.not_mem_nil hx).elim)
theorem ofE_leq {a b : NT} (ha : Liv a) (hb : Liv b) : leq0 (normE (ofE a)) (normE (ofE b)) = lqN a b := by
  rw [ofE_norm ha, ofE_norm hb]
  simp [leq0, ofE, eqF]
theorem ofE_join {a b : NT} (ha : Liv a) (hb : Liv b) : tog0 joinN (normE (ofE a)) (normE (ofE b)) = ofE (joinN a b) := by
  rw [ofE_norm ha, ofE_norm hb]
  have h1 : ∀ {c : NT}, Liv c → ∀ x ∈ [c], Liv x := fun hc x hx => by rw [List.mem_singleton.1 hx]; exact hc
  have h2 : ∀ x ∈ ([] : List NT), Liv x := fun x hx => (List.not_mem_nil hx).elim
  exact tog_al (fun a b ha hb => join_liv ha hb) (h1 ha) h2 (h1 hb) h2 rfl rfl
theorem ofE_meet {a b : NT} (ha : Liv a) (hb : Liv b) : (meet0 (normE (ofE a)) (normE (ofE b))).1 = (meetN a b).2.2.2.2 := by
  rw [ofE_norm ha, ofE_norm hb]
  have e : meet0 (ofE a) (ofE b) = madE [meetN a b] [] := by simp [meet0, ofE, pairE]
  rw [e]
  unfold madE
  cases h : (meetN a b).2.2.2.2 <;> simp [h, dedE]
theorem aw1 : lqN (constN 1) r05 = true := by
  refine (lqN_iff (const_liv (lit_in (by omega) (by omega))).1 r05_liv.1).2 (fun v hv h => ?_)
  rw [const_mem (lit_in (by omega) (by omega))] at h
  subst h
  exact (r05_mem hv).2 (by omega)
theorem aw2 : lqN r05 (constN 1) = false := by
  cases k : lqN r05 (constN 1)
  · rfl
  · exfalso
    have h0 : In64 0 := lit_in (by omega) (by omega)
    have := (lqN_iff r05_liv.1 (const_liv (lit_in (by omega) (by omega))).1).1 k 0 h0 ((r05_mem h0).2 (by omega))
    rw [const_mem (lit_in (by omega) (by omega))] at this
    omega
theorem aw3 : insN (joinN (constN 1) (constN 4)) 4 = true := by
  have h4 : In64 4 := lit_in (by omega) (by omega)
  have r1 := (const_liv (v := 1) (lit_in (by omega) (by omega))).1
  have r4 := (const_liv h4).1
  exact (insN_iff (joinN_raw r1 r4) h4).2 (joinN_mem r1 r4 h4 (Or.inr ((const_mem h4).2 rfl)))
theorem aw4 : (meetN (constN 1) r05).2.2.2.2 = false := by
  have h1 : In64 1 := lit_in (by omega) (by omega)
  exact ((meetN_mem (const_liv h1).1 r05_liv.1 h1).2 ⟨(const_mem h1).2 rfl, (r05_mem h1).2 (by omega)⟩).1
theorem aw5 : (meetN (constN 1) (constN 2)).2.2.2.2 = true := by
  have h1 : In64 1 := lit_in (by omega) (by omega)
  have h2 : In64 2 := lit_in (by omega) (by omega)
  refine norm_bot (meetN_raw (const_liv h1).1 (const_liv h2).1) (meetN_norm (const_liv h1).1 (const_liv h2).1) (fun v hv h => ?_)
  have := (meetN_mem (const_liv h1).1 (const_liv h2).1 hv).1 h
  rw [const_mem h1, const_mem h2] at this
  omega
theorem of_sns (w : World) (a : NT) : SNs w.heap.size (w.alloc (.cells #[.bool a.2.2.2.2, .int .i64 a.1, .int .i64 a.2.1, .int .u64 (a.2.2.1 : Int), .int .u64 (a.2.2.2.1 : Int)] 46)) (some ⟨w.heap.size, 0, none⟩) [a] := by
  intro _
  refine ⟨w.heap.size, 0, rfl, Nat.le_refl _, by simp, fun i hi => ?_⟩
  obtain rfl : i = 0 := by simp at hi; omega
  have r := heap_new0 w (.cells #[.bool a.2.2.2.2, .int .i64 a.1, .int .i64 a.2.1, .int .u64 (a.2.2.1 : Int), .int .u64 (a.2.2.2.1 : Int)] 46)
  obtain ⟨a0, a1, a2, a3, a4, -⟩ := row5_facts r
  exact ⟨a0, a1, a2, a3, a4⟩
set_option maxHeartbeats 4000000 in
theorem eof_any (a : NT) (vo : Option Addr) {B : Nat} (w0 w : World) (hok : Ok w0 w) (h : SNs B w vo [a]) :
    Calls Try.prog 15 #[.slice vo 1 1] w fun e w' => e = .returned (.agg #[.bool false, .slice vo 1 1, .slice none 0 0]) ∧ EnvIs B w' (.agg #[.bool false, .slice vo 1 1, .slice none 0 0]) (ofE a) ∧ Ok w0 w' := by
  have hle := hok.le
  have HS : Hid (SNs B w vo [a]) := h
  clear h
  go_enter Try.func15, Try.ntmps15
  go_wp2_with fail
  (try simp only [Exit.inBlock, Exit.then]); refine bodyPost_ret (results_cell_row rfl _ _ (w.heap.size) 24 #[_, _, _] (0, 0) _ rfl (by repeat (first | (refine heap_at _ _ _ ?hx; case hx => (first | (simp; done) | (simp; omega))) | (refine heap_past _ _ _ ?hy ?_; case hy => (first | (simp; done) | (simp; omega))) | fail)) Try.underlying24 rfl infoE) rfl ?_
  exact ⟨rfl, ⟨vo, 1, none, 0, rfl, HS.out.ok ((Ok.refl w).alloc _), SNs.nil _ _ _, by simp [ofE], by simp [ofE]⟩, hok.alloc _⟩
theorem fld0 (a b c : Value) (w : World) : (Instr.field 24 (.agg #[a, b, c]) 0).run Try.prog w = .ok a w := by kernel_rfl
set_option maxRecDepth 100000 in
set_option maxHeartbeats 40000000 in
theorem eawake_any (w0 w : World) (hok : Ok w0 w) :
    Calls Try.prog 6 #[] w fun e w' => e = .returned (.bool true) ∧ Ok w0 w' := by
  have HO : Hid (Ok w0 w) := hok
  have hle := hok.le
  clear hok
  obtain ⟨n1, h1⟩ : ∃ t, t = constN 1 := ⟨_, rfl⟩
  have L1 : Hid (Liv n1) := by unfold Hid; rw [h1]; exact const_liv (lit_in (by omega) (by omega))
  have H1 : Hid (constN 1 = n1) := h1.symm
  clear h1
  go_enter Try.func6, Try.ntmps6
  go_wp2_with fail
  refine (nconst_any 1 w _ (Ok.refl _)).mono ?_
  rintro e w1 ⟨rfl, hb⟩
  rw [H1.out]
  have Kw1 : Hid (Ok w w1) := hb
  clear hb
  unfold nv
  go_wp2_with fail
  obtain ⟨s1, es1⟩ : ∃ g, g = w1.heap.size := ⟨_, rfl⟩
  have Ss1 := of_sns w1 n1
  have Os1 : Ok w1 (w1.alloc (.cells #[.bool n1.2.2.2.2, .int .i64 n1.1, .int .i64 n1.2.1, .int .u64 (n1.2.2.1 : Int), .int .u64 (n1.2.2.2.1 : Int)] 46)) := (Ok.refl _).alloc _
  rw [← es1] at Ss1 ⊢
  refine (eof_any n1 _ w1 _ Os1 Ss1).mono ?_
  rintro e w2 ⟨rfl, hE, hb⟩
  have Ega0 : Hid (EnvIs 0 w2 (.agg #[.bool false, .slice (some ⟨s1, 0, none⟩) 1 1, .slice none 0 0]) (ofE n1)) := hE.mono (Nat.zero_le _)
  have Kw2 : Hid (Ok w w2) := Kw1.out.step hb
  clear hE hb Os1 Ss1 es1
  go_wp2_with fail
  obtain ⟨V1, hV⟩ : ∃ W, W = w2.alloc (.cells #[.bool false, .slice (some ⟨s1, 0, none⟩) 1 1, .slice none 0 0] 24) := ⟨_, rfl⟩
  have rga : Hid (V1.heap[w2.heap.size]? = some (.cells #[.bool false, .slice (some ⟨s1, 0, none⟩) 1 1, .slice none 0 0] 24)) := by unfold Hid; rw [hV]; exact heap_new0 _ _
  have OV : Ok w2 V1 := by rw [hV]; exact (Ok.refl _).alloc _
  rw [← hV]
  obtain ⟨ga, eg⟩ : ∃ g, g = w2.heap.size := ⟨_, rfl⟩
  rw [← eg] at rga ⊢
  have Ega : Hid (EnvIs 0 V1 (.agg #[.bool false, .slice (some ⟨s1, 0, none⟩) 1 1, .slice none 0 0]) (ofE n1)) := Ega0.out.ok OV
  have KV1 : Hid (Ok w V1) := Kw2.out.step OV
  clear hV OV eg Ega0
  obtain ⟨n5, h5⟩ : ∃ t, t = r05 := ⟨_, rfl⟩
  have L5 : Hid (Liv n5) := by unfold Hid; rw [h5]; exact r05_liv
  have H5 : Hid (makeN 0 5 1 0 = n5) := h5.symm
  clear h5
  refine (nrange_any 0 5 (lit_in (by omega) (by omega)) (lit_in (by omega) (by omega)) V1 _ (Ok.refl _)).mono ?_
  rintro e w3 ⟨rfl, hb⟩
  rw [H5.out]
  have Kw3 : Hid (Ok w w3) := KV1.out.step hb
  replace rga : Hid _ := Ok.row' hb rga.out
  replace Ega : Hid (EnvIs 0 w3 (.agg #[.bool false, .slice (some ⟨s1, 0, none⟩) 1 1, .slice none 0 0]) (ofE n1)) := Ega.out.ok hb
  clear hb
  unfold nv
  go_wp2_with fail
  obtain ⟨s5, es5⟩ : ∃ g, g = w3.heap.size := ⟨_, rfl⟩
  have Ss5 := of_sns w3 n5
  have Os5 : Ok w3 (w3.alloc (.cells #[.bool n5.2.2.2.2, .int .i64 n5.1, .int .i64 n5.2.1, .int .u64 (n5.2.2.1 : Int), .int .u64 (n5.2.2.2.1 : Int)] 46)) := (Ok.refl _).alloc _
  rw [← es5] at Ss5 ⊢
  refine (eof_any n5 _ w3 _ Os5 Ss5).mono ?_
  rintro e w4 ⟨rfl, hE, hb⟩
  have Egb0 : Hid (EnvIs 0 w4 (.agg #[.bool false, .slice (some ⟨s5, 0, none⟩) 1 1, .slice none 0 0]) (ofE n5)) := hE.mono (Nat.zero_le _)
  have Kw4 : Hid (Ok w w4) := Kw3.out.step hb
  replace rga : Hid _ := Ok.row' hb rga.out
  replace Ega : Hid (EnvIs 0 w4 (.agg #[.bool false, .slice (some ⟨s1, 0, none⟩) 1 1, .slice none 0 0]) (ofE n1)) := Ega.out.ok hb
  clear hE hb Os5 Ss5 es5
  go_wp2_with fail
  obtain ⟨V2, hV⟩ : ∃ W, W = w4.alloc (.cells #[.bool false, .slice (some ⟨s5, 0, none⟩) 1 1, .slice none 0 0] 24) := ⟨_, rfl⟩
  have rgb : Hid (V2.heap[w4.heap.size]? = some (.cells #[.bool false, .slice (some ⟨s5, 0, none⟩) 1 1, .slice none 0 0] 24)) := by unfold Hid; rw [hV]; exact heap_new0 _ _
  have OV : Ok w4 V2 := by rw [hV]; exact (Ok.refl _).alloc _
  rw [← hV]
  obtain ⟨gb, eg⟩ : ∃ g, g = w4.heap.size := ⟨_, rfl⟩
  rw [← eg] at rgb ⊢
  have Egb : Hid (EnvIs 0 V2 (.agg #[.bool false, .slice (some ⟨s5, 0, none⟩) 1 1, .slice none 0 0]) (ofE n5)) := Egb0.out.ok OV
  have KV2 : Hid (Ok w V2) := Kw4.out.step OV
  replace rga : Hid _ := Ok.row' OV rga.out
  replace Ega : Hid (EnvIs 0 V2 (.agg #[.bool false, .slice (some ⟨s1, 0, none⟩) 1 1, .slice none 0 0]) (ofE n1)) := Ega.out.ok OV
  clear hV OV eg Egb0
  obtain ⟨n4, h4⟩ : ∃ t, t = constN 4 := ⟨_, rfl⟩
  have L4 : Hid (Liv n4) := by unfold Hid; rw [h4]; exact const_liv (lit_in (by omega) (by omega))
  have H4 : Hid (constN 4 = n4) := h4.symm
  clear h4
  obtain ⟨nj, hj⟩ : ∃ t, t = joinN n1 n4 := ⟨_, rfl⟩
  have LJ : Hid (Liv nj) := by unfold Hid; rw [hj]; exact join_liv L1.out L4.out
  have HJ : Hid (tog0 joinN (normE (ofE n1)) (normE (ofE n4)) = ofE nj) := by unfold Hid; rw [hj]; exact ofE_join L1.out L4.out
  have FJ : Hid (insN nj 4 = true) := by unfold Hid; rw [hj, ← H1.out, ← H4.out]; exact aw3
  clear hj
  refine wp_cutE (fun a' w' => ∃ (gj s4 : Nat) (jo jp : Option Addr) (jc jd : Nat), a' = { tmps := #[.bool false, .pointer (some ⟨ga, 0, none⟩), .pointer (some ⟨gb, 0, none⟩), .pointer (some ⟨gj, 0, none⟩), .agg #[.bool n1.2.2.2.2, .int .i64 n1.1, .int .i64 n1.2.1, .int .u64 (n1.2.2.1 : Int), .int .u64 (n1.2.2.2.1 : Int)], .slice (some ⟨s1, 0, none⟩) 1 1, .agg #[.bool false, .slice (some ⟨s1, 0, none⟩) 1 1, .slice none 0 0], .agg #[.bool n5.2.2.2.2, .int .i64 n5.1, .int .i64 n5.2.1, .int .u64 (n5.2.2.1 : Int), .int .u64 (n5.2.2.2.1 : Int)], .slice (some ⟨s5, 0, none⟩) 1 1, .agg #[.bool false, .slice (some ⟨s5, 0, none⟩) 1 1, .slice none 0 0], .agg #[.bool false, .slice (some ⟨s1, 0, none⟩) 1 1, .slice none 0 0], .agg #[.bool n4.2.2.2.2, .int .i64 n4.1, .int .i64 n4.2.1, .int .u64 (n4.2.2.1 : Int), .int .u64 (n4.2.2.2.1 : Int)], .slice (some ⟨s4, 0, none⟩) 1 1, .agg #[.bool false, .slice (some ⟨s4, 0, none⟩) 1 1, .slice none 0 0], .agg #[.bool false, .slice jo 1 jc, .slice jp 0 jd], undef, undef, undef, undef, undef, undef, undef, undef, undef, undef, undef, undef, undef, undef, undef, undef, undef, undef, undef, undef, undef, undef, undef, undef, undef, undef, undef, undef, undef, undef, undef, undef, undef, undef, undef, undef, undef], defers := [] } ∧ Hid (Ok V2 w') ∧ Hid (w'.heap[gj]? = some (.cells #[.bool false, .slice jo 1 jc, .slice jp 0 jd] 24 (0, 0))) ∧ Hid (EnvIs 0 w' (.agg #[.bool false, .slice jo 1 jc, .slice jp 0 jd]) (ofE nj))) ?h1 ?h2
  case h1 =>
    refine wp_region_held_drew (S := fun w' => Ok V2 w') (by kernel_rfl) (Below.drew (Ok.refl _)) (fun hHeld => ?_)
    obtain ⟨D0, hD0⟩ : ∃ D, D = V2.drew := ⟨_, rfl⟩
    rw [← hD0] at hHeld ⊢
    clear hD0
    refine wpAnyH_take (i := 0) (v := .agg #[.bool false, .slice (some ⟨s1, 0, none⟩) 1 1, .slice none 0 0]) rfl (by kernel_rfl) (by kernel_rfl) (by kernel_rfl) (fun _ _ _ h => h) (Or.inl ⟨by rfl, ?_⟩) hHeld ?_
    · intro w hSw; (try dsimp only at hSw); obtain ⟨c0, c1, c2, -⟩ := erow3_facts (Ok.row' hSw rga.out); (go_simp; try with_reducible rfl)
    (try simp only [Act.put, List.getElem_toArray, List.getElem_cons_succ, List.getElem_cons_zero, List.setIfInBounds_toArray, List.set_cons_zero, List.set_cons_succ])
    refine wpAnyH_ready (rs := [1, 5]) (by kernel_rfl) (by simp) ?_
    refine AllReadyH.cons rfl (fun K hK => ?_) (AllReadyH.cons rfl (fun K hK => ?_) AllReadyH.nil)
    · go_simp
      refine (nconst_any 4 _ _ (Ok.refl _)).mono ?_
      rintro e1 uc ⟨rfl, hx⟩
      have hb := hHeld.step hx
      rw [H4.out]
      unfold nv
      dsimp only
      refine hK.out _ _ hb (fun hHeld => ?_)
      clear hK K hb hx
      (try simp only [Act.put, List.getElem_toArray, List.getElem_cons_succ, List.getElem_cons_zero, List.setIfInBounds_toArray, List.set_cons_zero, List.set_cons_succ])
      refine wpAnyH_ready (rs := [2, 5]) (by kernel_rfl) (by simp) ?_
      refine AllReadyH.cons rfl (fun K hK => ?_) (AllReadyH.cons rfl (fun K hK => ?_) AllReadyH.nil)
      · go_simp
        obtain ⟨ub, hub⟩ : ∃ Y, Y = uc.alloc (.cells #[.bool n4.2.2.2.2, .int .i64 n4.1, .int .i64 n4.2.1, .int .u64 (n4.2.2.1 : Int), .int .u64 (n4.2.2.2.1 : Int)] 46) := ⟨_, rfl⟩
        have Fs0 := of_sns uc n4
        rw [← hub] at Fs0 ⊢
        have hx : Ok uc ub := by rw [hub]; exact (Ok.refl _).alloc _
        obtain ⟨s4, es⟩ : ∃ g, g = uc.heap.size := ⟨_, rfl⟩
        rw [← es] at Fs0 ⊢
        have Fs : Hid (SNs 0 ub (some ⟨s4, 0, none⟩) [n4]) := Fs0.mono (Nat.zero_le _)
        have hb := hHeld.step hx
        refine hK.out _ _ hb (fun hHeld => ?_)
        clear hK K hub es Fs0 hb
        (try simp only [Act.put, List.getElem_toArray, List.getElem_cons_succ, List.getElem_cons_zero, List.setIfInBounds_toArray, List.set_cons_zero, List.set_cons_succ])
        clear hx
        refine wpAnyH_ready (rs := [3, 5]) (by kernel_rfl) (by simp) ?_
        refine AllReadyH.cons rfl (fun K hK => ?_) (AllReadyH.cons rfl (fun K hK => ?_) AllReadyH.nil)
        · go_simp
          refine (eof_any n4 _ _ _ (Ok.refl _) Fs.out).mono ?_
          rintro e1 uo ⟨rfl, hE, hx⟩
          have hb := hHeld.step hx
          have Fd : Hid (EnvIs 0 uo (.agg #[.bool false, .slice (some ⟨s4, 0, none⟩) 1 1, .slice none 0 0]) (ofE n4)) := hE
          clear hE Fs
          dsimp only
          refine hK.out _ _ hb (fun hHeld => ?_)
          clear hK K hb hx
          (try simp only [Act.put, List.getElem_toArray, List.getElem_cons_succ, List.getElem_cons_zero, List.setIfInBounds_toArray, List.set_cons_zero, List.set_cons_succ])
          refine wpAnyH_ready (rs := [4, 5]) (by kernel_rfl) (by simp) ?_
          refine AllReadyH.cons rfl (fun K hK => ?_) (AllReadyH.cons rfl (fun K hK => ?_) AllReadyH.nil)
          · go_simp
            refine (eJoin_any (ofE n1) (ofE n4) _ _ (ofE_raw L1.out.1) (ofE_raw L4.out.1) _ (Ega.out.ok hHeld) Fd.out).mono ?_
            rintro e1 uj ⟨r, rfl, hE, hx⟩
            rw [HJ.out] at hE
            have hb := hHeld.step hx
            have FjB := hE
            obtain ⟨jo, jc, jp, jd, e3, _, _, _, _⟩ := hE
            subst e3
            dsimp only [ofE, List.length_cons, List.length_nil] at FjB
            have Fj : Hid (EnvIs 0 uj (.agg #[.bool false, .slice jo 1 jc, .slice jp 0 jd]) (ofE nj)) := FjB.mono (Nat.zero_le _)
            clear FjB Fd
            dsimp only
            refine hK.out _ _ hb (fun hHeld => ?_)
            clear hK K hb hx
            (try simp only [Act.put, List.getElem_toArray, List.getElem_cons_succ, List.getElem_cons_zero, List.setIfInBounds_toArray, List.set_cons_zero, List.set_cons_succ])
            refine wpAnyH_ready (rs := [5]) (by kernel_rfl) (by simp) ?_
            refine AllReadyH.cons rfl (fun K hK => ?_) AllReadyH.nil
            · go_simp
              obtain ⟨ua, hua⟩ : ∃ Y, Y = uj.alloc (.cells #[.bool false, .slice none 0 0, .slice none 0 0] 24) := ⟨_, rfl⟩
              have rj : Hid (ua.heap[uj.heap.size]? = some (.cells #[.bool false, .slice none 0 0, .slice none 0 0] 24)) := by unfold Hid; rw [hua]; exact heap_new0 _ _
              have hx : Ok uj ua := by rw [hua]; exact (Ok.refl _).alloc _
              rw [← hua]
              obtain ⟨gj, egj⟩ : ∃ g, g = uj.heap.size := ⟨_, rfl⟩
              rw [← egj] at rj ⊢
              have lj : V2.heap.size ≤ gj := by have := hHeld.le; omega
              have hcur : uj.heap.size ≤ gj := by omega
              have hb := hHeld.step hx
              refine hK.out _ _ hb (fun hHeld => ?_)
              clear hK K hua egj hb
              (try simp only [Act.put, List.getElem_toArray, List.getElem_cons_succ, List.getElem_cons_zero, List.setIfInBounds_toArray, List.set_cons_zero, List.set_cons_succ])
              have FE : Hid (∀ p q r : Value, EnvIs 0 (((ua.setCell ⟨gj, 0, none⟩ p).setCell ⟨gj, 1, none⟩ q).setCell ⟨gj, 2, none⟩ r) (.agg #[.bool false, .slice jo 1 jc, .slice jp 0 jd]) (ofE nj)) := fun p q r => Fj.out.ok (set3_ok hx hcur p q r)
              clear hx hcur
              refine wpAnyH_ready (rs := [6]) (by kernel_rfl) (by simp) ?_
              refine AllReadyH.cons rfl (fun K hK => ?_) AllReadyH.nil
              obtain ⟨k0, k1, k2, k3, k4, k5⟩ := erow3_facts rj.out
              go_simp
              refine hK.out _ _ (set3_ok hHeld lj _ _ _) (fun hHeld => ?_)
              (try simp only [Act.put, List.getElem_toArray, List.getElem_cons_succ, List.getElem_cons_zero, List.setIfInBounds_toArray, List.set_cons_zero, List.set_cons_succ])
              refine wpAnyH_done (by kernel_rfl) ?_ _
              exact ⟨gj, s4, jo, jp, jc, jd, rfl, hHeld, erow_set3 rj.out _ _ _, FE.out _ _ _⟩
          · go_simp
            obtain ⟨ua, hua⟩ : ∃ Y, Y = uo.alloc (.cells #[.bool false, .slice none 0 0, .slice none 0 0] 24) := ⟨_, rfl⟩
            have rj : Hid (ua.heap[uo.heap.size]? = some (.cells #[.bool false, .slice none 0 0, .slice none 0 0] 24)) := by unfold Hid; rw [hua]; exact heap_new0 _ _
            have hx : Ok uo ua := by rw [hua]; exact (Ok.refl _).alloc _
            rw [← hua]
            obtain ⟨gj, egj⟩ : ∃ g, g = uo.heap.size := ⟨_, rfl⟩
            rw [← egj] at rj ⊢
            have lj : V2.heap.size ≤ gj := by have := hHeld.le; omega
            have hcur : uo.heap.size ≤ gj := by omega
            have hb := hHeld.step hx
            refine hK.out _ _ hb (fun hHeld => ?_)
            clear hK K hua egj hb
            (try simp only [Act.put, List.getElem_toArray, List.getElem_cons_succ, List.getElem_cons_zero, List.setIfInBounds_toArray, List.set_cons_zero, List.set_cons_succ])
            replace Fd : Hid (EnvIs 0 ua (.agg #[.bool false, .slice (some ⟨s4, 0, none⟩) 1 1, .slice none 0 0]) (ofE n4)) := Fd.out.ok hx
            clear hx hcur
            refine wpAnyH_ready (rs := [4]) (by kernel_rfl) (by simp) ?_
            refine AllReadyH.cons rfl (fun K hK => ?_) AllReadyH.nil
            · go_simp
              refine (eJoin_any (ofE n1) (ofE n4) _ _ (ofE_raw L1.out.1) (ofE_raw L4.out.1) _ (Ega.out.ok hHeld) Fd.out).mono ?_
              rintro e1 uj ⟨r, rfl, hE, hx⟩
              rw [HJ.out] at hE
              have hb := hHeld.step hx
              have Bj := lt_row rj.out
              have FjB := hE
              obtain ⟨jo, jc, jp, jd, e3, _, _, _, _⟩ := hE
              subst e3
              dsimp only [ofE, List.length_cons, List.length_nil] at FjB
              have FE : Hid (∀ p q r : Value, EnvIs 0 (((uj.setCell ⟨gj, 0, none⟩ p).setCell ⟨gj, 1, none⟩ q).setCell ⟨gj, 2, none⟩ r) (.agg #[.bool false, .slice jo 1 jc, .slice jp 0 jd]) (ofE nj)) := fun p q r => (FjB.set3 Bj p q r).mono (Nat.zero_le _)
              clear FjB Fd
              replace rj : Hid _ := Ok.row' hx rj.out
              dsimp only
              refine hK.out _ _ hb (fun hHeld => ?_)
              clear hK K hb hx
              (try simp only [Act.put, List.getElem_toArray, List.getElem_cons_succ, List.getElem_cons_zero, List.setIfInBounds_toArray, List.set_cons_zero, List.set_cons_succ])
              refine wpAnyH_ready (rs := [6]) (by kernel_rfl) (by simp) ?_
              refine AllReadyH.cons rfl (fun K hK => ?_) AllReadyH.nil
              obtain ⟨k0, k1, k2, k3, k4, k5⟩ := erow3_facts rj.out
              go_simp
              refine hK.out _ _ (set3_ok hHeld lj _ _ _) (fun hHeld => ?_)
              (try simp only [Act.put, List.getElem_toArray, List.getElem_cons_succ, List.getElem_cons_zero, List.setIfInBounds_toArray, List.set_cons_zero, List.set_cons_succ])
              refine wpAnyH_done (by kernel_rfl) ?_ _
              exact ⟨gj, s4, jo, jp, jc, jd, rfl, hHeld, erow_set3 rj.out _ _ _, FE.out _ _ _⟩
        · go_simp
          obtain ⟨ua, hua⟩ : ∃ Y, Y = ub.alloc (.cells #[.bool false, .slice none 0 0, .slice none 0 0] 24) := ⟨_, rfl⟩
          have rj : Hid (ua.heap[ub.heap.size]? = some (.cells #[.bool false, .slice none 0 0, .slice none 0 0] 24)) := by unfold Hid; rw [hua]; exact heap_new0 _ _
          have hx : Ok ub ua := by rw [hua]; exact (Ok.refl _).alloc _
          rw [← hua]
          obtain ⟨gj, egj⟩ : ∃ g, g = ub.heap.size := ⟨_, rfl⟩
          rw [← egj] at rj ⊢
          have lj : V2.heap.size ≤ gj := by have := hHeld.le; omega
          have hcur : ub.heap.size ≤ gj := by omega
          have hb := hHeld.step hx
          refine hK.out _ _ hb (fun hHeld => ?_)
          clear hK K hua egj hb
          (try simp only [Act.put, List.getElem_toArray, List.getElem_cons_succ, List.getElem_cons_zero, List.setIfInBounds_toArray, List.set_cons_zero, List.set_cons_succ])
          replace Fs : Hid (SNs 0 ua (some ⟨s4, 0, none⟩) [n4]) := Fs.out.ok hx
          clear hx hcur
          refine wpAnyH_ready (rs := [3]) (by kernel_rfl) (by simp) ?_
          refine AllReadyH.cons rfl (fun K hK => ?_) AllReadyH.nil
          · go_simp
            refine (eof_any n4 _ _ _ (Ok.refl _) Fs.out).mono ?_
            rintro e1 uo ⟨rfl, hE, hx⟩
            have hb := hHeld.step hx
            have Fd : Hid (EnvIs 0 uo (.agg #[.bool false, .slice (some ⟨s4, 0, none⟩) 1 1, .slice none 0 0]) (ofE n4)) := hE
            clear hE Fs
            replace rj : Hid _ := Ok.row' hx rj.out
            dsimp only
            refine hK.out _ _ hb (fun hHeld => ?_)
            clear hK K hb hx
            (try simp only [Act.put, List.getElem_toArray, List.getElem_cons_succ, List.getElem_cons_zero, List.setIfInBounds_toArray, List.set_cons_zero, List.set_cons_succ])
            refine wpAnyH_ready (rs := [4]) (by kernel_rfl) (by simp) ?_
            refine AllReadyH.cons rfl (fun K hK => ?_) AllReadyH.nil
            · go_simp
              refine (eJoin_any (ofE n1) (ofE n4) _ _ (ofE_raw L1.out.1) (ofE_raw L4.out.1) _ (Ega.out.ok hHeld) Fd.out).mono ?_
              rintro e1 uj ⟨r, rfl, hE, hx⟩
              rw [HJ.out] at hE
              have hb := hHeld.step hx
              have Bj := lt_row rj.out
              have FjB := hE
              obtain ⟨jo, jc, jp, jd, e3, _, _, _, _⟩ := hE
              subst e3
              dsimp only [ofE, List.length_cons, List.length_nil] at FjB
              have FE : Hid (∀ p q r : Value, EnvIs 0 (((uj.setCell ⟨gj, 0, none⟩ p).setCell ⟨gj, 1, none⟩ q).setCell ⟨gj, 2, none⟩ r) (.agg #[.bool false, .slice jo 1 jc, .slice jp 0 jd]) (ofE nj)) := fun p q r => (FjB.set3 Bj p q r).mono (Nat.zero_le _)
              clear FjB Fd
              replace rj : Hid _ := Ok.row' hx rj.out
              dsimp only
              refine hK.out _ _ hb (fun hHeld => ?_)
              clear hK K hb hx
              (try simp only [Act.put, List.getElem_toArray, List.getElem_cons_succ, List.getElem_cons_zero, List.setIfInBounds_toArray, List.set_cons_zero, List.set_cons_succ])
              refine wpAnyH_ready (rs := [6]) (by kernel_rfl) (by simp) ?_
              refine AllReadyH.cons rfl (fun K hK => ?_) AllReadyH.nil
              obtain ⟨k0, k1, k2, k3, k4, k5⟩ := erow3_facts rj.out
              go_simp
              refine hK.out _ _ (set3_ok hHeld lj _ _ _) (fun hHeld => ?_)
              (try simp only [Act.put, List.getElem_toArray, List.getElem_cons_succ, List.getElem_cons_zero, List.setIfInBounds_toArray, List.set_cons_zero, List.set_cons_succ])
              refine wpAnyH_done (by kernel_rfl) ?_ _
              exact ⟨gj, s4, jo, jp, jc, jd, rfl, hHeld, erow_set3 rj.out _ _ _, FE.out _ _ _⟩
      · go_simp
        obtain ⟨ua, hua⟩ : ∃ Y, Y = uc.alloc (.cells #[.bool false, .slice none 0 0, .slice none 0 0] 24) := ⟨_, rfl⟩
        have rj : Hid (ua.heap[uc.heap.size]? = some (.cells #[.bool false, .slice none 0 0, .slice none 0 0] 24)) := by unfold Hid; rw [hua]; exact heap_new0 _ _
        have hx : Ok uc ua := by rw [hua]; exact (Ok.refl _).alloc _
        rw [← hua]
        obtain ⟨gj, egj⟩ : ∃ g, g = uc.heap.size := ⟨_, rfl⟩
        rw [← egj] at rj ⊢
        have lj : V2.heap.size ≤ gj := by have := hHeld.le; omega
        have hcur : uc.heap.size ≤ gj := by omega
        have hb := hHeld.step hx
        refine hK.out _ _ hb (fun hHeld => ?_)
        clear hK K hua egj hb
        (try simp only [Act.put, List.getElem_toArray, List.getElem_cons_succ, List.getElem_cons_zero, List.setIfInBounds_toArray, List.set_cons_zero, List.set_cons_succ])
        clear hx hcur
        refine wpAnyH_ready (rs := [2]) (by kernel_rfl) (by simp) ?_
        refine AllReadyH.cons rfl (fun K hK => ?_) AllReadyH.nil
        · go_simp
          obtain ⟨ub, hub⟩ : ∃ Y, Y = ua.alloc (.cells #[.bool n4.2.2.2.2, .int .i64 n4.1, .int .i64 n4.2.1, .int .u64 (n4.2.2.1 : Int), .int .u64 (n4.2.2.2.1 : Int)] 46) := ⟨_, rfl⟩
          have Fs0 := of_sns ua n4
          rw [← hub] at Fs0 ⊢
          have hx : Ok ua ub := by rw [hub]; exact (Ok.refl _).alloc _
          obtain ⟨s4, es⟩ : ∃ g, g = ua.heap.size := ⟨_, rfl⟩
          rw [← es] at Fs0 ⊢
          have Fs : Hid (SNs 0 ub (some ⟨s4, 0, none⟩) [n4]) := Fs0.mono (Nat.zero_le _)
          have hb := hHeld.step hx
          refine hK.out _ _ hb (fun hHeld => ?_)
          clear hK K hub es Fs0 hb
          (try simp only [Act.put, List.getElem_toArray, List.getElem_cons_succ, List.getElem_cons_zero, List.setIfInBounds_toArray, List.set_cons_zero, List.set_cons_succ])
          replace rj : Hid _ := Ok.row' hx rj.out
          clear hx
          refine wpAnyH_ready (rs := [3]) (by kernel_rfl) (by simp) ?_
          refine AllReadyH.cons rfl (fun K hK => ?_) AllReadyH.nil
          · go_simp
            refine (eof_any n4 _ _ _ (Ok.refl _) Fs.out).mono ?_
            rintro e1 uo ⟨rfl, hE, hx⟩
            have hb := hHeld.step hx
            have Fd : Hid (EnvIs 0 uo (.agg #[.bool false, .slice (some ⟨s4, 0, none⟩) 1 1, .slice none 0 0]) (ofE n4)) := hE
            clear hE Fs
            replace rj : Hid _ := Ok.row' hx rj.out
            dsimp only
            refine hK.out _ _ hb (fun hHeld => ?_)
            clear hK K hb hx
            (try simp only [Act.put, List.getElem_toArray, List.getElem_cons_succ, List.getElem_cons_zero, List.setIfInBounds_toArray, List.set_cons_zero, List.set_cons_succ])
            refine wpAnyH_ready (rs := [4]) (by kernel_rfl) (by simp) ?_
            refine AllReadyH.cons rfl (fun K hK => ?_) AllReadyH.nil
            · go_simp
              refine (eJoin_any (ofE n1) (ofE n4) _ _ (ofE_raw L1.out.1) (ofE_raw L4.out.1) _ (Ega.out.ok hHeld) Fd.out).mono ?_
              rintro e1 uj ⟨r, rfl, hE, hx⟩
              rw [HJ.out] at hE
              have hb := hHeld.step hx
              have Bj := lt_row rj.out
              have FjB := hE
              obtain ⟨jo, jc, jp, jd, e3, _, _, _, _⟩ := hE
              subst e3
              dsimp only [ofE, List.length_cons, List.length_nil] at FjB
              have FE : Hid (∀ p q r : Value, EnvIs 0 (((uj.setCell ⟨gj, 0, none⟩ p).setCell ⟨gj, 1, none⟩ q).setCell ⟨gj, 2, none⟩ r) (.agg #[.bool false, .slice jo 1 jc, .slice jp 0 jd]) (ofE nj)) := fun p q r => (FjB.set3 Bj p q r).mono (Nat.zero_le _)
              clear FjB Fd
              replace rj : Hid _ := Ok.row' hx rj.out
              dsimp only
              refine hK.out _ _ hb (fun hHeld => ?_)
              clear hK K hb hx
              (try simp only [Act.put, List.getElem_toArray, List.getElem_cons_succ, List.getElem_cons_zero, List.setIfInBounds_toArray, List.set_cons_zero, List.set_cons_succ])
              refine wpAnyH_ready (rs := [6]) (by kernel_rfl) (by simp) ?_
              refine AllReadyH.cons rfl (fun K hK => ?_) AllReadyH.nil
              obtain ⟨k0, k1, k2, k3, k4, k5⟩ := erow3_facts rj.out
              go_simp
              refine hK.out _ _ (set3_ok hHeld lj _ _ _) (fun hHeld => ?_)
              (try simp only [Act.put, List.getElem_toArray, List.getElem_cons_succ, List.getElem_cons_zero, List.setIfInBounds_toArray, List.set_cons_zero, List.set_cons_succ])
              refine wpAnyH_done (by kernel_rfl) ?_ _
              exact ⟨gj, s4, jo, jp, jc, jd, rfl, hHeld, erow_set3 rj.out _ _ _, FE.out _ _ _⟩
    · go_simp
      obtain ⟨ua, hua⟩ : ∃ Y, Y = D0.alloc (.cells #[.bool false, .slice none 0 0, .slice none 0 0] 24) := ⟨_, rfl⟩
      have rj : Hid (ua.heap[D0.heap.size]? = some (.cells #[.bool false, .slice none 0 0, .slice none 0 0] 24)) := by unfold Hid; rw [hua]; exact heap_new0 _ _
      have hx : Ok D0 ua := by rw [hua]; exact (Ok.refl _).alloc _
      rw [← hua]
      obtain ⟨gj, egj⟩ : ∃ g, g = D0.heap.size := ⟨_, rfl⟩
      rw [← egj] at rj ⊢
      have lj : V2.heap.size ≤ gj := by have := hHeld.le; omega
      have hcur : D0.heap.size ≤ gj := by omega
      have hb := hHeld.step hx
      refine hK.out _ _ hb (fun hHeld => ?_)
      clear hK K hua egj hb
      (try simp only [Act.put, List.getElem_toArray, List.getElem_cons_succ, List.getElem_cons_zero, List.setIfInBounds_toArray, List.set_cons_zero, List.set_cons_succ])
      clear hx hcur
      refine wpAnyH_ready (rs := [1]) (by kernel_rfl) (by simp) ?_
      refine AllReadyH.cons rfl (fun K hK => ?_) AllReadyH.nil
      · go_simp
        refine (nconst_any 4 _ _ (Ok.refl _)).mono ?_
        rintro e1 uc ⟨rfl, hx⟩
        have hb := hHeld.step hx
        rw [H4.out]
        unfold nv
        replace rj : Hid _ := Ok.row' hx rj.out
        dsimp only
        refine hK.out _ _ hb (fun hHeld => ?_)
        clear hK K hb hx
        (try simp only [Act.put, List.getElem_toArray, List.getElem_cons_succ, List.getElem_cons_zero, List.setIfInBounds_toArray, List.set_cons_zero, List.set_cons_succ])
        refine wpAnyH_ready (rs := [2]) (by kernel_rfl) (by simp) ?_
        refine AllReadyH.cons rfl (fun K hK => ?_) AllReadyH.nil
        · go_simp
          obtain ⟨ub, hub⟩ : ∃ Y, Y = uc.alloc (.cells #[.bool n4.2.2.2.2, .int .i64 n4.1, .int .i64 n4.2.1, .int .u64 (n4.2.2.1 : Int), .int .u64 (n4.2.2.2.1 : Int)] 46) := ⟨_, rfl⟩
          have Fs0 := of_sns uc n4
          rw [← hub] at Fs0 ⊢
          have hx : Ok uc ub := by rw [hub]; exact (Ok.refl _).alloc _
          obtain ⟨s4, es⟩ : ∃ g, g = uc.heap.size := ⟨_, rfl⟩
          rw [← es] at Fs0 ⊢
          have Fs : Hid (SNs 0 ub (some ⟨s4, 0, none⟩) [n4]) := Fs0.mono (Nat.zero_le _)
          have hb := hHeld.step hx
          refine hK.out _ _ hb (fun hHeld => ?_)
          clear hK K hub es Fs0 hb
          (try simp only [Act.put, List.getElem_toArray, List.getElem_cons_succ, List.getElem_cons_zero, List.setIfInBounds_toArray, List.set_cons_zero, List.set_cons_succ])
          replace rj : Hid _ := Ok.row' hx rj.out
          clear hx
          refine wpAnyH_ready (rs := [3]) (by kernel_rfl) (by simp) ?_
          refine AllReadyH.cons rfl (fun K hK => ?_) AllReadyH.nil
          · go_simp
            refine (eof_any n4 _ _ _ (Ok.refl _) Fs.out).mono ?_
            rintro e1 uo ⟨rfl, hE, hx⟩
            have hb := hHeld.step hx
            have Fd : Hid (EnvIs 0 uo (.agg #[.bool false, .slice (some ⟨s4, 0, none⟩) 1 1, .slice none 0 0]) (ofE n4)) := hE
            clear hE Fs
            replace rj : Hid _ := Ok.row' hx rj.out
            dsimp only
            refine hK.out _ _ hb (fun hHeld => ?_)
            clear hK K hb hx
            (try simp only [Act.put, List.getElem_toArray, List.getElem_cons_succ, List.getElem_cons_zero, List.setIfInBounds_toArray, List.set_cons_zero, List.set_cons_succ])
            refine wpAnyH_ready (rs := [4]) (by kernel_rfl) (by simp) ?_
            refine AllReadyH.cons rfl (fun K hK => ?_) AllReadyH.nil
            · go_simp
              refine (eJoin_any (ofE n1) (ofE n4) _ _ (ofE_raw L1.out.1) (ofE_raw L4.out.1) _ (Ega.out.ok hHeld) Fd.out).mono ?_
              rintro e1 uj ⟨r, rfl, hE, hx⟩
              rw [HJ.out] at hE
              have hb := hHeld.step hx
              have Bj := lt_row rj.out
              have FjB := hE
              obtain ⟨jo, jc, jp, jd, e3, _, _, _, _⟩ := hE
              subst e3
              dsimp only [ofE, List.length_cons, List.length_nil] at FjB
              have FE : Hid (∀ p q r : Value, EnvIs 0 (((uj.setCell ⟨gj, 0, none⟩ p).setCell ⟨gj, 1, none⟩ q).setCell ⟨gj, 2, none⟩ r) (.agg #[.bool false, .slice jo 1 jc, .slice jp 0 jd]) (ofE nj)) := fun p q r => (FjB.set3 Bj p q r).mono (Nat.zero_le _)
              clear FjB Fd
              replace rj : Hid _ := Ok.row' hx rj.out
              dsimp only
              refine hK.out _ _ hb (fun hHeld => ?_)
              clear hK K hb hx
              (try simp only [Act.put, List.getElem_toArray, List.getElem_cons_succ, List.getElem_cons_zero, List.setIfInBounds_toArray, List.set_cons_zero, List.set_cons_succ])
              refine wpAnyH_ready (rs := [6]) (by kernel_rfl) (by simp) ?_
              refine AllReadyH.cons rfl (fun K hK => ?_) AllReadyH.nil
              obtain ⟨k0, k1, k2, k3, k4, k5⟩ := erow3_facts rj.out
              go_simp
              refine hK.out _ _ (set3_ok hHeld lj _ _ _) (fun hHeld => ?_)
              (try simp only [Act.put, List.getElem_toArray, List.getElem_cons_succ, List.getElem_cons_zero, List.setIfInBounds_toArray, List.set_cons_zero, List.set_cons_succ])
              refine wpAnyH_done (by kernel_rfl) ?_ _
              exact ⟨gj, s4, jo, jp, jc, jd, rfl, hHeld, erow_set3 rj.out _ _ _, FE.out _ _ _⟩
  case h2 =>
    rintro a' V3 ⟨gj, s4, jo, jp, jc, jd, rfl, O3, rj, Ej⟩
    replace rga : Hid _ := Ok.row' O3.out rga.out
    replace rgb : Hid _ := Ok.row' O3.out rgb.out
    replace Ega : Hid (EnvIs 0 V3 (.agg #[.bool false, .slice (some ⟨s1, 0, none⟩) 1 1, .slice none 0 0]) (ofE n1)) := Ega.out.ok O3.out
    replace Egb : Hid (EnvIs 0 V3 (.agg #[.bool false, .slice (some ⟨s5, 0, none⟩) 1 1, .slice none 0 0]) (ofE n5)) := Egb.out.ok O3.out
    have KV3 : Hid (Ok w V3) := KV2.out.step O3.out
    clear O3
    have FA : Hid (leq0 (normE (ofE n1)) (normE (ofE n5)) = true) := by unfold Hid; rw [ofE_leq L1.out L5.out, ← H1.out, ← H5.out]; exact aw1
    have FB : Hid (leq0 (normE (ofE n5)) (normE (ofE n1)) = false) := by unfold Hid; rw [ofE_leq L5.out L1.out, ← H1.out, ← H5.out]; exact aw2
    obtain ⟨n2, h2⟩ : ∃ t, t = constN 2 := ⟨_, rfl⟩
    have L2 : Hid (Liv n2) := by unfold Hid; rw [h2]; exact const_liv (lit_in (by omega) (by omega))
    have H2 : Hid (constN 2 = n2) := h2.symm
    clear h2
    have FC : Hid ((meet0 (normE (ofE n1)) (normE (ofE n5))).1 = false) := by unfold Hid; rw [ofE_meet L1.out L5.out, ← H1.out, ← H5.out]; exact aw4
    have FD : Hid ((meet0 (normE (ofE n1)) (normE (ofE n2))).1 = true) := by unfold Hid; rw [ofE_meet L1.out L2.out, ← H1.out, ← H2.out]; exact aw5
    obtain ⟨tb, o, ejo, _, htb, hcell⟩ := Ej.out.lists.1 (by simp [ofE])
    have q := hcell 0 (by simp [ofE])
    subst ejo
    have CJ : Hid (V3.cell? ⟨tb, o, none⟩ = some (.bool nj.2.2.2.2) ∧ V3.cell? ⟨tb, o + 1, none⟩ = some (.int .i64 nj.1) ∧ V3.cell? ⟨tb, o + 2, none⟩ = some (.int .i64 nj.2.1) ∧ V3.cell? ⟨tb, o + 3, none⟩ = some (.int .u64 (nj.2.2.1 : Int)) ∧ V3.cell? ⟨tb, o + 4, none⟩ = some (.int .u64 (nj.2.2.2.1 : Int))) := by unfold Hid; simpa [ofE] using q
    clear q hcell
    go_wp2_with fail
    refine wp_region_held_drew (S := fun w' => Ok V3 w') (by kernel_rfl) (Below.drew (Ok.refl _)) (fun hHeld => ?_)
    refine wpAnyH_take (i := 0) (v := .agg #[.bool false, .slice (some ⟨s1, 0, none⟩) 1 1, .slice none 0 0]) rfl (by kernel_rfl) (by kernel_rfl) (by kernel_rfl) (fun _ _ _ h => h) (Or.inl ⟨by rfl, ?_⟩) hHeld ?_
    · intro w hSw; (try dsimp only at hSw); obtain ⟨c0, c1, c2, -⟩ := erow3_facts (Ok.row' hSw rga.out); (go_simp; try with_reducible rfl)
    (try simp only [Act.put, List.getElem_toArray, List.getElem_cons_succ, List.getElem_cons_zero, List.setIfInBounds_toArray, List.set_cons_zero, List.set_cons_succ])
    refine wpAnyH_take (i := 1) (v := .agg #[.bool false, .slice (some ⟨s5, 0, none⟩) 1 1, .slice none 0 0]) rfl (by kernel_rfl) (by kernel_rfl) (by kernel_rfl) (fun _ _ _ h => h) (Or.inl ⟨by rfl, ?_⟩) hHeld ?_
    · intro w hSw; (try dsimp only at hSw); obtain ⟨c0, c1, c2, -⟩ := erow3_facts (Ok.row' hSw rgb.out); (go_simp; try with_reducible rfl)
    (try simp only [Act.put, List.getElem_toArray, List.getElem_cons_succ, List.getElem_cons_zero, List.setIfInBounds_toArray, List.set_cons_zero, List.set_cons_succ])
    refine wpAnyH_ready (rs := [2]) (by kernel_rfl) (by simp) ?_
    refine AllReadyH.cons rfl (fun K hK => ?_) AllReadyH.nil
    go_simp
    refine (eLeq_at (ofE n1) (ofE n5) _ _ (ofE_raw L1.out.1) (ofE_raw L5.out.1) V3 _ hHeld Ega.out Egb.out).mono ?_
    rintro e1 w' ⟨rfl, hb⟩
    rw [FA.out]
    dsimp only
    refine hK.out _ _ hb (fun hHeld => ?_)
    clear hK K hb
    (try simp only [Act.put, List.getElem_toArray, List.getElem_cons_succ, List.getElem_cons_zero, List.setIfInBounds_toArray, List.set_cons_zero, List.set_cons_succ])
    refine wpAnyH_take (i := 3) (v := ?_) rfl (by kernel_rfl) (by kernel_rfl) (by kernel_rfl) (fun _ _ _ h => h) (Or.inl ⟨by rfl, ?_⟩) hHeld ?_
    rotate_left
    · intro w hSw; (try dsimp only at hSw); (go_simp; try with_reducible rfl)
    (try simp only [Act.put, List.getElem_toArray, List.getElem_cons_succ, List.getElem_cons_zero, List.setIfInBounds_toArray, List.set_cons_zero, List.set_cons_succ])
    refine wpAnyH_take (i := 4) (v := .agg #[.bool false, .slice (some ⟨s5, 0, none⟩) 1 1, .slice none 0 0]) rfl (by kernel_rfl) (by kernel_rfl) (by kernel_rfl) (fun _ _ _ h => h) (Or.inl ⟨by rfl, ?_⟩) hHeld ?_
    · intro w hSw; (try dsimp only at hSw); obtain ⟨c0, c1, c2, -⟩ := erow3_facts (Ok.row' hSw rgb.out); (go_simp; try with_reducible rfl)
    (try simp only [Act.put, List.getElem_toArray, List.getElem_cons_succ, List.getElem_cons_zero, List.setIfInBounds_toArray, List.set_cons_zero, List.set_cons_succ])
    refine wpAnyH_take (i := 5) (v := .agg #[.bool false, .slice (some ⟨s1, 0, none⟩) 1 1, .slice none 0 0]) rfl (by kernel_rfl) (by kernel_rfl) (by kernel_rfl) (fun _ _ _ h => h) (Or.inl ⟨by rfl, ?_⟩) hHeld ?_
    · intro w hSw; (try dsimp only at hSw); obtain ⟨c0, c1, c2, -⟩ := erow3_facts (Ok.row' hSw rga.out); (go_simp; try with_reducible rfl)
    (try simp only [Act.put, List.getElem_toArray, List.getElem_cons_succ, List.getElem_cons_zero, List.setIfInBounds_toArray, List.set_cons_zero, List.set_cons_succ])
    refine wpAnyH_ready (rs := [6]) (by kernel_rfl) (by simp) ?_
    refine AllReadyH.cons rfl (fun K hK => ?_) AllReadyH.nil
    go_simp
    refine (eLeq_at (ofE n5) (ofE n1) _ _ (ofE_raw L5.out.1) (ofE_raw L1.out.1) V3 _ hHeld Egb.out Ega.out).mono ?_
    rintro e1 w' ⟨rfl, hb⟩
    rw [FB.out]
    dsimp only
    refine hK.out _ _ hb (fun hHeld => ?_)
    clear hK K hb
    (try simp only [Act.put, List.getElem_toArray, List.getElem_cons_succ, List.getElem_cons_zero, List.setIfInBounds_toArray, List.set_cons_zero, List.set_cons_succ])
    refine wpAnyH_take (i := 7) (v := ?_) rfl (by kernel_rfl) (by kernel_rfl) (by kernel_rfl) (fun _ _ _ h => h) (Or.inl ⟨by rfl, ?_⟩) hHeld ?_
    rotate_left
    · intro w hSw; (try dsimp only at hSw); (go_simp; try with_reducible rfl)
    (try simp only [Act.put, List.getElem_toArray, List.getElem_cons_succ, List.getElem_cons_zero, List.setIfInBounds_toArray, List.set_cons_zero, List.set_cons_succ])
    refine wpAnyH_take (i := 8) (v := ?_) rfl (by kernel_rfl) (by kernel_rfl) (by kernel_rfl) (fun _ _ _ h => h) (Or.inl ⟨by rfl, ?_⟩) hHeld ?_
    rotate_left
    · intro w hSw; (try dsimp only at hSw); (go_simp; try with_reducible rfl)
    (try simp only [Act.put, List.getElem_toArray, List.getElem_cons_succ, List.getElem_cons_zero, List.setIfInBounds_toArray, List.set_cons_zero, List.set_cons_succ])
    refine wpAnyH_take (i := 9) (v := ?_) rfl (by kernel_rfl) (by kernel_rfl) (by kernel_rfl) (fun _ _ _ h => h) (Or.inl ⟨by rfl, ?_⟩) hHeld ?_
    rotate_left
    · intro w hSw; (try dsimp only at hSw); (go_simp; try with_reducible rfl)
    (try simp only [Act.put, List.getElem_toArray, List.getElem_cons_succ, List.getElem_cons_zero, List.setIfInBounds_toArray, List.set_cons_zero, List.set_cons_succ])
    refine wpAnyH_take (i := 10) (v := .pointer (some ⟨gj, 1, none⟩)) rfl (by kernel_rfl) (by kernel_rfl) (by kernel_rfl) (fun _ _ _ h => h) (Or.inl ⟨by rfl, ?_⟩) hHeld ?_
    · intro w hSw; (try dsimp only at hSw); (go_simp; try with_reducible rfl)
    (try simp only [Act.put, List.getElem_toArray, List.getElem_cons_succ, List.getElem_cons_zero, List.setIfInBounds_toArray, List.set_cons_zero, List.set_cons_succ])
    refine wpAnyH_take (i := 11) (v := .slice (some ⟨tb, o, none⟩) 1 jc) rfl (by kernel_rfl) (by kernel_rfl) (by kernel_rfl) (fun _ _ _ h => h) (Or.inl ⟨by rfl, ?_⟩) hHeld ?_
    · intro w hSw; (try dsimp only at hSw); obtain ⟨c0, c1, c2, -⟩ := erow3_facts (Ok.row' hSw rj.out); (go_simp; try with_reducible rfl)
    (try simp only [Act.put, List.getElem_toArray, List.getElem_cons_succ, List.getElem_cons_zero, List.setIfInBounds_toArray, List.set_cons_zero, List.set_cons_succ])
    refine wpAnyH_take (i := 12) (v := .int .i64 1) rfl (by kernel_rfl) (by kernel_rfl) (by kernel_rfl) (fun _ _ _ h => h) (Or.inl ⟨by rfl, ?_⟩) hHeld ?_
    · intro w hSw; (try dsimp only at hSw); (go_simp; try with_reducible rfl)
    (try simp only [Act.put, List.getElem_toArray, List.getElem_cons_succ, List.getElem_cons_zero, List.setIfInBounds_toArray, List.set_cons_zero, List.set_cons_succ])
    refine wpAnyH_take (i := 13) (v := .bool true) rfl (by kernel_rfl) (by kernel_rfl) (by kernel_rfl) (fun _ _ _ h => h) (Or.inl ⟨by rfl, ?_⟩) hHeld ?_
    · intro w hSw; (try dsimp only at hSw); (go_simp; try with_reducible rfl)
    (try simp only [Act.put, List.getElem_toArray, List.getElem_cons_succ, List.getElem_cons_zero, List.setIfInBounds_toArray, List.set_cons_zero, List.set_cons_succ])
    refine wpAnyH_take (i := 14) (v := ?_) rfl (by kernel_rfl) (by kernel_rfl) (by kernel_rfl) (fun _ _ _ h => h) (Or.inl ⟨by rfl, ?_⟩) hHeld ?_
    rotate_left
    · intro w hSw; (try dsimp only at hSw); (go_simp; try with_reducible rfl)
    (try simp only [Act.put, List.getElem_toArray, List.getElem_cons_succ, List.getElem_cons_zero, List.setIfInBounds_toArray, List.set_cons_zero, List.set_cons_succ])
    refine wpAnyH_take (i := 15) (v := ?_) rfl (by kernel_rfl) (by kernel_rfl) (by kernel_rfl) (fun _ _ _ h => h) (Or.inl ⟨by rfl, ?_⟩) hHeld ?_
    rotate_left
    · intro w hSw; (try dsimp only at hSw); (go_simp; try with_reducible rfl)
    (try simp only [Act.put, List.getElem_toArray, List.getElem_cons_succ, List.getElem_cons_zero, List.setIfInBounds_toArray, List.set_cons_zero, List.set_cons_succ])
    refine wpAnyH_take (i := 16) (v := .pointer (some ⟨gj, 1, none⟩)) rfl (by kernel_rfl) (by kernel_rfl) (by kernel_rfl) (fun _ _ _ h => h) (Or.inl ⟨by rfl, ?_⟩) hHeld ?_
    · intro w hSw; (try dsimp only at hSw); (go_simp; try with_reducible rfl)
    (try simp only [Act.put, List.getElem_toArray, List.getElem_cons_succ, List.getElem_cons_zero, List.setIfInBounds_toArray, List.set_cons_zero, List.set_cons_succ])
    refine wpAnyH_take (i := 17) (v := .slice (some ⟨tb, o, none⟩) 1 jc) rfl (by kernel_rfl) (by kernel_rfl) (by kernel_rfl) (fun _ _ _ h => h) (Or.inl ⟨by rfl, ?_⟩) hHeld ?_
    · intro w hSw; (try dsimp only at hSw); obtain ⟨c0, c1, c2, -⟩ := erow3_facts (Ok.row' hSw rj.out); (go_simp; try with_reducible rfl)
    (try simp only [Act.put, List.getElem_toArray, List.getElem_cons_succ, List.getElem_cons_zero, List.setIfInBounds_toArray, List.set_cons_zero, List.set_cons_succ])
    refine wpAnyH_take (i := 18) (v := .pointer (some ⟨tb, o, none⟩)) rfl (by kernel_rfl) (by kernel_rfl) (by kernel_rfl) (fun _ _ _ h => h) (Or.inl ⟨by rfl, ?_⟩) hHeld ?_
    · intro w hSw; (try dsimp only at hSw); (go_simp; try with_reducible rfl)
    (try simp only [Act.put, List.getElem_toArray, List.getElem_cons_succ, List.getElem_cons_zero, List.setIfInBounds_toArray, List.set_cons_zero, List.set_cons_succ])
    refine wpAnyH_take (i := 19) (v := .agg #[.bool nj.2.2.2.2, .int .i64 nj.1, .int .i64 nj.2.1, .int .u64 (nj.2.2.1 : Int), .int .u64 (nj.2.2.2.1 : Int)]) rfl (by kernel_rfl) (by kernel_rfl) (by kernel_rfl) (fun _ _ _ h => h) (Or.inl ⟨by rfl, ?_⟩) hHeld ?_
    · intro w hSw; (try dsimp only at hSw); have y0 := Ok.cell hSw htb CJ.out.1; have y1 := Ok.cell hSw htb CJ.out.2.1; have y2 := Ok.cell hSw htb CJ.out.2.2.1; have y3 := Ok.cell hSw htb CJ.out.2.2.2.1; have y4 := Ok.cell hSw htb CJ.out.2.2.2.2; (go_simp; try with_reducible rfl)
    (try simp only [Act.put, List.getElem_toArray, List.getElem_cons_succ, List.getElem_cons_zero, List.setIfInBounds_toArray, List.set_cons_zero, List.set_cons_succ])
    refine wpAnyH_ready (rs := [20]) (by kernel_rfl) (by simp) ?_
    refine AllReadyH.cons rfl (fun K hK => ?_) AllReadyH.nil
    go_simp
    refine (nhas_any nj 4 LJ.out.1 V3 _ hHeld).mono ?_
    rintro e1 w' ⟨rfl, hb⟩
    rw [FJ.out]
    dsimp only
    refine hK.out _ _ hb (fun hHeld => ?_)
    clear hK K hb
    (try simp only [Act.put, List.getElem_toArray, List.getElem_cons_succ, List.getElem_cons_zero, List.setIfInBounds_toArray, List.set_cons_zero, List.set_cons_succ])
    refine wpAnyH_take (i := 21) (v := ?_) rfl (by kernel_rfl) (by kernel_rfl) (by kernel_rfl) (fun _ _ _ h => h) (Or.inl ⟨by rfl, ?_⟩) hHeld ?_
    rotate_left
    · intro w hSw; (try dsimp only at hSw); (go_simp; try with_reducible rfl)
    (try simp only [Act.put, List.getElem_toArray, List.getElem_cons_succ, List.getElem_cons_zero, List.setIfInBounds_toArray, List.set_cons_zero, List.set_cons_succ])
    refine wpAnyH_take (i := 22) (v := ?_) rfl (by kernel_rfl) (by kernel_rfl) (by kernel_rfl) (fun _ _ _ h => h) (Or.inl ⟨by rfl, ?_⟩) hHeld ?_
    rotate_left
    · intro w hSw; (try dsimp only at hSw); (go_simp; try with_reducible rfl)
    (try simp only [Act.put, List.getElem_toArray, List.getElem_cons_succ, List.getElem_cons_zero, List.setIfInBounds_toArray, List.set_cons_zero, List.set_cons_succ])
    refine wpAnyH_take (i := 23) (v := .agg #[.bool false, .slice (some ⟨s1, 0, none⟩) 1 1, .slice none 0 0]) rfl (by kernel_rfl) (by kernel_rfl) (by kernel_rfl) (fun _ _ _ h => h) (Or.inl ⟨by rfl, ?_⟩) hHeld ?_
    · intro w hSw; (try dsimp only at hSw); obtain ⟨c0, c1, c2, -⟩ := erow3_facts (Ok.row' hSw rga.out); (go_simp; try with_reducible rfl)
    (try simp only [Act.put, List.getElem_toArray, List.getElem_cons_succ, List.getElem_cons_zero, List.setIfInBounds_toArray, List.set_cons_zero, List.set_cons_succ])
    refine wpAnyH_take (i := 24) (v := .agg #[.bool false, .slice (some ⟨s5, 0, none⟩) 1 1, .slice none 0 0]) rfl (by kernel_rfl) (by kernel_rfl) (by kernel_rfl) (fun _ _ _ h => h) (Or.inl ⟨by rfl, ?_⟩) hHeld ?_
    · intro w hSw; (try dsimp only at hSw); obtain ⟨c0, c1, c2, -⟩ := erow3_facts (Ok.row' hSw rgb.out); (go_simp; try with_reducible rfl)
    (try simp only [Act.put, List.getElem_toArray, List.getElem_cons_succ, List.getElem_cons_zero, List.setIfInBounds_toArray, List.set_cons_zero, List.set_cons_succ])
    refine wpAnyH_ready (rs := [25]) (by kernel_rfl) (by simp) ?_
    refine AllReadyH.cons rfl (fun K hK => ?_) AllReadyH.nil
    go_simp
    refine (eMeet_at (ofE n1) (ofE n5) _ _ (ofE_raw L1.out.1) (ofE_raw L5.out.1) V3 _ hHeld Ega.out Egb.out).mono ?_
    rintro e1 w' ⟨r, rfl, hE, hb⟩
    obtain ⟨mo, mc, mp, md, e3, _, _, _, _⟩ := hE
    subst e3
    rw [FC.out]
    dsimp only
    refine hK.out _ _ hb (fun hHeld => ?_)
    clear hK K hb
    (try simp only [Act.put, List.getElem_toArray, List.getElem_cons_succ, List.getElem_cons_zero, List.setIfInBounds_toArray, List.set_cons_zero, List.set_cons_succ])
    refine wpAnyH_take (i := 26) (v := .bool false) rfl (by kernel_rfl) (by kernel_rfl) (by kernel_rfl) (fun _ _ _ h => h) (Or.inl ⟨by rfl, ?_⟩) hHeld ?_
    · intro w hSw; (try dsimp only at hSw); have hf := fld0; (go_simp; try with_reducible rfl)
    (try simp only [Act.put, List.getElem_toArray, List.getElem_cons_succ, List.getElem_cons_zero, List.setIfInBounds_toArray, List.set_cons_zero, List.set_cons_succ])
    refine wpAnyH_take (i := 27) (v := ?_) rfl (by kernel_rfl) (by kernel_rfl) (by kernel_rfl) (fun _ _ _ h => h) (Or.inl ⟨by rfl, ?_⟩) hHeld ?_
    rotate_left
    · intro w hSw; (try dsimp only at hSw); (go_simp; try with_reducible rfl)
    (try simp only [Act.put, List.getElem_toArray, List.getElem_cons_succ, List.getElem_cons_zero, List.setIfInBounds_toArray, List.set_cons_zero, List.set_cons_succ])
    refine wpAnyH_take (i := 28) (v := ?_) rfl (by kernel_rfl) (by kernel_rfl) (by kernel_rfl) (fun _ _ _ h => h) (Or.inl ⟨by rfl, ?_⟩) hHeld ?_
    rotate_left
    · intro w hSw; (try dsimp only at hSw); (go_simp; try with_reducible rfl)
    (try simp only [Act.put, List.getElem_toArray, List.getElem_cons_succ, List.getElem_cons_zero, List.setIfInBounds_toArray, List.set_cons_zero, List.set_cons_succ])
    refine wpAnyH_take (i := 29) (v := ?_) rfl (by kernel_rfl) (by kernel_rfl) (by kernel_rfl) (fun _ _ _ h => h) (Or.inl ⟨by rfl, ?_⟩) hHeld ?_
    rotate_left
    · intro w hSw; (try dsimp only at hSw); (go_simp; try with_reducible rfl)
    (try simp only [Act.put, List.getElem_toArray, List.getElem_cons_succ, List.getElem_cons_zero, List.setIfInBounds_toArray, List.set_cons_zero, List.set_cons_succ])
    refine wpAnyH_take (i := 30) (v := .agg #[.bool false, .slice (some ⟨s1, 0, none⟩) 1 1, .slice none 0 0]) rfl (by kernel_rfl) (by kernel_rfl) (by kernel_rfl) (fun _ _ _ h => h) (Or.inl ⟨by rfl, ?_⟩) hHeld ?_
    · intro w hSw; (try dsimp only at hSw); obtain ⟨c0, c1, c2, -⟩ := erow3_facts (Ok.row' hSw rga.out); (go_simp; try with_reducible rfl)
    (try simp only [Act.put, List.getElem_toArray, List.getElem_cons_succ, List.getElem_cons_zero, List.setIfInBounds_toArray, List.set_cons_zero, List.set_cons_succ])
    refine wpAnyH_ready (rs := [31]) (by kernel_rfl) (by simp) ?_
    refine AllReadyH.cons rfl (fun K hK => ?_) AllReadyH.nil
    go_simp
    refine (nconst_any 2 V3 _ hHeld).mono ?_
    rintro e1 wz ⟨rfl, hb⟩
    rw [H2.out]
    unfold nv
    dsimp only
    refine hK.out _ _ hb (fun hHeld => ?_)
    clear hK K hb
    (try simp only [Act.put, List.getElem_toArray, List.getElem_cons_succ, List.getElem_cons_zero, List.setIfInBounds_toArray, List.set_cons_zero, List.set_cons_succ])
    refine wpAnyH_ready (rs := [32]) (by kernel_rfl) (by simp) ?_
    refine AllReadyH.cons rfl (fun K hK => ?_) AllReadyH.nil
    go_simp
    obtain ⟨ub, hub⟩ : ∃ Y, Y = wz.alloc (.cells #[.bool n2.2.2.2.2, .int .i64 n2.1, .int .i64 n2.2.1, .int .u64 (n2.2.2.1 : Int), .int .u64 (n2.2.2.2.1 : Int)] 46) := ⟨_, rfl⟩
    have Fs0 := of_sns wz n2
    rw [← hub] at Fs0 ⊢
    have hx : Ok wz ub := by rw [hub]; exact (Ok.refl _).alloc _
    obtain ⟨s2, es⟩ : ∃ g, g = wz.heap.size := ⟨_, rfl⟩
    rw [← es] at Fs0 ⊢
    have Fs : Hid (SNs 0 ub (some ⟨s2, 0, none⟩) [n2]) := Fs0.mono (Nat.zero_le _)
    have hb := hHeld.step hx
    refine hK.out _ _ hb (fun hHeld => ?_)
    clear hK K hub es Fs0 hb
    clear hx
    (try simp only [Act.put, List.getElem_toArray, List.getElem_cons_succ, List.getElem_cons_zero, List.setIfInBounds_toArray, List.set_cons_zero, List.set_cons_succ])
    refine wpAnyH_ready (rs := [33]) (by kernel_rfl) (by simp) ?_
    refine AllReadyH.cons rfl (fun K hK => ?_) AllReadyH.nil
    go_simp
    refine (eof_any n2 _ V3 _ hHeld Fs.out).mono ?_
    rintro e1 w' ⟨rfl, hE, hb⟩
    have Fd : Hid (EnvIs 0 w' (.agg #[.bool false, .slice (some ⟨s2, 0, none⟩) 1 1, .slice none 0 0]) (ofE n2)) := hE
    clear hE Fs
    dsimp only
    refine hK.out _ _ hb (fun hHeld => ?_)
    clear hK K hb
    (try simp only [Act.put, List.getElem_toArray, List.getElem_cons_succ, List.getElem_cons_zero, List.setIfInBounds_toArray, List.set_cons_zero, List.set_cons_succ])
    refine wpAnyH_ready (rs := [34]) (by kernel_rfl) (by simp) ?_
    refine AllReadyH.cons rfl (fun K hK => ?_) AllReadyH.nil
    go_simp
    refine (eMeet_any (ofE n1) (ofE n2) _ _ (ofE_raw L1.out.1) (ofE_raw L2.out.1) _ (Ega.out.ok hHeld) Fd.out).mono ?_
    rintro e1 w' ⟨r, rfl, hE, hx⟩
    have hb := hHeld.step hx
    obtain ⟨ko, kc, kp, kd, e3, _, _, _, _⟩ := hE
    subst e3
    rw [FD.out]
    dsimp only
    refine hK.out _ _ hb (fun hHeld => ?_)
    clear hK K hb
    (try simp only [Act.put, List.getElem_toArray, List.getElem_cons_succ, List.getElem_cons_zero, List.setIfInBounds_toArray, List.set_cons_zero, List.set_cons_succ])
    refine wpAnyH_take (i := 35) (v := .bool true) rfl (by kernel_rfl) (by kernel_rfl) (by kernel_rfl) (fun _ _ _ h => h) (Or.inl ⟨by rfl, ?_⟩) hHeld ?_
    · intro w hSw; (try dsimp only at hSw); have hf := fld0; (go_simp; try with_reducible rfl)
    (try simp only [Act.put, List.getElem_toArray, List.getElem_cons_succ, List.getElem_cons_zero, List.setIfInBounds_toArray, List.set_cons_zero, List.set_cons_succ])
    refine wpAnyH_take (i := 36) (v := ?_) rfl (by kernel_rfl) (by kernel_rfl) (by kernel_rfl) (fun _ _ _ h => h) (Or.inl ⟨by rfl, ?_⟩) hHeld ?_
    rotate_left
    · intro w hSw; (try dsimp only at hSw); (go_simp; try with_reducible rfl)
    (try simp only [Act.put, List.getElem_toArray, List.getElem_cons_succ, List.getElem_cons_zero, List.setIfInBounds_toArray, List.set_cons_zero, List.set_cons_succ])
    refine wpAnyH_ready (rs := [37]) (by kernel_rfl) (by simp) ?_
    refine AllReadyH.cons rfl (fun K hK => ?_) AllReadyH.nil
    go_simp
    refine hK.out _ _ hHeld (fun hHeld => ?_)
    clear hK K
    (try simp only [Act.put, List.getElem_toArray, List.getElem_cons_succ, List.getElem_cons_zero, List.setIfInBounds_toArray, List.set_cons_zero, List.set_cons_succ])
    refine wpAnyH_done (by kernel_rfl) ?_ _
    go_wp2_with fail
    go_ret
    exact ⟨rfl, HO.out.step (KV3.out.step hHeld)⟩
end Go.Proofs.Ytbkblijoimmdeaa
