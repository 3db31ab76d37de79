import Derived.Test.YtjngjanheoeojaaDoorRlh
/- The document's lines: every list of parts. -/
namespace Go.Proofs.YtjngjanheoeojaaDoor
set_option linter.unusedVariables false
set_option linter.unusedSimpArgs false
set_option linter.unnecessarySimpa false
open Go.RowKit
set_option maxRecDepth 1000000 in
set_option maxHeartbeats 60000000 in
theorem rlines_step (P : Parts) (IHL : ∀ Q : Parts, (nodesOf Q).length < (nodesOf P).length → RlC Q) : RlC P := by
  intro q b o cap pre post v w hSt hE hN hlen hG hq hPl
  obtain ⟨A, gc, rfl, hgA⟩ := hPl.form
  have hpl := places_len pre.length P
  obtain ⟨ns, hns⟩ : ∃ ns, ns = pre ++ (nodesOf P ++ post) := ⟨_, rfl⟩
  rw [← hns] at hN hlen ⊢
  have hl3 : (ns.length : Int) ≤ 300 := by omega
  have hPn : P.length ≤ 300 := by
    have h1 : ∀ Q : Parts, (∀ p ∈ Q, St q p.1 p.2) → Q.length ≤ (nodesOf Q).length := by
      intro Q
      induction Q with
      | nil => intro _; simp
      | cons p Q ih =>
        intro h
        obtain ⟨a, A⟩ := p
        have h2 := ih (fun p hp => h p (List.mem_cons_of_mem _ hp))
        have h3 := (h (a, A) List.mem_cons_self).segD.pos
        rw [nodesOf_cons]; simp at h3 ⊢; omega
    have h4 := h1 P hSt
    rw [hns] at hlen
    simp at hlen
    omega
  have hz := hN.lt
  have hne0 : ¬ b = w.heap.size := by omega
  have hpl3 : ((places pre.length P).length : Int) ≤ 300 := by rw [hpl]; omega
  have HGA : Hid _ := hgA
  have HST : Hid _ := hSt
  have HEN : Hid _ := hE
  have HN : Hid _ := hN
  have HG : Hid _ := hG
  have HNS : Hid _ := hns
  have HIL : Hid _ := IHL
  have HPL : Hid _ := hpl
  have HPN : Hid _ := hPn
  have hindl : (ind q).length ≤ 24 := by unfold ind; simp; omega
  clear hgA hSt hE hN hG hns IHL hPl hpl hPn
  rw [HPL.out] at hpl3 ⊢
  go_enter Tryd.func15, Tryd.ntmps15
  go_wp2_with fail
  refine (Tryd.strings_Repeat ⟨#[32, 32]⟩ q _ (by omega) (by have : (⟨#[32, 32]⟩ : ByteArray).size = 2 := rfl; rw [this]; omega)).mono ?_
  rintro y w1 ⟨rfl, hb1⟩
  rw [show Lib.repeatL (⟨#[32, 32]⟩ : ByteArray).data.toList q = ind q from repeat2 q]
  have HB1 : Hid _ := hb1
  clear hb1
  go_wp2_with fail
  go_loopw [7, 9] (fun u t wr => ∃ P1 P2 : Parts, t = .int .i64 P1.length ∧ Hid (P = P1 ++ P2) ∧ Hid (wr.ownsRow w.heap.size 9 1 u (linesOf P1).length (strs (linesOf P1))) ∧ Hid (Below w.heap.size w wr)) (fun _ t _ => P.length - (intOf t).toNat)
  case atStart => exact ⟨[], P, rfl, rfl, ⟨rfl, .inl ⟨rfl, rfl⟩⟩, HB1⟩
  case round =>
    obtain ⟨P1, P2, rfl, HPP, HO, HB⟩ := hrel
    have hz0 := HB.out.size
    cases P2 with
    | nil =>
      have hpe : P.length = P1.length := by rw [HPP.out, List.append_nil]
      have hnl : ¬ (P1.length : Int) < (P.length : Int) := by omega
      go_wp2_with fail
      go_ret
      refine ⟨_, rfl, ?_, HB.out⟩
      have h9 := HO.out
      rw [show P = P1 by rw [HPP.out, List.append_nil]]
      exact h9
    | cons p P3 =>
      obtain ⟨l, M⟩ := p
      have hlt : P1.length < P.length := by rw [HPP.out]; simp
      have hlt' : (P1.length : Int) < (P.length : Int) := by omega
      have hplt : P1.length < (places pre.length P).length := by rw [HPL.out]; exact hlt
      obtain ⟨g, rfl, hg, hgc⟩ := HGA.out (by omega)
      have hat : w.cell? ⟨g, P1.length, none⟩ = some (.int .i64 ((pre.length + (nodesOf P1).length : Nat) : Int)) := by
        have h9 := hgc P1.length hplt
        have h8 : (places pre.length P)[P1.length]'hplt = pre.length + (nodesOf P1).length := by
          have : ∀ (Q : Parts) (hQ : Q = P1 ++ (l, M) :: P3) (h : P1.length < (places pre.length Q).length), (places pre.length Q)[P1.length] = pre.length + (nodesOf P1).length := by
            intro Q hQ h
            subst hQ
            exact places_get _ _ _ _ _ _
          exact this P HPP.out hplt
        rw [h8] at h9
        exact h9
      have atk : wr.cell? ⟨g, P1.length, none⟩ = some (.int .i64 ((pre.length + (nodesOf P1).length : Nat) : Int)) := (HB.out.cell (p := ⟨g, P1.length, none⟩) hg).trans hat
      have HSt : Hid (St q l M) := HST.out (l, M) (by rw [HPP.out]; simp)
      have hS3 : ∀ p ∈ P3, St q p.1 p.2 := fun p hp => HST.out p (by rw [HPP.out]; simp [hp])
      have HEP : Hid (Ends (2 * q + 1) (nodesOf P3 ++ post)) := by
        have h9 := segs_ends (d := 2 * q + 1) (P3.map (·.1)) (fun g hg => by obtain ⟨p, hp, rfl⟩ := List.mem_map.1 hg; exact (hS3 p hp).segD) post (by have := HEN.out; exact this)
        exact h9
      have HNX : Hid (ns = (pre ++ nodesOf P1) ++ (l ++ (nodesOf P3 ++ post))) := by
        unfold Hid
        rw [HNS.out, HPP.out, nodesOf_app, nodesOf_cons]; simp
      obtain ⟨i, hi⟩ : ∃ i, i = pre.length + (nodesOf P1).length := ⟨_, rfl⟩
      rw [← hi] at atk
      have HI : Hid (i = (pre ++ nodesOf P1).length) := by unfold Hid; rw [hi, List.length_append]
      have HLL : Hid ((linesOf P1).length + M.length ≤ 60000) := by
        unfold Hid
        have h1 := parts_len (P1 ++ (l, M) :: P3) (fun p hp => HST.out p (by rw [HPP.out]; exact hp))
        have h2 := lines_le (linesOf (P1 ++ (l, M) :: P3))
        have h3 : (nodesOf (P1 ++ (l, M) :: P3)).length ≤ 300 := by
          rw [← HPP.out]; rw [HNS.out] at hlen; simp at hlen; omega
        have h4 : (linesOf (P1 ++ (l, M) :: P3)).length = (linesOf P1).length + (M.length + (linesOf P3).length) := by rw [linesOf_app, linesOf_cons]; simp
        omega
      have hgw : g < wr.heap.size := by omega
      have hbw : b < wr.heap.size := by omega
      have hne1 : ¬ g = wr.heap.size := by omega
      have hne2 : ¬ b = wr.heap.size := by omega
      clear hat hgc hplt hi hS3
      obtain ⟨i0, hi0, hy0, hy1, hy2⟩ := info_parts Tryd.info9
      have hst := HSt.out
      cases hst using St.cas with
      | var q n hd hf hk =>
        as_aux_lemma =>
          have hA0 := at_segs (n := n) (pre := pre ++ nodesOf P1) (post := nodesOf P3 ++ post) ([]) (d := 2 * q + 1) hd (by simp) HEP.out
          have e0 : (pre ++ nodesOf P1) ++ (n :: ([] : List (List Nd)).flatten ++ (nodesOf P3 ++ post)) = ns := by rw [HNX.out]; simp
          rw [e0, ← HI.out] at hA0
          have hA : At ns i n [] := hA0
          have hil := hA.lt
          have hi3 : (i : Int) < (ns.length : Int) := by omega
          obtain ⟨c0, c1, c2, c3, c4, c5⟩ := hA.node (HN.out.below HB.out)
          rw [hk] at c1
          have HH : Hid (∀ w', Below w.heap.size w w' → Calls Tryd.prog 30 #[.slice (some ⟨b, o, none⟩) ns.length cap, .int .i64 i] w' fun y w2 => ∃ v, y = .returned v ∧ w2.ownsRow w'.heap.size 3 1 v ([] : List Nat).length (ints []) ∧ Below w'.heap.size w' w2) := fun w' hb => hA.held_any b o cap w' (HN.out.below hb) hlen
          have hB0 : Below wr.heap.size wr (wr.alloc (.cells #[.int .i64 n.depth, .int .i64 n.kind, .string n.name, .int .i64 n.num, .int .i64 n.op, .int .i64 n.pos] 31)) := (Below.refl _ _).alloc (Nat.le_refl _) _
          have HN0 : Hid (NdAt (wr.alloc (.cells #[.int .i64 n.depth, .int .i64 n.kind, .string n.name, .int .i64 n.num, .int .i64 n.op, .int .i64 n.pos] 31)) wr.heap.size n) := heap_alloc_new _ _
          rw [hk] at hB0
          simp only [hk] at HN0
          have HB0 : Hid (Below w.heap.size w _) := HB.out.trans (hB0.mono hz0)
          have HO0 : Hid _ := own_below HO.out hB0
          have hnm := hf.name
          rw [toList_len] at hnm
          have HHK : Hid _ := hk
          have HHD : Hid _ := hd
          clear hA0 e0 hA hB0 hk hd
          have atk0 : (wr.alloc (.cells #[.int .i64 n.depth, .int .i64 0, .string n.name, .int .i64 n.num, .int .i64 n.op, .int .i64 n.pos] 31)).cell? ⟨g, P1.length, none⟩ = some (.int .i64 i) := by
            rw [((Below.refl wr.heap.size wr).alloc (Nat.le_refl _) _).cell (p := ⟨g, P1.length, none⟩) hgw]; exact atk
          go_wp2_with fail
          refine (HH.out _ HB0.out).mono ?_
          rintro y w2 ⟨vh, rfl, ho2, hb2⟩
          have HB2 : Hid (Below w.heap.size w w2) := HB0.out.trans (hb2.mono HB0.out.size)
          have HN2 : Hid (NdAt w2 wr.heap.size n) := HN0.out.below hb2
          have HO2 : Hid (w2.ownsRow w.heap.size 9 1 _ (linesOf P1).length (strs (linesOf P1))) := own_below HO0.out hb2
          have HR2 : Hid _ := ho2
          have hz2 := HN2.out.lt
          have hz2w := HB2.out.size
          clear hb2 ho2 c0 c1 c2 c3 c4 c5 atk0
          obtain ⟨d0, d1, d2, d3, d4, d5⟩ := HN2.out.cells
          rw [HHK.out] at d1
          have q1a : ¬ 9223372036854775807 < (ind q).length + 4 := by omega
          have q1b : (ind q).length + 4 ≤ 9223372036854775807 := by omega
          have q1c : decide (9223372036854775807 < (ind q).length + 4) = false := decide_eq_false (by omega)
          have q2a : ¬ 9223372036854775807 < (ind q).length + 4 + n.name.size := by omega
          have q2b : (ind q).length + 4 + n.name.size ≤ 9223372036854775807 := by omega
          have q2c : decide (9223372036854775807 < (ind q).length + 4 + n.name.size) = false := decide_eq_false (by omega)
          have q3a : ¬ 9223372036854775807 < (ind q).length + 4 + n.name.size + 1 := by omega
          have q3b : (ind q).length + 4 + n.name.size + 1 ≤ 9223372036854775807 := by omega
          have q3c : decide (9223372036854775807 < (ind q).length + 4 + n.name.size + 1) = false := decide_eq_false (by omega)
          go_wp2_with (at_builtin; refine wpList_append_own _ rfl _ _ 41 rfl w.heap.size 9 i0 (.string ⟨#[]⟩) 1 16 Tryd.underlying41 hi0 hy0 hy1 hy2 rfl (by decide) _ _ _ rfl (own_below HO2.out ((Below.refl _ _).alloc (Nat.le_refl _) _)) ⟨w2.heap.size, 0, none⟩ 1 1 [.string (⟨(ind q).toArray⟩ ++ ⟨#[118, 97, 114, 32]⟩ ++ n.name ++ ⟨#[59]⟩)] rfl rfl ?ap1 ?ap2 ?ap3 ?ap4 ?ap5 ?_)
          case ap1 =>
            intro j u hj
            match j, hj with
            | 0, hj => simp at hj; subst hj; simp [Addr.add, go_sem]
          case ap2 => intro u hu; simp at hu; subst hu; rfl
          case ap3 => have := HLL.out; simp [maxLen] at this ⊢; omega
          case ap4 => have := HLL.out; simp at this ⊢; omega
          case ap5 => simp; omega
          intro u' w3 hown' hgrow _
          have HO3 : Hid _ := hown'
          have HB3 : Hid (Below w.heap.size w w3) := (HB2.out.alloc (by omega) _).grown hgrow (by simp; omega) (own_base HO2.out)
          clear hown' hgrow
          go_wp2_with fail
          go_roundw
          case rel =>
            refine ⟨P1 ++ [([n], [ind q ++ ([118, 97, 114, 32] ++ (n.name.toList ++ [59]))])], P3, by simp, ?_, ?_, HB3⟩
            · unfold Hid; rw [HPP.out]; simp
            · unfold Hid
              have h9 := HO3.out
              rw [linesOf_snoc, List.length_append]
              unfold strs at h9 ⊢
              rw [List.map_append]
              rw [show (⟨(ind q).toArray⟩ ++ ⟨#[118, 97, 114, 32]⟩ ++ n.name ++ ⟨#[59]⟩ : ByteArray) = ⟨(ind q ++ ([118, 97, 114, 32] ++ (n.name.toList ++ [59]))).toArray⟩ from bs_eq (by simp [ByteArray.toList_eq])] at h9
              exact h9
          case measure => simp [intOf]; omega
      | array q n hd hf hk =>
        as_aux_lemma =>
          have hops := hf.ops
          rw [hk] at hops
          simp [rMost] at hops
          have HU1 : Hid (-9223372036854775808 ≤ n.num) := by unfold Hid; omega
          have HU2 : Hid (n.num ≤ 9223372036854775807) := by unfold Hid; omega
          have hit := Lib.itoa_length_le n.num HU1.out HU2.out
          clear hops
          have hA0 := at_segs (n := n) (pre := pre ++ nodesOf P1) (post := nodesOf P3 ++ post) ([]) (d := 2 * q + 1) hd (by simp) HEP.out
          have e0 : (pre ++ nodesOf P1) ++ (n :: ([] : List (List Nd)).flatten ++ (nodesOf P3 ++ post)) = ns := by rw [HNX.out]; simp
          rw [e0, ← HI.out] at hA0
          have hA : At ns i n [] := hA0
          have hil := hA.lt
          have hi3 : (i : Int) < (ns.length : Int) := by omega
          obtain ⟨c0, c1, c2, c3, c4, c5⟩ := hA.node (HN.out.below HB.out)
          rw [hk] at c1
          have HH : Hid (∀ w', Below w.heap.size w w' → Calls Tryd.prog 30 #[.slice (some ⟨b, o, none⟩) ns.length cap, .int .i64 i] w' fun y w2 => ∃ v, y = .returned v ∧ w2.ownsRow w'.heap.size 3 1 v ([] : List Nat).length (ints []) ∧ Below w'.heap.size w' w2) := fun w' hb => hA.held_any b o cap w' (HN.out.below hb) hlen
          have hB0 : Below wr.heap.size wr (wr.alloc (.cells #[.int .i64 n.depth, .int .i64 n.kind, .string n.name, .int .i64 n.num, .int .i64 n.op, .int .i64 n.pos] 31)) := (Below.refl _ _).alloc (Nat.le_refl _) _
          have HN0 : Hid (NdAt (wr.alloc (.cells #[.int .i64 n.depth, .int .i64 n.kind, .string n.name, .int .i64 n.num, .int .i64 n.op, .int .i64 n.pos] 31)) wr.heap.size n) := heap_alloc_new _ _
          rw [hk] at hB0
          simp only [hk] at HN0
          have HB0 : Hid (Below w.heap.size w _) := HB.out.trans (hB0.mono hz0)
          have HO0 : Hid _ := own_below HO.out hB0
          have hnm := hf.name
          rw [toList_len] at hnm
          have HHK : Hid _ := hk
          have HHD : Hid _ := hd
          clear hA0 e0 hA hB0 hk hd
          have atk0 : (wr.alloc (.cells #[.int .i64 n.depth, .int .i64 1, .string n.name, .int .i64 n.num, .int .i64 n.op, .int .i64 n.pos] 31)).cell? ⟨g, P1.length, none⟩ = some (.int .i64 i) := by
            rw [((Below.refl wr.heap.size wr).alloc (Nat.le_refl _) _).cell (p := ⟨g, P1.length, none⟩) hgw]; exact atk
          go_wp2_with fail
          refine (HH.out _ HB0.out).mono ?_
          rintro y w2 ⟨vh, rfl, ho2, hb2⟩
          have HB2 : Hid (Below w.heap.size w w2) := HB0.out.trans (hb2.mono HB0.out.size)
          have HN2 : Hid (NdAt w2 wr.heap.size n) := HN0.out.below hb2
          have HO2 : Hid (w2.ownsRow w.heap.size 9 1 _ (linesOf P1).length (strs (linesOf P1))) := own_below HO0.out hb2
          have HR2 : Hid _ := ho2
          have hz2 := HN2.out.lt
          have hz2w := HB2.out.size
          clear hb2 ho2 c0 c1 c2 c3 c4 c5 atk0
          obtain ⟨d0, d1, d2, d3, d4, d5⟩ := HN2.out.cells
          rw [HHK.out] at d1
          have q21a : ¬ 9223372036854775807 < (ind q).length + 6 := by omega
          have q21b : (ind q).length + 6 ≤ 9223372036854775807 := by omega
          have q21c : decide (9223372036854775807 < (ind q).length + 6) = false := decide_eq_false (by omega)
          have q22a : ¬ 9223372036854775807 < (ind q).length + 6 + n.name.size := by omega
          have q22b : (ind q).length + 6 + n.name.size ≤ 9223372036854775807 := by omega
          have q22c : decide (9223372036854775807 < (ind q).length + 6 + n.name.size) = false := decide_eq_false (by omega)
          have q23a : ¬ 9223372036854775807 < (ind q).length + 6 + n.name.size + 1 := by omega
          have q23b : (ind q).length + 6 + n.name.size + 1 ≤ 9223372036854775807 := by omega
          have q23c : decide (9223372036854775807 < (ind q).length + 6 + n.name.size + 1) = false := decide_eq_false (by omega)
          have q24a : ¬ 9223372036854775807 < (ind q).length + 6 + n.name.size + 1 + (Lib.itoa n.num).length := by omega
          have q24b : (ind q).length + 6 + n.name.size + 1 + (Lib.itoa n.num).length ≤ 9223372036854775807 := by omega
          have q24c : decide (9223372036854775807 < (ind q).length + 6 + n.name.size + 1 + (Lib.itoa n.num).length) = false := decide_eq_false (by omega)
          have q25a : ¬ 9223372036854775807 < (ind q).length + 6 + n.name.size + 1 + (Lib.itoa n.num).length + 2 := by omega
          have q25b : (ind q).length + 6 + n.name.size + 1 + (Lib.itoa n.num).length + 2 ≤ 9223372036854775807 := by omega
          have q25c : decide (9223372036854775807 < (ind q).length + 6 + n.name.size + 1 + (Lib.itoa n.num).length + 2) = false := decide_eq_false (by omega)
          have hob : ∀ k, u7.ownBlock = some k → k < wr.heap.size := fun k hk => (World.ownsRow.lt HO.out k hk).2
          have hob1 : u7.ownBlock ≠ some wr.heap.size := fun h => by have := hob _ h; omega
          have hz2n : ¬ wr.heap.size = w2.heap.size := by omega
          have HOB : Hid _ := hob
          clear hob
          have HL63 : Hid ((linesOf P1).length + 1 ≤ maxLen) := by have := HLL.out; simp [maxLen, Hid] at this ⊢; omega
          have HLby : Hid (((linesOf P1).length + 1) * 16 ≤ 140737488355328) := by have := HLL.out; simp [Hid] at this ⊢; omega
          go_wp2_with fail
          go_region_held3 (fun w' => w'.cell? ⟨wr.heap.size, 2, none⟩ = some (.string n.name) ∧ w'.cell? ⟨wr.heap.size, 3, none⟩ = some (.int .i64 n.num))
            (first | (exact ⟨d2, d3⟩) | (exact ⟨dn3, du3⟩) | (exact ⟨(((Below.refl w3.heap.size w3).alloc (Nat.le_refl _) _).cell (p := ⟨wr.heap.size, 2, none⟩) hz3).trans dn3, (((Below.refl w3.heap.size w3).alloc (Nat.le_refl _) _).cell (p := ⟨wr.heap.size, 3, none⟩) hz3).trans du3⟩) | (exact ⟨(hgrow.cell_far _ (by first | (simp; done) | (simp; omega)) (Ne.symm hob1)).trans ((((Below.refl w3.heap.size w3).alloc (Nat.le_refl _) _).cell (p := ⟨wr.heap.size, 2, none⟩) hz3).trans dn3), (hgrow.cell_far _ (by first | (simp; done) | (simp; omega)) (Ne.symm hob1)).trans ((((Below.refl w3.heap.size w3).alloc (Nat.le_refl _) _).cell (p := ⟨wr.heap.size, 3, none⟩) hz3).trans du3)⟩) | go_keep)
            (first
            | (go_at_call 31; refine (fmt_any n.num HU1.out HU2.out _ (HG.out.below HB2.out.drew).tab).mono ?_; rintro y w3 ⟨rfl, hb3⟩; have HB3 : Hid (Below w.heap.size w w3) := HB2.out.drew.trans (hb3.mono HB2.out.size); have HN3 : Hid (NdAt w3 wr.heap.size n) := (HN2.out.below (Below.refl _ _).drew).below hb3; have HO3 : Hid (w3.ownsRow w.heap.size 9 1 u7 (linesOf P1).length (strs (linesOf P1))) := own_below (own_below HO2.out (Below.refl _ _).drew) hb3; have hz3 := HN3.out.lt; have hz3n : ¬ wr.heap.size = w3.heap.size := (by omega); have dn3 := HN3.out.cells.2.2.1; have du3 := HN3.out.cells.2.2.2.1)
            | ((refine step_append_lies _ (by rfl) _ _ _ (by rfl) w.heap.size 9 i0 _ 1 16 Tryd.underlying41 hi0 hy0 hy1 hy2 rfl (by decide) u7 (linesOf P1).length (strs (linesOf P1)) (by rfl) (own_below HO3.out ((Below.refl _ _).alloc (Nat.le_refl _) _)) ⟨w3.heap.size, 0, none⟩ 1 1 [.string (⟨(ind q).toArray⟩ ++ ⟨#[97, 114, 114, 97, 121, 32]⟩ ++ n.name ++ ⟨#[91]⟩ ++ ⟨(Lib.itoa n.num).toArray⟩ ++ ⟨#[93, 59]⟩)] (by rfl) (by rfl) (by intro j u hj; exact news_one w3 _ 9 j u hj) (by simp [Value.oneCell']) (by decide) HL63.out HLby.out (by simp; omega) (w3.heap.size + 1) (by simp) ?_; intro gg capg w4 hown4 hgrow hat4 hlt4))
            | fail)
          have HO4 : Hid _ := hown4
          have HB4 : Hid (Below w.heap.size w w4) := (HB3.out.alloc (by omega) _).grown hgrow (by simp; omega) (own_base HO3.out)
          clear hown4 hgrow hat4 hlt4
          go_wp2_with fail
          go_roundw
          case rel =>
            refine ⟨P1 ++ [([n], [ind q ++ ([97, 114, 114, 97, 121, 32] ++ (n.name.toList ++ 91 :: (Lib.itoa n.num ++ [93, 59])))])], P3, by simp, ?_, ?_, HB4⟩
            · unfold Hid; rw [HPP.out]; simp
            · unfold Hid
              have h9 := HO4.out
              rw [linesOf_snoc, List.length_append]
              unfold strs at h9 ⊢
              rw [List.map_append]
              rw [show (⟨(ind q).toArray⟩ ++ ⟨#[97, 114, 114, 97, 121, 32]⟩ ++ n.name ++ ⟨#[91]⟩ ++ ⟨(Lib.itoa n.num).toArray⟩ ++ ⟨#[93, 59]⟩ : ByteArray) = ⟨(ind q ++ ([97, 114, 114, 97, 121, 32] ++ (n.name.toList ++ 91 :: (Lib.itoa n.num ++ [93, 59])))).toArray⟩ from bs_eq (by simp [ByteArray.toList_eq])] at h9
              exact h9
          case measure => simp [intOf]; omega
      | assign q n f lv t hd hf hk hx =>
        as_aux_lemma =>
          have hA0 := at_segs (n := n) (pre := pre ++ nodesOf P1) (post := nodesOf P3 ++ post) ([f]) (d := 2 * q + 1) hd (by simp; exact hx.segD) HEP.out
          have e0 : (pre ++ nodesOf P1) ++ (n :: ([f] : List (List Nd)).flatten ++ (nodesOf P3 ++ post)) = ns := by rw [HNX.out]; simp
          rw [e0, ← HI.out] at hA0
          have hA : At ns i n [i + 1] := hA0
          have hil := hA.lt
          have hi3 : (i : Int) < (ns.length : Int) := by omega
          obtain ⟨c0, c1, c2, c3, c4, c5⟩ := hA.node (HN.out.below HB.out)
          rw [hk] at c1
          have HH : Hid (∀ w', Below w.heap.size w w' → Calls Tryd.prog 30 #[.slice (some ⟨b, o, none⟩) ns.length cap, .int .i64 i] w' fun y w2 => ∃ v, y = .returned v ∧ w2.ownsRow w'.heap.size 3 1 v ([i + 1] : List Nat).length (ints [i + 1]) ∧ Below w'.heap.size w' w2) := fun w' hb => hA.held_any b o cap w' (HN.out.below hb) hlen
          have hB0 : Below wr.heap.size wr (wr.alloc (.cells #[.int .i64 n.depth, .int .i64 n.kind, .string n.name, .int .i64 n.num, .int .i64 n.op, .int .i64 n.pos] 31)) := (Below.refl _ _).alloc (Nat.le_refl _) _
          have HN0 : Hid (NdAt (wr.alloc (.cells #[.int .i64 n.depth, .int .i64 n.kind, .string n.name, .int .i64 n.num, .int .i64 n.op, .int .i64 n.pos] 31)) wr.heap.size n) := heap_alloc_new _ _
          rw [hk] at hB0
          simp only [hk] at HN0
          have HB0 : Hid (Below w.heap.size w _) := HB.out.trans (hB0.mono hz0)
          have HO0 : Hid _ := own_below HO.out hB0
          have hnm := hf.name
          rw [toList_len] at hnm
          have HHK : Hid _ := hk
          have HHD : Hid _ := hd
          clear hA0 e0 hA hB0 hk hd
          have atk0 : (wr.alloc (.cells #[.int .i64 n.depth, .int .i64 2, .string n.name, .int .i64 n.num, .int .i64 n.op, .int .i64 n.pos] 31)).cell? ⟨g, P1.length, none⟩ = some (.int .i64 i) := by
            rw [((Below.refl wr.heap.size wr).alloc (Nat.le_refl _) _).cell (p := ⟨g, P1.length, none⟩) hgw]; exact atk
          go_wp2_with fail
          refine (HH.out _ HB0.out).mono ?_
          rintro y w2 ⟨vh, rfl, ho2, hb2⟩
          have HB2 : Hid (Below w.heap.size w w2) := HB0.out.trans (hb2.mono HB0.out.size)
          have HN2 : Hid (NdAt w2 wr.heap.size n) := HN0.out.below hb2
          have HO2 : Hid (w2.ownsRow w.heap.size 9 1 _ (linesOf P1).length (strs (linesOf P1))) := own_below HO0.out hb2
          have HR2 : Hid _ := ho2
          have hz2 := HN2.out.lt
          have hz2w := HB2.out.size
          clear hb2 ho2 c0 c1 c2 c3 c4 c5 atk0
          obtain ⟨d0, d1, d2, d3, d4, d5⟩ := HN2.out.cells
          rw [HHK.out] at d1
          have HX : Hid (∀ w', Below w.heap.size w w' → Calls Tryd.prog 32 #[.slice (some ⟨b, o, none⟩) ns.length cap, .int .i64 (i + 1 : Nat), .int .i64 1] w' fun y w2 => y = .returned (.string ⟨(brk 1 lv t).toArray⟩) ∧ Below w'.heap.size w' w2) := by
            intro w' hb
            have e9 : ((pre ++ nodesOf P1) ++ [n]) ++ (f ++ (nodesOf P3 ++ post)) = ns := by rw [HNX.out]; simp
            have h9 := rex_any hx b o cap ((pre ++ nodesOf P1) ++ [n]) (nodesOf P3 ++ post) 1 w' (HEP.out.up (by omega)) (by rw [e9]; exact HN.out.below hb) (by rw [e9]; exact hlen) (by omega) (HG.out.below hb)
            rw [e9, List.length_append, ← HI.out] at h9
            exact h9
          have hxl : (brk 1 lv t).length ≤ 60000 := by
            have h8 := hx.len
            have h7 := brk_len 1 lv t
            have h6 : f.length ≤ 300 := by rw [HNX.out] at hlen; simp at hlen; omega
            omega
          have q11a : ¬ 9223372036854775807 < (ind q).length + n.name.size := by omega
          have q11b : (ind q).length + n.name.size ≤ 9223372036854775807 := by omega
          have q11c : decide (9223372036854775807 < (ind q).length + n.name.size) = false := decide_eq_false (by omega)
          have q12a : ¬ 9223372036854775807 < (ind q).length + n.name.size + 4 := by omega
          have q12b : (ind q).length + n.name.size + 4 ≤ 9223372036854775807 := by omega
          have q12c : decide (9223372036854775807 < (ind q).length + n.name.size + 4) = false := decide_eq_false (by omega)
          have q13a : ¬ 9223372036854775807 < (ind q).length + n.name.size + 4 + (brk 1 lv t).length := by omega
          have q13b : (ind q).length + n.name.size + 4 + (brk 1 lv t).length ≤ 9223372036854775807 := by omega
          have q13c : decide (9223372036854775807 < (ind q).length + n.name.size + 4 + (brk 1 lv t).length) = false := decide_eq_false (by omega)
          have q14a : ¬ 9223372036854775807 < (ind q).length + n.name.size + 4 + (brk 1 lv t).length + 1 := by omega
          have q14b : (ind q).length + n.name.size + 4 + (brk 1 lv t).length + 1 ≤ 9223372036854775807 := by omega
          have q14c : decide (9223372036854775807 < (ind q).length + n.name.size + 4 + (brk 1 lv t).length + 1) = false := decide_eq_false (by omega)
          obtain ⟨gh, ghc, rfl, hg1, hg2, hgc⟩ := own_cells HR2.out (by simp)
          have r0 : w2.cell? ⟨gh, 0, none⟩ = some (.int .i64 ((i + 1 : Nat) : Int)) := hgc 0 (by simp)
          clear hgc
          have hob : ∀ k, u7.ownBlock = some k → k < wr.heap.size := fun k hk => (World.ownsRow.lt HO.out k hk).2
          have hob1 : u7.ownBlock ≠ some wr.heap.size := fun h => by have := hob _ h; omega
          have hob2 : u7.ownBlock ≠ some gh := fun h => by have := hob _ h; simp at hg1; omega
          have hg2n : ¬ gh = w2.heap.size := by omega
          have hz2n : ¬ wr.heap.size = w2.heap.size := by omega
          have HOB : Hid _ := hob
          clear hob
          have HL63 : Hid ((linesOf P1).length + 1 ≤ maxLen) := by have := HLL.out; simp [maxLen, Hid] at this ⊢; omega
          have HLby : Hid (((linesOf P1).length + 1) * 16 ≤ 140737488355328) := by have := HLL.out; simp [Hid] at this ⊢; omega
          go_wp2_with fail
          go_region_held3 (fun w' => w'.cell? ⟨wr.heap.size, 2, none⟩ = some (.string n.name) ∧ w'.cell? ⟨gh, 0, none⟩ = some (.int .i64 (i + 1 : Nat)))
            (first | (exact ⟨d2, r0⟩) | (exact ⟨dn3, r0_3⟩) | (exact ⟨(((Below.refl w3.heap.size w3).alloc (Nat.le_refl _) _).cell (p := ⟨wr.heap.size, 2, none⟩) hz3).trans dn3, (((Below.refl w3.heap.size w3).alloc (Nat.le_refl _) _).cell (p := ⟨gh, 0, none⟩) hgw3).trans r0_3⟩) | (exact ⟨(hgrow.cell_far _ (by first | (simp; done) | (simp; omega)) (Ne.symm hob1)).trans ((((Below.refl w3.heap.size w3).alloc (Nat.le_refl _) _).cell (p := ⟨wr.heap.size, 2, none⟩) hz3).trans dn3), (hgrow.cell_far _ (by first | (simp; done) | (simp; omega)) (Ne.symm hob2)).trans ((((Below.refl w3.heap.size w3).alloc (Nat.le_refl _) _).cell (p := ⟨gh, 0, none⟩) hgw3).trans r0_3)⟩) | go_keep)
            (first
            | (go_at_call 32; refine (HX.out _ HB2.out.drew).mono ?_; rintro y w3 ⟨rfl, hb3⟩; have HB3 : Hid (Below w.heap.size w w3) := HB2.out.drew.trans (hb3.mono HB2.out.size); have HN3 : Hid (NdAt w3 wr.heap.size n) := (HN2.out.below (Below.refl _ _).drew).below hb3; have HO3 : Hid (w3.ownsRow w.heap.size 9 1 u7 (linesOf P1).length (strs (linesOf P1))) := own_below (own_below HO2.out (Below.refl _ _).drew) hb3; have hz3 := HN3.out.lt; have hz3n : ¬ wr.heap.size = w3.heap.size := (by omega); have hgw3 : gh < w3.heap.size := (by have h8 := hb3.size; have h7 : w2.heap.size ≤ w3.heap.size := h8; omega); have hg3n : ¬ gh = w3.heap.size := (by omega); have dn3 := HN3.out.cells.2.2.1; have r0_3 : w3.cell? ⟨gh, 0, none⟩ = some (.int .i64 (i + 1 : Nat)) := (hb3.cell (p := ⟨gh, 0, none⟩) hg2).trans r0)
            | ((refine step_append_lies _ (by rfl) _ _ _ (by rfl) w.heap.size 9 i0 _ 1 16 Tryd.underlying41 hi0 hy0 hy1 hy2 rfl (by decide) u7 (linesOf P1).length (strs (linesOf P1)) (by rfl) (own_below HO3.out ((Below.refl _ _).alloc (Nat.le_refl _) _)) ⟨w3.heap.size, 0, none⟩ 1 1 [.string (⟨(ind q).toArray⟩ ++ n.name ++ ⟨#[32, 58, 61, 32]⟩ ++ ⟨(brk 1 lv t).toArray⟩ ++ ⟨#[59]⟩)] (by rfl) (by rfl) (by intro j u hj; exact news_one w3 _ 9 j u hj) (by simp [Value.oneCell']) (by decide) HL63.out HLby.out (by simp; omega) (w3.heap.size + 1) (by simp) ?_; intro gg capg w4 hown4 hgrow hat4 hlt4))
            | fail)
          have HO4 : Hid _ := hown4
          have HB4 : Hid (Below w.heap.size w w4) := (HB3.out.alloc (by omega) _).grown hgrow (by simp; omega) (own_base HO3.out)
          clear hown4 hgrow hat4 hlt4
          go_wp2_with fail
          go_roundw
          case rel =>
            refine ⟨P1 ++ [(n :: f, [ind q ++ (n.name.toList ++ ([32, 58, 61, 32] ++ (brk 1 lv t ++ [59])))])], P3, by simp, ?_, ?_, HB4⟩
            · unfold Hid; rw [HPP.out]; simp
            · unfold Hid
              have h9 := HO4.out
              rw [linesOf_snoc, List.length_append]
              unfold strs at h9 ⊢
              rw [List.map_append]
              rw [show (⟨(ind q).toArray⟩ ++ n.name ++ ⟨#[32, 58, 61, 32]⟩ ++ ⟨(brk 1 lv t).toArray⟩ ++ ⟨#[59]⟩ : ByteArray) = ⟨(ind q ++ (n.name.toList ++ ([32, 58, 61, 32] ++ (brk 1 lv t ++ [59])))).toArray⟩ from bs_eq (by simp [ByteArray.toList_eq])] at h9
              exact h9
          case measure => simp [intOf]; omega
      | store q n f f2 l1 l2 t u hd hf hk hx hy =>
        as_aux_lemma =>
          have hA0 := at_segs (n := n) (pre := pre ++ nodesOf P1) (post := nodesOf P3 ++ post) ([f, f2]) (d := 2 * q + 1) hd (by simp; exact ⟨hx.segD, hy.segD⟩) HEP.out
          have e0 : (pre ++ nodesOf P1) ++ (n :: ([f, f2] : List (List Nd)).flatten ++ (nodesOf P3 ++ post)) = ns := by rw [HNX.out]; simp
          rw [e0, ← HI.out] at hA0
          have hA : At ns i n [i + 1, i + 1 + f.length] := hA0
          have hil := hA.lt
          have hi3 : (i : Int) < (ns.length : Int) := by omega
          obtain ⟨c0, c1, c2, c3, c4, c5⟩ := hA.node (HN.out.below HB.out)
          rw [hk] at c1
          have HH : Hid (∀ w', Below w.heap.size w w' → Calls Tryd.prog 30 #[.slice (some ⟨b, o, none⟩) ns.length cap, .int .i64 i] w' fun y w2 => ∃ v, y = .returned v ∧ w2.ownsRow w'.heap.size 3 1 v ([i + 1, i + 1 + f.length] : List Nat).length (ints [i + 1, i + 1 + f.length]) ∧ Below w'.heap.size w' w2) := fun w' hb => hA.held_any b o cap w' (HN.out.below hb) hlen
          have hB0 : Below wr.heap.size wr (wr.alloc (.cells #[.int .i64 n.depth, .int .i64 n.kind, .string n.name, .int .i64 n.num, .int .i64 n.op, .int .i64 n.pos] 31)) := (Below.refl _ _).alloc (Nat.le_refl _) _
          have HN0 : Hid (NdAt (wr.alloc (.cells #[.int .i64 n.depth, .int .i64 n.kind, .string n.name, .int .i64 n.num, .int .i64 n.op, .int .i64 n.pos] 31)) wr.heap.size n) := heap_alloc_new _ _
          rw [hk] at hB0
          simp only [hk] at HN0
          have HB0 : Hid (Below w.heap.size w _) := HB.out.trans (hB0.mono hz0)
          have HO0 : Hid _ := own_below HO.out hB0
          have hnm := hf.name
          rw [toList_len] at hnm
          have HHK : Hid _ := hk
          have HHD : Hid _ := hd
          clear hA0 e0 hA hB0 hk hd
          have atk0 : (wr.alloc (.cells #[.int .i64 n.depth, .int .i64 3, .string n.name, .int .i64 n.num, .int .i64 n.op, .int .i64 n.pos] 31)).cell? ⟨g, P1.length, none⟩ = some (.int .i64 i) := by
            rw [((Below.refl wr.heap.size wr).alloc (Nat.le_refl _) _).cell (p := ⟨g, P1.length, none⟩) hgw]; exact atk
          go_wp2_with fail
          refine (HH.out _ HB0.out).mono ?_
          rintro y w2 ⟨vh, rfl, ho2, hb2⟩
          have HB2 : Hid (Below w.heap.size w w2) := HB0.out.trans (hb2.mono HB0.out.size)
          have HN2 : Hid (NdAt w2 wr.heap.size n) := HN0.out.below hb2
          have HO2 : Hid (w2.ownsRow w.heap.size 9 1 _ (linesOf P1).length (strs (linesOf P1))) := own_below HO0.out hb2
          have HR2 : Hid _ := ho2
          have hz2 := HN2.out.lt
          have hz2w := HB2.out.size
          clear hb2 ho2 c0 c1 c2 c3 c4 c5 atk0
          obtain ⟨d0, d1, d2, d3, d4, d5⟩ := HN2.out.cells
          rw [HHK.out] at d1
          have HX : Hid (∀ w', Below w.heap.size w w' → Calls Tryd.prog 32 #[.slice (some ⟨b, o, none⟩) ns.length cap, .int .i64 (i + 1 : Nat), .int .i64 1] w' fun y w2 => y = .returned (.string ⟨(brk 1 l1 t).toArray⟩) ∧ Below w'.heap.size w' w2) := by
            intro w' hb
            have e9 : ((pre ++ nodesOf P1) ++ [n]) ++ (f ++ (f2 ++ (nodesOf P3 ++ post))) = ns := by rw [HNX.out]; simp
            have h9 := rex_any hx b o cap ((pre ++ nodesOf P1) ++ [n]) (f2 ++ (nodesOf P3 ++ post)) 1 w' (hy.ends _) (by rw [e9]; exact HN.out.below hb) (by rw [e9]; exact hlen) (by omega) (HG.out.below hb)
            rw [e9, List.length_append, ← HI.out] at h9
            exact h9
          have hxl : (brk 1 l1 t).length ≤ 60000 := by
            have h8 := hx.len
            have h7 := brk_len 1 l1 t
            have h6 : f.length ≤ 300 := by rw [HNX.out] at hlen; simp at hlen; omega
            omega
          have HXB : Hid (∀ w', Below w.heap.size w w' → Calls Tryd.prog 32 #[.slice (some ⟨b, o, none⟩) ns.length cap, .int .i64 (i + 1 + f.length : Nat), .int .i64 1] w' fun y w2 => y = .returned (.string ⟨(brk 1 l2 u).toArray⟩) ∧ Below w'.heap.size w' w2) := by
            intro w' hb
            have e9 : ((pre ++ nodesOf P1) ++ (n :: f)) ++ (f2 ++ (nodesOf P3 ++ post)) = ns := by rw [HNX.out]; simp
            have h9 := rex_any hy b o cap ((pre ++ nodesOf P1) ++ (n :: f)) (nodesOf P3 ++ post) 1 w' (HEP.out.up (by omega)) (by rw [e9]; exact HN.out.below hb) (by rw [e9]; exact hlen) (by omega) (HG.out.below hb)
            rw [e9, List.length_append, ← HI.out, List.length_cons, show i + (f.length + 1) = i + 1 + f.length by omega] at h9
            exact h9
          have hxbl : (brk 1 l2 u).length ≤ 60000 := by
            have h8 := hy.len
            have h7 := brk_len 1 l2 u
            have h6 : f2.length ≤ 300 := by rw [HNX.out] at hlen; simp at hlen; omega
            omega
          have q15a : ¬ 9223372036854775807 < (ind q).length + n.name.size := by omega
          have q15b : (ind q).length + n.name.size ≤ 9223372036854775807 := by omega
          have q15c : decide (9223372036854775807 < (ind q).length + n.name.size) = false := decide_eq_false (by omega)
          have q16a : ¬ 9223372036854775807 < (ind q).length + n.name.size + 1 := by omega
          have q16b : (ind q).length + n.name.size + 1 ≤ 9223372036854775807 := by omega
          have q16c : decide (9223372036854775807 < (ind q).length + n.name.size + 1) = false := decide_eq_false (by omega)
          have q17a : ¬ 9223372036854775807 < (ind q).length + n.name.size + 1 + (brk 1 l1 t).length := by omega
          have q17b : (ind q).length + n.name.size + 1 + (brk 1 l1 t).length ≤ 9223372036854775807 := by omega
          have q17c : decide (9223372036854775807 < (ind q).length + n.name.size + 1 + (brk 1 l1 t).length) = false := decide_eq_false (by omega)
          have q18a : ¬ 9223372036854775807 < (ind q).length + n.name.size + 1 + (brk 1 l1 t).length + 5 := by omega
          have q18b : (ind q).length + n.name.size + 1 + (brk 1 l1 t).length + 5 ≤ 9223372036854775807 := by omega
          have q18c : decide (9223372036854775807 < (ind q).length + n.name.size + 1 + (brk 1 l1 t).length + 5) = false := decide_eq_false (by omega)
          have q19a : ¬ 9223372036854775807 < (ind q).length + n.name.size + 1 + (brk 1 l1 t).length + 5 + (brk 1 l2 u).length := by omega
          have q19b : (ind q).length + n.name.size + 1 + (brk 1 l1 t).length + 5 + (brk 1 l2 u).length ≤ 9223372036854775807 := by omega
          have q19c : decide (9223372036854775807 < (ind q).length + n.name.size + 1 + (brk 1 l1 t).length + 5 + (brk 1 l2 u).length) = false := decide_eq_false (by omega)
          have q20a : ¬ 9223372036854775807 < (ind q).length + n.name.size + 1 + (brk 1 l1 t).length + 5 + (brk 1 l2 u).length + 1 := by omega
          have q20b : (ind q).length + n.name.size + 1 + (brk 1 l1 t).length + 5 + (brk 1 l2 u).length + 1 ≤ 9223372036854775807 := by omega
          have q20c : decide (9223372036854775807 < (ind q).length + n.name.size + 1 + (brk 1 l1 t).length + 5 + (brk 1 l2 u).length + 1) = false := decide_eq_false (by omega)
          obtain ⟨gh, ghc, rfl, hg1, hg2, hgc⟩ := own_cells HR2.out (by simp)
          have r0 : w2.cell? ⟨gh, 0, none⟩ = some (.int .i64 ((i + 1 : Nat) : Int)) := hgc 0 (by simp)
          have r1 : w2.cell? ⟨gh, 1, none⟩ = some (.int .i64 ((i + 1 + f.length : Nat) : Int)) := hgc 1 (by simp)
          clear hgc
          have hob : ∀ k, u7.ownBlock = some k → k < wr.heap.size := fun k hk => (World.ownsRow.lt HO.out k hk).2
          have hob1 : u7.ownBlock ≠ some wr.heap.size := fun h => by have := hob _ h; omega
          have hob2 : u7.ownBlock ≠ some gh := fun h => by have := hob _ h; simp at hg1; omega
          have hg2n : ¬ gh = w2.heap.size := by omega
          have hz2n : ¬ wr.heap.size = w2.heap.size := by omega
          have HOB : Hid _ := hob
          clear hob
          have HL63 : Hid ((linesOf P1).length + 1 ≤ maxLen) := by have := HLL.out; simp [maxLen, Hid] at this ⊢; omega
          have HLby : Hid (((linesOf P1).length + 1) * 16 ≤ 140737488355328) := by have := HLL.out; simp [Hid] at this ⊢; omega
          go_wp2_with fail
          go_region_held3 (fun w' => w'.cell? ⟨wr.heap.size, 2, none⟩ = some (.string n.name) ∧ w'.cell? ⟨gh, 0, none⟩ = some (.int .i64 (i + 1 : Nat)) ∧ w'.cell? ⟨gh, 1, none⟩ = some (.int .i64 (i + 1 + f.length : Nat)))
            (first | (exact ⟨d2, r0, r1⟩) | (exact ⟨dn3, r0_3, r1_3⟩) | (exact ⟨dn4, r0_4, r1_4⟩) | (exact ⟨(((Below.refl w4.heap.size w4).alloc (Nat.le_refl _) _).cell (p := ⟨wr.heap.size, 2, none⟩) hz4).trans dn4, (((Below.refl w4.heap.size w4).alloc (Nat.le_refl _) _).cell (p := ⟨gh, 0, none⟩) hgw4).trans r0_4, (((Below.refl w4.heap.size w4).alloc (Nat.le_refl _) _).cell (p := ⟨gh, 1, none⟩) hgw4).trans r1_4⟩) | (exact ⟨(hgrow.cell_far _ (by first | (simp; done) | (simp; omega)) (Ne.symm hob1)).trans ((((Below.refl w4.heap.size w4).alloc (Nat.le_refl _) _).cell (p := ⟨wr.heap.size, 2, none⟩) hz4).trans dn4), (hgrow.cell_far _ (by first | (simp; done) | (simp; omega)) (Ne.symm hob2)).trans ((((Below.refl w4.heap.size w4).alloc (Nat.le_refl _) _).cell (p := ⟨gh, 0, none⟩) hgw4).trans r0_4), (hgrow.cell_far _ (by first | (simp; done) | (simp; omega)) (Ne.symm hob2)).trans ((((Below.refl w4.heap.size w4).alloc (Nat.le_refl _) _).cell (p := ⟨gh, 1, none⟩) hgw4).trans r1_4)⟩) | go_keep)
            (first
            | (go_at_call 32; refine (HX.out _ HB2.out.drew).mono ?_; rintro y w3 ⟨rfl, hb3⟩; have HB3 : Hid (Below w.heap.size w w3) := HB2.out.drew.trans (hb3.mono HB2.out.size); have HN3 : Hid (NdAt w3 wr.heap.size n) := (HN2.out.below (Below.refl _ _).drew).below hb3; have HO3 : Hid (w3.ownsRow w.heap.size 9 1 u7 (linesOf P1).length (strs (linesOf P1))) := own_below (own_below HO2.out (Below.refl _ _).drew) hb3; have hz3 := HN3.out.lt; have hz3n : ¬ wr.heap.size = w3.heap.size := (by omega); have hgw3 : gh < w3.heap.size := (by have h8 := hb3.size; have h7 : w2.heap.size ≤ w3.heap.size := h8; omega); have hg3n : ¬ gh = w3.heap.size := (by omega); have dn3 := HN3.out.cells.2.2.1; have r0_3 : w3.cell? ⟨gh, 0, none⟩ = some (.int .i64 (i + 1 : Nat)) := (hb3.cell (p := ⟨gh, 0, none⟩) hg2).trans r0; have r1_3 : w3.cell? ⟨gh, 1, none⟩ = some (.int .i64 (i + 1 + f.length : Nat)) := (hb3.cell (p := ⟨gh, 1, none⟩) hg2).trans r1; clear HX)
            | (go_at_call 32; refine (HXB.out _ HB3.out).mono ?_; rintro y w4 ⟨rfl, hb4⟩; have HB4 : Hid (Below w.heap.size w w4) := HB3.out.trans (hb4.mono HB3.out.size); have HN4 : Hid (NdAt w4 wr.heap.size n) := HN3.out.below hb4; have HO4 : Hid (w4.ownsRow w.heap.size 9 1 u7 (linesOf P1).length (strs (linesOf P1))) := own_below HO3.out hb4; have hz4 := HN4.out.lt; have hz4n : ¬ wr.heap.size = w4.heap.size := (by omega); have hgw4 : gh < w4.heap.size := (by have h8 := hb4.size; have h7 : w3.heap.size ≤ w4.heap.size := h8; omega); have hg4n : ¬ gh = w4.heap.size := (by omega); have dn4 := HN4.out.cells.2.2.1; have r0_4 : w4.cell? ⟨gh, 0, none⟩ = some (.int .i64 (i + 1 : Nat)) := (hb4.cell (p := ⟨gh, 0, none⟩) hgw3).trans r0_3; have r1_4 : w4.cell? ⟨gh, 1, none⟩ = some (.int .i64 (i + 1 + f.length : Nat)) := (hb4.cell (p := ⟨gh, 1, none⟩) hgw3).trans r1_3)
            | ((refine step_append_lies _ (by rfl) _ _ _ (by rfl) w.heap.size 9 i0 _ 1 16 Tryd.underlying41 hi0 hy0 hy1 hy2 rfl (by decide) u7 (linesOf P1).length (strs (linesOf P1)) (by rfl) (own_below HO4.out ((Below.refl _ _).alloc (Nat.le_refl _) _)) ⟨w4.heap.size, 0, none⟩ 1 1 [.string (⟨(ind q).toArray⟩ ++ n.name ++ ⟨#[91]⟩ ++ ⟨(brk 1 l1 t).toArray⟩ ++ ⟨#[93, 32, 58, 61, 32]⟩ ++ ⟨(brk 1 l2 u).toArray⟩ ++ ⟨#[59]⟩)] (by rfl) (by rfl) (by intro j u hj; exact news_one w4 _ 9 j u hj) (by simp [Value.oneCell']) (by decide) HL63.out HLby.out (by simp; omega) (w4.heap.size + 1) (by simp) ?_; intro gg capg w5 hown4 hgrow hat4 hlt4))
            | fail)
          have HO5 : Hid _ := hown4
          have HB5 : Hid (Below w.heap.size w w5) := (HB4.out.alloc (by omega) _).grown hgrow (by simp; omega) (own_base HO4.out)
          clear hown4 hgrow hat4 hlt4
          go_wp2_with fail
          go_roundw
          case rel =>
            refine ⟨P1 ++ [(n :: (f ++ f2), [ind q ++ (n.name.toList ++ 91 :: (brk 1 l1 t ++ ([93, 32, 58, 61, 32] ++ (brk 1 l2 u ++ [59]))))])], P3, by simp, ?_, ?_, HB5⟩
            · unfold Hid; rw [HPP.out]; simp
            · unfold Hid
              have h9 := HO5.out
              rw [linesOf_snoc, List.length_append]
              unfold strs at h9 ⊢
              rw [List.map_append]
              rw [show (⟨(ind q).toArray⟩ ++ n.name ++ ⟨#[91]⟩ ++ ⟨(brk 1 l1 t).toArray⟩ ++ ⟨#[93, 32, 58, 61, 32]⟩ ++ ⟨(brk 1 l2 u).toArray⟩ ++ ⟨#[59]⟩ : ByteArray) = ⟨(ind q ++ (n.name.toList ++ 91 :: (brk 1 l1 t ++ ([93, 32, 58, 61, 32] ++ (brk 1 l2 u ++ [59]))))).toArray⟩ from bs_eq (by simp [ByteArray.toList_eq])] at h9
              exact h9
          case measure => simp [intOf]; omega
      | input q n hd hf hk =>
        as_aux_lemma =>
          have hA0 := at_segs (n := n) (pre := pre ++ nodesOf P1) (post := nodesOf P3 ++ post) ([]) (d := 2 * q + 1) hd (by simp) HEP.out
          have e0 : (pre ++ nodesOf P1) ++ (n :: ([] : List (List Nd)).flatten ++ (nodesOf P3 ++ post)) = ns := by rw [HNX.out]; simp
          rw [e0, ← HI.out] at hA0
          have hA : At ns i n [] := hA0
          have hil := hA.lt
          have hi3 : (i : Int) < (ns.length : Int) := by omega
          obtain ⟨c0, c1, c2, c3, c4, c5⟩ := hA.node (HN.out.below HB.out)
          rw [hk] at c1
          have HH : Hid (∀ w', Below w.heap.size w w' → Calls Tryd.prog 30 #[.slice (some ⟨b, o, none⟩) ns.length cap, .int .i64 i] w' fun y w2 => ∃ v, y = .returned v ∧ w2.ownsRow w'.heap.size 3 1 v ([] : List Nat).length (ints []) ∧ Below w'.heap.size w' w2) := fun w' hb => hA.held_any b o cap w' (HN.out.below hb) hlen
          have hB0 : Below wr.heap.size wr (wr.alloc (.cells #[.int .i64 n.depth, .int .i64 n.kind, .string n.name, .int .i64 n.num, .int .i64 n.op, .int .i64 n.pos] 31)) := (Below.refl _ _).alloc (Nat.le_refl _) _
          have HN0 : Hid (NdAt (wr.alloc (.cells #[.int .i64 n.depth, .int .i64 n.kind, .string n.name, .int .i64 n.num, .int .i64 n.op, .int .i64 n.pos] 31)) wr.heap.size n) := heap_alloc_new _ _
          rw [hk] at hB0
          simp only [hk] at HN0
          have HB0 : Hid (Below w.heap.size w _) := HB.out.trans (hB0.mono hz0)
          have HO0 : Hid _ := own_below HO.out hB0
          have hnm := hf.name
          rw [toList_len] at hnm
          have HHK : Hid _ := hk
          have HHD : Hid _ := hd
          clear hA0 e0 hA hB0 hk hd
          have atk0 : (wr.alloc (.cells #[.int .i64 n.depth, .int .i64 4, .string n.name, .int .i64 n.num, .int .i64 n.op, .int .i64 n.pos] 31)).cell? ⟨g, P1.length, none⟩ = some (.int .i64 i) := by
            rw [((Below.refl wr.heap.size wr).alloc (Nat.le_refl _) _).cell (p := ⟨g, P1.length, none⟩) hgw]; exact atk
          go_wp2_with fail
          refine (HH.out _ HB0.out).mono ?_
          rintro y w2 ⟨vh, rfl, ho2, hb2⟩
          have HB2 : Hid (Below w.heap.size w w2) := HB0.out.trans (hb2.mono HB0.out.size)
          have HN2 : Hid (NdAt w2 wr.heap.size n) := HN0.out.below hb2
          have HO2 : Hid (w2.ownsRow w.heap.size 9 1 _ (linesOf P1).length (strs (linesOf P1))) := own_below HO0.out hb2
          have HR2 : Hid _ := ho2
          have hz2 := HN2.out.lt
          have hz2w := HB2.out.size
          clear hb2 ho2 c0 c1 c2 c3 c4 c5 atk0
          obtain ⟨d0, d1, d2, d3, d4, d5⟩ := HN2.out.cells
          rw [HHK.out] at d1
          have q4a : ¬ 9223372036854775807 < (ind q).length + 6 := by omega
          have q4b : (ind q).length + 6 ≤ 9223372036854775807 := by omega
          have q4c : decide (9223372036854775807 < (ind q).length + 6) = false := decide_eq_false (by omega)
          have q5a : ¬ 9223372036854775807 < (ind q).length + 6 + n.name.size := by omega
          have q5b : (ind q).length + 6 + n.name.size ≤ 9223372036854775807 := by omega
          have q5c : decide (9223372036854775807 < (ind q).length + 6 + n.name.size) = false := decide_eq_false (by omega)
          have q6a : ¬ 9223372036854775807 < (ind q).length + 6 + n.name.size + 1 := by omega
          have q6b : (ind q).length + 6 + n.name.size + 1 ≤ 9223372036854775807 := by omega
          have q6c : decide (9223372036854775807 < (ind q).length + 6 + n.name.size + 1) = false := decide_eq_false (by omega)
          go_wp2_with (at_builtin; refine wpList_append_own _ rfl _ _ 41 rfl w.heap.size 9 i0 (.string ⟨#[]⟩) 1 16 Tryd.underlying41 hi0 hy0 hy1 hy2 rfl (by decide) _ _ _ rfl (own_below HO2.out ((Below.refl _ _).alloc (Nat.le_refl _) _)) ⟨w2.heap.size, 0, none⟩ 1 1 [.string (⟨(ind q).toArray⟩ ++ ⟨#[105, 110, 112, 117, 116, 32]⟩ ++ n.name ++ ⟨#[59]⟩)] rfl rfl ?ap1 ?ap2 ?ap3 ?ap4 ?ap5 ?_)
          case ap1 =>
            intro j u hj
            match j, hj with
            | 0, hj => simp at hj; subst hj; simp [Addr.add, go_sem]
          case ap2 => intro u hu; simp at hu; subst hu; rfl
          case ap3 => have := HLL.out; simp [maxLen] at this ⊢; omega
          case ap4 => have := HLL.out; simp at this ⊢; omega
          case ap5 => simp; omega
          intro u' w3 hown' hgrow _
          have HO3 : Hid _ := hown'
          have HB3 : Hid (Below w.heap.size w w3) := (HB2.out.alloc (by omega) _).grown hgrow (by simp; omega) (own_base HO2.out)
          clear hown' hgrow
          go_wp2_with fail
          go_roundw
          case rel =>
            refine ⟨P1 ++ [([n], [ind q ++ ([105, 110, 112, 117, 116, 32] ++ (n.name.toList ++ [59]))])], P3, by simp, ?_, ?_, HB3⟩
            · unfold Hid; rw [HPP.out]; simp
            · unfold Hid
              have h9 := HO3.out
              rw [linesOf_snoc, List.length_append]
              unfold strs at h9 ⊢
              rw [List.map_append]
              rw [show (⟨(ind q).toArray⟩ ++ ⟨#[105, 110, 112, 117, 116, 32]⟩ ++ n.name ++ ⟨#[59]⟩ : ByteArray) = ⟨(ind q ++ ([105, 110, 112, 117, 116, 32] ++ (n.name.toList ++ [59]))).toArray⟩ from bs_eq (by simp [ByteArray.toList_eq])] at h9
              exact h9
          case measure => simp [intOf]; omega
      | assert q n f lv t hd hf hk hx =>
        as_aux_lemma =>
          have hA0 := at_segs (n := n) (pre := pre ++ nodesOf P1) (post := nodesOf P3 ++ post) ([f]) (d := 2 * q + 1) hd (by simp; exact hx.segD) HEP.out
          have e0 : (pre ++ nodesOf P1) ++ (n :: ([f] : List (List Nd)).flatten ++ (nodesOf P3 ++ post)) = ns := by rw [HNX.out]; simp
          rw [e0, ← HI.out] at hA0
          have hA : At ns i n [i + 1] := hA0
          have hil := hA.lt
          have hi3 : (i : Int) < (ns.length : Int) := by omega
          obtain ⟨c0, c1, c2, c3, c4, c5⟩ := hA.node (HN.out.below HB.out)
          rw [hk] at c1
          have HH : Hid (∀ w', Below w.heap.size w w' → Calls Tryd.prog 30 #[.slice (some ⟨b, o, none⟩) ns.length cap, .int .i64 i] w' fun y w2 => ∃ v, y = .returned v ∧ w2.ownsRow w'.heap.size 3 1 v ([i + 1] : List Nat).length (ints [i + 1]) ∧ Below w'.heap.size w' w2) := fun w' hb => hA.held_any b o cap w' (HN.out.below hb) hlen
          have hB0 : Below wr.heap.size wr (wr.alloc (.cells #[.int .i64 n.depth, .int .i64 n.kind, .string n.name, .int .i64 n.num, .int .i64 n.op, .int .i64 n.pos] 31)) := (Below.refl _ _).alloc (Nat.le_refl _) _
          have HN0 : Hid (NdAt (wr.alloc (.cells #[.int .i64 n.depth, .int .i64 n.kind, .string n.name, .int .i64 n.num, .int .i64 n.op, .int .i64 n.pos] 31)) wr.heap.size n) := heap_alloc_new _ _
          rw [hk] at hB0
          simp only [hk] at HN0
          have HB0 : Hid (Below w.heap.size w _) := HB.out.trans (hB0.mono hz0)
          have HO0 : Hid _ := own_below HO.out hB0
          have hnm := hf.name
          rw [toList_len] at hnm
          have HHK : Hid _ := hk
          have HHD : Hid _ := hd
          clear hA0 e0 hA hB0 hk hd
          have atk0 : (wr.alloc (.cells #[.int .i64 n.depth, .int .i64 5, .string n.name, .int .i64 n.num, .int .i64 n.op, .int .i64 n.pos] 31)).cell? ⟨g, P1.length, none⟩ = some (.int .i64 i) := by
            rw [((Below.refl wr.heap.size wr).alloc (Nat.le_refl _) _).cell (p := ⟨g, P1.length, none⟩) hgw]; exact atk
          go_wp2_with fail
          refine (HH.out _ HB0.out).mono ?_
          rintro y w2 ⟨vh, rfl, ho2, hb2⟩
          have HB2 : Hid (Below w.heap.size w w2) := HB0.out.trans (hb2.mono HB0.out.size)
          have HN2 : Hid (NdAt w2 wr.heap.size n) := HN0.out.below hb2
          have HO2 : Hid (w2.ownsRow w.heap.size 9 1 _ (linesOf P1).length (strs (linesOf P1))) := own_below HO0.out hb2
          have HR2 : Hid _ := ho2
          have hz2 := HN2.out.lt
          have hz2w := HB2.out.size
          clear hb2 ho2 c0 c1 c2 c3 c4 c5 atk0
          obtain ⟨d0, d1, d2, d3, d4, d5⟩ := HN2.out.cells
          rw [HHK.out] at d1
          have HX : Hid (∀ w', Below w.heap.size w w' → Calls Tryd.prog 32 #[.slice (some ⟨b, o, none⟩) ns.length cap, .int .i64 (i + 1 : Nat), .int .i64 1] w' fun y w2 => y = .returned (.string ⟨(brk 1 lv t).toArray⟩) ∧ Below w'.heap.size w' w2) := by
            intro w' hb
            have e9 : ((pre ++ nodesOf P1) ++ [n]) ++ (f ++ (nodesOf P3 ++ post)) = ns := by rw [HNX.out]; simp
            have h9 := rex_any hx b o cap ((pre ++ nodesOf P1) ++ [n]) (nodesOf P3 ++ post) 1 w' (HEP.out.up (by omega)) (by rw [e9]; exact HN.out.below hb) (by rw [e9]; exact hlen) (by omega) (HG.out.below hb)
            rw [e9, List.length_append, ← HI.out] at h9
            exact h9
          have hxl : (brk 1 lv t).length ≤ 60000 := by
            have h8 := hx.len
            have h7 := brk_len 1 lv t
            have h6 : f.length ≤ 300 := by rw [HNX.out] at hlen; simp at hlen; omega
            omega
          have q8a : ¬ 9223372036854775807 < (ind q).length + 7 := by omega
          have q8b : (ind q).length + 7 ≤ 9223372036854775807 := by omega
          have q8c : decide (9223372036854775807 < (ind q).length + 7) = false := decide_eq_false (by omega)
          have q9a : ¬ 9223372036854775807 < (ind q).length + 7 + (brk 1 lv t).length := by omega
          have q9b : (ind q).length + 7 + (brk 1 lv t).length ≤ 9223372036854775807 := by omega
          have q9c : decide (9223372036854775807 < (ind q).length + 7 + (brk 1 lv t).length) = false := decide_eq_false (by omega)
          have q10a : ¬ 9223372036854775807 < (ind q).length + 7 + (brk 1 lv t).length + 1 := by omega
          have q10b : (ind q).length + 7 + (brk 1 lv t).length + 1 ≤ 9223372036854775807 := by omega
          have q10c : decide (9223372036854775807 < (ind q).length + 7 + (brk 1 lv t).length + 1) = false := decide_eq_false (by omega)
          obtain ⟨gh, ghc, rfl, hg1, hg2, hgc⟩ := own_cells HR2.out (by simp)
          have r0 : w2.cell? ⟨gh, 0, none⟩ = some (.int .i64 ((i + 1 : Nat) : Int)) := hgc 0 (by simp)
          clear hgc
          go_wp2_with fail
          refine (HX.out _ HB2.out).mono ?_
          rintro y w3 ⟨rfl, hb3⟩
          have HB3 : Hid (Below w.heap.size w w3) := HB2.out.trans (hb3.mono HB2.out.size)
          have HN3 : Hid (NdAt w3 wr.heap.size n) := HN2.out.below hb3
          have HO3 : Hid (w3.ownsRow w.heap.size 9 1 _ _ _) := own_below HO2.out hb3
          have hz3 := HN3.out.lt
          clear hb3 r0 d0 d1 d2 d3 d4 d5
          go_wp2_with (at_builtin; refine wpList_append_own _ rfl _ _ 41 rfl w.heap.size 9 i0 (.string ⟨#[]⟩) 1 16 Tryd.underlying41 hi0 hy0 hy1 hy2 rfl (by decide) _ _ _ rfl (own_below HO3.out ((Below.refl _ _).alloc (Nat.le_refl _) _)) ⟨w3.heap.size, 0, none⟩ 1 1 [.string (⟨(ind q).toArray⟩ ++ ⟨#[97, 115, 115, 101, 114, 116, 32]⟩ ++ ⟨(brk 1 lv t).toArray⟩ ++ ⟨#[59]⟩)] rfl rfl ?ap1 ?ap2 ?ap3 ?ap4 ?ap5 ?_)
          case ap1 =>
            intro j u hj
            match j, hj with
            | 0, hj => simp at hj; subst hj; simp [Addr.add, go_sem]
          case ap2 => intro u hu; simp at hu; subst hu; rfl
          case ap3 => have := HLL.out; simp [maxLen] at this ⊢; omega
          case ap4 => have := HLL.out; simp at this ⊢; omega
          case ap5 => simp; omega
          intro u' w4 hown' hgrow _
          have HO4 : Hid _ := hown'
          have HB4 : Hid (Below w.heap.size w w4) := (HB3.out.alloc (by omega) _).grown hgrow (by simp; omega) (own_base HO3.out)
          clear hown' hgrow
          go_wp2_with fail
          go_roundw
          case rel =>
            refine ⟨P1 ++ [(n :: f, [ind q ++ ([97, 115, 115, 101, 114, 116, 32] ++ (brk 1 lv t ++ [59]))])], P3, by simp, ?_, ?_, HB4⟩
            · unfold Hid; rw [HPP.out]; simp
            · unfold Hid
              have h9 := HO4.out
              rw [linesOf_snoc, List.length_append]
              unfold strs at h9 ⊢
              rw [List.map_append]
              rw [show (⟨(ind q).toArray⟩ ++ ⟨#[97, 115, 115, 101, 114, 116, 32]⟩ ++ ⟨(brk 1 lv t).toArray⟩ ++ ⟨#[59]⟩ : ByteArray) = ⟨(ind q ++ ([97, 115, 115, 101, 114, 116, 32] ++ (brk 1 lv t ++ [59]))).toArray⟩ from bs_eq (by simp [ByteArray.toList_eq])] at h9
              exact h9
          case measure => simp [intOf]; omega
      | skip q n hd hf hk =>
        as_aux_lemma =>
          have hA0 := at_segs (n := n) (pre := pre ++ nodesOf P1) (post := nodesOf P3 ++ post) ([]) (d := 2 * q + 1) hd (by simp) HEP.out
          have e0 : (pre ++ nodesOf P1) ++ (n :: ([] : List (List Nd)).flatten ++ (nodesOf P3 ++ post)) = ns := by rw [HNX.out]; simp
          rw [e0, ← HI.out] at hA0
          have hA : At ns i n [] := hA0
          have hil := hA.lt
          have hi3 : (i : Int) < (ns.length : Int) := by omega
          obtain ⟨c0, c1, c2, c3, c4, c5⟩ := hA.node (HN.out.below HB.out)
          rw [hk] at c1
          have HH : Hid (∀ w', Below w.heap.size w w' → Calls Tryd.prog 30 #[.slice (some ⟨b, o, none⟩) ns.length cap, .int .i64 i] w' fun y w2 => ∃ v, y = .returned v ∧ w2.ownsRow w'.heap.size 3 1 v ([] : List Nat).length (ints []) ∧ Below w'.heap.size w' w2) := fun w' hb => hA.held_any b o cap w' (HN.out.below hb) hlen
          have hB0 : Below wr.heap.size wr (wr.alloc (.cells #[.int .i64 n.depth, .int .i64 n.kind, .string n.name, .int .i64 n.num, .int .i64 n.op, .int .i64 n.pos] 31)) := (Below.refl _ _).alloc (Nat.le_refl _) _
          have HN0 : Hid (NdAt (wr.alloc (.cells #[.int .i64 n.depth, .int .i64 n.kind, .string n.name, .int .i64 n.num, .int .i64 n.op, .int .i64 n.pos] 31)) wr.heap.size n) := heap_alloc_new _ _
          rw [hk] at hB0
          simp only [hk] at HN0
          have HB0 : Hid (Below w.heap.size w _) := HB.out.trans (hB0.mono hz0)
          have HO0 : Hid _ := own_below HO.out hB0
          have hnm := hf.name
          rw [toList_len] at hnm
          have HHK : Hid _ := hk
          have HHD : Hid _ := hd
          clear hA0 e0 hA hB0 hk hd
          have atk0 : (wr.alloc (.cells #[.int .i64 n.depth, .int .i64 6, .string n.name, .int .i64 n.num, .int .i64 n.op, .int .i64 n.pos] 31)).cell? ⟨g, P1.length, none⟩ = some (.int .i64 i) := by
            rw [((Below.refl wr.heap.size wr).alloc (Nat.le_refl _) _).cell (p := ⟨g, P1.length, none⟩) hgw]; exact atk
          go_wp2_with fail
          refine (HH.out _ HB0.out).mono ?_
          rintro y w2 ⟨vh, rfl, ho2, hb2⟩
          have HB2 : Hid (Below w.heap.size w w2) := HB0.out.trans (hb2.mono HB0.out.size)
          have HN2 : Hid (NdAt w2 wr.heap.size n) := HN0.out.below hb2
          have HO2 : Hid (w2.ownsRow w.heap.size 9 1 _ (linesOf P1).length (strs (linesOf P1))) := own_below HO0.out hb2
          have HR2 : Hid _ := ho2
          have hz2 := HN2.out.lt
          have hz2w := HB2.out.size
          clear hb2 ho2 c0 c1 c2 c3 c4 c5 atk0
          obtain ⟨d0, d1, d2, d3, d4, d5⟩ := HN2.out.cells
          rw [HHK.out] at d1
          have q7a : ¬ 9223372036854775807 < (ind q).length + 5 := by omega
          have q7b : (ind q).length + 5 ≤ 9223372036854775807 := by omega
          have q7c : decide (9223372036854775807 < (ind q).length + 5) = false := decide_eq_false (by omega)
          go_wp2_with (at_builtin; refine wpList_append_own _ rfl _ _ 41 rfl w.heap.size 9 i0 (.string ⟨#[]⟩) 1 16 Tryd.underlying41 hi0 hy0 hy1 hy2 rfl (by decide) _ _ _ rfl (own_below HO2.out ((Below.refl _ _).alloc (Nat.le_refl _) _)) ⟨w2.heap.size, 0, none⟩ 1 1 [.string (⟨(ind q).toArray⟩ ++ ⟨#[115, 107, 105, 112, 59]⟩)] rfl rfl ?ap1 ?ap2 ?ap3 ?ap4 ?ap5 ?_)
          case ap1 =>
            intro j u hj
            match j, hj with
            | 0, hj => simp at hj; subst hj; simp [Addr.add, go_sem]
          case ap2 => intro u hu; simp at hu; subst hu; rfl
          case ap3 => have := HLL.out; simp [maxLen] at this ⊢; omega
          case ap4 => have := HLL.out; simp at this ⊢; omega
          case ap5 => simp; omega
          intro u' w3 hown' hgrow _
          have HO3 : Hid _ := hown'
          have HB3 : Hid (Below w.heap.size w w3) := (HB2.out.alloc (by omega) _).grown hgrow (by simp; omega) (own_base HO2.out)
          clear hown' hgrow
          go_wp2_with fail
          go_roundw
          case rel =>
            refine ⟨P1 ++ [([n], [ind q ++ [115, 107, 105, 112, 59]])], P3, by simp, ?_, ?_, HB3⟩
            · unfold Hid; rw [HPP.out]; simp
            · unfold Hid
              have h9 := HO3.out
              rw [linesOf_snoc, List.length_append]
              unfold strs at h9 ⊢
              rw [List.map_append]
              rw [show (⟨(ind q).toArray⟩ ++ ⟨#[115, 107, 105, 112, 59]⟩ : ByteArray) = ⟨(ind q ++ [115, 107, 105, 112, 59]).toArray⟩ from bs_eq (by simp [ByteArray.toList_eq])] at h9
              exact h9
          case measure => simp [intOf]; omega
      | if1 q n c f lv t P4 hd hf hk hx hcd hcf hck hP4 =>
        as_aux_lemma =>
          have hA0 := at_segs (n := n) (pre := pre ++ nodesOf P1) (post := nodesOf P3 ++ post) ([f, c :: nodesOf P4]) (d := 2 * q + 1) hd (by simp; exact ⟨hx.segD, ⟨c, nodesOf P4, rfl, (by rw [hcd]; omega), fun x hx9 => (by obtain ⟨g9, hg9, hx9⟩ := List.mem_flatten.1 hx9; obtain ⟨p9, hp9, rfl⟩ := List.mem_map.1 hg9; have := (hP4 p9 hp9).segD.all x hx9; omega)⟩⟩) HEP.out
          have e0 : (pre ++ nodesOf P1) ++ (n :: ([f, c :: nodesOf P4] : List (List Nd)).flatten ++ (nodesOf P3 ++ post)) = ns := by rw [HNX.out]; simp
          rw [e0, ← HI.out] at hA0
          have hA : At ns i n [i + 1, i + 1 + f.length] := hA0
          have hil := hA.lt
          have hi3 : (i : Int) < (ns.length : Int) := by omega
          obtain ⟨c0, c1, c2, c3, c4, c5⟩ := hA.node (HN.out.below HB.out)
          rw [hk] at c1
          have HH : Hid (∀ w', Below w.heap.size w w' → Calls Tryd.prog 30 #[.slice (some ⟨b, o, none⟩) ns.length cap, .int .i64 i] w' fun y w2 => ∃ v, y = .returned v ∧ w2.ownsRow w'.heap.size 3 1 v ([i + 1, i + 1 + f.length] : List Nat).length (ints [i + 1, i + 1 + f.length]) ∧ Below w'.heap.size w' w2) := fun w' hb => hA.held_any b o cap w' (HN.out.below hb) hlen
          have hB0 : Below wr.heap.size wr (wr.alloc (.cells #[.int .i64 n.depth, .int .i64 n.kind, .string n.name, .int .i64 n.num, .int .i64 n.op, .int .i64 n.pos] 31)) := (Below.refl _ _).alloc (Nat.le_refl _) _
          have HN0 : Hid (NdAt (wr.alloc (.cells #[.int .i64 n.depth, .int .i64 n.kind, .string n.name, .int .i64 n.num, .int .i64 n.op, .int .i64 n.pos] 31)) wr.heap.size n) := heap_alloc_new _ _
          rw [hk] at hB0
          simp only [hk] at HN0
          have HB0 : Hid (Below w.heap.size w _) := HB.out.trans (hB0.mono hz0)
          have HO0 : Hid _ := own_below HO.out hB0
          have hnm := hf.name
          rw [toList_len] at hnm
          have HHK : Hid _ := hk
          have HHD : Hid _ := hd
          clear hA0 e0 hA hB0 hk hd
          have atk0 : (wr.alloc (.cells #[.int .i64 n.depth, .int .i64 7, .string n.name, .int .i64 n.num, .int .i64 n.op, .int .i64 n.pos] 31)).cell? ⟨g, P1.length, none⟩ = some (.int .i64 i) := by
            rw [((Below.refl wr.heap.size wr).alloc (Nat.le_refl _) _).cell (p := ⟨g, P1.length, none⟩) hgw]; exact atk
          go_wp2_with fail
          refine (HH.out _ HB0.out).mono ?_
          rintro y w2 ⟨vh, rfl, ho2, hb2⟩
          have HB2 : Hid (Below w.heap.size w w2) := HB0.out.trans (hb2.mono HB0.out.size)
          have HN2 : Hid (NdAt w2 wr.heap.size n) := HN0.out.below hb2
          have HO2 : Hid (w2.ownsRow w.heap.size 9 1 _ (linesOf P1).length (strs (linesOf P1))) := own_below HO0.out hb2
          have HR2 : Hid _ := ho2
          have hz2 := HN2.out.lt
          have hz2w := HB2.out.size
          clear hb2 ho2 c0 c1 c2 c3 c4 c5 atk0
          obtain ⟨d0, d1, d2, d3, d4, d5⟩ := HN2.out.cells
          rw [HHK.out] at d1
          have HX : Hid (∀ w', Below w.heap.size w w' → Calls Tryd.prog 32 #[.slice (some ⟨b, o, none⟩) ns.length cap, .int .i64 (i + 1 : Nat), .int .i64 1] w' fun y w2 => y = .returned (.string ⟨(brk 1 lv t).toArray⟩) ∧ Below w'.heap.size w' w2) := by
            intro w' hb
            have e9 : ((pre ++ nodesOf P1) ++ [n]) ++ (f ++ ((c :: nodesOf P4) ++ (nodesOf P3 ++ post))) = ns := by rw [HNX.out]; simp
            have h9 := rex_any hx b o cap ((pre ++ nodesOf P1) ++ [n]) ((c :: nodesOf P4) ++ (nodesOf P3 ++ post)) 1 w' (fun m t9 h9 => by injection h9 with h1 _; rw [← h1, hcd]; omega) (by rw [e9]; exact HN.out.below hb) (by rw [e9]; exact hlen) (by omega) (HG.out.below hb)
            rw [e9, List.length_append, ← HI.out] at h9
            exact h9
          have hxl : (brk 1 lv t).length ≤ 60000 := by
            have h8 := hx.len
            have h7 := brk_len 1 lv t
            have h6 : f.length ≤ 300 := by rw [HNX.out] at hlen; simp at hlen; omega
            omega
          have HSA : Hid (∀ w', Below w.heap.size w w' → Calls Tryd.prog 30 #[.slice (some ⟨b, o, none⟩) ns.length cap, .int .i64 (i + 1 + f.length : Nat)] w' fun y w2 => ∃ v, y = .returned v ∧ w2.ownsRow w'.heap.size 3 1 v (places (i + 1 + f.length + 1) P4).length (ints (places (i + 1 + f.length + 1) P4)) ∧ Below w'.heap.size w' w2) := by
            intro w' hb
            have h9 := at_segs (n := c) (pre := (pre ++ nodesOf P1) ++ (n :: f)) (post := nodesOf P3 ++ post) (P4.map (·.1)) (d := 2 * q + 2) (by rw [hcd]; omega) (fun g hg => by obtain ⟨p, hp, rfl⟩ := List.mem_map.1 hg; have := (hP4 p hp).segD; exact this) (HEP.out.up (by omega))
            have e9 : ((pre ++ nodesOf P1) ++ (n :: f)) ++ (c :: (P4.map (·.1)).flatten ++ (nodesOf P3 ++ post)) = ns := by rw [HNX.out]; simp [nodesOf]
            rw [e9, List.length_append, ← HI.out, show i + ((n :: f) : List Nd).length = i + 1 + f.length by simp; omega] at h9
            exact h9.held_any b o cap w' (HN.out.below hb) hlen
          have HSB : Hid (∀ v4 w', Below w.heap.size w w' → PlRow w' v4 (places (i + 1 + f.length + 1) P4) → Calls Tryd.prog 15 #[.slice (some ⟨b, o, none⟩) ns.length cap, v4, .int .i64 ((q : Int) + 1)] w' fun y w2 => ∃ u, y = .returned u ∧ w2.ownsRow w'.heap.size 9 1 u (linesOf P4).length (strs (linesOf P4)) ∧ Below w'.heap.size w' w2) := by
            intro v4 w' hb hpl
            have e9 : ((pre ++ nodesOf P1) ++ ((n :: f) ++ [c])) ++ (nodesOf P4 ++ (nodesOf P3 ++ post)) = ns := by rw [HNX.out]; simp
            have e8 : ((pre ++ nodesOf P1) ++ ((n :: f) ++ [c])).length = i + 1 + f.length + 1 := by rw [List.length_append, ← HI.out]; simp; omega
            have h9 := HIL.out P4 (by rw [HPP.out, nodesOf_app, nodesOf_cons]; simp; omega) (q + 1) b o cap ((pre ++ nodesOf P1) ++ ((n :: f) ++ [c])) (nodesOf P3 ++ post) v4 w' hP4 (Ends.up HEP.out (by omega)) (by rw [e9]; exact HN.out.below hb) (by rw [e9]; exact hlen) (HG.out.below hb) (by have h1 := hcd; have h2 := hcf.deep; omega) (by rw [e8]; exact hpl)
            rw [e9, show ((q + 1 : Nat) : Int) = (q : Int) + 1 by omega] at h9
            exact h9
          have q26a : ¬ 9223372036854775807 < (ind q).length + 3 := by omega
          have q26b : (ind q).length + 3 ≤ 9223372036854775807 := by omega
          have q26c : decide (9223372036854775807 < (ind q).length + 3) = false := decide_eq_false (by omega)
          have q27a : ¬ 9223372036854775807 < (ind q).length + 3 + (brk 1 lv t).length := by omega
          have q27b : (ind q).length + 3 + (brk 1 lv t).length ≤ 9223372036854775807 := by omega
          have q27c : decide (9223372036854775807 < (ind q).length + 3 + (brk 1 lv t).length) = false := decide_eq_false (by omega)
          have q28a : ¬ 9223372036854775807 < (ind q).length + 3 + (brk 1 lv t).length + 2 := by omega
          have q28b : (ind q).length + 3 + (brk 1 lv t).length + 2 ≤ 9223372036854775807 := by omega
          have q28c : decide (9223372036854775807 < (ind q).length + 3 + (brk 1 lv t).length + 2) = false := decide_eq_false (by omega)
          have q29a : ¬ 9223372036854775807 < (ind q).length + 1 := by omega
          have q29b : (ind q).length + 1 ≤ 9223372036854775807 := by omega
          have q29c : decide (9223372036854775807 < (ind q).length + 1) = false := decide_eq_false (by omega)
          obtain ⟨gh, ghc, rfl, hg1, hg2, hgc⟩ := own_cells HR2.out (by simp)
          have r0 : w2.cell? ⟨gh, 0, none⟩ = some (.int .i64 ((i + 1 : Nat) : Int)) := hgc 0 (by simp)
          have r1 : w2.cell? ⟨gh, 1, none⟩ = some (.int .i64 ((i + 1 + f.length : Nat) : Int)) := hgc 1 (by simp)
          clear hgc
          have hob : ∀ k, u7.ownBlock = some k → k < wr.heap.size := fun k hk => (World.ownsRow.lt HO.out k hk).2
          have hob2 : u7.ownBlock ≠ some gh := fun h => by have := hob _ h; simp at hg1; omega
          have HOB : Hid _ := hob
          clear hob
          go_wp2_with fail
          refine (HX.out _ HB2.out).mono ?_
          rintro y w3 ⟨rfl, hb3⟩
          have HB3 : Hid (Below w.heap.size w w3) := HB2.out.trans (hb3.mono HB2.out.size)
          have HN3 : Hid (NdAt w3 wr.heap.size n) := HN2.out.below hb3
          have HO3 : Hid (w3.ownsRow w.heap.size 9 1 _ _ _) := own_below HO2.out hb3
          have hz3 := HN3.out.lt
          have hgw3 : gh < w3.heap.size := by have := hb3.size; omega
          have r1_3 : w3.cell? ⟨gh, 1, none⟩ = some (.int .i64 ((i + 1 + f.length : Nat) : Int)) := (hb3.cell (p := ⟨gh, 1, none⟩) hg2).trans r1
          clear hb3 r0 r1 d0 d1 d2 d3 d4 d5
          go_wp2_with (at_builtin; refine wpList_append_own _ rfl _ _ 41 rfl w.heap.size 9 i0 (.string ⟨#[]⟩) 1 16 Tryd.underlying41 hi0 hy0 hy1 hy2 rfl (by decide) _ _ _ rfl (own_below HO3.out ((Below.refl _ _).alloc (Nat.le_refl _) _)) ⟨w3.heap.size, 0, none⟩ 1 1 [.string (⟨(ind q).toArray⟩ ++ ⟨#[105, 102, 32]⟩ ++ ⟨(brk 1 lv t).toArray⟩ ++ ⟨#[32, 123]⟩)] rfl rfl ?ap1 ?ap2 ?ap3 ?ap4 ?ap5 ?_)
          case ap1 =>
            intro j u hj
            match j, hj with
            | 0, hj => simp at hj; subst hj; simp [Addr.add, go_sem]
          case ap2 => intro u hu; simp at hu; subst hu; rfl
          case ap3 => have := HLL.out; simp [maxLen] at this ⊢; omega
          case ap4 => have := HLL.out; simp at this ⊢; omega
          case ap5 => simp; omega
          intro u' w4 hown' hgrow _
          have HO4 : Hid _ := hown'
          have HB4 : Hid (Below w.heap.size w w4) := (HB3.out.alloc (by omega) _).grown hgrow (by simp; omega) (own_base HO3.out)
          have r1_4 : w4.cell? ⟨gh, 1, none⟩ = some (.int .i64 ((i + 1 + f.length : Nat) : Int)) := (hgrow.cell_far _ (by first | (simp; done) | (simp; omega)) (Ne.symm hob2)).trans ((((Below.refl w3.heap.size w3).alloc (Nat.le_refl _) _).cell (p := ⟨gh, 1, none⟩) hgw3).trans r1_3)
          have hz4 := hgrow.size
          clear hown' hgrow
          go_wp2_with fail
          refine (HSA.out _ HB4.out).mono ?_
          rintro y w5 ⟨v5, rfl, ho5, hb5⟩
          have HB5 : Hid (Below w.heap.size w w5) := HB4.out.trans (hb5.mono HB4.out.size)
          have HO5 : Hid (w5.ownsRow w.heap.size 9 1 _ _ _) := own_below HO4.out hb5
          have HPR5 : Hid _ := PlRow.of ho5
          clear hb5 ho5
          go_wp2_with fail
          refine (HSB.out _ _ HB5.out HPR5.out).mono ?_
          rintro y w6 ⟨v6, rfl, ho6, hb6⟩
          have HB6 : Hid (Below w.heap.size w w6) := HB5.out.trans (hb6.mono HB5.out.size)
          have HO6 : Hid (w6.ownsRow w.heap.size 9 1 _ _ _) := own_below HO5.out hb6
          have hzz6 := HB6.out.size
          clear hb6
          rcases ho6.2 with ⟨rfl, hn6⟩ | ⟨g6, cp6, cur6, rfl, _, hgg6, hq1, hq2, hq3, hq4⟩
          · have hl0 : linesOf P4 = [] := List.length_eq_zero_iff.1 hn6
            have HO6 : Hid (w6.ownsRow w.heap.size 9 1 _ _ _) := HO6.out
            clear ho6
            go_wp2_with (first | (at_builtin; refine wpList_append_own_none rfl _ _ 41 rfl w.heap.size 9 i0 1 Tryd.underlying41 hi0 _ _ _ rfl HO6.out rfl ?_) | (at_builtin; refine wpList_append_own _ rfl _ _ 41 rfl w.heap.size 9 i0 (.string ⟨#[]⟩) 1 16 Tryd.underlying41 hi0 hy0 hy1 hy2 rfl (by decide) _ _ _ rfl (own_below HO6.out ((Below.refl _ _).alloc (Nat.le_refl _) _)) ⟨w6.heap.size, 0, none⟩ 1 1 [.string (⟨(ind q).toArray⟩ ++ ⟨#[125]⟩)] rfl rfl ?ap1 ?ap2 ?ap3 ?ap4 ?ap5 ?_))
            case ap1 =>
              intro j u hj
              match j, hj with
              | 0, hj => simp at hj; subst hj; simp [Addr.add, go_sem]
            case ap2 => intro u hu; simp at hu; subst hu; rfl
            case ap3 => have := HLL.out; simp [maxLen] at this ⊢; omega
            case ap4 => have := HLL.out; simp at this ⊢; omega
            case ap5 => simp; omega
            intro u' w7 hown' hgrow _
            have HO7 : Hid _ := hown'
            have HB7 : Hid (Below w.heap.size w w7) := (HB6.out.alloc (by omega) _).grown hgrow (by simp; omega) (own_base HO6.out)
            clear hown' hgrow
            go_wp2_with fail
            go_roundw
            case rel =>
              refine ⟨P1 ++ [(n :: (f ++ c :: nodesOf P4), (ind q ++ ([105, 102, 32] ++ (brk 1 lv t ++ [32, 123]))) :: (linesOf P4 ++ [ind q ++ [125]]))], P3, by simp, ?_, ?_, HB7⟩
              · unfold Hid; rw [HPP.out]; simp
              · unfold Hid
                have h9 := HO7.out
                rw [show (⟨(ind q).toArray⟩ ++ ⟨#[105, 102, 32]⟩ ++ ⟨(brk 1 lv t).toArray⟩ ++ ⟨#[32, 123]⟩ : ByteArray) = ⟨(ind q ++ ([105, 102, 32] ++ (brk 1 lv t ++ [32, 123]))).toArray⟩ from bs_eq (by simp [ByteArray.toList_eq])] at h9
                rw [show (⟨(ind q).toArray⟩ ++ ⟨#[125]⟩ : ByteArray) = ⟨(ind q ++ [125]).toArray⟩ from bs_eq (by simp [ByteArray.toList_eq])] at h9
                have e1 : (linesOf P1 ++ ((ind q ++ ([105, 102, 32] ++ (brk 1 lv t ++ [32, 123]))) :: (linesOf P4 ++ [ind q ++ [125]]))).length = (linesOf P1).length + 1 + 1 := by first | (simp [hl0]; done) | (simp; omega)
                have e2 : strs (linesOf P1 ++ ((ind q ++ ([105, 102, 32] ++ (brk 1 lv t ++ [32, 123]))) :: (linesOf P4 ++ [ind q ++ [125]]))) = strs (linesOf P1) ++ [.string ⟨(ind q ++ ([105, 102, 32] ++ (brk 1 lv t ++ [32, 123]))).toArray⟩, .string ⟨(ind q ++ [125]).toArray⟩] := by unfold strs; simp [hl0]
                rw [linesOf_snoc]
                show World.ownsRow _ _ _ _ _ (linesOf P1 ++ ((ind q ++ ([105, 102, 32] ++ (brk 1 lv t ++ [32, 123]))) :: (linesOf P4 ++ [ind q ++ [125]]))).length (strs (linesOf P1 ++ ((ind q ++ ([105, 102, 32] ++ (brk 1 lv t ++ [32, 123]))) :: (linesOf P4 ++ [ind q ++ [125]]))))
                rw [e1, e2]
                exact h9
            case measure => simp [intOf]; omega
          · have hc6 : ∀ j u, (strs (linesOf P4))[j]? = some u → w6.cell? ((⟨g6, 0, none⟩ : Addr).add j) = some u := fun j u hu => World.ownsRow.cells ho6 rfl j u hu
            clear hgg6 hq1 hq2 hq3 hq4
            go_wp2_with (at_builtin; refine wpList_append_own _ rfl _ _ 41 rfl w.heap.size 9 i0 (.string ⟨#[]⟩) 1 16 Tryd.underlying41 hi0 hy0 hy1 hy2 rfl (by decide) _ _ _ rfl HO6.out ⟨g6, 0, none⟩ (linesOf P4).length cp6 (strs (linesOf P4)) rfl (by simp [strs]) hc6 ?ap2 ?ap3 ?ap4 ?ap5 ?_)
            case ap2 => intro u hu; obtain ⟨l9, _, rfl⟩ := List.mem_map.1 hu; rfl
            case ap3 => have := HLL.out; simp [maxLen] at this ⊢; omega
            case ap4 => have := HLL.out; simp at this ⊢; omega
            case ap5 => omega
            intro u' w7 hown' hgrow _
            have HO7 : Hid _ := hown'
            have HB7 : Hid (Below w.heap.size w w7) := HB6.out.grown hgrow (by omega) (own_base HO6.out)
            have hzz7 := HB7.out.size
            clear hown' hgrow hc6 ho6
            go_wp2_with (at_builtin; refine wpList_append_own _ rfl _ _ 41 rfl w.heap.size 9 i0 (.string ⟨#[]⟩) 1 16 Tryd.underlying41 hi0 hy0 hy1 hy2 rfl (by decide) _ _ _ rfl (own_below HO7.out ((Below.refl _ _).alloc (Nat.le_refl _) _)) ⟨w7.heap.size, 0, none⟩ 1 1 [.string (⟨(ind q).toArray⟩ ++ ⟨#[125]⟩)] rfl rfl ?ap1 ?ap2 ?ap3 ?ap4 ?ap5 ?_)
            case ap1 =>
              intro j u hj
              match j, hj with
              | 0, hj => simp at hj; subst hj; simp [Addr.add, go_sem]
            case ap2 => intro u hu; simp at hu; subst hu; rfl
            case ap3 => have := HLL.out; simp [maxLen] at this ⊢; omega
            case ap4 => have := HLL.out; simp at this ⊢; omega
            case ap5 => simp; omega
            intro u' w8 hown' hgrow _
            have HO8 : Hid _ := hown'
            have HB8 : Hid (Below w.heap.size w w8) := (HB7.out.alloc (by omega) _).grown hgrow (by simp; omega) (own_base HO7.out)
            clear hown' hgrow
            go_wp2_with fail
            go_roundw
            case rel =>
              refine ⟨P1 ++ [(n :: (f ++ c :: nodesOf P4), (ind q ++ ([105, 102, 32] ++ (brk 1 lv t ++ [32, 123]))) :: (linesOf P4 ++ [ind q ++ [125]]))], P3, by simp, ?_, ?_, HB8⟩
              · unfold Hid; rw [HPP.out]; simp
              · unfold Hid
                have h9 := HO8.out
                rw [show (⟨(ind q).toArray⟩ ++ ⟨#[105, 102, 32]⟩ ++ ⟨(brk 1 lv t).toArray⟩ ++ ⟨#[32, 123]⟩ : ByteArray) = ⟨(ind q ++ ([105, 102, 32] ++ (brk 1 lv t ++ [32, 123]))).toArray⟩ from bs_eq (by simp [ByteArray.toList_eq])] at h9
                rw [show (⟨(ind q).toArray⟩ ++ ⟨#[125]⟩ : ByteArray) = ⟨(ind q ++ [125]).toArray⟩ from bs_eq (by simp [ByteArray.toList_eq])] at h9
                have e1 : (linesOf P1 ++ ((ind q ++ ([105, 102, 32] ++ (brk 1 lv t ++ [32, 123]))) :: (linesOf P4 ++ [ind q ++ [125]]))).length = (linesOf P1).length + 1 + (linesOf P4).length + 1 := by first | (simp; done) | (simp; omega)
                have e2 : strs (linesOf P1 ++ ((ind q ++ ([105, 102, 32] ++ (brk 1 lv t ++ [32, 123]))) :: (linesOf P4 ++ [ind q ++ [125]]))) = strs (linesOf P1) ++ .string ⟨(ind q ++ ([105, 102, 32] ++ (brk 1 lv t ++ [32, 123]))).toArray⟩ :: (strs (linesOf P4) ++ [.string ⟨(ind q ++ [125]).toArray⟩]) := by unfold strs; simp
                rw [linesOf_snoc]
                show World.ownsRow _ _ _ _ _ (linesOf P1 ++ ((ind q ++ ([105, 102, 32] ++ (brk 1 lv t ++ [32, 123]))) :: (linesOf P4 ++ [ind q ++ [125]]))).length (strs (linesOf P1 ++ ((ind q ++ ([105, 102, 32] ++ (brk 1 lv t ++ [32, 123]))) :: (linesOf P4 ++ [ind q ++ [125]]))))
                rw [e1, e2]
                exact h9
            case measure => simp [intOf]; omega
      | if2 q n c c2 f lv t P4 P5 hd hf hk hx hcd hcf hck hP4 hdd hdf hdk hP5 =>
        as_aux_lemma =>
          have hA0 := at_segs (n := n) (pre := pre ++ nodesOf P1) (post := nodesOf P3 ++ post) ([f, c :: nodesOf P4, c2 :: nodesOf P5]) (d := 2 * q + 1) hd (by simp; exact ⟨hx.segD, ⟨c, nodesOf P4, rfl, (by rw [hcd]; omega), fun x hx9 => (by obtain ⟨g9, hg9, hx9⟩ := List.mem_flatten.1 hx9; obtain ⟨p9, hp9, rfl⟩ := List.mem_map.1 hg9; have := (hP4 p9 hp9).segD.all x hx9; omega)⟩, ⟨c2, nodesOf P5, rfl, (by rw [hdd]; omega), fun x hx9 => (by obtain ⟨g9, hg9, hx9⟩ := List.mem_flatten.1 hx9; obtain ⟨p9, hp9, rfl⟩ := List.mem_map.1 hg9; have := (hP5 p9 hp9).segD.all x hx9; omega)⟩⟩) HEP.out
          have e0 : (pre ++ nodesOf P1) ++ (n :: ([f, c :: nodesOf P4, c2 :: nodesOf P5] : List (List Nd)).flatten ++ (nodesOf P3 ++ post)) = ns := by rw [HNX.out]; simp
          rw [e0, ← HI.out] at hA0
          have hA : At ns i n [i + 1, i + 1 + f.length, i + 1 + f.length + ((nodesOf P4).length + 1)] := hA0
          have hil := hA.lt
          have hi3 : (i : Int) < (ns.length : Int) := by omega
          obtain ⟨c0, c1, c2, c3, c4, c5⟩ := hA.node (HN.out.below HB.out)
          rw [hk] at c1
          have HH : Hid (∀ w', Below w.heap.size w w' → Calls Tryd.prog 30 #[.slice (some ⟨b, o, none⟩) ns.length cap, .int .i64 i] w' fun y w2 => ∃ v, y = .returned v ∧ w2.ownsRow w'.heap.size 3 1 v ([i + 1, i + 1 + f.length, i + 1 + f.length + ((nodesOf P4).length + 1)] : List Nat).length (ints [i + 1, i + 1 + f.length, i + 1 + f.length + ((nodesOf P4).length + 1)]) ∧ Below w'.heap.size w' w2) := fun w' hb => hA.held_any b o cap w' (HN.out.below hb) hlen
          have hB0 : Below wr.heap.size wr (wr.alloc (.cells #[.int .i64 n.depth, .int .i64 n.kind, .string n.name, .int .i64 n.num, .int .i64 n.op, .int .i64 n.pos] 31)) := (Below.refl _ _).alloc (Nat.le_refl _) _
          have HN0 : Hid (NdAt (wr.alloc (.cells #[.int .i64 n.depth, .int .i64 n.kind, .string n.name, .int .i64 n.num, .int .i64 n.op, .int .i64 n.pos] 31)) wr.heap.size n) := heap_alloc_new _ _
          rw [hk] at hB0
          simp only [hk] at HN0
          have HB0 : Hid (Below w.heap.size w _) := HB.out.trans (hB0.mono hz0)
          have HO0 : Hid _ := own_below HO.out hB0
          have hnm := hf.name
          rw [toList_len] at hnm
          have HHK : Hid _ := hk
          have HHD : Hid _ := hd
          clear hA0 e0 hA hB0 hk hd
          have atk0 : (wr.alloc (.cells #[.int .i64 n.depth, .int .i64 7, .string n.name, .int .i64 n.num, .int .i64 n.op, .int .i64 n.pos] 31)).cell? ⟨g, P1.length, none⟩ = some (.int .i64 i) := by
            rw [((Below.refl wr.heap.size wr).alloc (Nat.le_refl _) _).cell (p := ⟨g, P1.length, none⟩) hgw]; exact atk
          go_wp2_with fail
          refine (HH.out _ HB0.out).mono ?_
          rintro y w2 ⟨vh, rfl, ho2, hb2⟩
          have HB2 : Hid (Below w.heap.size w w2) := HB0.out.trans (hb2.mono HB0.out.size)
          have HN2 : Hid (NdAt w2 wr.heap.size n) := HN0.out.below hb2
          have HO2 : Hid (w2.ownsRow w.heap.size 9 1 _ (linesOf P1).length (strs (linesOf P1))) := own_below HO0.out hb2
          have HR2 : Hid _ := ho2
          have hz2 := HN2.out.lt
          have hz2w := HB2.out.size
          clear hb2 ho2 c0 c1 c2 c3 c4 c5 atk0
          obtain ⟨d0, d1, d2, d3, d4, d5⟩ := HN2.out.cells
          rw [HHK.out] at d1
          have hE2 : Ends (2 * q + 2) ((c2 :: nodesOf P5) ++ (nodesOf P3 ++ post)) := fun m t9 h9 => by injection h9 with h1 _; rw [← h1, hdd]; omega
          have HX : Hid (∀ w', Below w.heap.size w w' → Calls Tryd.prog 32 #[.slice (some ⟨b, o, none⟩) ns.length cap, .int .i64 (i + 1 : Nat), .int .i64 1] w' fun y w2 => y = .returned (.string ⟨(brk 1 lv t).toArray⟩) ∧ Below w'.heap.size w' w2) := by
            intro w' hb
            have e9 : ((pre ++ nodesOf P1) ++ [n]) ++ (f ++ ((c :: nodesOf P4) ++ ((c2 :: nodesOf P5) ++ (nodesOf P3 ++ post)))) = ns := by rw [HNX.out]; simp
            have h9 := rex_any hx b o cap ((pre ++ nodesOf P1) ++ [n]) ((c :: nodesOf P4) ++ ((c2 :: nodesOf P5) ++ (nodesOf P3 ++ post))) 1 w' (fun m t9 h9 => by injection h9 with h1 _; rw [← h1, hcd]; omega) (by rw [e9]; exact HN.out.below hb) (by rw [e9]; exact hlen) (by omega) (HG.out.below hb)
            rw [e9, List.length_append, ← HI.out] at h9
            exact h9
          have hxl : (brk 1 lv t).length ≤ 60000 := by
            have h8 := hx.len
            have h7 := brk_len 1 lv t
            have h6 : f.length ≤ 300 := by rw [HNX.out] at hlen; simp at hlen; omega
            omega
          have HSA : Hid (∀ w', Below w.heap.size w w' → Calls Tryd.prog 30 #[.slice (some ⟨b, o, none⟩) ns.length cap, .int .i64 (i + 1 + f.length : Nat)] w' fun y w2 => ∃ v, y = .returned v ∧ w2.ownsRow w'.heap.size 3 1 v (places (i + 1 + f.length + 1) P4).length (ints (places (i + 1 + f.length + 1) P4)) ∧ Below w'.heap.size w' w2) := by
            intro w' hb
            have h9 := at_segs (n := c) (pre := (pre ++ nodesOf P1) ++ (n :: f)) (post := (c2 :: nodesOf P5) ++ (nodesOf P3 ++ post)) (P4.map (·.1)) (d := 2 * q + 2) (by rw [hcd]; omega) (fun g hg => by obtain ⟨p, hp, rfl⟩ := List.mem_map.1 hg; have := (hP4 p hp).segD; exact this) hE2
            have e9 : ((pre ++ nodesOf P1) ++ (n :: f)) ++ (c :: (P4.map (·.1)).flatten ++ ((c2 :: nodesOf P5) ++ (nodesOf P3 ++ post))) = ns := by rw [HNX.out]; simp [nodesOf]
            rw [e9, List.length_append, ← HI.out, show i + ((n :: f) : List Nd).length = i + 1 + f.length by simp; omega] at h9
            exact h9.held_any b o cap w' (HN.out.below hb) hlen
          have HSB : Hid (∀ v4 w', Below w.heap.size w w' → PlRow w' v4 (places (i + 1 + f.length + 1) P4) → Calls Tryd.prog 15 #[.slice (some ⟨b, o, none⟩) ns.length cap, v4, .int .i64 ((q : Int) + 1)] w' fun y w2 => ∃ u, y = .returned u ∧ w2.ownsRow w'.heap.size 9 1 u (linesOf P4).length (strs (linesOf P4)) ∧ Below w'.heap.size w' w2) := by
            intro v4 w' hb hpl
            have e9 : ((pre ++ nodesOf P1) ++ ((n :: f) ++ [c])) ++ (nodesOf P4 ++ ((c2 :: nodesOf P5) ++ (nodesOf P3 ++ post))) = ns := by rw [HNX.out]; simp
            have e8 : ((pre ++ nodesOf P1) ++ ((n :: f) ++ [c])).length = i + 1 + f.length + 1 := by rw [List.length_append, ← HI.out]; simp; omega
            have h9 := HIL.out P4 (by rw [HPP.out, nodesOf_app, nodesOf_cons]; simp; omega) (q + 1) b o cap ((pre ++ nodesOf P1) ++ ((n :: f) ++ [c])) ((c2 :: nodesOf P5) ++ (nodesOf P3 ++ post)) v4 w' hP4 (Ends.up hE2 (by omega)) (by rw [e9]; exact HN.out.below hb) (by rw [e9]; exact hlen) (HG.out.below hb) (by have h1 := hcd; have h2 := hcf.deep; omega) (by rw [e8]; exact hpl)
            rw [e9, show ((q + 1 : Nat) : Int) = (q : Int) + 1 by omega] at h9
            exact h9
          have HTA : Hid (∀ w', Below w.heap.size w w' → Calls Tryd.prog 30 #[.slice (some ⟨b, o, none⟩) ns.length cap, .int .i64 (i + 1 + f.length + ((nodesOf P4).length + 1) : Nat)] w' fun y w2 => ∃ v, y = .returned v ∧ w2.ownsRow w'.heap.size 3 1 v (places (i + 1 + f.length + ((nodesOf P4).length + 1) + 1) P5).length (ints (places (i + 1 + f.length + ((nodesOf P4).length + 1) + 1) P5)) ∧ Below w'.heap.size w' w2) := by
            intro w' hb
            have h9 := at_segs (n := c2) (pre := (pre ++ nodesOf P1) ++ (n :: (f ++ c :: nodesOf P4))) (post := nodesOf P3 ++ post) (P5.map (·.1)) (d := 2 * q + 2) (by rw [hdd]; omega) (fun g hg => by obtain ⟨p, hp, rfl⟩ := List.mem_map.1 hg; have := (hP5 p hp).segD; exact this) (HEP.out.up (by omega))
            have e9 : ((pre ++ nodesOf P1) ++ (n :: (f ++ c :: nodesOf P4))) ++ (c2 :: (P5.map (·.1)).flatten ++ (nodesOf P3 ++ post)) = ns := by rw [HNX.out]; simp [nodesOf]
            rw [e9, List.length_append, ← HI.out, show i + ((n :: (f ++ c :: nodesOf P4)) : List Nd).length = i + 1 + f.length + ((nodesOf P4).length + 1) by simp; omega] at h9
            exact h9.held_any b o cap w' (HN.out.below hb) hlen
          have HTB : Hid (∀ v4 w', Below w.heap.size w w' → PlRow w' v4 (places (i + 1 + f.length + ((nodesOf P4).length + 1) + 1) P5) → Calls Tryd.prog 15 #[.slice (some ⟨b, o, none⟩) ns.length cap, v4, .int .i64 ((q : Int) + 1)] w' fun y w2 => ∃ u, y = .returned u ∧ w2.ownsRow w'.heap.size 9 1 u (linesOf P5).length (strs (linesOf P5)) ∧ Below w'.heap.size w' w2) := by
            intro v4 w' hb hpl
            have e9 : ((pre ++ nodesOf P1) ++ ((n :: (f ++ c :: nodesOf P4)) ++ [c2])) ++ (nodesOf P5 ++ (nodesOf P3 ++ post)) = ns := by rw [HNX.out]; simp
            have e8 : ((pre ++ nodesOf P1) ++ ((n :: (f ++ c :: nodesOf P4)) ++ [c2])).length = i + 1 + f.length + ((nodesOf P4).length + 1) + 1 := by rw [List.length_append, ← HI.out]; simp; omega
            have h9 := HIL.out P5 (by rw [HPP.out, nodesOf_app, nodesOf_cons]; simp; omega) (q + 1) b o cap ((pre ++ nodesOf P1) ++ ((n :: (f ++ c :: nodesOf P4)) ++ [c2])) (nodesOf P3 ++ post) v4 w' hP5 (Ends.up HEP.out (by omega)) (by rw [e9]; exact HN.out.below hb) (by rw [e9]; exact hlen) (HG.out.below hb) (by have h1 := hdd; have h2 := hdf.deep; omega) (by rw [e8]; exact hpl)
            rw [e9, show ((q + 1 : Nat) : Int) = (q : Int) + 1 by omega] at h9
            exact h9
          have q34a : ¬ 9223372036854775807 < (ind q).length + 3 := by omega
          have q34b : (ind q).length + 3 ≤ 9223372036854775807 := by omega
          have q34c : decide (9223372036854775807 < (ind q).length + 3) = false := decide_eq_false (by omega)
          have q35a : ¬ 9223372036854775807 < (ind q).length + 3 + (brk 1 lv t).length := by omega
          have q35b : (ind q).length + 3 + (brk 1 lv t).length ≤ 9223372036854775807 := by omega
          have q35c : decide (9223372036854775807 < (ind q).length + 3 + (brk 1 lv t).length) = false := decide_eq_false (by omega)
          have q36a : ¬ 9223372036854775807 < (ind q).length + 3 + (brk 1 lv t).length + 2 := by omega
          have q36b : (ind q).length + 3 + (brk 1 lv t).length + 2 ≤ 9223372036854775807 := by omega
          have q36c : decide (9223372036854775807 < (ind q).length + 3 + (brk 1 lv t).length + 2) = false := decide_eq_false (by omega)
          have q37a : ¬ 9223372036854775807 < (ind q).length + 1 := by omega
          have q37b : (ind q).length + 1 ≤ 9223372036854775807 := by omega
          have q37c : decide (9223372036854775807 < (ind q).length + 1) = false := decide_eq_false (by omega)
          have q38a : ¬ 9223372036854775807 < (ind q).length + 8 := by omega
          have q38b : (ind q).length + 8 ≤ 9223372036854775807 := by omega
          have q38c : decide (9223372036854775807 < (ind q).length + 8) = false := decide_eq_false (by omega)
          obtain ⟨gh, ghc, hcur, hvh, hg1, hg2, hgb, hgc⟩ := held_block HR2.out (by simp)
          subst hvh
          have r0 : w2.cell? ⟨gh, 0, none⟩ = some (.int .i64 ((i + 1 : Nat) : Int)) := (Lib.cell_of_heap hgb _).trans (hgc 0 (by simp))
          have hc1 : Hid (hcur[1]? = some (.int .i64 ((i + 1 + f.length : Nat) : Int))) := hgc 1 (by simp)
          have hc2 : Hid (hcur[2]? = some (.int .i64 ((i + 1 + f.length + ((nodesOf P4).length + 1) : Nat) : Int))) := hgc 2 (by simp)
          have HH2 : Hid (w2.heap[gh]? = some (.cells hcur 3)) := hgb
          clear hgc hgb hE2
          go_wp2_with fail
          refine (HX.out _ HB2.out).mono ?_
          rintro y w3 ⟨rfl, hb3⟩
          have HB3 : Hid (Below w.heap.size w w3) := HB2.out.trans (hb3.mono HB2.out.size)
          have HN3 : Hid (NdAt w3 wr.heap.size n) := HN2.out.below hb3
          have HO3 : Hid (w3.ownsRow w.heap.size 9 1 _ _ _) := own_below HO2.out hb3
          have hz3 := HN3.out.lt
          have hgw3 : gh < w3.heap.size := by have := hb3.size; omega
          have HH3 : Hid (w3.heap[gh]? = some (.cells hcur 3)) := (hb3.block gh hg2).trans HH2.out
          clear hb3 r0 d0 d1 d2 d3 d4 d5
          go_wp2_with (at_builtin; refine wpList_append_own _ rfl _ _ 41 rfl w.heap.size 9 i0 (.string ⟨#[]⟩) 1 16 Tryd.underlying41 hi0 hy0 hy1 hy2 rfl (by decide) _ _ _ rfl (own_below HO3.out ((Below.refl _ _).alloc (Nat.le_refl _) _)) ⟨w3.heap.size, 0, none⟩ 1 1 [.string (⟨(ind q).toArray⟩ ++ ⟨#[105, 102, 32]⟩ ++ ⟨(brk 1 lv t).toArray⟩ ++ ⟨#[32, 123]⟩)] rfl rfl ?ap1 ?ap2 ?ap3 ?ap4 ?ap5 ?_)
          case ap1 =>
            intro j u hj
            match j, hj with
            | 0, hj => simp at hj; subst hj; simp [Addr.add, go_sem]
          case ap2 => intro u hu; simp at hu; subst hu; rfl
          case ap3 => have := HLL.out; simp [maxLen] at this ⊢; omega
          case ap4 => have := HLL.out; simp at this ⊢; omega
          case ap5 => simp; omega
          intro u4 w4 hown' hgrow _
          have HO4 : Hid _ := hown'
          have HB4 : Hid (Below w.heap.size w w4) := (HB3.out.alloc (by omega) _).grown hgrow (by simp; omega) (own_base HO3.out)
          have hzz4 := HB4.out.size
          have hgw4 : gh < w4.heap.size := by have := hgrow.size; simp at this; omega
          have HH4 : Hid (w4.heap[gh]? = some (.cells hcur 3)) := (hgrow.block gh (by simp; omega) (own_ne HO3.out HH3.out)).trans ((((Below.refl w3.heap.size w3).alloc (Nat.le_refl _) _).block gh hgw3).trans HH3.out)
          clear hown' hgrow
          have r1_4 : w4.cell? ⟨gh, 1, none⟩ = some (.int .i64 ((i + 1 + f.length : Nat) : Int)) := (Lib.cell_of_heap HH4.out _).trans hc1.out
          go_wp2_with fail
          refine (HSA.out _ HB4.out).mono ?_
          rintro y w5 ⟨v5, rfl, ho5, hb5⟩
          have HB5 : Hid (Below w.heap.size w w5) := HB4.out.trans (hb5.mono HB4.out.size)
          have HO5 : Hid (w5.ownsRow w.heap.size 9 1 _ _ _) := own_below HO4.out hb5
          have HPR5 : Hid _ := PlRow.of ho5
          have hgw5 : gh < w5.heap.size := by have := hb5.size; omega
          have HH5 : Hid (w5.heap[gh]? = some (.cells hcur 3)) := (hb5.block gh hgw4).trans HH4.out
          clear hb5 ho5 r1_4
          go_wp2_with fail
          refine (HSB.out _ _ HB5.out HPR5.out).mono ?_
          rintro y w6 ⟨v6, rfl, ho6, hb6⟩
          have HB6 : Hid (Below w.heap.size w w6) := HB5.out.trans (hb6.mono HB5.out.size)
          have HO6 : Hid (w6.ownsRow w.heap.size 9 1 _ _ _) := own_below HO5.out hb6
          have HU6 : Hid _ := ho6
          have hzz6 := HB6.out.size
          have hgw6 : gh < w6.heap.size := by have := hb6.size; omega
          have HH6 : Hid (w6.heap[gh]? = some (.cells hcur 3)) := (hb6.block gh hgw5).trans HH5.out
          clear hb6 ho6
          go_wp2_with (at_builtin; refine wpList_append_row rfl _ _ 41 rfl w.heap.size 9 i0 (.string ⟨#[]⟩) 1 16 Tryd.underlying41 hi0 hy0 hy1 hy2 rfl (by decide) _ _ _ rfl HO6.out _ _ _ _ rfl HU6.out (strs_one _) ?ap3 ?ap4 ?ap5 ?_)
          case ap3 => have := HLL.out; simp [maxLen] at this ⊢; omega
          case ap4 => have := HLL.out; simp at this ⊢; omega
          case ap5 => omega
          intro u7 w7 hown' hgrow
          have HO7 : Hid _ := hown'
          have HB7 : Hid (Below w.heap.size w w7) := HB6.out.grown hgrow (by omega) (own_base HO6.out)
          have hzz7 := HB7.out.size
          have hgw7 : gh < w7.heap.size := by have := hgrow.size; omega
          have HH7 : Hid (w7.heap[gh]? = some (.cells hcur 3)) := (hgrow.block gh hgw6 (own_ne HO6.out HH6.out)).trans HH6.out
          clear hown' hgrow
          go_wp2_with (at_builtin; refine wpList_append_own _ rfl _ _ 41 rfl w.heap.size 9 i0 (.string ⟨#[]⟩) 1 16 Tryd.underlying41 hi0 hy0 hy1 hy2 rfl (by decide) _ _ _ rfl (own_below HO7.out ((Below.refl _ _).alloc (Nat.le_refl _) _)) ⟨w7.heap.size, 0, none⟩ 1 1 [.string (⟨(ind q).toArray⟩ ++ ⟨#[125, 32, 101, 108, 115, 101, 32, 123]⟩)] rfl rfl ?ap1 ?ap2 ?ap3 ?ap4 ?ap5 ?_)
          case ap1 =>
            intro j u hj
            match j, hj with
            | 0, hj => simp at hj; subst hj; simp [Addr.add, go_sem]
          case ap2 => intro u hu; simp at hu; subst hu; rfl
          case ap3 => have := HLL.out; simp [maxLen] at this ⊢; omega
          case ap4 => have := HLL.out; simp at this ⊢; omega
          case ap5 => simp; omega
          intro u8 w8 hown' hgrow _
          have HO8 : Hid _ := hown'
          have HB8 : Hid (Below w.heap.size w w8) := (HB7.out.alloc (by omega) _).grown hgrow (by simp; omega) (own_base HO7.out)
          have hzz8 := HB8.out.size
          have hgw8 : gh < w8.heap.size := by have := hgrow.size; simp at this; omega
          have HH8 : Hid (w8.heap[gh]? = some (.cells hcur 3)) := (hgrow.block gh (by simp; omega) (own_ne HO7.out HH7.out)).trans ((((Below.refl w7.heap.size w7).alloc (Nat.le_refl _) _).block gh hgw7).trans HH7.out)
          clear hown' hgrow
          have r2_8 : w8.cell? ⟨gh, 2, none⟩ = some (.int .i64 ((i + 1 + f.length + ((nodesOf P4).length + 1) : Nat) : Int)) := (Lib.cell_of_heap HH8.out _).trans hc2.out
          go_wp2_with fail
          refine (HTA.out _ HB8.out).mono ?_
          rintro y w9 ⟨v9, rfl, ho9, hb9⟩
          have HB9 : Hid (Below w.heap.size w w9) := HB8.out.trans (hb9.mono HB8.out.size)
          have HO9 : Hid (w9.ownsRow w.heap.size 9 1 _ _ _) := own_below HO8.out hb9
          have HPR9 : Hid _ := PlRow.of ho9
          have hgw9 : gh < w9.heap.size := by have := hb9.size; omega
          have HH9 : Hid (w9.heap[gh]? = some (.cells hcur 3)) := (hb9.block gh hgw8).trans HH8.out
          clear hb9 ho9 r2_8
          go_wp2_with fail
          refine (HTB.out _ _ HB9.out HPR9.out).mono ?_
          rintro y w10 ⟨v10, rfl, ho10, hb10⟩
          have HB10 : Hid (Below w.heap.size w w10) := HB9.out.trans (hb10.mono HB9.out.size)
          have HO10 : Hid (w10.ownsRow w.heap.size 9 1 _ _ _) := own_below HO9.out hb10
          have HU10 : Hid _ := ho10
          have hzz10 := HB10.out.size
          have hgw10 : gh < w10.heap.size := by have := hb10.size; omega
          have HH10 : Hid (w10.heap[gh]? = some (.cells hcur 3)) := (hb10.block gh hgw9).trans HH9.out
          clear hb10 ho10
          go_wp2_with (at_builtin; refine wpList_append_row rfl _ _ 41 rfl w.heap.size 9 i0 (.string ⟨#[]⟩) 1 16 Tryd.underlying41 hi0 hy0 hy1 hy2 rfl (by decide) _ _ _ rfl HO10.out _ _ _ _ rfl HU10.out (strs_one _) ?ap3 ?ap4 ?ap5 ?_)
          case ap3 => have := HLL.out; simp [maxLen] at this ⊢; omega
          case ap4 => have := HLL.out; simp at this ⊢; omega
          case ap5 => omega
          intro u11 w11 hown' hgrow
          have HO11 : Hid _ := hown'
          have HB11 : Hid (Below w.heap.size w w11) := HB10.out.grown hgrow (by omega) (own_base HO10.out)
          have hzz11 := HB11.out.size
          have hgw11 : gh < w11.heap.size := by have := hgrow.size; omega
          have HH11 : Hid (w11.heap[gh]? = some (.cells hcur 3)) := (hgrow.block gh hgw10 (own_ne HO10.out HH10.out)).trans HH10.out
          clear hown' hgrow
          go_wp2_with (at_builtin; refine wpList_append_own _ rfl _ _ 41 rfl w.heap.size 9 i0 (.string ⟨#[]⟩) 1 16 Tryd.underlying41 hi0 hy0 hy1 hy2 rfl (by decide) _ _ _ rfl (own_below HO11.out ((Below.refl _ _).alloc (Nat.le_refl _) _)) ⟨w11.heap.size, 0, none⟩ 1 1 [.string (⟨(ind q).toArray⟩ ++ ⟨#[125]⟩)] rfl rfl ?ap1 ?ap2 ?ap3 ?ap4 ?ap5 ?_)
          case ap1 =>
            intro j u hj
            match j, hj with
            | 0, hj => simp at hj; subst hj; simp [Addr.add, go_sem]
          case ap2 => intro u hu; simp at hu; subst hu; rfl
          case ap3 => have := HLL.out; simp [maxLen] at this ⊢; omega
          case ap4 => have := HLL.out; simp at this ⊢; omega
          case ap5 => simp; omega
          intro u12 w12 hown' hgrow _
          have HO12 : Hid _ := hown'
          have HB12 : Hid (Below w.heap.size w w12) := (HB11.out.alloc (by omega) _).grown hgrow (by simp; omega) (own_base HO11.out)
          clear hown' hgrow
          go_wp2_with fail
          go_roundw
          case rel =>
            refine ⟨P1 ++ [(n :: (f ++ c :: (nodesOf P4 ++ c2 :: nodesOf P5)), (ind q ++ ([105, 102, 32] ++ (brk 1 lv t ++ [32, 123]))) :: (linesOf P4 ++ (ind q ++ [125, 32, 101, 108, 115, 101, 32, 123]) :: (linesOf P5 ++ [ind q ++ [125]])))], P3, by simp, ?_, ?_, HB12⟩
            · unfold Hid; rw [HPP.out]; simp
            · unfold Hid
              have h9 := HO12.out
              rw [show (⟨(ind q).toArray⟩ ++ ⟨#[105, 102, 32]⟩ ++ ⟨(brk 1 lv t).toArray⟩ ++ ⟨#[32, 123]⟩ : ByteArray) = ⟨(ind q ++ ([105, 102, 32] ++ (brk 1 lv t ++ [32, 123]))).toArray⟩ from bs_eq (by simp [ByteArray.toList_eq])] at h9
              rw [show (⟨(ind q).toArray⟩ ++ ⟨#[125, 32, 101, 108, 115, 101, 32, 123]⟩ : ByteArray) = ⟨(ind q ++ [125, 32, 101, 108, 115, 101, 32, 123]).toArray⟩ from bs_eq (by simp [ByteArray.toList_eq])] at h9
              rw [show (⟨(ind q).toArray⟩ ++ ⟨#[125]⟩ : ByteArray) = ⟨(ind q ++ [125]).toArray⟩ from bs_eq (by simp [ByteArray.toList_eq])] at h9
              have e1 : (linesOf P1 ++ ((ind q ++ ([105, 102, 32] ++ (brk 1 lv t ++ [32, 123]))) :: (linesOf P4 ++ (ind q ++ [125, 32, 101, 108, 115, 101, 32, 123]) :: (linesOf P5 ++ [ind q ++ [125]])))).length = (linesOf P1).length + 1 + (linesOf P4).length + 1 + (linesOf P5).length + 1 := by first | (simp; done) | (simp; omega)
              have e2 : strs (linesOf P1 ++ ((ind q ++ ([105, 102, 32] ++ (brk 1 lv t ++ [32, 123]))) :: (linesOf P4 ++ (ind q ++ [125, 32, 101, 108, 115, 101, 32, 123]) :: (linesOf P5 ++ [ind q ++ [125]])))) = strs (linesOf P1) ++ .string ⟨(ind q ++ ([105, 102, 32] ++ (brk 1 lv t ++ [32, 123]))).toArray⟩ :: (strs (linesOf P4) ++ .string ⟨(ind q ++ [125, 32, 101, 108, 115, 101, 32, 123]).toArray⟩ :: (strs (linesOf P5) ++ [.string ⟨(ind q ++ [125]).toArray⟩])) := by unfold strs; simp
              rw [linesOf_snoc]
              show World.ownsRow _ _ _ _ _ (linesOf P1 ++ ((ind q ++ ([105, 102, 32] ++ (brk 1 lv t ++ [32, 123]))) :: (linesOf P4 ++ (ind q ++ [125, 32, 101, 108, 115, 101, 32, 123]) :: (linesOf P5 ++ [ind q ++ [125]])))).length (strs (linesOf P1 ++ ((ind q ++ ([105, 102, 32] ++ (brk 1 lv t ++ [32, 123]))) :: (linesOf P4 ++ (ind q ++ [125, 32, 101, 108, 115, 101, 32, 123]) :: (linesOf P5 ++ [ind q ++ [125]])))))
              rw [e1, e2]
              exact h9
          case measure => simp [intOf]; omega
      | loop q n c f lv t P4 hd hf hk hx hcd hcf hck hP4 =>
        as_aux_lemma =>
          have hA0 := at_segs (n := n) (pre := pre ++ nodesOf P1) (post := nodesOf P3 ++ post) ([f, c :: nodesOf P4]) (d := 2 * q + 1) hd (by simp; exact ⟨hx.segD, ⟨c, nodesOf P4, rfl, (by rw [hcd]; omega), fun x hx9 => (by obtain ⟨g9, hg9, hx9⟩ := List.mem_flatten.1 hx9; obtain ⟨p9, hp9, rfl⟩ := List.mem_map.1 hg9; have := (hP4 p9 hp9).segD.all x hx9; omega)⟩⟩) HEP.out
          have e0 : (pre ++ nodesOf P1) ++ (n :: ([f, c :: nodesOf P4] : List (List Nd)).flatten ++ (nodesOf P3 ++ post)) = ns := by rw [HNX.out]; simp
          rw [e0, ← HI.out] at hA0
          have hA : At ns i n [i + 1, i + 1 + f.length] := hA0
          have hil := hA.lt
          have hi3 : (i : Int) < (ns.length : Int) := by omega
          obtain ⟨c0, c1, c2, c3, c4, c5⟩ := hA.node (HN.out.below HB.out)
          rw [hk] at c1
          have HH : Hid (∀ w', Below w.heap.size w w' → Calls Tryd.prog 30 #[.slice (some ⟨b, o, none⟩) ns.length cap, .int .i64 i] w' fun y w2 => ∃ v, y = .returned v ∧ w2.ownsRow w'.heap.size 3 1 v ([i + 1, i + 1 + f.length] : List Nat).length (ints [i + 1, i + 1 + f.length]) ∧ Below w'.heap.size w' w2) := fun w' hb => hA.held_any b o cap w' (HN.out.below hb) hlen
          have hB0 : Below wr.heap.size wr (wr.alloc (.cells #[.int .i64 n.depth, .int .i64 n.kind, .string n.name, .int .i64 n.num, .int .i64 n.op, .int .i64 n.pos] 31)) := (Below.refl _ _).alloc (Nat.le_refl _) _
          have HN0 : Hid (NdAt (wr.alloc (.cells #[.int .i64 n.depth, .int .i64 n.kind, .string n.name, .int .i64 n.num, .int .i64 n.op, .int .i64 n.pos] 31)) wr.heap.size n) := heap_alloc_new _ _
          rw [hk] at hB0
          simp only [hk] at HN0
          have HB0 : Hid (Below w.heap.size w _) := HB.out.trans (hB0.mono hz0)
          have HO0 : Hid _ := own_below HO.out hB0
          have hnm := hf.name
          rw [toList_len] at hnm
          have HHK : Hid _ := hk
          have HHD : Hid _ := hd
          clear hA0 e0 hA hB0 hk hd
          have atk0 : (wr.alloc (.cells #[.int .i64 n.depth, .int .i64 8, .string n.name, .int .i64 n.num, .int .i64 n.op, .int .i64 n.pos] 31)).cell? ⟨g, P1.length, none⟩ = some (.int .i64 i) := by
            rw [((Below.refl wr.heap.size wr).alloc (Nat.le_refl _) _).cell (p := ⟨g, P1.length, none⟩) hgw]; exact atk
          go_wp2_with fail
          refine (HH.out _ HB0.out).mono ?_
          rintro y w2 ⟨vh, rfl, ho2, hb2⟩
          have HB2 : Hid (Below w.heap.size w w2) := HB0.out.trans (hb2.mono HB0.out.size)
          have HN2 : Hid (NdAt w2 wr.heap.size n) := HN0.out.below hb2
          have HO2 : Hid (w2.ownsRow w.heap.size 9 1 _ (linesOf P1).length (strs (linesOf P1))) := own_below HO0.out hb2
          have HR2 : Hid _ := ho2
          have hz2 := HN2.out.lt
          have hz2w := HB2.out.size
          clear hb2 ho2 c0 c1 c2 c3 c4 c5 atk0
          obtain ⟨d0, d1, d2, d3, d4, d5⟩ := HN2.out.cells
          rw [HHK.out] at d1
          have HX : Hid (∀ w', Below w.heap.size w w' → Calls Tryd.prog 32 #[.slice (some ⟨b, o, none⟩) ns.length cap, .int .i64 (i + 1 : Nat), .int .i64 1] w' fun y w2 => y = .returned (.string ⟨(brk 1 lv t).toArray⟩) ∧ Below w'.heap.size w' w2) := by
            intro w' hb
            have e9 : ((pre ++ nodesOf P1) ++ [n]) ++ (f ++ ((c :: nodesOf P4) ++ (nodesOf P3 ++ post))) = ns := by rw [HNX.out]; simp
            have h9 := rex_any hx b o cap ((pre ++ nodesOf P1) ++ [n]) ((c :: nodesOf P4) ++ (nodesOf P3 ++ post)) 1 w' (fun m t9 h9 => by injection h9 with h1 _; rw [← h1, hcd]; omega) (by rw [e9]; exact HN.out.below hb) (by rw [e9]; exact hlen) (by omega) (HG.out.below hb)
            rw [e9, List.length_append, ← HI.out] at h9
            exact h9
          have hxl : (brk 1 lv t).length ≤ 60000 := by
            have h8 := hx.len
            have h7 := brk_len 1 lv t
            have h6 : f.length ≤ 300 := by rw [HNX.out] at hlen; simp at hlen; omega
            omega
          have HSA : Hid (∀ w', Below w.heap.size w w' → Calls Tryd.prog 30 #[.slice (some ⟨b, o, none⟩) ns.length cap, .int .i64 (i + 1 + f.length : Nat)] w' fun y w2 => ∃ v, y = .returned v ∧ w2.ownsRow w'.heap.size 3 1 v (places (i + 1 + f.length + 1) P4).length (ints (places (i + 1 + f.length + 1) P4)) ∧ Below w'.heap.size w' w2) := by
            intro w' hb
            have h9 := at_segs (n := c) (pre := (pre ++ nodesOf P1) ++ (n :: f)) (post := nodesOf P3 ++ post) (P4.map (·.1)) (d := 2 * q + 2) (by rw [hcd]; omega) (fun g hg => by obtain ⟨p, hp, rfl⟩ := List.mem_map.1 hg; have := (hP4 p hp).segD; exact this) (HEP.out.up (by omega))
            have e9 : ((pre ++ nodesOf P1) ++ (n :: f)) ++ (c :: (P4.map (·.1)).flatten ++ (nodesOf P3 ++ post)) = ns := by rw [HNX.out]; simp [nodesOf]
            rw [e9, List.length_append, ← HI.out, show i + ((n :: f) : List Nd).length = i + 1 + f.length by simp; omega] at h9
            exact h9.held_any b o cap w' (HN.out.below hb) hlen
          have HSB : Hid (∀ v4 w', Below w.heap.size w w' → PlRow w' v4 (places (i + 1 + f.length + 1) P4) → Calls Tryd.prog 15 #[.slice (some ⟨b, o, none⟩) ns.length cap, v4, .int .i64 ((q : Int) + 1)] w' fun y w2 => ∃ u, y = .returned u ∧ w2.ownsRow w'.heap.size 9 1 u (linesOf P4).length (strs (linesOf P4)) ∧ Below w'.heap.size w' w2) := by
            intro v4 w' hb hpl
            have e9 : ((pre ++ nodesOf P1) ++ ((n :: f) ++ [c])) ++ (nodesOf P4 ++ (nodesOf P3 ++ post)) = ns := by rw [HNX.out]; simp
            have e8 : ((pre ++ nodesOf P1) ++ ((n :: f) ++ [c])).length = i + 1 + f.length + 1 := by rw [List.length_append, ← HI.out]; simp; omega
            have h9 := HIL.out P4 (by rw [HPP.out, nodesOf_app, nodesOf_cons]; simp; omega) (q + 1) b o cap ((pre ++ nodesOf P1) ++ ((n :: f) ++ [c])) (nodesOf P3 ++ post) v4 w' hP4 (Ends.up HEP.out (by omega)) (by rw [e9]; exact HN.out.below hb) (by rw [e9]; exact hlen) (HG.out.below hb) (by have h1 := hcd; have h2 := hcf.deep; omega) (by rw [e8]; exact hpl)
            rw [e9, show ((q + 1 : Nat) : Int) = (q : Int) + 1 by omega] at h9
            exact h9
          have q30a : ¬ 9223372036854775807 < (ind q).length + 6 := by omega
          have q30b : (ind q).length + 6 ≤ 9223372036854775807 := by omega
          have q30c : decide (9223372036854775807 < (ind q).length + 6) = false := decide_eq_false (by omega)
          have q31a : ¬ 9223372036854775807 < (ind q).length + 6 + (brk 1 lv t).length := by omega
          have q31b : (ind q).length + 6 + (brk 1 lv t).length ≤ 9223372036854775807 := by omega
          have q31c : decide (9223372036854775807 < (ind q).length + 6 + (brk 1 lv t).length) = false := decide_eq_false (by omega)
          have q32a : ¬ 9223372036854775807 < (ind q).length + 6 + (brk 1 lv t).length + 2 := by omega
          have q32b : (ind q).length + 6 + (brk 1 lv t).length + 2 ≤ 9223372036854775807 := by omega
          have q32c : decide (9223372036854775807 < (ind q).length + 6 + (brk 1 lv t).length + 2) = false := decide_eq_false (by omega)
          have q33a : ¬ 9223372036854775807 < (ind q).length + 1 := by omega
          have q33b : (ind q).length + 1 ≤ 9223372036854775807 := by omega
          have q33c : decide (9223372036854775807 < (ind q).length + 1) = false := decide_eq_false (by omega)
          obtain ⟨gh, ghc, rfl, hg1, hg2, hgc⟩ := own_cells HR2.out (by simp)
          have r0 : w2.cell? ⟨gh, 0, none⟩ = some (.int .i64 ((i + 1 : Nat) : Int)) := hgc 0 (by simp)
          have r1 : w2.cell? ⟨gh, 1, none⟩ = some (.int .i64 ((i + 1 + f.length : Nat) : Int)) := hgc 1 (by simp)
          clear hgc
          have hob : ∀ k, u7.ownBlock = some k → k < wr.heap.size := fun k hk => (World.ownsRow.lt HO.out k hk).2
          have hob2 : u7.ownBlock ≠ some gh := fun h => by have := hob _ h; simp at hg1; omega
          have HOB : Hid _ := hob
          clear hob
          go_wp2_with fail
          refine (HX.out _ HB2.out).mono ?_
          rintro y w3 ⟨rfl, hb3⟩
          have HB3 : Hid (Below w.heap.size w w3) := HB2.out.trans (hb3.mono HB2.out.size)
          have HN3 : Hid (NdAt w3 wr.heap.size n) := HN2.out.below hb3
          have HO3 : Hid (w3.ownsRow w.heap.size 9 1 _ _ _) := own_below HO2.out hb3
          have hz3 := HN3.out.lt
          have hgw3 : gh < w3.heap.size := by have := hb3.size; omega
          have r1_3 : w3.cell? ⟨gh, 1, none⟩ = some (.int .i64 ((i + 1 + f.length : Nat) : Int)) := (hb3.cell (p := ⟨gh, 1, none⟩) hg2).trans r1
          clear hb3 r0 r1 d0 d1 d2 d3 d4 d5
          go_wp2_with (at_builtin; refine wpList_append_own _ rfl _ _ 41 rfl w.heap.size 9 i0 (.string ⟨#[]⟩) 1 16 Tryd.underlying41 hi0 hy0 hy1 hy2 rfl (by decide) _ _ _ rfl (own_below HO3.out ((Below.refl _ _).alloc (Nat.le_refl _) _)) ⟨w3.heap.size, 0, none⟩ 1 1 [.string (⟨(ind q).toArray⟩ ++ ⟨#[119, 104, 105, 108, 101, 32]⟩ ++ ⟨(brk 1 lv t).toArray⟩ ++ ⟨#[32, 123]⟩)] rfl rfl ?ap1 ?ap2 ?ap3 ?ap4 ?ap5 ?_)
          case ap1 =>
            intro j u hj
            match j, hj with
            | 0, hj => simp at hj; subst hj; simp [Addr.add, go_sem]
          case ap2 => intro u hu; simp at hu; subst hu; rfl
          case ap3 => have := HLL.out; simp [maxLen] at this ⊢; omega
          case ap4 => have := HLL.out; simp at this ⊢; omega
          case ap5 => simp; omega
          intro u' w4 hown' hgrow _
          have HO4 : Hid _ := hown'
          have HB4 : Hid (Below w.heap.size w w4) := (HB3.out.alloc (by omega) _).grown hgrow (by simp; omega) (own_base HO3.out)
          have r1_4 : w4.cell? ⟨gh, 1, none⟩ = some (.int .i64 ((i + 1 + f.length : Nat) : Int)) := (hgrow.cell_far _ (by first | (simp; done) | (simp; omega)) (Ne.symm hob2)).trans ((((Below.refl w3.heap.size w3).alloc (Nat.le_refl _) _).cell (p := ⟨gh, 1, none⟩) hgw3).trans r1_3)
          have hz4 := hgrow.size
          clear hown' hgrow
          go_wp2_with fail
          refine (HSA.out _ HB4.out).mono ?_
          rintro y w5 ⟨v5, rfl, ho5, hb5⟩
          have HB5 : Hid (Below w.heap.size w w5) := HB4.out.trans (hb5.mono HB4.out.size)
          have HO5 : Hid (w5.ownsRow w.heap.size 9 1 _ _ _) := own_below HO4.out hb5
          have HPR5 : Hid _ := PlRow.of ho5
          clear hb5 ho5
          go_wp2_with fail
          refine (HSB.out _ _ HB5.out HPR5.out).mono ?_
          rintro y w6 ⟨v6, rfl, ho6, hb6⟩
          have HB6 : Hid (Below w.heap.size w w6) := HB5.out.trans (hb6.mono HB5.out.size)
          have HO6 : Hid (w6.ownsRow w.heap.size 9 1 _ _ _) := own_below HO5.out hb6
          have hzz6 := HB6.out.size
          clear hb6
          rcases ho6.2 with ⟨rfl, hn6⟩ | ⟨g6, cp6, cur6, rfl, _, hgg6, hq1, hq2, hq3, hq4⟩
          · have hl0 : linesOf P4 = [] := List.length_eq_zero_iff.1 hn6
            have HO6 : Hid (w6.ownsRow w.heap.size 9 1 _ _ _) := HO6.out
            clear ho6
            go_wp2_with (first | (at_builtin; refine wpList_append_own_none rfl _ _ 41 rfl w.heap.size 9 i0 1 Tryd.underlying41 hi0 _ _ _ rfl HO6.out rfl ?_) | (at_builtin; refine wpList_append_own _ rfl _ _ 41 rfl w.heap.size 9 i0 (.string ⟨#[]⟩) 1 16 Tryd.underlying41 hi0 hy0 hy1 hy2 rfl (by decide) _ _ _ rfl (own_below HO6.out ((Below.refl _ _).alloc (Nat.le_refl _) _)) ⟨w6.heap.size, 0, none⟩ 1 1 [.string (⟨(ind q).toArray⟩ ++ ⟨#[125]⟩)] rfl rfl ?ap1 ?ap2 ?ap3 ?ap4 ?ap5 ?_))
            case ap1 =>
              intro j u hj
              match j, hj with
              | 0, hj => simp at hj; subst hj; simp [Addr.add, go_sem]
            case ap2 => intro u hu; simp at hu; subst hu; rfl
            case ap3 => have := HLL.out; simp [maxLen] at this ⊢; omega
            case ap4 => have := HLL.out; simp at this ⊢; omega
            case ap5 => simp; omega
            intro u' w7 hown' hgrow _
            have HO7 : Hid _ := hown'
            have HB7 : Hid (Below w.heap.size w w7) := (HB6.out.alloc (by omega) _).grown hgrow (by simp; omega) (own_base HO6.out)
            clear hown' hgrow
            go_wp2_with fail
            go_roundw
            case rel =>
              refine ⟨P1 ++ [(n :: (f ++ c :: nodesOf P4), (ind q ++ ([119, 104, 105, 108, 101, 32] ++ (brk 1 lv t ++ [32, 123]))) :: (linesOf P4 ++ [ind q ++ [125]]))], P3, by simp, ?_, ?_, HB7⟩
              · unfold Hid; rw [HPP.out]; simp
              · unfold Hid
                have h9 := HO7.out
                rw [show (⟨(ind q).toArray⟩ ++ ⟨#[119, 104, 105, 108, 101, 32]⟩ ++ ⟨(brk 1 lv t).toArray⟩ ++ ⟨#[32, 123]⟩ : ByteArray) = ⟨(ind q ++ ([119, 104, 105, 108, 101, 32] ++ (brk 1 lv t ++ [32, 123]))).toArray⟩ from bs_eq (by simp [ByteArray.toList_eq])] at h9
                rw [show (⟨(ind q).toArray⟩ ++ ⟨#[125]⟩ : ByteArray) = ⟨(ind q ++ [125]).toArray⟩ from bs_eq (by simp [ByteArray.toList_eq])] at h9
                have e1 : (linesOf P1 ++ ((ind q ++ ([119, 104, 105, 108, 101, 32] ++ (brk 1 lv t ++ [32, 123]))) :: (linesOf P4 ++ [ind q ++ [125]]))).length = (linesOf P1).length + 1 + 1 := by first | (simp [hl0]; done) | (simp; omega)
                have e2 : strs (linesOf P1 ++ ((ind q ++ ([119, 104, 105, 108, 101, 32] ++ (brk 1 lv t ++ [32, 123]))) :: (linesOf P4 ++ [ind q ++ [125]]))) = strs (linesOf P1) ++ [.string ⟨(ind q ++ ([119, 104, 105, 108, 101, 32] ++ (brk 1 lv t ++ [32, 123]))).toArray⟩, .string ⟨(ind q ++ [125]).toArray⟩] := by unfold strs; simp [hl0]
                rw [linesOf_snoc]
                show World.ownsRow _ _ _ _ _ (linesOf P1 ++ ((ind q ++ ([119, 104, 105, 108, 101, 32] ++ (brk 1 lv t ++ [32, 123]))) :: (linesOf P4 ++ [ind q ++ [125]]))).length (strs (linesOf P1 ++ ((ind q ++ ([119, 104, 105, 108, 101, 32] ++ (brk 1 lv t ++ [32, 123]))) :: (linesOf P4 ++ [ind q ++ [125]]))))
                rw [e1, e2]
                exact h9
            case measure => simp [intOf]; omega
          · have hc6 : ∀ j u, (strs (linesOf P4))[j]? = some u → w6.cell? ((⟨g6, 0, none⟩ : Addr).add j) = some u := fun j u hu => World.ownsRow.cells ho6 rfl j u hu
            clear hgg6 hq1 hq2 hq3 hq4
            go_wp2_with (at_builtin; refine wpList_append_own _ rfl _ _ 41 rfl w.heap.size 9 i0 (.string ⟨#[]⟩) 1 16 Tryd.underlying41 hi0 hy0 hy1 hy2 rfl (by decide) _ _ _ rfl HO6.out ⟨g6, 0, none⟩ (linesOf P4).length cp6 (strs (linesOf P4)) rfl (by simp [strs]) hc6 ?ap2 ?ap3 ?ap4 ?ap5 ?_)
            case ap2 => intro u hu; obtain ⟨l9, _, rfl⟩ := List.mem_map.1 hu; rfl
            case ap3 => have := HLL.out; simp [maxLen] at this ⊢; omega
            case ap4 => have := HLL.out; simp at this ⊢; omega
            case ap5 => omega
            intro u' w7 hown' hgrow _
            have HO7 : Hid _ := hown'
            have HB7 : Hid (Below w.heap.size w w7) := HB6.out.grown hgrow (by omega) (own_base HO6.out)
            have hzz7 := HB7.out.size
            clear hown' hgrow hc6 ho6
            go_wp2_with (at_builtin; refine wpList_append_own _ rfl _ _ 41 rfl w.heap.size 9 i0 (.string ⟨#[]⟩) 1 16 Tryd.underlying41 hi0 hy0 hy1 hy2 rfl (by decide) _ _ _ rfl (own_below HO7.out ((Below.refl _ _).alloc (Nat.le_refl _) _)) ⟨w7.heap.size, 0, none⟩ 1 1 [.string (⟨(ind q).toArray⟩ ++ ⟨#[125]⟩)] rfl rfl ?ap1 ?ap2 ?ap3 ?ap4 ?ap5 ?_)
            case ap1 =>
              intro j u hj
              match j, hj with
              | 0, hj => simp at hj; subst hj; simp [Addr.add, go_sem]
            case ap2 => intro u hu; simp at hu; subst hu; rfl
            case ap3 => have := HLL.out; simp [maxLen] at this ⊢; omega
            case ap4 => have := HLL.out; simp at this ⊢; omega
            case ap5 => simp; omega
            intro u' w8 hown' hgrow _
            have HO8 : Hid _ := hown'
            have HB8 : Hid (Below w.heap.size w w8) := (HB7.out.alloc (by omega) _).grown hgrow (by simp; omega) (own_base HO7.out)
            clear hown' hgrow
            go_wp2_with fail
            go_roundw
            case rel =>
              refine ⟨P1 ++ [(n :: (f ++ c :: nodesOf P4), (ind q ++ ([119, 104, 105, 108, 101, 32] ++ (brk 1 lv t ++ [32, 123]))) :: (linesOf P4 ++ [ind q ++ [125]]))], P3, by simp, ?_, ?_, HB8⟩
              · unfold Hid; rw [HPP.out]; simp
              · unfold Hid
                have h9 := HO8.out
                rw [show (⟨(ind q).toArray⟩ ++ ⟨#[119, 104, 105, 108, 101, 32]⟩ ++ ⟨(brk 1 lv t).toArray⟩ ++ ⟨#[32, 123]⟩ : ByteArray) = ⟨(ind q ++ ([119, 104, 105, 108, 101, 32] ++ (brk 1 lv t ++ [32, 123]))).toArray⟩ from bs_eq (by simp [ByteArray.toList_eq])] at h9
                rw [show (⟨(ind q).toArray⟩ ++ ⟨#[125]⟩ : ByteArray) = ⟨(ind q ++ [125]).toArray⟩ from bs_eq (by simp [ByteArray.toList_eq])] at h9
                have e1 : (linesOf P1 ++ ((ind q ++ ([119, 104, 105, 108, 101, 32] ++ (brk 1 lv t ++ [32, 123]))) :: (linesOf P4 ++ [ind q ++ [125]]))).length = (linesOf P1).length + 1 + (linesOf P4).length + 1 := by first | (simp; done) | (simp; omega)
                have e2 : strs (linesOf P1 ++ ((ind q ++ ([119, 104, 105, 108, 101, 32] ++ (brk 1 lv t ++ [32, 123]))) :: (linesOf P4 ++ [ind q ++ [125]]))) = strs (linesOf P1) ++ .string ⟨(ind q ++ ([119, 104, 105, 108, 101, 32] ++ (brk 1 lv t ++ [32, 123]))).toArray⟩ :: (strs (linesOf P4) ++ [.string ⟨(ind q ++ [125]).toArray⟩]) := by unfold strs; simp
                rw [linesOf_snoc]
                show World.ownsRow _ _ _ _ _ (linesOf P1 ++ ((ind q ++ ([119, 104, 105, 108, 101, 32] ++ (brk 1 lv t ++ [32, 123]))) :: (linesOf P4 ++ [ind q ++ [125]]))).length (strs (linesOf P1 ++ ((ind q ++ ([119, 104, 105, 108, 101, 32] ++ (brk 1 lv t ++ [32, 123]))) :: (linesOf P4 ++ [ind q ++ [125]]))))
                rw [e1, e2]
                exact h9
            case measure => simp [intOf]; omega
theorem rlines_any (P : Parts) : RlC P := by
  have key : ∀ (k : Nat) (Q : Parts), (nodesOf Q).length = k → RlC Q := by
    intro k
    induction k using Nat.strongRecOn with
    | _ k ih =>
      intro Q hQ
      exact rlines_step Q fun R hR => ih (nodesOf R).length (by omega) R rfl
  exact key _ P rfl
end Go.Proofs.YtjngjanheoeojaaDoor
