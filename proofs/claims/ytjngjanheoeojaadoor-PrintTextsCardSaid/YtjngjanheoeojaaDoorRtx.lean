import Derived.Test.YtjngjanheoeojaaDoorRlh
/- The document's Text, over what is said of its lines. -/
namespace Go.Proofs.YtjngjanheoeojaaDoor
open Go.RowKit
set_option linter.unusedVariables false
set_option linter.unusedSimpArgs false
set_option linter.unnecessarySimpa false
set_option maxHeartbeats 1000000 in
theorem rtext_no (b o cap : Nat) (ns : List Nd) (w : World) (hok : ∀ n ∈ ns, n.Ok) (hN : NodesAt w b o ns) (hlen : ns.length ≤ cap) (hcap : cap ≤ maxLen) (hs : (shapeD ns).1 ≠ 0) :
    Calls Tryd.prog 8 #[.slice (some ⟨b, o, none⟩) ns.length cap] w fun y w' => y = .returned (.tuple #[.string ⟨#[]⟩, .int .i64 (shapeD ns).1]) ∧ Below w.heap.size w w' := by
  have HS : Hid _ := rshape_any b o cap ns w hok hN hlen hcap
  rw [shape_eq ns hok] at HS
  have hs' : ((shapeD ns).1 == 0) = false := by rw [beq_eq_false_iff_ne]; exact hs
  clear hok hN hlen hcap hs
  generalize (shapeD ns).1 = c at *
  generalize (shapeD ns).2 = c2 at *
  go_enter Tryd.func8, Tryd.ntmps8
  go_wp2_with fail
  refine Calls.mono HS.out ?_
  rintro y w1 ⟨rfl, hb1⟩
  have HB : Hid _ := hb1
  clear hb1
  go_wp2_with fail
  go_ret2
  exact ⟨rfl, HB.out⟩
theorem str_row {w : World} {B : Nat} {v : Value} {L : List (List UInt8)} (h : w.ownsRow B 9 1 v L.length (strs L)) :
    ∃ A c, v = .slice A L.length c ∧ (0 < L.length → ∃ g, A = some ⟨g, 0, none⟩ ∧ g < w.heap.size ∧ ∀ (j : Nat) (hj : j < L.length), w.cell? ⟨g, j, none⟩ = some (.string ⟨(L[j]).toArray⟩)) := by
  rcases h.2 with ⟨hv, h0⟩ | ⟨g, cap, cur, hv, _, hg, _⟩
  · exact ⟨none, 0, by rw [hv, h0], fun h => by omega⟩
  · refine ⟨some ⟨g, 0, none⟩, cap, hv, fun _ => ⟨g, rfl, (Array.getElem?_eq_some_iff.1 hg).1, fun j hj => ?_⟩⟩
    subst hv
    have h9 := World.ownsRow.cells h rfl j (.string ⟨(L[j]).toArray⟩) (by unfold strs; rw [List.getElem?_map, List.getElem?_eq_getElem hj]; rfl)
    rw [Go.WideShapes.add_plain, Nat.zero_add] at h9
    exact h9
theorem flat_take {L : List (List UInt8)} {k : Nat} (h : k < L.length) : flatL (L.take (k + 1)) = flatL (L.take k) ++ (L[k] ++ [10]) := by
  rw [List.take_succ_eq_append_getElem h, flat_app]
  simp [flatL]
theorem flat_le (L : List (List UInt8)) (k : Nat) (h : k < L.length) : (flatL (L.take k)).length + L[k].length + 1 ≤ (flatL L).length := by
  have h1 : flatL L = flatL (L.take (k + 1)) ++ flatL (L.drop (k + 1)) := by rw [← flat_app, List.take_append_drop]
  rw [h1, flat_take h]
  simp only [List.length_append, List.length_cons, List.length_nil]
  omega
set_option maxHeartbeats 4000000 in
theorem rtext_ok (b o cap : Nat) (P : Parts) (hR : RlC P) (w : World) (hok : ∀ n ∈ nodesOf P, n.Ok) (hG : G0 w) (hN : NodesAt w b o (nodesOf P)) (hlen : (nodesOf P).length ≤ cap) (hcap : cap ≤ maxLen) (hs : (shapeD (nodesOf P)).1 = 0) (h300 : (nodesOf P).length ≤ 300) (hP : ∀ p ∈ P, St 0 p.1 p.2) :
    Calls Tryd.prog 8 #[.slice (some ⟨b, o, none⟩) (nodesOf P).length cap] w fun y w' => y = .returned (.tuple #[.string ⟨(outT P).toArray⟩, .int .i64 (outE P)]) ∧ Below w.heap.size w w' := by
  have HS : Hid _ := rshape_any b o cap (nodesOf P) w hok hN hlen hcap
  rw [shape_eq (nodesOf P) hok, hs] at HS
  have hl := parts_len P hP
  have HCH0 : Hid (Chain (nodesOf P) (nodesOf P).length 0 (places 0 P)) := by
    have h9 := segs_chain (d := 1) (P.map (·.1)) [] [] (fun g hg => by obtain ⟨p, hp, rfl⟩ := List.mem_map.1 hg; exact (hP p hp).segD) (fun m u h => by cases h)
    unfold Hid places
    have e : (P.map (·.1)).flatten = nodesOf P := rfl
    rw [e] at h9
    simpa using h9
  have HR : Hid (∀ w' v, Below w.heap.size w w' → PlRow w' v (places 0 P) → Calls Tryd.prog 15 #[.slice (some ⟨b, o, none⟩) (nodesOf P).length cap, v, .int .i64 0] w' fun y w2 => ∃ u, y = .returned u ∧ w2.ownsRow w'.heap.size 9 1 u (linesOf P).length (strs (linesOf P)) ∧ Below w'.heap.size w' w2) := by
    intro w' v hb hpl
    have h9 := hR 0 b o cap [] [] v w' hP (fun m u h => by cases h) (by simpa using hN.below hb) (by simpa using h300) (hG.below hb) (by omega) (by simpa using hpl)
    simpa using h9
  obtain ⟨ns, hns⟩ : ∃ ns, ns = nodesOf P := ⟨_, rfl⟩
  obtain ⟨ks, hks⟩ : ∃ ks, ks = places 0 P := ⟨_, rfl⟩
  obtain ⟨LL, hLL⟩ : ∃ LL, LL = linesOf P := ⟨_, rfl⟩
  unfold outT outE
  rw [← hLL, ← hns] at hl HR ⊢
  rw [← hns] at HS HCH0 hN hlen h300
  rw [← hks] at HCH0 HR
  have HN : Hid _ := hN
  have hl3 : (ns.length : Int) ≤ 300 := by omega
  have hlL : LL.length ≤ 60000 := by have := lines_le LL; omega
  have hl6 : (flatL LL).length ≤ 60000 := by omega
  have h300' : ns.length ≤ 300 := h300
  clear hok hG hN hcap hs hP hR hns hks hLL hlen hl
  generalize (shapeD (nodesOf P)).2 = c2 at *
  obtain ⟨i0, hi0, hz0', hz1', hz2'⟩ := info_parts Tryd.info3
  go_enter Tryd.func8, Tryd.ntmps8
  go_wp2_with fail
  refine Calls.mono HS.out ?_
  rintro y w1 ⟨rfl, hb1⟩
  have HB1 : Hid _ := hb1
  clear hb1 HS
  go_wp2_with fail
  go_loopw [6, 7] (fun v t wr => ∃ (s : Nat) (k1 k2 : List Nat), t = .int .i64 s ∧ k1.length ≤ s ∧ Hid (ks = k1 ++ k2) ∧ Hid (Chain ns ns.length s k2) ∧ Hid (wr.ownsRow w.heap.size 3 1 v k1.length (ints k1)) ∧ Hid (Below w.heap.size w wr)) (fun _ t _ => ns.length - (intOf t).toNat)
  case atStart => exact ⟨0, [], ks, by go_num, by simp, rfl, HCH0, ⟨rfl, .inl ⟨rfl, rfl⟩⟩, HB1⟩
  case round =>
    obtain ⟨s, k1, k2, rfl, hk1, HKK, HCH, HO, HB⟩ := hrel
    have hsE := HCH.out.le
    have hs3 : (s : Int) ≤ 300 := by omega
    have hzr := HB.out.size
    cases h2 : k2 with
    | nil =>
      rw [h2] at HCH HKK
      have e : s = ns.length := HCH.out
      have hnl : ¬ (s : Int) < (ns.length : Int) := by omega
      have HPR : Hid (PlRow wr u6 ks) := by
        have e2 : ks = k1 := by rw [HKK.out, List.append_nil]
        unfold Hid
        rw [e2]
        exact PlRow.of HO.out
      clear HKK HCH e
      go_wp2_with fail
      refine (HR.out _ _ HB.out HPR.out).mono ?_
      rintro y w2 ⟨u, rfl, ho2, hb2⟩
      have HB2 : Hid (Below w.heap.size w w2) := HB.out.trans (hb2.mono hzr)
      obtain ⟨A, ac, hu, hcell⟩ := str_row ho2
      have HCE : Hid _ := hcell
      clear ho2 hb2 hcell HR
      subst hu
      have hll : (LL.length : Int) ≤ 60000 := by omega
      go_wp2_with fail
      go_loop [8, 10] (fun x t => ∃ (S : ByteArray) (k : Nat), x = .string S ∧ t = .int .i64 k ∧ k ≤ LL.length ∧ Hid (S = ⟨(flatL (LL.take k)).toArray⟩)) (fun _ t => LL.length - (intOf t).toNat)
      case atStart => exact ⟨_, 0, rfl, rfl, Nat.zero_le _, rfl⟩
      case round =>
        obtain ⟨S, k, rfl, rfl, hk, HSS⟩ := hrel
        have sS : S.size = (flatL (LL.take k)).length := by rw [HSS.out]; simp [ByteArray.size]
        by_cases hkl : k < LL.length
        · have hkl' : (k : Int) < (LL.length : Int) := by omega
          obtain ⟨g, rfl, hg, hc⟩ := HCE.out (by omega)
          have hck := hc k hkl
          obtain ⟨LB, hLB⟩ : ∃ LB : ByteArray, LB = ⟨(LL[k]).toArray⟩ := ⟨_, rfl⟩
          rw [← hLB] at hck
          have sL : LB.size = (LL[k]).length := by rw [hLB]; simp [ByteArray.size]
          have hfl := flat_le LL k hkl
          have hsum : S.size + LB.size + 1 ≤ 60000 := by omega
          have HSS2 : Hid ((S ++ LB ++ ⟨#[10]⟩ : ByteArray) = ⟨(flatL (LL.take (k + 1))).toArray⟩) := by
            unfold Hid
            rw [flat_take hkl]
            apply bs_eq
            rw [HSS.out, hLB]
            simp
          clear hc sS sL hfl hLB HSS
          have q1a : ¬ 9223372036854775807 < S.size + LB.size := by omega
          have q1b : S.size + LB.size ≤ 9223372036854775807 := by omega
          have q1c : decide (9223372036854775807 < S.size + LB.size) = false := decide_eq_false (by omega)
          have q2a : ¬ 9223372036854775807 < S.size + LB.size + 1 := by omega
          have q2b : S.size + LB.size + 1 ≤ 9223372036854775807 := by omega
          have q2c : decide (9223372036854775807 < S.size + LB.size + 1) = false := decide_eq_false (by omega)
          go_wp2_with fail
          go_round
          case rel => exact ⟨_, k + 1, rfl, by go_num, by omega, HSS2⟩
          case measure => simp [intOf]; omega
        · have hke : k = LL.length := by omega
          subst hke
          have hnl2 : ¬ (LL.length : Int) < (LL.length : Int) := by omega
          rw [List.take_length] at sS HSS
          have HS3 : Hid _ := HSS.out
          have HsS : Hid _ := sS
          clear HSS
          by_cases h8 : 8192 < (flatL LL).length
          · have h8' : (8192 : Int) < (S.size : Int) := by omega
            clear sS
            go_wp2_with fail
            go_ret2
            exact ⟨rfl, HB2.out⟩
          · have h8' : ¬ (8192 : Int) < (S.size : Int) := by omega
            clear sS
            go_wp2_with fail
            go_ret2
            rw [HS3.out]
            exact ⟨rfl, HB2.out⟩
    | cons a k3 =>
      rw [h2] at HCH HKK
      obtain ⟨q0, q1, t, q2, q3⟩ := HCH.out
      subst q0
      have hnl : (a : Int) < (ns.length : Int) := by omega
      have htE := Chain.le q3
      have hat := q2.up
      have HCU : Hid _ := q2
      have HCH2 : Hid _ := q3
      clear q2 q3
      go_wp2_with (at_builtin; refine wpList_append_own _ rfl _ _ 39 rfl w.heap.size 3 i0 (.int .i64 0) 1 8 Tryd.underlying39 hi0 hz0' hz1' hz2' rfl (by decide) _ _ _ rfl (own_below HO.out ((Below.refl _ _).alloc (Nat.le_refl _) _)) ⟨wr.heap.size, 0, none⟩ 1 1 [.int .i64 a] rfl rfl ?ap1 ?ap2 ?ap3 ?ap4 ?ap5 ?_)
      case ap1 =>
        intro j u hj
        match j, hj with
        | 0, hj => simp at hj; subst hj; simp [Addr.add, go_sem]
      case ap2 => intro u hu; simp at hu; subst hu; rfl
      case ap3 => simp [maxLen]; omega
      case ap4 => omega
      case ap5 => simp; omega
      intro v' w2 hown' hgrow _
      have HO2 : Hid _ := hown'
      have HB2 : Hid (Below w.heap.size w w2) := (HB.out.alloc (by omega) _).grown hgrow (by simp; omega) (own_base HO.out)
      clear hown' hgrow
      go_wp2_with fail
      refine (end_any b o cap a t ns w2 HCU.out (HN.out.below HB2.out) h300').mono ?_
      rintro y w3 ⟨rfl, hb3⟩
      have HB3 : Hid (Below w.heap.size w w3) := HB2.out.trans (hb3.mono HB2.out.size)
      have HO3 : Hid _ := own_below HO2.out hb3
      clear hb3
      go_wp2_with fail
      go_roundw
      case rel =>
        refine ⟨t, k1 ++ [a], k3, rfl, by simp; omega, ?_, HCH2, ?_, HB3⟩
        · unfold Hid; rw [HKK.out]; simp
        · unfold Hid
          have h9 := HO3.out
          rw [List.length_append]
          unfold ints at h9 ⊢
          rw [List.map_append]
          exact h9
      case measure => simp [intOf]; omega
end Go.Proofs.YtjngjanheoeojaaDoor
