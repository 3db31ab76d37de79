import Derived.Test.YtdbdgpcbhojcnaaIhu
import Derived.Test.YtdbdgpcbhojcnaaIlst
import Derived.Test.YtdbdgpcbhojcnaaIwk
set_option linter.unusedVariables false
set_option linter.unusedSimpArgs false
set_option linter.unnecessarySimpa false
/- IvalHulls: the law's walk. -/
namespace Go.Proofs.Ytdbdgpcbhojcnaa
open Go.RowKit
theorem IntsAt.set {w : World} {tb o g j : Nat} {ts : List Int} (h : IntsAt w tb o ts) (hne : tb ≠ g) (x : Value) : IntsAt (w.setCell ⟨g, j, none⟩ x) tb o ts := by
  refine ⟨fun i hi => ?_, ?_, h.2.2⟩
  · rw [← h.1 i hi]
    exact World.cell?_setCell_other _ _ _ _ (by intro e; exact hne (congrArg Addr.block e).symm)
  · have := h.2.1
    simpa using this
/-- Results of a row of numbers with one, gathered. -/
def rowF (k : Nat) (bs : List Int) (s : Int × Int × Bool) (x : Int) : Int × Int × Bool := bs.foldl (fun s y => stepH s (dnK k x y)) s
theorem fold_take' {α : Type} {f : α → Int → α} {m : α} {ts : List Int} {k : Nat} (h : k < ts.length) : (ts.take (k + 1)).foldl f m = f ((ts.take k).foldl f m) ts[k] := by
  rw [List.take_succ_eq_append_getElem h, List.foldl_append]; rfl
theorem hul_set {w X0 : World} {gh g1 g2 : Nat} {u v : Value} {bs us : List Int} (HR : w.heap[gh]? = some (.cells #[u, v] 23)) (HO : Ok X0 w) (hsz : X0.heap.size = gh) (H2 : IntsAt w g2 0 bs) (H1 : IntsAt w g1 0 us) (n1 : g1 ≠ gh) (n2 : g2 ≠ gh) (a b : Value) :
    ((w.setCell ⟨gh, 0, none⟩ a).setCell ⟨gh, 1, none⟩ b).heap[gh]? = some (.cells #[a, b] 23) ∧ Ok X0 ((w.setCell ⟨gh, 0, none⟩ a).setCell ⟨gh, 1, none⟩ b) ∧ IntsAt ((w.setCell ⟨gh, 0, none⟩ a).setCell ⟨gh, 1, none⟩ b) g2 0 bs ∧ IntsAt ((w.setCell ⟨gh, 0, none⟩ a).setCell ⟨gh, 1, none⟩ b) g1 0 us :=
  ⟨row_set2 HR a b, (HO.set (show X0.heap.size ≤ gh by omega) a).set (show X0.heap.size ≤ gh by omega) b, (H2.set n2 a).set n2 b, (H1.set n1 a).set n1 b⟩
theorem stepA {t : Int × Int × Bool} {d : Int × Bool × Bool} (t1 : d.2.1 = true) (t2 : t.2.1 < t.1) : stepH t d = (d.1, d.1, t.2.2 || d.2.2) := by
  unfold stepH; rw [if_pos t1, if_pos t2, if_pos t2]
theorem stepB {t : Int × Int × Bool} {d : Int × Bool × Bool} (t1 : d.2.1 = true) (t2 : ¬ t.2.1 < t.1) : stepH t d = ((if d.1 < t.1 then d.1 else t.1), (if t.2.1 < d.1 then d.1 else t.2.1), t.2.2 || d.2.2) := by
  unfold stepH; rw [if_pos t1, if_neg t2, if_neg t2]
  refine Prod.ext ?_ (Prod.ext ?_ rfl)
  · simp only; split <;> omega
  · simp only; split <;> omega
theorem stepC {t : Int × Int × Bool} {d : Int × Bool × Bool} (t1 : d.2.1 = false) : stepH t d = t := by
  unfold stepH; rw [if_neg (by simp [t1])]
set_option maxRecDepth 100000 in
set_option maxHeartbeats 4000000 in
theorem hulls_any (x v y o : Int) (hx : In64 x) (hv : In64 v) (hy : In64 y) (ho : In64 o) (w0 w : World) (hok : Ok w0 w) :
    Calls Try.prog 6 #[.int .i64 x, .int .i64 v, .int .i64 y, .int .i64 o] w fun e w' => e = .returned (.bool true) ∧ Ok w0 w' := by
  go_enter Try.func6, Try.ntmps6
  go_wp2_with fail
  refine (works_any w0 w hok).mono ?_
  rintro e w1 ⟨rfl, hb1⟩
  go_wp2_with fail
  refine (short_any x v hx hv w1 w1 (Ok.refl _)).mono ?_
  rintro e w2 ⟨⟨al, ah, ha1, ha2, ha3, ha4, rfl⟩, hb2⟩
  go_wp2_with fail
  refine (short_any y o hy ho _ _ (Ok.refl _)).mono ?_
  rintro e w3 ⟨⟨bl, bh, hb5, hb6, hb7, hb8, rfl⟩, hb3⟩
  have ra1 := (hb3.block _ (by simp)).trans (heap_new0 w2 (.cells #[.int .i64 al, .int .i64 ah] 23))
  go_wp2_with fail
  obtain ⟨W, hW⟩ : ∃ W, W = w3.alloc (.cells #[.int .i64 bl, .int .i64 bh] 23) := ⟨_, rfl⟩
  obtain ⟨ga, hga⟩ : ∃ ga, ga = w2.heap.size := ⟨_, rfl⟩
  obtain ⟨gb, hgb⟩ : ∃ gb, gb = w3.heap.size := ⟨_, rfl⟩
  have ra : W.heap[ga]? = some (.cells #[.int .i64 al, .int .i64 ah] 23) := by rw [hW, hga]; exact heap_past _ _ _ (lt_rowV ra1) ra1
  have rb : W.heap[gb]? = some (.cells #[.int .i64 bl, .int .i64 bh] 23) := by rw [hW]; exact heap_at _ _ _ hgb
  have hokW : Hid (Ok w0 W) := by rw [hW]; exact (Ok.step (Ok.step hb1 (hb2.alloc _)) hb3).alloc _
  rw [← hW, ← hga, ← hgb]
  have RAB : Hid _ := And.intro ra rb
  clear hW hga hgb ra rb ra1 hb1 hb2 hb3 hok
  obtain ⟨na, hna⟩ : ∃ na : Nat, ah = al + na := ⟨(ah - al).toNat, by omega⟩
  obtain ⟨nb, hnb⟩ : ∃ nb : Nat, bh = bl + nb := ⟨(bh - bl).toNat, by omega⟩
  have HNA : Hid _ := hna
  have HNB : Hid _ := hnb
  have h6a : na ≤ 6 := by omega
  have h6b : nb ≤ 6 := by omega
  clear hna hnb
  go_loopw [11] (fun i wr => ∃ k : Nat, k ≤ 6 ∧ i = .int .i64 k ∧ Hid (Ok W wr)) (fun i _ => (6 - intOf i).toNat)
  case atStart => exact ⟨0, by omega, rfl, Ok.refl _⟩
  case round =>
    obtain ⟨k, hk, rfl, hI⟩ := hrel
    by_cases hk1 : k < 6
    · have hk2 : (k : Int) < 6 := by omega
      obtain ⟨a0, a1, _, _⟩ := row_facts (Ok.row' hI.out RAB.out.1)
      obtain ⟨b0, b1, _, _⟩ := row_facts (Ok.row' hI.out RAB.out.2)
      go_wp2_with fail
      refine (asked_any k hk1 al ah bl bh wr wr (Ok.refl _) ha1 ha2 hb5 hb6).mono ?_
      rintro e wA ⟨rfl, hbA⟩
      obtain ⟨A, hA⟩ : ∃ A, A = opK k al ah bl bh := ⟨_, rfl⟩
      rw [← hA]
      have rA := Ok.row' hbA (Ok.row' hI.out RAB.out.1)
      have rB := Ok.row' hbA (Ok.row' hI.out RAB.out.2)
      obtain ⟨c0, c1, _, _⟩ := row_facts rA
      obtain ⟨d0, d1, _, _⟩ := row_facts rB
      have q0 := lt_rowV rA
      have q1 := lt_rowV rB
      have q2 : ga < wA.heap.size + 1 := by omega
      have q3 : gb < wA.heap.size + 1 := by omega
      have q4 : ¬ ga = wA.heap.size := by omega
      have q5 : ¬ gb = wA.heap.size := by omega
      have q6 : ¬ ga = wA.heap.size + 1 := by omega
      have q7 : ¬ gb = wA.heap.size + 1 := by omega
      have HA : Hid _ := hA
      clear a0 a1 b0 b1 hA
      go_wp2_with fail
      obtain ⟨X0, hX0⟩ : ∃ X0, X0 = wA.alloc (.cells #[.int .i64 A.1, .int .i64 A.2.1] 23) := ⟨_, rfl⟩
      obtain ⟨gg, hgg⟩ : ∃ gg, gg = wA.heap.size := ⟨_, rfl⟩
      obtain ⟨gh, hgh⟩ : ∃ gh, gh = wA.heap.size + 1 := ⟨_, rfl⟩
      have hsz : X0.heap.size = gh := by rw [hX0, hgh]; simp
      have rg : X0.heap[gg]? = some (.cells #[.int .i64 A.1, .int .i64 A.2.1] 23) := by rw [hX0]; exact heap_at _ _ _ hgg
      have rA0 : X0.heap[ga]? = some (.cells #[.int .i64 al, .int .i64 ah] 23) := by rw [hX0]; exact heap_past _ _ _ q0 rA
      have rB0 : X0.heap[gb]? = some (.cells #[.int .i64 bl, .int .i64 bh] 23) := by rw [hX0]; exact heap_past _ _ _ q1 rB
      have okX0 : Ok W X0 := by rw [hX0]; exact (Ok.step hI.out hbA).alloc _
      rw [← hX0, ← hgh, ← hgg]
      obtain ⟨X, hX⟩ : ∃ X, X = X0.alloc (.cells #[.int .i64 1, .int .i64 0] 23) := ⟨_, rfl⟩
      have rh : X.heap[gh]? = some (.cells #[.int .i64 1, .int .i64 0] 23) := by rw [hX]; exact heap_at _ _ _ hsz.symm
      have okX : Ok X0 X := by rw [hX]; exact (Ok.refl _).alloc _
      rw [← hX]
      have HX0 : Hid _ := And.intro rA0 (And.intro rB0 (And.intro rg okX0))
      clear hX0 hgg hgh hX q0 q1 q2 q3 q4 q5 q6 q7 c0 c1 d0 d1 rA rB rA0 rB0 rg okX0 hbA
      refine (list_any al ah na ha1 ha2 HNA.out h6a X).mono ?_
      rintro e wL ⟨⟨g1, c1, rfl, hI1, hB1⟩, hbL⟩
      have hne1 : g1 ≠ gh := by have := lt_rowV rh; omega
      have HL : Hid _ := And.intro (Ok.row' hbL rh) (And.intro (Ok.step okX hbL) hI1)
      clear rh okX hbL hI1 hB1
      go_wp2_with fail
      go_loopw [15, 46] (fun wv i wr2 => ∃ (m : Nat) (s : Int × Int × Bool), m ≤ na + 1 ∧ i = .int .i64 m ∧ wv = .bool s.2.2 ∧ Hid (s = ((nums al (na + 1)).take m).foldl (rowF k (nums bl (nb + 1))) (1, 0, false)) ∧ Hid (wr2.heap[gh]? = some (.cells #[.int .i64 s.1, .int .i64 s.2.1] 23)) ∧ Hid (Ok X0 wr2) ∧ Hid (IntsAt wr2 g1 0 (nums al (na + 1)))) (fun _ i _ => na + 1 - (intOf i).toNat)
      case atStart => exact ⟨0, (1, 0, false), by omega, rfl, rfl, rfl, HL.out.1, HL.out.2.1, HL.out.2.2⟩
      case round =>
        obtain ⟨m, s, hm, rfl, rfl, HS, HR, HO2, HI2⟩ := hrel
        clear HL
        by_cases hm1 : m < na + 1
        · have hm2 : (m : Int) < (na : Int) + 1 := by omega
          have cm : wr.cell? ⟨g1, m, none⟩ = some (.int .i64 (al + m)) := by
            have := HI2.out.1 m (by rw [nums_len]; exact hm1)
            rw [nums_at, Nat.zero_add] at this
            exact this
          obtain ⟨b0, b1, _, _⟩ := row_facts (Ok.row' HO2.out HX0.out.2.1)
          go_wp2_with fail
          refine (list_any bl bh nb hb5 hb6 HNB.out h6b wr).mono ?_
          rintro e wM ⟨⟨g2, c2, rfl, hI3, hB2⟩, hbM⟩
          have hne2 : g2 ≠ gh := by have := lt_rowV HR.out; omega
          have HM : Hid _ := And.intro (Ok.row' hbM HR.out) (And.intro (Ok.step HO2.out hbM) (And.intro hI3 (HI2.out.ok hbM)))
          clear hbM hI3 hB2 b0 b1 cm
          go_wp2_with fail
          go_loopw [15, 53] (fun wv i wr3 => ∃ (j : Nat) (t : Int × Int × Bool), j ≤ nb + 1 ∧ i = .int .i64 j ∧ wv = .bool t.2.2 ∧ Hid (t = ((nums bl (nb + 1)).take j).foldl (fun s y => stepH s (dnK k (al + m) y)) s) ∧ Hid (wr3.heap[gh]? = some (.cells #[.int .i64 t.1, .int .i64 t.2.1] 23)) ∧ Hid (Ok X0 wr3) ∧ Hid (IntsAt wr3 g2 0 (nums bl (nb + 1))) ∧ Hid (IntsAt wr3 g1 0 (nums al (na + 1)))) (fun _ i _ => nb + 1 - (intOf i).toNat)
          case atStart => exact ⟨0, s, by omega, rfl, rfl, rfl, HM.out.1, HM.out.2.1, HM.out.2.2.1, HM.out.2.2.2⟩
          case round =>
            obtain ⟨j, t, hj, rfl, rfl, HT, HR3, HO3, HI3, HI4⟩ := hrel
            clear HM
            by_cases hj1 : j < nb + 1
            · have hj2 : (j : Int) < (nb : Int) + 1 := by omega
              have hlen : j < (nums bl (nb + 1)).length := by rw [nums_len]; exact hj1
              have cj : wr.cell? ⟨g2, j, none⟩ = some (.int .i64 (bl + j)) := by
                have := HI3.out.1 j hlen
                rw [nums_at, Nat.zero_add] at this
                exact this
              obtain ⟨p0, p1, _, _⟩ := row_facts HR3.out
              have hxi : In64 (al + m) := by have := HNA.out; unfold In64 at ha1 ha2 ⊢; omega
              have hyi : In64 (bl + j) := by have := HNB.out; unfold In64 at hb5 hb6 ⊢; omega
              obtain ⟨X1, hX1⟩ : ∃ X1, X1 = al + (m : Int) := ⟨_, rfl⟩
              obtain ⟨Y1, hY1⟩ : ∃ Y1, Y1 = bl + (j : Int) := ⟨_, rfl⟩
              rw [← hX1] at hxi HT ⊢
              rw [← hY1] at hyi cj
              have HY1 : Hid _ := hY1
              have HLEN : Hid _ := hlen
              clear hX1 hY1 hlen
              go_wp2_with fail
              refine (done_any k hk1 X1 Y1 _ hxi hyi).mono ?_
              rintro e w9 ⟨rfl, rfl⟩
              obtain ⟨d, hd⟩ : ∃ d, d = dnK k X1 Y1 := ⟨_, rfl⟩
              rw [← hd]
              have HT2 : Hid (stepH t d = ((nums bl (nb + 1)).take (j + 1)).foldl (fun s y => stepH s (dnK k X1 y)) s) := by
                unfold Hid
                rw [fold_take' HLEN.out, ← HT.out, nums_at, ← HY1.out, hd]
              clear hd HT
              by_cases t1 : d.2.1 = true
              · by_cases t2 : t.2.1 < t.1
                · have E : Hid _ := stepA t1 t2
                  have S1 := hul_set HR3.out HO3.out hsz HI3.out HI4.out hne1 hne2 (.int .i64 d.1) (.int .i64 d.1)
                  have S : Hid _ := hul_set S1.1 S1.2.1 hsz S1.2.2.1 S1.2.2.2 hne1 hne2 (.int .i64 d.1) (.int .i64 d.1)
                  clear S1
                  rw [E.out] at HT2
                  go_wp2_with fail
                  all_goals exact ⟨⟨j + 1, (d.1, d.1, t.2.2 || d.2.2), by omega, rfl, by simp [*], HT2, S.out.1, S.out.2.1, S.out.2.2.1, S.out.2.2.2⟩, by simp only [intOf]; omega⟩
                · have E : Hid _ := stepB t1 t2
                  have S : Hid _ := hul_set HR3.out HO3.out hsz HI3.out HI4.out hne1 hne2 (.int .i64 (if d.1 < t.1 then d.1 else t.1)) (.int .i64 (if t.2.1 < d.1 then d.1 else t.2.1))
                  rw [E.out] at HT2
                  go_wp2_with fail
                  all_goals exact ⟨⟨j + 1, ((if d.1 < t.1 then d.1 else t.1), (if t.2.1 < d.1 then d.1 else t.2.1), t.2.2 || d.2.2), by omega, rfl, by simp [*], HT2, S.out.1, S.out.2.1, S.out.2.2.1, S.out.2.2.2⟩, by simp only [intOf]; omega⟩
              · replace t1 : d.2.1 = false := by simpa using t1
                rw [stepC t1] at HT2
                go_wp2_with fail
                exact ⟨⟨j + 1, t, by omega, rfl, rfl, HT2, HR3, HO3, HI3, HI4⟩, by simp only [intOf]; omega⟩
            · have hj2 : ¬ (j : Int) < (nb : Int) + 1 := by omega
              go_wp2_with fail
              refine ⟨⟨m + 1, t, by omega, rfl, rfl, ?_, HR3, HO3, HI4⟩, by simp only [intOf]; omega⟩
              unfold Hid
              rw [fold_take' (show m < (nums al (na + 1)).length by rw [nums_len]; exact hm1), ← HS.out, nums_at]
              have := HT.out
              rw [List.take_of_length_le (by rw [nums_len]; omega)] at this
              exact this
        · have hm2 : ¬ (m : Int) < (na : Int) + 1 := by omega
          have hG : GotD (fun e => ∃ x, Mem al ah x ∧ ∃ y, Mem bl bh y ∧ e = dnK k x y) s := by
            have h1 := GotD.all (f := dnK k) (nums bl (nb + 1)) (nums al (na + 1)) GotD.none
            have h2 := HS.out
            rw [List.take_of_length_le (by rw [nums_len]; omega)] at h2
            have h3 : s = (nums al (na + 1)).foldl (fun s x => (nums bl (nb + 1)).foldl (fun s y => stepH s (dnK k x y)) s) (1, 0, false) := h2
            rw [← h3] at h1
            refine h1.congr fun d => ?_
            have e1 := HNA.out
            have e2 := HNB.out
            constructor
            · rintro (h | ⟨x, hx, y, hy, h⟩)
              · exact h.elim
              · have p := nums_mem.1 hx
                have q := nums_mem.1 hy
                exact ⟨x, ⟨p.1, by omega⟩, y, ⟨q.1, by omega⟩, h⟩
            · rintro ⟨x, hx, y, hy, h⟩
              exact Or.inr ⟨x, nums_mem.2 ⟨hx.1, by have := hx.2; omega⟩, y, nums_mem.2 ⟨hy.1, by have := hy.2; omega⟩, h⟩
          obtain ⟨F1, F2, F3, F4⟩ := hullK hk1 ha1 ha2 hb5 hb6 ha3 hb7 hG
          rw [← HA.out] at F1 F2 F3 F4
          have E1 : (A.2.2 == s.2.2) = false := by rw [F1]; cases s.2.2 <;> rfl
          obtain ⟨g0, g1', _, _⟩ := row_facts (Ok.row' HO2.out HX0.out.2.2.1)
          obtain ⟨h0, h1, _, _⟩ := row_facts HR.out
          have EXIT : Hid (Ok W wr) := Ok.step HX0.out.2.2.2 HO2.out
          clear hG
          by_cases eq : A.1 = s.1 ∧ A.2.1 = s.2.1
          · rw [eq.1] at g0
            rw [eq.2] at g1'
            clear F1 F2 F3 F4 eq
            obtain ⟨b1, hb1⟩ : ∃ b, b = A.2.2 := ⟨_, rfl⟩
            obtain ⟨b2, hb2⟩ : ∃ b, b = s.2.2 := ⟨_, rfl⟩
            rw [← hb1, ← hb2] at E1
            rw [← hb1, ← hb2]
            clear hb1 hb2
            go_wp2_with fail
            all_goals exact ⟨⟨k + 1, by omega, by (first | rfl | (congr 1; omega)), EXIT⟩, by simp only [intOf]; omega⟩
          · have t4 : s.1 ≤ s.2.1 := Classical.byContradiction fun h => eq (F4 (by omega))
            obtain ⟨t5, t6⟩ := F3 t4
            have t7 : ¬ s.2.1 < s.1 := by omega
            have t8 : ¬ s.1 < A.1 := by omega
            have t9 : ¬ A.2.1 < s.2.1 := by omega
            by_cases c5 : k = 5
            · have hc5 : (k : Int) = 5 := by omega
              clear F1 F2 F3 F4 eq
              go_wp2_with fail
              all_goals exact ⟨⟨k + 1, by omega, by (first | rfl | (congr 1; omega)), EXIT⟩, by simp only [intOf]; omega⟩
            · have c3 : k = 3 := Classical.byContradiction fun h => eq (F2 (Or.inl h) c5)
              have cw : s.2.2 = true := Classical.byContradiction fun h => eq (F2 (Or.inr (by simpa using h)) c5)
              have ca : A.2.2 = false := by rw [F1, cw]; rfl
              have hc3 : (k : Int) = 3 := by omega
              clear F1 F2 F3 F4 eq
              go_wp2_with fail
              all_goals exact ⟨⟨k + 1, by omega, by (first | rfl | (congr 1; omega)), EXIT⟩, by simp only [intOf]; omega⟩
    · go_wp2_with fail
      go_ret
      exact ⟨rfl, hokW.out.step hI.out⟩
end Go.Proofs.Ytdbdgpcbhojcnaa
