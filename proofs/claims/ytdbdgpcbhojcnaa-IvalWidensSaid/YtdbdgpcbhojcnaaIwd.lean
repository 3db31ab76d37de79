import Derived.Test.YtdbdgpcbhojcnaaIwd1
set_option linter.unusedVariables false
set_option linter.unusedSimpArgs false
set_option linter.unnecessarySimpa false
/- IvalWidens: the law's walk. -/
namespace Go.Proofs.Ytdbdgpcbhojcnaa
open Go.RowKit
set_option maxRecDepth 100000 in
set_option maxHeartbeats 4000000 in
theorem widens_any (al ah : Int) (ao : Option Addr) (cap : Nat) (ts : List Int) (ro : Option Addr) (rcap : Nat) (rs : List (Int × Int)) (hrs : ∀ p ∈ rs, In64 p.1 ∧ In64 p.2)
    (hn : (ts.length + 1) * 8 ≤ 140737488355328) (hm : rs.length ≤ 140737488355328) (w : World) (hT : SInts w (.slice ao ts.length cap) ts) (hao : ao = none → cap = 0) (hR : SIv w ro rs) :
    Calls Try.prog 3 #[.agg #[.int .i64 al, .int .i64 ah], .slice ao ts.length cap, .slice ro rs.length rcap] w fun e w' => e = .returned (.bool true) ∧ Ok w w' := by
  obtain ⟨n, hnn⟩ : ∃ n, n = ts.length := ⟨_, rfl⟩
  obtain ⟨m, hmm⟩ : ∃ m, m = rs.length := ⟨_, rfl⟩
  obtain ⟨i0, hi0, hz0', hz1', hz2'⟩ := info_parts infoN
  have HT : Hid (SInts w (.slice ao n cap) ts) := by unfold Hid; rw [hnn]; exact hT
  have HR : Hid _ := And.intro hR hrs
  have HAO : Hid _ := hao
  rw [← hnn] at hn
  rw [← hmm] at hm
  rw [← hnn, ← hmm]
  have HNM : Hid _ := And.intro hnn hmm
  clear hT hR hrs hao hnn hmm
  go_enter Try.func3, Try.ntmps3
  go_wp2_with fail
  obtain ⟨W, hW⟩ : ∃ W, W = w.alloc (.cells #[.int .i64 al, .int .i64 ah] 23) := ⟨_, rfl⟩
  have ra : W.heap[w.heap.size]? = some (.cells #[.int .i64 al, .int .i64 ah] 23) := by rw [hW]; exact heap_new0 _ _
  have hokW : Ok w W := by rw [hW]; exact (Ok.refl _).alloc _
  obtain ⟨ga, hga⟩ : ∃ ga, ga = w.heap.size := ⟨_, rfl⟩
  rw [← hW, ← hga]
  rw [← hga] at ra
  clear hW hga
  refine (works_any W W (Ok.refl _)).mono ?_
  rintro e w1 ⟨rfl, hb1⟩
  have H1 : Hid _ := And.intro (Ok.row' hb1 ra) (hokW.step hb1)
  clear ra hokW hb1
  go_wp2_with (at_builtin; refine wpList_append_ints rfl _ _ 24 rfl w1.heap.size 2 i0 (.int .i64 0) Try.underlying24 hi0 hz0' hz1' hz2' rfl (.slice (some ⟨w1.heap.size, 0, none⟩) 0 0) 0 [] (by rfl) ?ap0 ao cap ts ?ap1 ?ap2 HAO.out ?ap3 ?ap4 ?ap5 ?_)
  case ap0 => exact ⟨rfl, .inr ⟨w1.heap.size, 0, #[], rfl, Nat.le_refl _, heap_new0 _ _, Nat.le_refl _, Nat.zero_le _, rfl, rfl⟩⟩
  case ap1 => rw [← HNM.out.1]; rfl
  case ap2 => rw [← HNM.out.1]; exact HT.out.ok (H1.out.2.alloc _)
  case ap3 => rw [← HNM.out.1]; unfold maxLen; omega
  case ap4 => rw [← HNM.out.1]; omega
  case ap5 => simp
  intro v1 w2 hown hgrow
  have HO1 : Hid (w2.ownsRow w1.heap.size 2 1 v1 n (intsV ts)) := by unfold Hid; rw [HNM.out.1]; first | exact hown | (have h9 := hown; rw [Nat.zero_add] at h9; exact h9)
  have HB2 : Hid (Ok w1 w2) := ((Below.refl _ _).alloc (Nat.le_refl _) _).grown hgrow (by simp) (by intro k hk; simp [Value.ownBlock] at hk; omega)
  have hz := HB2.out.le
  clear hown hgrow
  go_wp2_with (at_builtin; refine wpList_append_lies _ rfl _ _ 24 rfl w1.heap.size 2 i0 (.int .i64 0) 1 8 Try.underlying24 hi0 hz0' hz1' hz2' rfl (by decide) v1 n (intsV ts) (by rfl) (own_below HO1.out ((Below.refl _ _).alloc (Nat.le_refl _) _)) ⟨w2.heap.size, 0, none⟩ 1 1 [.int .i64 77] (by rfl) rfl (World.news_of_block (cs := #[.int .i64 77]) (t := 2) (fr := (0, 0)) (heap_new0 _ _)) ?bp1 (by decide) ?bp2 (by omega) ?bp3 (w2.heap.size + 1) (by simp) ?_)
  case bp1 => intro u hu; simp at hu; subst hu; rfl
  case bp2 => unfold maxLen; omega
  case bp3 => simp; omega
  intro g cap2 w3 hown hgrow _ hlt
  have HO : Hid (w3.ownsRow w1.heap.size 2 1 (.slice (some ⟨g, 0, none⟩) (n + 1) cap2) (n + 1) (intsV (ts ++ [77]))) := by unfold Hid intsV; rw [List.map_append]; exact hown
  have HB3 : Hid (Ok w1 w3) := (HB2.out.alloc _).grown hgrow (by simp; omega) (own_base HO1.out)
  obtain ⟨hc1, hc2, hgB⟩ : n + 1 ≤ cap2 ∧ cap2 ≤ maxLen ∧ w1.heap.size ≤ g := by
    rcases HO.out.2 with ⟨h, _⟩ | ⟨g', cp, cur, h, h1, h2, h3, h4, _⟩
    · cases h
    · injection h with e1 e2 e3
      injection e1 with e1
      injection e1 with e1
      subst e1 e3
      exact ⟨h3, h4, h1⟩
  have hc3 : (n : Int) ≤ (cap2 : Int) := by omega
  unfold maxLen at hc2
  clear hown hgrow HO1 HB2
  obtain ⟨c0, c1, _, _⟩ := row_facts (Ok.row' HB3.out H1.out.1)
  go_wp2_with fail
  obtain ⟨V, hV⟩ : ∃ V, V = w3.alloc (.cells #[.int .i64 al, .int .i64 ah] 23) := ⟨_, rfl⟩
  obtain ⟨gn, hgn⟩ : ∃ gn, gn = w3.heap.size := ⟨_, rfl⟩
  have rn : V.heap[gn]? = some (.cells #[.int .i64 al, .int .i64 ah] 23) := by rw [hV]; exact heap_at _ _ _ hgn
  have okV : Ok w3 V := by rw [hV]; exact (Ok.refl _).alloc _
  rw [← hV, ← hgn]
  have HV : Hid _ := And.intro rn (And.intro okV hgn)
  clear hV hgn rn okV c0 c1
  have HSO : Hid (SInts w3 (.slice (some ⟨g, 0, none⟩) n cap2) ts) := own_sints HO.out HNM.out.1 (by omega)
  have HST : Hid (SInts w3 (.slice ao n cap) ts) := HT.out.ok (H1.out.2.step HB3.out)
  have HSR : Hid (SIv w3 ro rs) := HR.out.1.ok (H1.out.2.step HB3.out)
  go_loopw [10, 11, 34] (fun lo hi i wr => ∃ (k L H : Nat) (nl nh : Int), k ≤ m ∧ i = .int .i64 k ∧ lo = .int .i64 L ∧ hi = .int .i64 H ∧ Hid (WInv ts nl nh L H) ∧ Hid (wr.heap[gn]? = some (.cells #[.int .i64 nl, .int .i64 nh] 23)) ∧ Hid (Ok w3 wr)) (fun _ _ i _ => m - (intOf i).toNat)
  case atStart => exact ⟨0, 0, 0, al, ah, by omega, rfl, rfl, rfl, WInv.start ts al ah, HV.out.1, HV.out.2.1⟩
  case round =>
    obtain ⟨k, L, H, nl, nh, hk, rfl, rfl, rfl, HI, HN0, HOK⟩ := hrel
    by_cases hk1 : k < m
    · have hk2 : (k : Int) < (m : Int) := by omega
      have hkr : k < rs.length := by rw [← HNM.out.2]; exact hk1
      obtain ⟨tb, o, rfl, hlt, hcc⟩ := HSR.out.ok HOK.out (by intro h; rw [h] at hkr; simp at hkr)
      obtain ⟨b0, b1⟩ := hcc k hkr
      obtain ⟨i1, i2⟩ := HR.out.2 rs[k] (List.getElem_mem hkr)
      obtain ⟨bl, hbl⟩ : ∃ b, b = rs[k].1 := ⟨_, rfl⟩
      obtain ⟨bh, hbh⟩ : ∃ b, b = rs[k].2 := ⟨_, rfl⟩
      rw [← hbl] at b0 i1
      rw [← hbh] at b1 i2
      have HE : Hid _ := WInv.end' HI.out
      have HLQ : Hid _ := widen_leq (al := nl) (ah := nh) i1 i2 ts
      have HI12 : Hid _ := And.intro i1 i2
      clear hbl hbh hcc hkr i1 i2
      obtain ⟨n0, n1, _, _⟩ := row_facts HN0.out
      have g0 := lt_rowV HN0.out
      have g1 : ¬ gn = wr.heap.size := by omega
      go_wp2_with fail
      refine (pwiden_any nl nh bl bh _ ts _ _ (Ok.refl _) (HSO.out.ok (HOK.out.alloc _))).mono ?_
      rintro e w4 ⟨rfl, hb4⟩
      obtain ⟨N, hN⟩ : ∃ N, N = widenI nl nh bl bh ts := ⟨_, rfl⟩
      rw [← hN]
      have rn4 := Ok.row' hb4 (heap_past wr (.cells #[.int .i64 bl, .int .i64 bh] 23) gn g0 HN0.out)
      have rb4 := Ok.row' hb4 (heap_new0 wr (.cells #[.int .i64 bl, .int .i64 bh] 23))
      obtain ⟨gb, hgb⟩ : ∃ gb, gb = wr.heap.size := ⟨_, rfl⟩
      rw [← hgb] at rb4 ⊢
      have hne1 : gn ≠ gb := by omega
      have HK4 : Hid _ := And.intro rn4 (And.intro rb4 (Ok.step (HOK.out.alloc _) hb4))
      have HNN : Hid _ := hN
      clear hN b0 b1 n0 n1 g0 g1 rn4 rb4 hb4 hgb
      go_wp2_with fail
      obtain ⟨Z, hZ⟩ : ∃ Z, Z = w4.alloc (.cells #[.int .i64 N.1, .int .i64 N.2] 23) := ⟨_, rfl⟩
      obtain ⟨gx, hgx⟩ : ∃ gx, gx = w4.heap.size := ⟨_, rfl⟩
      have okZ : Ok w4 Z := by rw [hZ]; exact (Ok.refl _).alloc _
      have rx : Z.heap[gx]? = some (.cells #[.int .i64 N.1, .int .i64 N.2] 23) := by rw [hZ]; exact heap_at _ _ _ hgx
      rw [← hZ, ← hgx]
      clear hZ hgx
      have rnZ := Ok.row' okZ HK4.out.1
      have rbZ := Ok.row' okZ HK4.out.2.1
      obtain ⟨f0, f1, _, _⟩ := row_facts rnZ
      obtain ⟨f2, f3, _, _⟩ := row_facts rbZ
      obtain ⟨f4, f5, _, _⟩ := row_facts rx
      have z0 := lt_rowV rnZ
      have z1 := lt_rowV rbZ
      have z2 := lt_rowV rx
      have HZ : Hid (Ok w3 Z) := Ok.step HK4.out.2.2 okZ
      have HRN : Hid _ := rnZ
      have HB1 : Hid (leqI nl nh N.1 N.2 = true) := by unfold Hid; rw [HNN.out]; exact HLQ.out.1
      have HB2' : Hid (leqI bl bh N.1 N.2 = true) := by unfold Hid; rw [HNN.out]; exact HLQ.out.2
      clear rnZ rbZ rx okZ
      have bz : Ok Z Z := Ok.refl _
      go_region_held3 (fun w' => w'.cell? ⟨gn, 0, none⟩ = some (.int .i64 nl) ∧ w'.cell? ⟨gn, 1, none⟩ = some (.int .i64 nh) ∧ w'.cell? ⟨gb, 0, none⟩ = some (.int .i64 bl) ∧ w'.cell? ⟨gb, 1, none⟩ = some (.int .i64 bh) ∧ w'.cell? ⟨gx, 0, none⟩ = some (.int .i64 N.1) ∧ w'.cell? ⟨gx, 1, none⟩ = some (.int .i64 N.2)) (go_keep)
        (first
        | (go_at_call 10; refine (rwiden_any nl nh bl bh _ ts Z _ (by first | assumption | exact Below.drew (by assumption)) (HST.out.ok (HZ.out.step (by first | assumption | exact Below.drew (by assumption))))).mono ?_; rintro e w' ⟨rfl, hb⟩; rw [← HNN.out]; have q0 := Ok.cell hb z0 f0; have q1 := Ok.cell hb z0 f1; have q2 := Ok.cell hb z1 f2; have q3 := Ok.cell hb z1 f3; have q4 := Ok.cell hb z2 f4; have q5 := Ok.cell hb z2 f5)
        | (go_at_call 11; refine (pleq_any _ _ _ _ Z _ (by first | assumption | exact Below.drew (by assumption))).mono ?_; rintro e w' ⟨rfl, hb⟩; (first | rw [HB1.out] | rw [HB2'.out]); have q0 := Ok.cell hb z0 f0; have q1 := Ok.cell hb z0 f1; have q2 := Ok.cell hb z1 f2; have q3 := Ok.cell hb z1 f3; have q4 := Ok.cell hb z2 f4; have q5 := Ok.cell hb z2 f5)
        | fail)
      have G : Hid (Ok Z w') := hb
      have hL : L ≤ 140737488355328 := by have := HE.out.1; rw [← HNM.out.1] at this; omega
      have hH : H ≤ 140737488355328 := by have := HE.out.2; rw [← HNM.out.1] at this; omega
      have hgn3 : w3.heap.size ≤ gn := by rw [HV.out.2.2]; exact Nat.le_refl _
      have HRN2 : Hid _ := Ok.row' G.out HRN.out
      have HSET : Hid (Ok w3 ((w'.setCell ⟨gn, 0, none⟩ (.int .i64 N.1)).setCell ⟨gn, 1, none⟩ (.int .i64 N.2))) := ((HZ.out.step G.out).set (show w3.heap.size ≤ gn from hgn3) _).set (show w3.heap.size ≤ gn from hgn3) _
      obtain ⟨r0, r1, r2, r3⟩ := row_facts HRN2.out
      clear f0 f1 f2 f3 f4 f5 z0 z1 z2 hgn3 bz
      by_cases c : nl ≤ nh
      · have HWI : Hid _ := WInv.some HI12.out.1 HI12.out.2 HI.out c
        rw [← HNN.out] at HWI
        by_cases t1 : N.1 = nl
        · by_cases t2 : N.2 = nh
          · have x1 : (N.1 == nl) = true := by simp [t1]
            have x2 : (N.2 == nh) = true := by simp [t2]
            have HW : Hid (WInv ts N.1 N.2 (L) (H)) := by
              have h9 := HWI.out
              rw [if_pos t1, if_pos t2] at h9
              exact h9
            rw [t1, t2] at HSET HW
            go_wp2_with fail
            exact ⟨⟨k + 1, L, H, nl, nh, by omega, rfl, rfl, rfl, HW, row_set2 HRN2.out _ _, HSET.out⟩, by simp only [intOf]; omega⟩
          · have x1 : (N.1 == nl) = true := by simp [t1]
            have x2 : (N.2 == nh) = false := by simp [t2]
            have HW : Hid (WInv ts N.1 N.2 (L) (H + 1)) := by
              have h9 := HWI.out
              rw [if_pos t1, if_neg t2] at h9
              exact h9
            rw [t1] at HSET HW
            go_wp2_with fail
            exact ⟨⟨k + 1, L, H + 1, nl, N.2, by omega, rfl, rfl, rfl, HW, row_set2 HRN2.out _ _, HSET.out⟩, by simp only [intOf]; omega⟩
        · by_cases t2 : N.2 = nh
          · have x1 : (N.1 == nl) = false := by simp [t1]
            have x2 : (N.2 == nh) = true := by simp [t2]
            have HW : Hid (WInv ts N.1 N.2 (L + 1) (H)) := by
              have h9 := HWI.out
              rw [if_neg t1, if_pos t2] at h9
              exact h9
            rw [t2] at HSET HW
            go_wp2_with fail
            exact ⟨⟨k + 1, L + 1, H, N.1, nh, by omega, rfl, rfl, rfl, HW, row_set2 HRN2.out _ _, HSET.out⟩, by simp only [intOf]; omega⟩
          · have x1 : (N.1 == nl) = false := by simp [t1]
            have x2 : (N.2 == nh) = false := by simp [t2]
            have HW : Hid (WInv ts N.1 N.2 (L + 1) (H + 1)) := by
              have h9 := HWI.out
              rw [if_neg t1, if_neg t2] at h9
              exact h9
            go_wp2_with fail
            exact ⟨⟨k + 1, L + 1, H + 1, N.1, N.2, by omega, rfl, rfl, rfl, HW, row_set2 HRN2.out _ _, HSET.out⟩, by simp only [intOf]; omega⟩
      · have HW : Hid _ := WInv.none (bl := bl) (bh := bh) HI.out (by omega)
        rw [← HNN.out] at HW
        go_wp2_with fail
        exact ⟨⟨k + 1, L, H, N.1, N.2, by omega, rfl, rfl, rfl, HW, row_set2 HRN2.out _ _, HSET.out⟩, by simp only [intOf]; omega⟩
    · have hk2 : ¬ (k : Int) < (m : Int) := by omega
      go_wp2_with fail
      have HE : Hid _ := WInv.end' HI.out
      have hL : L ≤ n + 1 := by have := HE.out.1; rw [← HNM.out.1] at this; exact this
      have hH : H ≤ n + 1 := by have := HE.out.2; rw [← HNM.out.1] at this; exact this
      clear HE HI
      go_loopw [83] (fun i wr => ∃ k : Nat, k ≤ n ∧ i = .int .i64 k ∧ Hid (Ok w3 wr)) (fun i _ => n - (intOf i).toNat)
      case atStart => exact ⟨0, by omega, rfl, HOK⟩
      case round =>
        clear HOK HN0
        obtain ⟨j, hj, rfl, HOK⟩ := hrel
        by_cases hj1 : j < n
        · have hj2 : (j : Int) < (n : Int) := by omega
          have hj3 : (j : Int) < (cap2 : Int) := by omega
          have hjt : j < ts.length := by rw [← HNM.out.1]; exact hj1
          obtain ⟨tb, o, hao, hc⟩ : ∃ tb o, ao = some ⟨tb, o, none⟩ ∧ IntsAt wr tb o ts := by
            rcases HST.out.ok HOK.out with ⟨tb, o, cp, e, hI⟩ | ⟨_, _, _, e⟩
            · injection e with e1 _ _
              exact ⟨tb, o, e1, hI⟩
            · rw [e] at hjt; simp at hjt
          subst hao
          obtain ⟨hx, e0, _⟩ := own_cell (own_below HO.out HOK.out) (by omega) (show j < n + 1 by omega)
          rw [List.getElem_append_left hjt] at e0
          have e1 := hc.1 j hjt
          obtain ⟨t, ht⟩ : ∃ t, t = ts[j] := ⟨_, rfl⟩
          rw [← ht] at e0 e1
          clear ht hc hx hjt
          go_wp2_with fail
          go_quiet (fail)
          go_wp2_with fail
          exact ⟨⟨j + 1, by omega, rfl, Ok.draws HOK.out _⟩, by simp only [intOf]; omega⟩
        · have hj2 : ¬ (j : Int) < (n : Int) := by omega
          go_wp2_with fail
          have HOW : Hid _ := own_below HO.out HOK.out
          have HOK1 : Hid (Ok w1 wr) := HB3.out.step HOK.out
          have hgs : g < wr.heap.size := Nat.lt_of_lt_of_le hlt HOK.out.le
          go_loopw [98] (fun i wr => ∃ k : Nat, k ≤ m ∧ i = .int .i64 k ∧ Hid (wr.ownsRow w1.heap.size 2 1 (.slice (some ⟨g, 0, none⟩) (n + 1) cap2) (n + 1) (intsV (ts ++ [77]))) ∧ Hid (Ok w1 wr)) (fun i _ => m - (intOf i).toNat)
          case atStart => exact ⟨0, by omega, rfl, HOW, HOK1⟩
          case round =>
            clear HOK HOW HOK1 hgs
            obtain ⟨k2, hk3, rfl, HOW, HOK⟩ := hrel
            have HST1 : Hid (SInts wr (.slice ao n cap) ts) := HT.out.ok (H1.out.2.step HOK.out)
            by_cases hk4 : k2 < m
            · have hk5 : (k2 : Int) < (m : Int) := by omega
              have hkr : k2 < rs.length := by rw [← HNM.out.2]; exact hk4
              obtain ⟨tb, o, rfl, hlt2, hcc⟩ := (HR.out.1.ok (H1.out.2.step HOK.out)) (by intro h; rw [h] at hkr; simp at hkr)
              obtain ⟨b0, b1⟩ := hcc k2 hkr
              obtain ⟨bl, hbl⟩ : ∃ b, b = rs[k2].1 := ⟨_, rfl⟩
              obtain ⟨bh, hbh⟩ : ∃ b, b = rs[k2].2 := ⟨_, rfl⟩
              rw [← hbl] at b0
              rw [← hbh] at b1
              clear hbl hbh hcc hkr
              have raw := Ok.row' HOK.out H1.out.1
              obtain ⟨n0, n1, _, _⟩ := row_facts raw
              have g0 := lt_rowV raw
              have g1 : ¬ ga = wr.heap.size := by omega
              go_wp2_with fail
              obtain ⟨Z, hZ⟩ : ∃ Z, Z = wr.alloc (.cells #[.int .i64 bl, .int .i64 bh] 23) := ⟨_, rfl⟩
              obtain ⟨gb, hgb⟩ : ∃ gb, gb = wr.heap.size := ⟨_, rfl⟩
              have okZ : Ok wr Z := by rw [hZ]; exact (Ok.refl _).alloc _
              have rb : Z.heap[gb]? = some (.cells #[.int .i64 bl, .int .i64 bh] 23) := by rw [hZ]; exact heap_at _ _ _ hgb
              rw [← hZ, ← hgb]
              have hgg : g < gb := by
                obtain ⟨cur, _, h2, _⟩ := own_row HOW.out
                have := lt_rowV h2
                omega
              clear hZ hgb b0 b1 n0 n1 g0 g1
              have raZ := Ok.row' okZ raw
              obtain ⟨f0, f1, _, _⟩ := row_facts raZ
              obtain ⟨f2, f3, _, _⟩ := row_facts rb
              have z0 := lt_rowV raZ
              have z1 := lt_rowV rb
              have HZO : Hid _ := own_below HOW.out okZ
              have HZS : Hid (SInts Z (.slice (some ⟨g, 0, none⟩) n cap2) ts) := own_sints HZO.out HNM.out.1 (by omega)
              have HZT : Hid (SInts Z (.slice ao n cap) ts) := HST1.out.ok okZ
              have HZ1 : Hid (Ok w1 Z) := HOK.out.step okZ
              have HRB : Hid _ := rb
              clear raZ raw rb okZ
              have bz : Ok Z Z := Ok.refl _
              go_region_held3 (fun w' => w'.cell? ⟨ga, 0, none⟩ = some (.int .i64 al) ∧ w'.cell? ⟨ga, 1, none⟩ = some (.int .i64 ah) ∧ w'.cell? ⟨gb, 0, none⟩ = some (.int .i64 bl) ∧ w'.cell? ⟨gb, 1, none⟩ = some (.int .i64 bh)) (go_keep)
                (first
                | (go_at_call 10; refine (rwiden_any al ah bl bh _ ts Z _ (by first | assumption | exact Below.drew (by assumption)) (HZT.out.ok (by first | assumption | exact Below.drew (by assumption)))).mono ?_; rintro e w' ⟨rfl, hb⟩; have q0 := Ok.cell hb z0 f0; have q1 := Ok.cell hb z0 f1; have q2 := Ok.cell hb z1 f2; have q3 := Ok.cell hb z1 f3)
                | (go_at_call 9; refine (pwiden_any al ah bl bh _ ts Z _ (by first | assumption | exact Below.drew (by assumption)) (HZS.out.ok (by first | assumption | exact Below.drew (by assumption)))).mono ?_; rintro e w' ⟨rfl, hb⟩; have q0 := Ok.cell hb z0 f0; have q1 := Ok.cell hb z0 f1; have q2 := Ok.cell hb z1 f2; have q3 := Ok.cell hb z1 f3)
                | fail)
              have G : Hid (Ok Z w') := hb
              clear f0 f1 f2 f3 z0 z1 bz
              go_wp2_with fail
              have A1 : Hid _ := own_below HZO.out G.out
              have A2 : Hid _ := Ok.row' G.out HRB.out
              have A3 : Hid (Ok w1 w') := HZ1.out.step G.out
              go_loopw [113] (fun i wr => ∃ (j : Nat) (ys : List Int), j ≤ n ∧ i = .int .i64 j ∧ Hid (ys.length = n) ∧ Hid (wr.ownsRow w1.heap.size 2 1 (.slice (some ⟨g, 0, none⟩) (n + 1) cap2) (n + 1) (intsV (ys ++ [77]))) ∧ Hid (wr.heap[gb]? = some (.cells #[.int .i64 bl, .int .i64 bh] 23)) ∧ Hid (Ok w1 wr)) (fun i _ => n - (intOf i).toNat)
              case atStart => exact ⟨0, ts, by omega, rfl, HNM.out.1.symm, A1, A2, A3⟩
              case round =>
                obtain ⟨j, ys, hj, rfl, HYL, B1, B2, B3⟩ := hrel
                clear A1 A2 A3 HZO HZS HZT HZ1 HRB G HST1 HOK HOW
                by_cases hj1 : j < n
                · have hj2 : (j : Int) < (n : Int) := by omega
                  have hj3 : (j : Int) < (cap2 : Int) := by omega
                  have hjt : n - 1 - j < ts.length := by rw [← HNM.out.1]; omega
                  obtain ⟨tb2, o2, hao, hc⟩ : ∃ tb o, ao = some ⟨tb, o, none⟩ ∧ IntsAt wr tb o ts := by
                    rcases HT.out.ok (H1.out.2.step B3.out) with ⟨tb, o, cp, e, hI⟩ | ⟨_, _, _, e⟩
                    · injection e with e1 _ _
                      exact ⟨tb, o, e1, hI⟩
                    · rw [e] at hjt; simp at hjt
                  subst hao
                  have e1 := hc.1 (n - 1 - j) hjt
                  obtain ⟨t, ht⟩ : ∃ t, t = ts[n - 1 - j] := ⟨_, rfl⟩
                  rw [← ht] at e1
                  obtain ⟨hx, e0, e2⟩ := own_cell B1.out (by omega) (show j < n + 1 by omega)
                  obtain ⟨q, hq⟩ : ∃ q : Nat, q = n - 1 - j := ⟨_, rfl⟩
                  have hq1 : (n : Int) - 1 - (j : Int) = (q : Int) := by omega
                  have hq2 : (q : Int) < (n : Int) := by omega
                  rw [← hq] at e1
                  clear ht hc hjt hq
                  have hne3 : gb ≠ g := by omega
                  have hgw : w1.heap.size ≤ g := hgB
                  have C1 : Hid _ := fun x => own_set77 B1.out HYL.out hj1 x
                  have C2 : Hid (∀ x : Value, (wr.setCell ⟨g, j, none⟩ x).heap[gb]? = some (.cells #[.int .i64 bl, .int .i64 bh] 23)) := fun x => (heap_setCell_other wr ⟨g, j, none⟩ gb x hne3).trans B2.out
                  have C3 : Hid (∀ x : Value, Ok w1 (wr.setCell ⟨g, j, none⟩ x)) := fun x => B3.out.set (show w1.heap.size ≤ g from hgB) x
                  clear hne3 hgw
                  go_wp2_with fail
                  exact ⟨⟨j + 1, ys.set j _, by omega, rfl, by unfold Hid; rw [List.length_set]; exact HYL.out, C1.out _, C2.out _, C3.out _⟩, by simp only [intOf]; omega⟩
                · have hj2 : ¬ (j : Int) < (n : Int) := by omega
                  go_wp2_with fail
                  have raZ := Ok.row' B3.out H1.out.1
                  obtain ⟨f0, f1, _, _⟩ := row_facts raZ
                  obtain ⟨f2, f3, _, _⟩ := row_facts B2.out
                  have z0 := lt_rowV raZ
                  have z1 := lt_rowV B2.out
                  obtain ⟨hIY, hSY⟩ : IntsAt wr g 0 ys ∧ SInts wr (.slice (some ⟨g, 0, none⟩) n cap2) ys := by
                    have h9 := own_sints B1.out HYL.out.symm (by omega)
                    refine ⟨?_, h9⟩
                    rcases h9 with ⟨tb, o, cp, e, hI⟩ | ⟨_, _, _, e⟩
                    · injection e with e1 _ _
                      injection e1 with e1
                      injection e1 with e1 e2
                      subst e1 e2
                      exact hI
                    · subst e
                      obtain ⟨cur, _, h2, _⟩ := own_row B1.out
                      exact ⟨fun i hi => by simp at hi, lt_rowV h2, by simp⟩
                  have HIY : Hid (IntsAt wr g 0 ys) := hIY
                  have HSY : Hid (SInts wr (.slice (some ⟨g, 0, none⟩) n cap2) ys) := hSY
                  have hle0 : wr.heap.size ≤ wr.heap.size := Nat.le_refl _
                  clear hIY hSY raZ
                  have bz : Ok wr wr := Ok.refl _
                  go_region_held3 (fun w' => w'.cell? ⟨ga, 0, none⟩ = some (.int .i64 al) ∧ w'.cell? ⟨ga, 1, none⟩ = some (.int .i64 ah) ∧ w'.cell? ⟨gb, 0, none⟩ = some (.int .i64 bl) ∧ w'.cell? ⟨gb, 1, none⟩ = some (.int .i64 bh)) (go_keep)
                    (first
                    | (go_at_call 9; refine (pwiden_any al ah bl bh _ ys _ _ (Ok.refl _) (SInts.ok HSY.out (by repeat (first | assumption | refine Ok.alloc ?_ _ | refine Below.drew ?_)))).mono ?_; rintro e w' ⟨rfl, hc⟩; have hb : Ok wr w' := Ok.step (by repeat (first | assumption | refine Ok.alloc ?_ _ | refine Below.drew ?_)) hc; have hle := hb.le; have q0 := Ok.cell hb z0 f0; have q1 := Ok.cell hb z0 f1; have q2 := Ok.cell hb z1 f2; have q3 := Ok.cell hb z1 f3)
                    | (go_at_call 10; refine (rwiden_any al ah bl bh _ ys wr _ (by repeat (first | assumption | refine Ok.alloc ?_ _ | refine Below.drew ?_)) (SInts.ok hSv (by repeat (first | exact Ok.refl _ | refine Below.drew ?_)))).mono ?_; rintro e w' ⟨rfl, hb⟩; have q0 := Ok.cell hb z0 f0; have q1 := Ok.cell hb z0 f1; have q2 := Ok.cell hb z1 f2; have q3 := Ok.cell hb z1 f3)
                    | ((refine step_copy (by rfl) _ _ _ (by rfl) i0 (.int .i64 0) Try.underlying24 hi0 hz0' hz1' hz2' rfl _ (by rfl) (by first | exact heap_new0 _ _ | exact Ok.row' hc (heap_new0 _ _)) _ _ _ (by rfl) ys (IntsAt.ok HIY.out (by repeat (first | assumption | refine Ok.alloc ?_ _ | refine Below.drew ?_))) HYL.out (by omega) wr.heap.size (by first | exact hle | exact Nat.le_refl _) ?_; intro v' w' hSv hbw; have hb : Ok wr w' := Below.trans (by repeat (first | assumption | refine Ok.alloc ?_ _ | refine Below.drew ?_)) hbw; have q0 := Ok.cell hb z0 f0; have q1 := Ok.cell hb z0 f1; have q2 := Ok.cell hb z1 f2; have q3 := Ok.cell hb z1 f3))
                    | fail)
                  · have HB9 : Hid (Ok wr w') := hb
                    have D1 : Hid _ := own_below B1.out HB9.out
                    have D3 : Hid (Ok w1 w') := B3.out.step HB9.out
                    clear f0 f1 f2 f3 z0 z1 bz hle0
                    go_wp2_with fail
                    go_loopw [141] (fun i wr => ∃ (j : Nat) (ys : List Int), j ≤ n ∧ i = .int .i64 j ∧ Hid (ys.length = n ∧ ∀ i, i < j → ys[i]? = ts[i]?) ∧ Hid (wr.ownsRow w1.heap.size 2 1 (.slice (some ⟨g, 0, none⟩) (n + 1) cap2) (n + 1) (intsV (ys ++ [77]))) ∧ Hid (Ok w1 wr)) (fun i _ => n - (intOf i).toNat)
                    case atStart => exact ⟨0, ys, by omega, rfl, ⟨HYL.out, fun i hi => by omega⟩, D1, D3⟩
                    case round =>
                      clear D1 D3 HB9 hb q0 q1 q2 q3 B1 B2 B3 HIY HSY HYL
                      obtain ⟨j, ys, hj, rfl, HYL, B1, B3⟩ := hrel
                      by_cases hj1 : j < n
                      · have hj2 : (j : Int) < (n : Int) := by omega
                        have hj3 : (j : Int) < (cap2 : Int) := by omega
                        have hjt : j < ts.length := by rw [← HNM.out.1]; omega
                        obtain ⟨tb2, o2, hao, hc⟩ : ∃ tb o, ao = some ⟨tb, o, none⟩ ∧ IntsAt wr tb o ts := by
                          rcases HT.out.ok (H1.out.2.step B3.out) with ⟨tb, o, cp, e, hI⟩ | ⟨_, _, _, e⟩
                          · injection e with e1 _ _
                            exact ⟨tb, o, e1, hI⟩
                          · rw [e] at hjt; simp at hjt
                        subst hao
                        have e1 := hc.1 j hjt
                        obtain ⟨t, ht⟩ : ∃ t, t = ts[j] := ⟨_, rfl⟩
                        rw [← ht] at e1
                        obtain ⟨hx, e0, e2⟩ := own_cell B1.out (by omega) (show j < n + 1 by omega)
                        have C0 : Hid ((ys.set j t).length = n ∧ ∀ i, i < j + 1 → (ys.set j t)[i]? = ts[i]?) := by
                          refine ⟨by rw [List.length_set]; exact HYL.out.1, fun i hi => ?_⟩
                          by_cases hij : i = j
                          · subst hij
                            rw [List.getElem?_set_self (by rw [HYL.out.1]; exact hj1), ht, List.getElem?_eq_getElem hjt]
                          · rw [List.getElem?_set_ne (by omega)]
                            exact HYL.out.2 i (by omega)
                        have C1 : Hid _ := own_set77 B1.out HYL.out.1 hj1 t
                        have C3 : Hid (∀ x : Value, Ok w1 (wr.setCell ⟨g, j, none⟩ x)) := fun x => B3.out.set (show w1.heap.size ≤ g from hgB) x
                        clear ht hc hjt
                        go_wp2_with fail
                        exact ⟨⟨j + 1, ys.set j t, by omega, rfl, C0, C1, C3.out _⟩, by simp only [intOf]; omega⟩
                      · have hj2 : ¬ (j : Int) < (n : Int) := by omega
                        have hys : ys = ts := by
                          refine List.ext_getElem? fun i => ?_
                          by_cases hi : i < n
                          · exact HYL.out.2 i (by omega)
                          · rw [List.getElem?_eq_none (by rw [HYL.out.1]; omega), List.getElem?_eq_none (by rw [← HNM.out.1]; omega)]
                        rw [hys] at B1
                        clear HYL hys
                        go_wp2_with fail
                        exact ⟨⟨k2 + 1, by omega, rfl, B1, B3⟩, by simp only [intOf]; omega⟩
                  · have HB9 : Hid (Ok wr w') := hb
                    have D1 : Hid _ := own_below B1.out HB9.out
                    have D3 : Hid (Ok w1 w') := B3.out.step HB9.out
                    clear f0 f1 f2 f3 z0 z1 bz hle0
                    go_wp2_with fail
                    go_loopw [141] (fun i wr => ∃ (j : Nat) (ys : List Int), j ≤ n ∧ i = .int .i64 j ∧ Hid (ys.length = n ∧ ∀ i, i < j → ys[i]? = ts[i]?) ∧ Hid (wr.ownsRow w1.heap.size 2 1 (.slice (some ⟨g, 0, none⟩) (n + 1) cap2) (n + 1) (intsV (ys ++ [77]))) ∧ Hid (Ok w1 wr)) (fun i _ => n - (intOf i).toNat)
                    case atStart => exact ⟨0, ys, by omega, rfl, ⟨HYL.out, fun i hi => by omega⟩, D1, D3⟩
                    case round =>
                      clear D1 D3 HB9 hb q0 q1 q2 q3 B1 B2 B3 HIY HSY HYL
                      obtain ⟨j, ys, hj, rfl, HYL, B1, B3⟩ := hrel
                      by_cases hj1 : j < n
                      · have hj2 : (j : Int) < (n : Int) := by omega
                        have hj3 : (j : Int) < (cap2 : Int) := by omega
                        have hjt : j < ts.length := by rw [← HNM.out.1]; omega
                        obtain ⟨tb2, o2, hao, hc⟩ : ∃ tb o, ao = some ⟨tb, o, none⟩ ∧ IntsAt wr tb o ts := by
                          rcases HT.out.ok (H1.out.2.step B3.out) with ⟨tb, o, cp, e, hI⟩ | ⟨_, _, _, e⟩
                          · injection e with e1 _ _
                            exact ⟨tb, o, e1, hI⟩
                          · rw [e] at hjt; simp at hjt
                        subst hao
                        have e1 := hc.1 j hjt
                        obtain ⟨t, ht⟩ : ∃ t, t = ts[j] := ⟨_, rfl⟩
                        rw [← ht] at e1
                        obtain ⟨hx, e0, e2⟩ := own_cell B1.out (by omega) (show j < n + 1 by omega)
                        have C0 : Hid ((ys.set j t).length = n ∧ ∀ i, i < j + 1 → (ys.set j t)[i]? = ts[i]?) := by
                          refine ⟨by rw [List.length_set]; exact HYL.out.1, fun i hi => ?_⟩
                          by_cases hij : i = j
                          · subst hij
                            rw [List.getElem?_set_self (by rw [HYL.out.1]; exact hj1), ht, List.getElem?_eq_getElem hjt]
                          · rw [List.getElem?_set_ne (by omega)]
                            exact HYL.out.2 i (by omega)
                        have C1 : Hid _ := own_set77 B1.out HYL.out.1 hj1 t
                        have C3 : Hid (∀ x : Value, Ok w1 (wr.setCell ⟨g, j, none⟩ x)) := fun x => B3.out.set (show w1.heap.size ≤ g from hgB) x
                        clear ht hc hjt
                        go_wp2_with fail
                        exact ⟨⟨j + 1, ys.set j t, by omega, rfl, C0, C1, C3.out _⟩, by simp only [intOf]; omega⟩
                      · have hj2 : ¬ (j : Int) < (n : Int) := by omega
                        have hys : ys = ts := by
                          refine List.ext_getElem? fun i => ?_
                          by_cases hi : i < n
                          · exact HYL.out.2 i (by omega)
                          · rw [List.getElem?_eq_none (by rw [HYL.out.1]; omega), List.getElem?_eq_none (by rw [← HNM.out.1]; omega)]
                        rw [hys] at B1
                        clear HYL hys
                        go_wp2_with fail
                        exact ⟨⟨k2 + 1, by omega, rfl, B1, B3⟩, by simp only [intOf]; omega⟩
            · have hk5 : ¬ (k2 : Int) < (m : Int) := by omega
              obtain ⟨hx, e0, _⟩ := own_cell HOW.out (by omega) (show n < n + 1 by omega)
              rw [List.getElem_append_right (by rw [HNM.out.1]; exact Nat.le_refl _)] at e0
              have e1 : wr.cell? ⟨g, n, none⟩ = some (.int .i64 77) := by simpa using e0
              have hc4 : (n : Int) + 1 ≤ (cap2 : Int) := by omega
              have hL2 : (L : Int) ≤ (n : Int) + 1 := by omega
              have hH2 : (H : Int) ≤ (n : Int) + 1 := by omega
              clear e0 hx
              go_wp2_with fail
              go_ret
              exact ⟨rfl, H1.out.2.step HOK.out⟩
end Go.Proofs.Ytdbdgpcbhojcnaa
