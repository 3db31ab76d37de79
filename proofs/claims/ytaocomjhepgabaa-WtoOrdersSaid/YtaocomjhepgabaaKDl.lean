import Derived.Deep.RegionLaw
import Derived.Deep.Cut
import Derived.Deep.CutRange
import Derived.Test.YtaocomjhepgabaaKDo
set_option linter.unusedVariables false
set_option linter.unusedSimpArgs false
set_option linter.unnecessarySimpa false
/- Dl -/
namespace Go.Proofs.Ytaocomjhepgabaa
open Go.RowKit Go.Maps Go.ChangeShapes Go.WideShapes
theorem SAr.lent {w : World} {B g c : Nat} {ts : List (Int × Int)} (h : w.ownsRow B 29 2 (.slice (some ⟨g, 0, none⟩) (ts.length + 1) c) (ts.length + 1) (pr (ts ++ [mkA]))) : SAr w (some ⟨g, 0, none⟩) ts := by
  obtain ⟨_, ao, cap, e, hs⟩ := SAr.of h
  injection e with e1
  subst e1
  have := hs.take ts.length
  rwa [List.take_left] at this
theorem own_cap2 {w : World} {B e s n gk cap : Nat} {xs : List Value} (h : w.ownsRow B e s (.slice (some ⟨gk, 0, none⟩) n cap) n xs) : n ≤ cap ∧ cap ≤ maxLen := by
  rcases h.2 with ⟨e, _⟩ | ⟨g', cp, cur, e, h1, h2, h3, h4, h5, h6⟩
  · cases e
  · injection e with e1 e2 e3
    subst e3
    exact ⟨h3, h4⟩
set_option maxRecDepth 100000 in
set_option maxHeartbeats 16000000 in
theorem ord_any {w : World} {n root other : Int} {ro : Option Addr} {cap : Nat} {ars : List (Int × Int)} (hs : SAr w ro ars) (hao : ro = none → cap = 0) (hlc : ars.length ≤ cap) (hr : in64 root) (hot : in64 other) (hin : ∀ x ∈ ars, in64 x.1 ∧ in64 x.2) (hc : cap ≤ 140737488355328) :
    Calls Try.prog 6 #[.int .i64 n, .slice ro ars.length cap, .int .i64 root, .int .i64 other] w fun e w' => e = .returned (.bool true) ∧ Ok w w' := by
  obtain ⟨ts, hts⟩ : ∃ ts, ts = ars.take 600 := ⟨_, rfl⟩
  have HS : Hid (SAr w ro ts) := by unfold Hid; rw [hts]; exact hs.take 600
  have HAO : Hid (ro = none → cap = 0) := hao
  have HIN : Hid (∀ x ∈ ts, in64 x.1 ∧ in64 x.2) := by unfold Hid; rw [hts]; exact fun x hx => hin x (List.mem_of_mem_take hx)
  have HTL : Hid (ts.length ≤ 600 ∧ ts.length ≤ cap) := by unfold Hid; rw [hts, List.length_take]; omega
  have HML : Hid (ts.length = min 600 ars.length) := by unfold Hid; rw [hts, List.length_take]
  have HR : Hid (in64 root ∧ in64 other) := ⟨hr, hot⟩
  clear hs hao hr hot hin hts
  go_enter Try.func6, Try.ntmps6
  go_upto_region 1 with (fail)
  go_cut [1] from 29 to 33 (fun s1 u => Hid (s1 = .slice ro ts.length cap ∧ u = w))
  case first =>
    by_cases h600 : 600 < ars.length
    · have h600' : (600 : Int) < (ars.length : Int) := by omega
      have h6c : 600 ≤ cap := by omega
      go_wp2_with fail
      go_meet
      case rel => exact ⟨by rw [HML.out, Nat.min_eq_left (by omega)], rfl⟩
    · have h600' : ¬ (600 : Int) < (ars.length : Int) := by omega
      go_wp2_with fail
      go_meet
      case rel => exact ⟨by rw [HML.out, Nat.min_eq_right (by omega)], rfl⟩
  case rest =>
    have h1 := hcut.out.1
    have h2 := hcut.out.2.symm
    subst h1 h2
    clear hcut hlc HML
    obtain ⟨m, hm⟩ : ∃ m, m = ts.length := ⟨_, rfl⟩
    have HM : Hid (m = ts.length ∧ m ≤ 600) := ⟨hm, by rw [hm]; exact HTL.out.1⟩
    have hmc : m ≤ cap := by rw [hm]; exact HTL.out.2
    rw [← hm]
    clear hm
    go_wp2_with fail
    have hlent := lent_any HS.out HAO.out (by have := HTL.out.1; omega)
    rw [← HM.out.1] at hlent
    refine Calls.mono hlent ?_
    clear hlent
    rintro e w1 ⟨gw, cw, rfl, ho1, hk1⟩
    have HOW1 : Hid (w1.ownsRow w.heap.size 29 2 (.slice (some ⟨gw, 0, none⟩) (m + 1) cw) (m + 1) (pr (ts ++ [mkA]))) := ho1
    have HK1 : Hid (Ok w w1) := hk1
    have hcw := (own_cap2 ho1).1
    have hmw : m ≤ cw := by omega
    clear ho1 hk1
    go_wp2_with fail
    have hd1 := order_doc (w := w1) (n := n) (root := root) (ro := ro) (cap := cap) (HS.out.ok HK1.out) (by have := HTL.out.1; omega) HR.out.1 HIN.out
    rw [← HM.out.1] at hd1
    refine Calls.mono hd1 ?_
    clear hd1
    rintro e w2 ⟨f1, L1, vd1, rfl, hol, hod, hll, hk2⟩
    have HOL1 : Hid (OL n ts root f1 L1 ∧ L1.length ≤ 1000000000000) := ⟨hol, hll⟩
    have HOD1 : Hid (w2.ownsRow w1.heap.size 35 3 vd1 L1.length (fl (els L1))) := hod
    have HK2 : Hid (Ok w1 w2) := hk2
    obtain ⟨X1, hX1⟩ : ∃ X, X = els L1 := ⟨_, rfl⟩
    rw [← hX1] at hod HOD1
    obtain ⟨hnl, od1, cd1, hvd, hsd⟩ := SEl.of hod
    subst hvd
    rw [hnl] at HOD1
    have HX1 : Hid (X1 = els L1 ∧ X1.length ≤ 1000000000000) := ⟨hX1, by rw [← hnl]; exact hll⟩
    clear hX1 hnl
    clear hol hod hll hk2 hsd
    go_wp2_with fail
    have hd2 := order_doc (w := w2) (n := n) (root := other) (ro := ro) (cap := cap) ((HS.out.ok HK1.out).ok HK2.out) (by have := HTL.out.1; omega) HR.out.2 HIN.out
    rw [← HM.out.1] at hd2
    refine Calls.mono hd2 ?_
    clear hd2
    rintro e w3 ⟨f2, L2, vd2, rfl, hol, hod, hll, hk3⟩
    have HOL2 : Hid (OL n ts other f2 L2 ∧ L2.length ≤ 1000000000000) := ⟨hol, hll⟩
    have HOD2 : Hid (w3.ownsRow w2.heap.size 35 3 vd2 L2.length (fl (els L2))) := hod
    have HK3 : Hid (Ok w2 w3) := hk3
    obtain ⟨X2, hX2⟩ : ∃ X, X = els L2 := ⟨_, rfl⟩
    rw [← hX2] at hod HOD2
    obtain ⟨hnl, od2, cd2, hvd, hsd⟩ := SEl.of hod
    subst hvd
    rw [hnl] at HOD2
    have HX2 : Hid (X2 = els L2 ∧ X2.length ≤ 1000000000000) := ⟨hX2, by rw [← hnl]; exact hll⟩
    clear hX2 hnl
    clear hol hod hll hk3 hsd
    have HK13 : Hid (Ok w1 w3) := HK2.out.step HK3.out
    have HSW : Hid (SAr w3 (some ⟨gw, 0, none⟩) ts) := by
      have h := HOW1.out
      rw [HM.out.1] at h
      exact (SAr.lent h).ok HK13.out
    go_wp2_with fail
    have hda := order_code (w := w3) (n := n) (root := root) (ro := some ⟨gw, 0, none⟩) (cap := cw) (HSW.out) (by have := HTL.out.1; omega) HR.out.1 HIN.out
    rw [← HM.out.1] at hda
    refine Calls.mono hda ?_
    clear hda
    rintro e w4 ⟨ea, La, va, rfl, hol, hoc, _, hka⟩
    obtain ⟨h1, h2⟩ := HOL1.out.1.one hol
    subst h1 h2
    rw [← HX1.out.1] at hoc
    obtain ⟨hnl, oa, ca, hvd, _⟩ := SEl.of hoc
    subst hvd
    rw [hnl] at hoc
    have HOa : Hid (w4.ownsRow w3.heap.size 35 3 (.slice oa X1.length ca) X1.length (fl X1)) := hoc
    have HKa : Hid (Ok w3 w4) := hka
    clear hol hoc hka hnl
    go_wp2_with fail
    have hdb := order_code (w := w4) (n := n) (root := other) (ro := some ⟨gw, 0, none⟩) (cap := cw) (HSW.out.ok HKa.out) (by have := HTL.out.1; omega) HR.out.2 HIN.out
    rw [← HM.out.1] at hdb
    refine Calls.mono hdb ?_
    clear hdb
    rintro e w5 ⟨eb, Lb, vb, rfl, hol, hoc, _, hkb⟩
    obtain ⟨h1, h2⟩ := HOL2.out.1.one hol
    subst h1 h2
    rw [← HX2.out.1] at hoc
    obtain ⟨hnl, ob, cb, hvd, _⟩ := SEl.of hoc
    subst hvd
    rw [hnl] at hoc
    have HOb : Hid (w5.ownsRow w4.heap.size 35 3 (.slice ob X2.length cb) X2.length (fl X2)) := hoc
    have HKb : Hid (Ok w4 w5) := hkb
    clear hol hoc hkb hnl
    go_wp2_with fail
    have hdc := order_code (w := w5) (n := n) (root := root) (ro := some ⟨gw, 0, none⟩) (cap := cw) (HSW.out.ok (HKa.out.step HKb.out)) (by have := HTL.out.1; omega) HR.out.1 HIN.out
    rw [← HM.out.1] at hdc
    refine Calls.mono hdc ?_
    clear hdc
    rintro e w6 ⟨ec, Lc, vc, rfl, hol, hoc, _, hkc⟩
    obtain ⟨h1, h2⟩ := HOL1.out.1.one hol
    subst h1 h2
    rw [← HX1.out.1] at hoc
    obtain ⟨hnl, oc, cc, hvd, _⟩ := SEl.of hoc
    subst hvd
    rw [hnl] at hoc
    have HOc : Hid (w6.ownsRow w5.heap.size 35 3 (.slice oc X1.length cc) X1.length (fl X1)) := hoc
    have HKc : Hid (Ok w5 w6) := hkc
    clear hol hoc hkc hnl
    go_wp2_with fail
    have HKA6 : Hid (Ok w4 w6) := HKb.out.step HKc.out
    have HK36 : Hid (Ok w3 w6) := HKa.out.step HKA6.out
    have HOA6 : Hid (w6.ownsRow w3.heap.size 35 3 (.slice oa X1.length ca) X1.length (fl X1)) := HOa.out.kept (grown_below HKA6.out) (Classical.em _)
    have HOB6 : Hid (w6.ownsRow w4.heap.size 35 3 (.slice ob X2.length cb) X2.length (fl X2)) := HOb.out.kept (grown_below HKc.out) (Classical.em _)
    have HD16 : Hid (SEl w6 od1 X1) := ((SEl.own HOD1.out).ok HK3.out).ok HK36.out
    have HD26 : Hid (SEl w6 od2 X2) := (SEl.own HOD2.out).ok HK36.out
    refine Calls.mono (same_yes (SEl.own HOA6.out) HD16.out HX1.out.2) ?_
    rintro e w7 ⟨rfl, hk7⟩
    have HK7 : Hid (Ok w6 w7) := hk7
    clear hk7
    go_wp2_with fail
    refine Calls.mono (same_yes ((SEl.own HOB6.out).ok HK7.out) (HD26.out.ok HK7.out) HX2.out.2) ?_
    rintro e w8 ⟨rfl, hk8⟩
    have HK8 : Hid (Ok w6 w8) := HK7.out.step hk8
    clear hk8
    go_wp2_with fail
    refine Calls.mono (same_yes ((SEl.own HOc.out).ok HK8.out) (HD16.out.ok HK8.out) HX1.out.2) ?_
    rintro e w9 ⟨rfl, hk9⟩
    have HK9 : Hid (Ok w6 w9) := HK8.out.step hk9
    clear hk9
    go_wp2_with fail
    have HK19 : Hid (Ok w1 w9) := (HK13.out.step HK36.out).step HK9.out
    have hunt := untouched_any (w := w9) (B := w.heap.size) (g := gw) (c := cw) (ro := ro) (cap := cap) (ts := ts) (by rw [← HM.out.1]; exact HOW1.out.kept (grown_below HK19.out) (Classical.em _)) (HS.out.ok (HK1.out.step HK19.out)) (by have := HTL.out.1; omega)
    rw [← HM.out.1] at hunt
    refine Calls.mono hunt ?_
    clear hunt
    rintro e w10 ⟨rfl, hk10⟩
    have HKx : Hid (Ok w9 w10) := hk10
    clear hk10
    go_wp2_with fail
    obtain ⟨gl, hgl⟩ : ∃ g, g = w10.heap.size := ⟨_, rfl⟩
    obtain ⟨W, hW⟩ : ∃ W, W = w10.alloc (.cells #[.slice oa X1.length ca, .slice ob X2.length cb, .slice oc X1.length cc] 23) := ⟨_, rfl⟩
    have HWI0 : Hid (WI w w1.heap.size gl W (V3 (.slice oa X1.length ca) (.slice ob X2.length cb) (.slice oc X1.length cc)) (N3 X1.length X2.length X1.length) 0 0 W) := by
      unfold Hid
      rw [hgl, hW]
      exact WI.start HOa.out HOb.out HOc.out HK1.out HK13.out HKa.out HKb.out HKc.out (HK9.out.step HKx.out)
    obtain ⟨V, hV⟩ : ∃ V, V = V3 (.slice oa X1.length ca) (.slice ob X2.length cb) (.slice oc X1.length cc) := ⟨_, rfl⟩
    obtain ⟨N, hN⟩ : ∃ N, N = N3 X1.length X2.length X1.length := ⟨_, rfl⟩
    have HNB : Hid (∀ j, j < 3 → N j ≤ 1000000000000) := by
      intro j hj
      rw [hN]
      rcases (show j = 0 ∨ j = 1 ∨ j = 2 by omega) with rfl | rfl | rfl
      · exact HX1.out.2
      · exact HX2.out.2
      · exact HX1.out.2
    rw [← hV, ← hN] at HWI0
    rw [← hW, ← hgl]
    have HLW : Hid (W.ownsRow w.heap.size 29 2 (.slice (some ⟨gw, 0, none⟩) (m + 1) cw) (m + 1) (pr (ts ++ [mkA])) ∧ gw < w1.heap.size) := by
      refine ⟨?_, (HOW1.out.lt gw rfl).2⟩
      rw [hW]
      exact (HOW1.out.kept (grown_below (HK19.out.step HKx.out)) (Classical.em _)).alloc _
    have HSW0 : Hid (SAr W ro ts) := by
      unfold Hid
      rw [hW]
      exact HS.out.ok (((HK1.out.step HK19.out).step HKx.out).alloc _)
    have HWB : Hid (w1.heap.size ≤ W.heap.size) := by
      have := (HK19.out.step HKx.out).le
      unfold Hid
      rw [hW]; simp; omega
    clear hgl hW hV hN HOa HOb HOc HK13 HKa HKb HKc HK9 HKx HKA6 HK36 HOA6 HOB6 HD16 HD26 HK7 HK8 HK19 HOD1 HOD2 HK2 HK3 HOW1 HSW
    go_loopw [22, 23] (fun s22 s23 wr => ∃ (k : Nat), k ≤ 3 ∧ s22 = .int .i64 (k : Nat) ∧ Hid (WI w w1.heap.size gl W V N k 0 wr)) (fun s22 _ _ => ((3 : Int) - intOf s22).toNat)
    case atStart => exact ⟨0, by omega, rfl, HWI0⟩
    case round =>
      obtain ⟨k, hk, rfl, HK⟩ := hrel
      by_cases hk3 : k < 3
      · have hk3' : (k : Int) < 3 := by omega
        have hkw : IntKind.i64.wrap ((k : Int) + 1) = ((k + 1 : Nat) : Int) := kw_bnd (by omega)
        obtain ⟨kz, hkz⟩ : ∃ kz : Int, kz = -1 - (k : Int) := ⟨_, rfl⟩
        have hkzw : IntKind.i64.wrap (-1 - (k : Int)) = kz := by rw [IntKind.wrap_i64, hkz]; omega
        have HKZ : Hid (kz = -1 - (k : Int)) := hkz
        clear hkz
        go_wp2_with fail
        obtain ⟨Wo, hWo⟩ : ∃ W, W = wr := ⟨_, rfl⟩
        subst hWo
        go_loopw [23] (fun s23 wr => ∃ (i : Nat), i ≤ N k ∧ s23 = .int .i64 (i : Nat) ∧ Hid (WI w w1.heap.size gl W V N k i wr)) (fun s23 _ => ((N k : Int) - intOf s23).toNat)
        case atStart => exact ⟨0, Nat.zero_le _, rfl, HK⟩
        case round =>
          obtain ⟨i, hi, rfl, HI⟩ := hrel
          obtain ⟨g0, hgl, ao, cv, hv⟩ := HI.out.cells hk3
          rw [hv] at g0
          by_cases hil : i < N k
          · have hil' : (i : Int) < (N k : Int) := cast_lt' hil
            have hiw : IntKind.i64.wrap ((i : Int) + 1) = ((i + 1 : Nat) : Int) := kw_bnd (by have := HNB.out k hk3; omega)
            obtain ⟨g, hao, hgw, ⟨u0, u1, u2, q0, q1, q2⟩, hfr⟩ := HI.out.elem hk3 hil hv
            subst hao
            have f0 := hfr (i * 3)
            have f1 := hfr (i * 3 + 1)
            have f2 := hfr (i * 3 + 2)
            have HN : Hid (WI w w1.heap.size gl W V N k (i + 1) (set3 wr g i (-1 - (k : Int), (i : Int), false))) := HI.out.next hk3 hil hv
            rw [← HKZ.out] at HN
            have HHV : Hid (V k = .slice (some ⟨g, 0, none⟩) (N k) cv) := hv
            clear hfr hv
            go_wp2_with fail
            go_roundw
            case rel => exact ⟨i + 1, hil, rfl, HN⟩
            case measure => exact meas hil
          · have hil' : ¬ (i : Int) < (N k : Int) := cast_nlt hil
            have hie : i = N k := by omega
            have HHV : Hid (V k = .slice ao (N k) cv) := hv
            clear hv
            go_wp2_with fail
            go_roundw
            case rel => exact ⟨k + 1, by omega, rfl, by rw [hie] at HI; exact HI.out.up hk3⟩
            case measure => simp only [intOf]; omega
      · have hk3' : ¬ (k : Int) < 3 := by omega
        have hke : k = 3 := by omega
        subst hke
        have HGI0 : Hid _ := GI.start HK.out
        go_wp2_with fail
        clear HWI0 HK
        obtain ⟨Wp, hWp⟩ : ∃ W, W = wr := ⟨_, rfl⟩
        subst hWp
        go_loopw [21, 24] (fun s21 s24 wr => ∃ (k : Nat) (ao : Option Addr) (c : Nat) (u : Nat → Value), k ≤ 3 ∧ s21 = .slice ao k c ∧ s24 = .int .i64 (k : Nat) ∧ Hid (GI w w1.heap.size gl W V N k (.slice ao k c) u wr)) (fun _ s24 _ => ((3 : Int) - intOf s24).toNat)
        case atStart => exact ⟨0, none, 0, _, by omega, rfl, rfl, HGI0⟩
        case round =>
          obtain ⟨k, ao, c, u, hk, rfl, rfl, HI⟩ := hrel
          by_cases hk3 : k < 3
          · have hk3' : (k : Int) < 3 := by omega
            have hkw : IntKind.i64.wrap ((k : Int) + 1) = ((k + 1 : Nat) : Int) := kw_bnd (by omega)
            obtain ⟨kz, hkz⟩ : ∃ kz : Int, kz = -1 - (k : Int) := ⟨_, rfl⟩
            have hkzw : IntKind.i64.wrap (-1 - (k : Int)) = kz := by rw [IntKind.wrap_i64, hkz]; omega
            have HKZ : Hid (kz = -1 - (k : Int)) := hkz
            obtain ⟨av, cv, hv⟩ := HI.out.al.row hk3
            have g0 := HI.out.al.cell hk3
            have hgl := HI.out.al.lg
            have hown := HI.out.al.own k hk3
            have HW3 : Hid (w1.heap.size ≤ W.heap.size) := HWB
            have hsz := HI.out.al.sz
            rw [hv] at g0 hown
            have HOWN : Hid (wr.ownsRow w1.heap.size 35 3 (.slice av (N k) cv) (N k) (fl (MK k (N k)))) := hown
            have HHV : Hid (V k = .slice av (N k) cv) := hv
            have HN63 : Hid (N k + 1 ≤ maxLen ∧ (N k + 1) * 24 ≤ 140737488355328) := by have := HNB.out k hk3; unfold Hid maxLen; omega
            have HK63 : Hid (k + 1 ≤ maxLen ∧ (k + 1) * 24 ≤ 140737488355328) := by unfold Hid maxLen; omega
            obtain ⟨i35, hi35, hz0, hz1, hz2⟩ := info_of Try.info35
            obtain ⟨i23, hi23, hq0, hq1, hq2⟩ := info_of Try.info23
            clear hv hkz hown
            go_wp2_with fail
            go_region_held3 (fun w' => w'.cell? ⟨gl, k, none⟩ = some (.slice av (N k) cv)) (go_keep)
              (first
              | (refine step_append_both _ (by rfl) _ _ 23 (by rfl) w1.heap.size 35 i35 _ 3 24 Try.underlying23 hi35 hz0 hz1 hz2 rfl (by decide) _ (N k) (fl (MK k (N k))) (by rfl) (World.ownsRow.kept HOWN.out (grown_below (by repeat (first | exact Below.refl _ _ | refine Below.alloc ?_ (Nat.le_refl _) _ | refine Below.drew ?_))) (Classical.em _)) ⟨wr.heap.size, 0, none⟩ 1 1 [.int .i64 kz, .int .i64 (N k : Nat), .bool false] (by rfl) (by rfl) (by intro j u hj; exact news_row (heap_new0 _ _) j u hj) (by simp [Value.oneCell']) (by decide) HN63.out.1 HN63.out.2 (by have := HW3.out; simp; omega) (wr.heap.size + 1) (by simp) ?_; intro gg capg w4 hown4 hgrow hat4 hlt4 hold4; rw [← HHV.out] at hgrow hat4 hold4; have hm4 := HI.out.mid hk3 (by repeat (first | exact Below.refl _ _ | refine Below.alloc ?_ (Nat.le_refl _) _ | refine Below.drew ?_)) hgrow; have HL4 : Hid _ := hm4.1; have p4 := hm4.2.1; have HS4 : Hid _ := hm4.2.2; rw [HHV.out] at p4; have HG4 : Hid _ := hgrow; have HO4 : Hid _ := hown4; have HA4 : Hid _ := hat4; have HD4 : Hid _ := hold4; clear hm4 hgrow hown4 hat4 hold4)
              | (refine step_append_lies _ (by rfl) _ _ 45 (by rfl) W.heap.size 23 i23 _ 1 24 Try.underlying45 hi23 hq0 hq1 hq2 rfl (by decide) _ k ((List.range k).map u) (by rfl) (World.ownsRow.kept HL4.out (grown_below (by repeat (first | exact Below.refl _ _ | refine Below.alloc ?_ (Nat.le_refl _) _ | refine Below.drew ?_))) (Classical.em _)) ⟨w4.heap.size, 0, none⟩ 1 1 [.slice (some ⟨gg, 0, none⟩) (N k + 1) capg] (by rfl) (by rfl) (by intro j u hj; exact news_row (heap_new0 _ _) j u hj) (by simp [Value.oneCell']) (by decide) HK63.out.1 HK63.out.2 (by have := HS4.out.1; simp; omega) (w4.heap.size + 1) (by simp) ?_; intro g5 c5 w5 hown5 hgrow5 hat5 hlt5; have p5 := HI.out.end_ HL4.out (by rw [HHV.out]; exact p4) HS4.out.2 (by repeat (first | exact Below.refl _ _ | refine Below.alloc ?_ (Nat.le_refl _) _ | refine Below.drew ?_)) hgrow5; rw [HHV.out] at p5; have HN5 : Hid (GI w w1.heap.size gl W V N (k + 1) (.slice (some ⟨g5, 0, none⟩) (k + 1) c5) (putU u k (.slice (some ⟨gg, 0, none⟩) (N k + 1) capg)) w5) := HI.out.grow hk3 (by repeat (first | exact Below.refl _ _ | refine Below.alloc ?_ (Nat.le_refl _) _ | refine Below.drew ?_)) HG4.out (by rw [← HKZ.out]; exact HO4.out) (HA4.out.imp (fun e => e) (fun e => by omega)) HD4.out (by repeat (first | exact Below.refl _ _ | refine Below.alloc ?_ (Nat.le_refl _) _ | refine Below.drew ?_)) hgrow5 hown5; clear hgrow5 hown5 hat5)
              | fail)
            all_goals
              go_wp2_with fail
              go_roundw
              case rel => exact ⟨k + 1, some ⟨g5, 0, none⟩, c5, _, by omega, rfl, rfl, HN5⟩
              case measure => simp only [intOf]; omega
          · have hk3' : ¬ (k : Int) < 3 := by omega
            have hke : k = 3 := by omega
            subst hke
            go_wp2_with fail
            clear HGI0
            obtain ⟨Wq, hWq⟩ : ∃ W, W = wr := ⟨_, rfl⟩
            subst hWq
            obtain ⟨gL, hao, _, _⟩ := HI.out.long
            subst hao
            go_loopw [25, 26] (fun s25 s26 wr => ∃ (k : Nat), k ≤ 3 ∧ s25 = .int .i64 (k : Nat) ∧ Hid (GI w w1.heap.size gl W V N 3 (.slice (some ⟨gL, 0, none⟩) 3 c) u wr)) (fun s25 _ _ => ((3 : Int) - intOf s25).toNat)
            case atStart => exact ⟨0, by omega, rfl, HI⟩
            case round =>
              obtain ⟨k, hk, rfl, HK⟩ := hrel
              by_cases hk3 : k < 3
              · have hk3' : (k : Int) < 3 := by omega
                have hkw : IntKind.i64.wrap ((k : Int) + 1) = ((k + 1 : Nat) : Int) := kw_bnd (by omega)
                obtain ⟨kz, hkz⟩ : ∃ kz : Int, kz = -1 - (k : Int) := ⟨_, rfl⟩
                have hkzw : IntKind.i64.wrap (-1 - (k : Int)) = kz := by rw [IntKind.wrap_i64, hkz]; omega
                have HKZ : Hid (kz = -1 - (k : Int)) := hkz
                clear hkz
                obtain ⟨gu, cu, hu, _, _⟩ := HK.out.grown hk3
                have HU : Hid (u k = .slice (some ⟨gu, 0, none⟩) (N k + 1) cu) := hu
                obtain ⟨av, cv, hv⟩ := HK.out.al.row hk3
                have HHV : Hid (V k = .slice av (N k) cv) := hv
                obtain ⟨N1, hN1⟩ : ∃ N1, N1 = N k + 1 := ⟨_, rfl⟩
                rw [← hN1] at HU
                have HN1 : Hid (N1 = N k + 1 ∧ N k ≤ 1000000000000) := ⟨hN1, HNB.out k hk3⟩
                obtain ⟨Nk, hNk⟩ : ∃ Nk, Nk = N k := ⟨_, rfl⟩
                rw [← hNk] at HHV HN1
                have HNk : Hid (Nk = N k) := hNk
                clear hu hv hN1 hNk
                go_wp2_with fail
                obtain ⟨Wt, hWt⟩ : ∃ W, W = wr := ⟨_, rfl⟩
                subst hWt
                go_loopw [26] (fun s26 wr => ∃ (i : Nat), i ≤ N1 ∧ s26 = .int .i64 (i : Nat) ∧ Hid (GI w w1.heap.size gl W V N 3 (.slice (some ⟨gL, 0, none⟩) 3 c) u wr)) (fun s26 _ => ((N1 : Int) - intOf s26).toNat)
                case atStart => exact ⟨0, Nat.zero_le _, rfl, HK⟩
                case round =>
                  obtain ⟨i, hi, rfl, HJ⟩ := hrel
                  obtain ⟨gL', hgL', hgLl, hlc⟩ := HJ.out.long
                  injection hgL' with hgL'
                  injection hgL' with hgL'
                  subst hgL'
                  have l0 := hlc k hk3
                  rw [HU.out] at l0
                  clear hlc
                  by_cases hil : i < N1
                  · have hil' : (i : Int) < (N1 : Int) := cast_lt' hil
                    have hiw : IntKind.i64.wrap ((i : Int) + 1) = ((i + 1 : Nat) : Int) := wrap_nat (by omega) (by have := HN1.out; omega)
                    obtain ⟨gu', cu', hu', hgul, huc⟩ := HJ.out.grown hk3
                    rw [HU.out] at hu'
                    injection hu' with hu1 _ _
                    injection hu1 with hu1
                    injection hu1 with hu1
                    subst hu1
                    obtain ⟨c0, c1, c2⟩ := huc i (by have := HN1.out.1; have := HNk.out; omega)
                    rw [← HKZ.out] at c0
                    have a0 := HJ.out.al.cell hk3
                    have hgl := HJ.out.al.lg
                    rw [HHV.out] at a0
                    clear huc
                    by_cases hin : i < Nk
                    · have hin' : (i : Int) < (Nk : Int) := cast_lt' hin
                      obtain ⟨gv, hav, hgvl, v0, v1, v2⟩ := HJ.out.kept hk3 (by rw [HHV.out, HNk.out]) (by rw [← HNk.out]; exact hin)
                      subst hav
                      rw [← HKZ.out] at v0
                      go_wp2_with fail
                      go_quiet (fail)
                      go_wp2_with fail
                      refine ⟨⟨i + 1, hil, rfl, ?_⟩, meas hil⟩
                      exact HJ.out.below ((Ok.refl wr).draws _)
                    · have hin' : ¬ (i : Int) < (Nk : Int) := cast_nlt hin
                      go_wp2_with fail
                      go_quiet (fail)
                      go_wp2_with fail
                      refine ⟨⟨i + 1, hil, rfl, ?_⟩, meas hil⟩
                      exact HJ.out.below ((Ok.refl wr).draws _)
                  · have hil' : ¬ (i : Int) < (N1 : Int) := cast_nlt hil
                    go_wp2_with fail
                    go_roundw
                    case rel => exact ⟨k + 1, by omega, rfl, HJ⟩
                    case measure => simp only [intOf]; omega
              · have hk3' : ¬ (k : Int) < 3 := by omega
                go_wp2_with fail
                have HLr : Hid (wr.ownsRow w.heap.size 29 2 (.slice (some ⟨gw, 0, none⟩) (m + 1) cw) (m + 1) (pr (ts ++ [mkA]))) := HK.out.lent HLW.out.1 rfl HLW.out.2
                have HOr : Hid (Ok w wr) := HK.out.al.ok
                have hunt := untouched_any (w := wr) (B := w.heap.size) (g := gw) (c := cw) (ro := ro) (cap := cap) (ts := ts) (by rw [← HM.out.1]; exact HLr.out) (HS.out.ok HOr.out) (by have := HTL.out.1; omega)
                rw [← HM.out.1] at hunt
                refine Calls.mono hunt ?_
                clear hunt
                rintro e w11 ⟨rfl, hk11⟩
                have HT0 : Hid (TI w m gw cw ts 0 w11) := ⟨HOr.out.step hk11, ts ++ [mkA], by rw [List.length_append, ← HM.out.1]; rfl, rfl, HLr.out.kept (grown_below hk11) (Classical.em _)⟩
                clear hk11 HLr HOr
                go_wp2_with fail
                clear HK HI HLW HSW0
                go_loopw [27] (fun s27 wr => ∃ (i : Nat), i ≤ m ∧ s27 = .int .i64 (i : Nat) ∧ Hid (TI w m gw cw ts i wr)) (fun s27 _ => ((m : Int) - intOf s27).toNat)
                case atStart => exact ⟨0, Nat.zero_le _, rfl, HT0⟩
                case round =>
                  obtain ⟨i, hi, rfl, HJ⟩ := hrel
                  by_cases hil : i < m
                  · have hil' : (i : Int) < (m : Int) := cast_lt' hil
                    have hil2 : i < m + 1 := by omega
                    have hil3 : (i : Int) < (m : Int) + 1 := by omega
                    have hiw : IntKind.i64.wrap ((i : Int) + 1) = ((i + 1 : Nat) : Int) := kw_bnd (by have := HM.out.2; omega)
                    obtain ⟨x, hx⟩ : ∃ x, ts[i]? = some x := ⟨ts[i]'(by rw [← HM.out.1]; exact hil), List.getElem?_eq_getElem _⟩
                    obtain ⟨tb, o, hro, htb, hcc⟩ := HS.out (fun e => by rw [e] at hx; simp at hx)
                    obtain ⟨c0, c1⟩ := hcc i x hx
                    replace c0 := HJ.out.ok.cell (p := ⟨tb, o + i * 2, none⟩) htb c0
                    replace c1 := HJ.out.ok.cell (p := ⟨tb, o + i * 2 + 1, none⟩) htb c1
                    obtain ⟨hgwl, hgww, ⟨u0, u1, q0, q1⟩, hfr⟩ := HJ.out.cells hil
                    have f0 := hfr (i * 2)
                    have f1 := hfr (i * 2 + 1)
                    have htg : ¬ tb = gw := by omega
                    have htw : tb < wr.heap.size := Nat.lt_of_lt_of_le htb HJ.out.ok.le
                    have HX : Hid (ts[i]? = some x) := hx
                    obtain ⟨x1, x2⟩ := x
                    simp only at c0 c1
                    clear hx hcc hfr
                    subst hro
                    go_wp2_with fail
                    go_region
                    have HN : Hid _ := (HJ.out.next HM.out.1 hil HX.out).below (Below.drew (Below.refl _ _))
                    go_wp2_with fail
                    go_roundw
                    case rel => exact ⟨i + 1, hil, rfl, HN⟩
                    case measure => exact meas hil
                  · have hil' : ¬ (i : Int) < (m : Int) := cast_nlt hil
                    have hie : i = m := by omega
                    subst hie
                    obtain ⟨zs, hzs⟩ : ∃ zs, zs = ts.map sw2 := ⟨_, rfl⟩
                    have HZ : Hid (SAr wr (some ⟨gw, 0, none⟩) zs ∧ i = zs.length ∧ (∀ x ∈ zs, in64 x.1 ∧ in64 x.2)) := by
                      refine ⟨by rw [hzs]; exact HJ.out.done HM.out.1, by rw [hzs, List.length_map]; exact HM.out.1, fun x hx => ?_⟩
                      rw [hzs] at hx
                      obtain ⟨y, hy, rfl⟩ := List.mem_map.1 hx
                      exact ⟨(HIN.out y hy).2, (HIN.out y hy).1⟩
                    have HOr : Hid (Ok w wr) := HJ.out.ok
                    clear hzs HJ HT0
                    go_wp2_with (first
                      | (at_builtin; refine wpList_append_arcs rfl _ _ rfl wr.heap.size (.slice (some ⟨wr.heap.size, 0, none⟩) 0 0) 0 [] (by rfl) (own_empty wr) (some ⟨gw, 0, none⟩) cw zs (by rw [← HZ.out.2.1]; rfl) (HZ.out.1.ok ((Ok.refl _).alloc _)) (fun e => by cases e) (by have := HZ.out.2.1; have := HM.out.2; omega) (by simp) ?_; intro v1 w12 hown1 hgrow1; have HO12 : Hid (w12.ownsRow wr.heap.size 29 2 v1 zs.length (pr zs)) := (by rw [Nat.zero_add] at hown1; exact hown1); have HK12 : Hid (Ok wr w12) := Below.grown ((Ok.refl wr).alloc _) hgrow1 (by simp) (fun k e => by simp [Value.ownBlock] at e; omega); clear hown1 hgrow1; obtain ⟨_, ao1, cap1, hv1, hS1⟩ := SAr.of HO12.out; subst hv1; have HS12 : Hid (SAr w12 ao1 zs) := hS1; clear hS1)
                      | fail)
                    have hzl : zs.length ≤ 1000 := by have := HZ.out.2.1; have := HM.out.2; omega
                    refine Calls.mono (order_doc (w := w12) (n := n) (root := root) (ro := ao1) (cap := cap1) HS12.out hzl HR.out.1 HZ.out.2.2) ?_
                    rintro e w13 ⟨f3, L3, v3, rfl, hol, hod, hll, hk13⟩
                    have HOL3 : Hid (OL n zs root f3 L3 ∧ L3.length ≤ 1000000000000) := ⟨hol, hll⟩
                    have HK13' : Hid (Ok wr w13) := HK12.out.step hk13
                    obtain ⟨X3, hX3⟩ : ∃ X, X = els L3 := ⟨_, rfl⟩
                    rw [← hX3] at hod
                    obtain ⟨hnl, od3, cd3, hvd, _⟩ := SEl.of hod
                    subst hvd
                    rw [hnl] at hod
                    have HOD3 : Hid (w13.ownsRow w12.heap.size 35 3 (.slice od3 X3.length cd3) X3.length (fl X3)) := hod
                    have HX3 : Hid (X3 = els L3 ∧ X3.length ≤ 1000000000000) := ⟨hX3, by rw [← hnl]; exact hll⟩
                    clear hol hod hll hk13 hX3 hnl
                    go_wp2_with fail
                    have hcd := order_code (w := w13) (n := n) (root := root) (ro := some ⟨gw, 0, none⟩) (cap := cw) (HZ.out.1.ok HK13'.out) hzl HR.out.1 HZ.out.2.2
                    rw [← HZ.out.2.1] at hcd
                    refine Calls.mono hcd ?_
                    clear hcd
                    rintro e w14 ⟨e4, L4, v4, rfl, hol, hoc, _, hk14⟩
                    obtain ⟨h1, h2⟩ := HOL3.out.1.one hol
                    subst h1 h2
                    rw [← HX3.out.1] at hoc
                    obtain ⟨hnl, o4, c4, hvd, _⟩ := SEl.of hoc
                    subst hvd
                    rw [hnl] at hoc
                    have HO4 : Hid (w14.ownsRow w13.heap.size 35 3 (.slice o4 X3.length c4) X3.length (fl X3)) := hoc
                    have HK14 : Hid (Ok w13 w14) := hk14
                    clear hol hoc hk14 hnl
                    go_wp2_with fail
                    refine Calls.mono (same_yes (SEl.own HO4.out) ((SEl.own HOD3.out).ok HK14.out) HX3.out.2) ?_
                    rintro e w15 ⟨rfl, hk15⟩
                    have HK15 : Hid (Ok wr w15) := (HK13'.out.step HK14.out).step hk15
                    clear hk15
                    go_wp2_with fail
                    refine Calls.mono (taken_any _) ?_
                    rintro e w16 ⟨rfl, hk16⟩
                    have HK16 : Hid (Ok w w16) := (HOr.out.step HK15.out).step hk16
                    clear hk16
                    go_wp2_with fail
                    go_ret
                    exact ⟨rfl, HK16.out⟩
end Go.Proofs.Ytaocomjhepgabaa
