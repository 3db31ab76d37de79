import Derived.Test.YtdhpdhgplnncoaaWhw
set_option linter.unusedVariables false
set_option linter.unusedSimpArgs false
set_option linter.unnecessarySimpa false
/- WtoHolds: the way where the root and all arcs are good. -/
namespace Go.Proofs.Ytdhpdhgplnncoaa
open Go.RowKit Go.Maps
set_option maxRecDepth 100000 in
set_option maxHeartbeats 8000000 in
theorem hold_Agood {w : World} {n root : Int} {ro : Option Addr} {cap : Nat} {ars ts : List (Int × Int)} (HST : Hid (SAr w ro ts)) (HAO : Hid (ro = none → cap = 0)) (hlc : ars.length ≤ cap) (hn1 : -9223372036854775808 ≤ n) (hn2 : n ≤ 9223372036854775807) (HR : Hid (in64 root)) (HIN : Hid (∀ x ∈ ts, in64 x.1 ∧ in64 x.2)) (HTL : Hid (ts.length ≤ 200)) (hc : cap ≤ 140737488355328) (h200 : (200 : Int) < (ars.length : Int)) (HML : Hid (ts.length = 200)) (hcc : 200 ≤ cap) (hb : (badV n root || ts.any (badA n)) = false) :
    Calls Try.prog 5 #[.int .i64 n, .slice ro ars.length cap, .int .i64 root] w fun e w' => e = .returned (.bool true) ∧ Ok w w' := by
  have HB : Hid ((badV n root || ts.any (badA n)) = false) := hb
  have HGD : Hid _ := good_arcs hb
  have q1 : ¬ root < 0 := HGD.out.1.1
  have q2 : ¬ n ≤ root := HGD.out.1.2
  clear hb
  have h200n : 200 < ars.length := by omega
  have hcc2 : (200 : Int) ≤ (cap : Int) := by omega
  go_enter Try.func5, Try.ntmps5
  go_wp2_with (first
    | (at_builtin; refine wpList_append_arcs rfl _ _ rfl w.heap.size (.slice (some ⟨w.heap.size, 0, none⟩) 0 0) 0 [] (by rfl) (own_empty w) ro cap ts (by rw [HML.out]; rfl) (HST.out.ok ((Ok.refl _).alloc _)) HAO.out (by have := HTL.out; omega) (by simp) ?_; intro v1 w1 hown1 hgrow1; have HO1 : Hid (w1.ownsRow w.heap.size 29 2 v1 ts.length (pr ts)) := (by rw [Nat.zero_add] at hown1; exact hown1); have HK1 : Hid (Ok w w1) := Below.grown ((Ok.refl w).alloc _) hgrow1 (by simp) (fun k e => by simp [Value.ownBlock] at e; omega); clear hown1 hgrow1; obtain ⟨_, ao1, cap1, hv1, hS1⟩ := SAr.of HO1.out; subst hv1; have HS1 : Hid (SAr w1 ao1 ts) := hS1; clear hS1)
    | (go_at_call 7; refine (Calls.mono (Order_any (n := n) (root := root) (cap := cap1) HS1.out (by have := HTL.out; omega) HR.out.1 HR.out.2 (fun x hx => HIN.out x hx)) ?_); rintro e w2 ⟨hk2, hbad, hgood⟩; have HK2 : Hid (Ok w w2) := HK1.out.step hk2; obtain ⟨L, v, hE, rfl, ho, hll⟩ := hgood HB.out; obtain ⟨xs, hxs⟩ : ∃ xs, xs = els L := ⟨_, rfl⟩; rw [← hxs] at ho; obtain ⟨_, ao, capl, rfl, hse⟩ := SEl.of ho; have HEN : Hid (Ends (outs ts) (start (outs ts) root) L) := hE; have HSE : Hid (SEl w2 ao xs) := hse; have HXS : Hid (xs = els L ∧ L.length ≤ 1000000000000) := ⟨hxs, hll⟩; clear hk2 hbad hgood HS1 HO1 HK1 hE ho hse hxs hll)
    | (go_at_call 8; refine (Calls.mono (taken_any _) ?_); rintro e w3 ⟨rfl, hk⟩; have HK3 : Hid (Ok w2 w3) := hk; clear hk)
    | fail)
  have HKw : Hid (Ok w2 w3) := HK3
  clear HK3
  have ML := HML.out
  have TL := HTL.out
  go_loopw [9, 10] (fun b i wr => ∃ (k : Nat), k ≤ ts.length ∧ i = .int .i64 k ∧ b = .bool false ∧ Hid (Ok w2 wr)) (fun _ i _ => (ts.length - intOf i).toNat)
  case atStart => exact ⟨0, by omega, rfl, (by first | rfl | (simp; done) | (simp; omega)), HKw⟩
  case round =>
    obtain ⟨k, hk, rfl, rfl, HKr⟩ := hrel
    clear HKw
    have HKw : Hid (Ok w2 wr) := HKr
    clear HKr
    have HKo : Hid (Ok w wr) := HK2.out.step HKw.out
    by_cases hk1 : k < ts.length
    · have hk2 : (k : Int) < (200 : Int) := by omega
      obtain ⟨x, hx⟩ : ∃ x, ts[k]? = some x := ⟨ts[k], List.getElem?_eq_getElem hk1⟩
      obtain ⟨tb, o, hro, htb, hcc⟩ := HST.out (fun e => by rw [e] at hk1; simp at hk1)
      subst hro
      have c0 := HKo.out.cell (p := ⟨tb, o + k * 2, none⟩) htb (hcc k x hx).1
      have c1 := HKo.out.cell (p := ⟨tb, o + k * 2 + 1, none⟩) htb (hcc k x hx).2
      obtain ⟨y1, y2, y3, y4⟩ := HGD.out.2 x (List.mem_of_getElem? hx)
      obtain ⟨x1, x2⟩ := x
      simp only at c0 c1 y1 y2 y3 y4
      clear hcc hx htb
      have z1 : decide (x1 < 0) = false := decide_eq_false (by omega)
      have z2 : decide (n ≤ x1) = false := decide_eq_false (by omega)
      have z3 : decide (x2 < 0) = false := decide_eq_false (by omega)
      have z4 : decide (n ≤ x2) = false := decide_eq_false (by omega)
      go_wp2_with fail
      go_roundw
      case rel => exact ⟨k + 1, by have := HTL.out; omega, rfl, (by first | rfl | (simp; done) | (simp; omega)), HKw⟩
      case measure => simp only [intOf]; omega
    · have hke : k = ts.length := by omega
      have hk2 : ¬ (k : Int) < (200 : Int) := by omega
      have hmm := @run_makeMap Try.prog
      have hrc := reached_any (cap := cap) (HST.out.ok HKo.out) HR.out.1 HR.out.2 HIN.out (by omega)
      rw [HML.out] at hrc
      have HRC : Hid _ := hrc
      clear hrc
      go_wp2_with fail
      refine Calls.mono HRC.out ?_
      rintro e w4 ⟨rfl, ks, hRI, hCl⟩
      have HRI : Hid (RI wr w4 ts root ks) := hRI
      have HCL : Hid (ClosedK ts ks) := hCl
      clear hRI hCl HRC
      obtain ⟨bi, hbi⟩ : ∃ b, b = wr.heap.size := ⟨_, rfl⟩
      rw [← hbi]
      have HBI : Hid (BMap w4 bi ks.length ks ∧ bi < w4.heap.size) := by rw [hbi]; exact ⟨HRI.out.mp, BMap.lt HRI.out.mp⟩
      have HKy : Hid (Ok w2 w4) := HKw.out.step HRI.out.ok
      have HKz : Hid (Ok w w4) := HK2.out.step HKy.out
      have HWK : Hid (Weak ts root L) := weak_of (by omega) HEN.out
      have HKS : Hid (∀ v, v ∈ lv L ↔ v ∈ ks) := HWK.out.keys HRI.out.rt HCL.out HRI.out.rc
      have HND : Hid ks.Nodup := HRI.out.nd
      have HRC2 : Hid (∀ P : Int → Prop, P root → (∀ x ∈ ts, P x.1 → P x.2) → ∀ v ∈ ks, P v) := HRI.out.rc
      have HKI : Hid (∀ v ∈ ks, in64 v) := keys_in HR.out HIN.out HRC2.out
      clear hbi HRI HCL HKw HKo
      obtain ⟨V, hV⟩ : ∃ V, V = w4.alloc (.map #[] 0) := ⟨_, rfl⟩
      obtain ⟨ba, hba⟩ : ∃ b, b = w4.heap.size := ⟨_, rfl⟩
      have HV0 : Hid (Ok w4 V ∧ PMap V ba 0 []) := by rw [hV, hba]; exact ⟨(Ok.refl _).alloc _, PMap.made w4⟩
      have HBA : Hid (ba = w4.heap.size) := hba
      go_wp2_with fail
      rw [← hV, ← hba]
      clear hV hba
      have HLN : Hid (xs.length = L.length) := by rw [HXS.out.1]; exact els_len L
      go_loopw [13] (fun i wr => ∃ (k : Nat), k ≤ xs.length ∧ i = .int .i64 k ∧ Hid (Ok w4 wr ∧ PMap wr ba k ((lv L).take k))) (fun i _ => (xs.length - intOf i).toNat)
      case atStart => exact ⟨0, by omega, rfl, HV0.out.1, HV0.out.2⟩
      case round =>
        obtain ⟨k, hk, rfl, HKr⟩ := hrel
        clear HV0
        by_cases hk1 : k < xs.length
        · have hk2 : (k : Int) < (xs.length : Int) := cast_lt' hk1
          have hkL : k < L.length := HLN.out ▸ hk1
          have hkb := k_bnd HXS.out hk1
          obtain ⟨y, hy⟩ : ∃ y, L[k]? = some y := ⟨L[k], List.getElem?_eq_getElem hkL⟩
          obtain ⟨v, dd, hh⟩ := y
          have hxk : xs[k]? = some (v, (dd : Int), hh) := by rw [HXS.out.1]; exact els_at hy
          have hne : xs ≠ [] := fun e => by rw [e] at hk1; simp at hk1
          obtain ⟨ga, hao, la, ha⟩ := HSE.out hne
          subst hao
          have hokr : Ok w2 wr := HKy.out.step HKr.out.1
          obtain ⟨p0, p1, p2⟩ := ha k _ hxk
          have c0 := hokr.cell (p := ⟨ga, k * 3, none⟩) la p0
          have c1 := hokr.cell (p := ⟨ga, k * 3 + 1, none⟩) la p1
          have c2 := hokr.cell (p := ⟨ga, k * 3 + 2, none⟩) la p2
          simp only at c0 c1 c2
          have hvL : v ∈ lv L := List.mem_of_getElem? (lv_at hy)
          have hvk : v ∈ ks := (HKS.out v).1 hvL
          have hvi : in64 v := HKI.out v hvk
          have hnv : v ∉ (lv L).take k := not_yet HWK.out.nd (lv_at hy)
          have run1 := PMap.ok_no HKr.out.2 hvi.1 hvi.2 hnv
          have run2 := BMap.look (HBI.out.1.ok HKr.out.1) hvi.1 hvi.2
          rw [decide_eq_true hvk] at run2
          obtain ⟨w6, run3, hP6, hG6⟩ := PMap.put HKr.out.2 hvi.1 hvi.2 hnv (k_max hkb) (by rw [lv_take_len hkL]; exact Nat.le_of_lt hkb)
          have hlt : ((lv L).take k).length = k := lv_take_len hkL
          rw [hlt] at run3
          rw [← lv_take hy] at hP6
          have HW6 : Hid (Ok w4 w6 ∧ PMap w6 ba (k + 1) ((lv L).take (k + 1))) := ⟨Below.grown HKr.out.1 hG6 HKr.out.1.le (fun k e => by injection e with e; rw [← e, HBA.out]; exact Nat.le_refl _), hP6⟩
          have hok6 : Ok w2 w6 := HKy.out.step HW6.out.1
          have e0 := hok6.cell (p := ⟨ga, k * 3, none⟩) la p0
          have e1 := hok6.cell (p := ⟨ga, k * 3 + 1, none⟩) la p1
          have e2 := hok6.cell (p := ⟨ga, k * 3 + 2, none⟩) la p2
          simp only at e0 e1 e2
          have u1 : ¬ (dd : Int) < 0 := nneg
          have hkw : IntKind.i64.wrap ((k : Int) + 1) = ((k + 1 : Nat) : Int) := kw_bnd hkb
          cases hh with
          | true =>
            have u3 := dep_pos HWK.out.ord hy
            by_cases k0 : k = 0
            · have m1 := most_true0 HWK.out.ord.chn hy k0
              have n2 := npos_of k0
              clear k0
              clear ha p0 p1 p2 hP6 hG6 hokr hok6 hvL hvk hvi hnv hy hxk hkL hne hkb hlt
              go_wp2_with fail
              go_roundw
              case rel => exact ⟨k + 1, by omega, rfl, HW6⟩
              case measure => simp only [intOf]; omega
            · obtain ⟨j, hj⟩ := pred_of k0
              have hjL : j < L.length := (by have h := hkL; rw [hj] at h; exact Nat.lt_of_succ_lt h)
              obtain ⟨f, hf⟩ : ∃ f, L[j]? = some f := ⟨L[j], List.getElem?_eq_getElem hjL⟩
              have hxj : xs[j]? = some (f.1, (f.2.1 : Int), f.2.2) := by rw [HXS.out.1]; exact els_at hf
              have e3 := hok6.cell (p := ⟨ga, j * 3 + 1, none⟩) la (ha j _ hxj).2.1
              simp only at e3
              have m1 := most_true HWK.out.ord.chn hy hj hf
              have hpd := pd_bnd (chn_le HWK.out.ord.chn j _ hf) hj hkb
              obtain ⟨pd, hpe⟩ : ∃ z, z = f.2.1 := ⟨_, rfl⟩
              rw [← hpe] at m1 hpd e3
              have n1 : wrap64 ((k : Int) - 1) = (j : Int) := wj_one hj (Nat.le_of_lt hkb)
              have n2 : (0 : Int) < (k : Int) := pos_of k0
              have n3 : (j : Int) < (xs.length : Int) := (by rw [HLN.out]; exact cast_lt' hjL)
              have n4 : wrap64 ((pd : Int) + 1) = (pd : Int) + 1 := wj_two hpd
              have n5 : IntKind.i64.wrap ((pd : Int) + 1) = (pd : Int) + 1 := wj_three hpd
              clear hxj hf hpe hpd hj k0 hjL
              clear ha p0 p1 p2 hP6 hG6 hokr hok6 hvL hvk hvi hnv hy hxk hkL hne hkb hlt
              go_wp2_with fail
              go_roundw
              case rel => exact ⟨k + 1, by omega, rfl, HW6⟩
              case measure => simp only [intOf]; omega
          | false =>
            by_cases k0 : k = 0
            · have m1 := most_false0 HWK.out.ord.chn hy k0
              have n2 := npos_of k0
              clear k0
              clear ha p0 p1 p2 hP6 hG6 hokr hok6 hvL hvk hvi hnv hy hxk hkL hne hkb hlt
              go_wp2_with fail
              go_roundw
              case rel => exact ⟨k + 1, by omega, rfl, HW6⟩
              case measure => simp only [intOf]; omega
            · obtain ⟨j, hj⟩ := pred_of k0
              have hjL : j < L.length := (by have h := hkL; rw [hj] at h; exact Nat.lt_of_succ_lt h)
              obtain ⟨f, hf⟩ : ∃ f, L[j]? = some f := ⟨L[j], List.getElem?_eq_getElem hjL⟩
              have hxj : xs[j]? = some (f.1, (f.2.1 : Int), f.2.2) := by rw [HXS.out.1]; exact els_at hf
              have e3 := hok6.cell (p := ⟨ga, j * 3 + 1, none⟩) la (ha j _ hxj).2.1
              simp only at e3
              have m1 := most_false HWK.out.ord.chn hy hj hf
              have hpd := pd_bnd (chn_le HWK.out.ord.chn j _ hf) hj hkb
              obtain ⟨pd, hpe⟩ : ∃ z, z = f.2.1 := ⟨_, rfl⟩
              rw [← hpe] at m1 hpd e3
              have n1 : wrap64 ((k : Int) - 1) = (j : Int) := wj_one hj (Nat.le_of_lt hkb)
              have n2 : (0 : Int) < (k : Int) := pos_of k0
              have n3 : (j : Int) < (xs.length : Int) := (by rw [HLN.out]; exact cast_lt' hjL)
              have n4 : wrap64 ((pd : Int) + 1) = (pd : Int) + 1 := wj_two hpd
              have n5 : IntKind.i64.wrap ((pd : Int) + 1) = (pd : Int) + 1 := wj_three hpd
              clear hxj hf hpe hpd hj k0 hjL
              clear ha p0 p1 p2 hP6 hG6 hokr hok6 hvL hvk hvi hnv hy hxk hkL hne hkb hlt
              go_wp2_with fail
              go_roundw
              case rel => exact ⟨k + 1, by omega, rfl, HW6⟩
              case measure => simp only [intOf]; omega
        · have hke : k = xs.length := Nat.le_antisymm hk (Nat.le_of_not_lt hk1)
          have hk2 : ¬ (k : Int) < (xs.length : Int) := cast_nlt hk1
          obtain ⟨w5, hw5⟩ : ∃ z, z = wr := ⟨_, rfl⟩
          subst hw5
          have hkeL : k = L.length := hke.trans HLN.out
          have HKs : Hid (Ok w4 w5 ∧ PMap w5 ba k (lv L)) := ⟨HKr.out.1, by have h := HKr.out.2; rw [List.take_of_length_le (by rw [lv_len, hkeL]; exact Nat.le_refl _)] at h; exact h⟩
          clear HKr
          have hok5 : Ok w2 w5 := HKy.out.step HKs.out.1
          have hlen := BMap.len (HBI.out.1.ok HKs.out.1)
          rw [← keys_len HWK.out HND.out HKS.out, ← HLN.out] at hlen
          obtain ⟨f0, L0, hL0, hf0⟩ := HWK.out.fst
          have hx0 : xs[0]? = some (root, (f0.2.1 : Int), f0.2.2) := by rw [HXS.out.1, els_at (k := 0) (by rw [hL0]; rfl), hf0]
          have h0x : 0 < xs.length := (List.getElem?_eq_some_iff.1 hx0).1
          have h0i : (0 : Int) < (xs.length : Int) := cast_lt' h0x
          have hne : xs ≠ [] := fun e => by rw [e] at h0x; exact Nat.lt_irrefl _ h0x
          obtain ⟨ga, hao, la, ha⟩ := HSE.out hne
          subst hao
          have HHA : Hid (ga < w2.heap.size ∧ ∀ (k : Nat) (x : Int × Int × Bool), xs[k]? = some x → w2.cell? ⟨ga, k * 3, none⟩ = some (.int .i64 x.1) ∧ w2.cell? ⟨ga, k * 3 + 1, none⟩ = some (.int .i64 x.2.1) ∧ w2.cell? ⟨ga, k * 3 + 2, none⟩ = some (.bool x.2.2)) := ⟨la, ha⟩
          have c0 := hok5.cell (p := ⟨ga, 0 * 3, none⟩) la (ha 0 _ hx0).1
          simp only [Nat.zero_mul] at c0
          clear la ha hx0 hL0 hf0 hne
          obtain ⟨V2, hV2⟩ : ∃ V, V = w5.alloc (.map #[] 0) := ⟨_, rfl⟩
          obtain ⟨bb, hbb⟩ : ∃ b, b = w5.heap.size := ⟨_, rfl⟩
          have HV2 : Hid (Ok w5 V2 ∧ BMap V2 bb 0 []) := by rw [hV2, hbb]; exact ⟨(Ok.refl _).alloc _, BMap.made w5⟩
          have HBB : Hid (bb = w5.heap.size) := hbb
          go_wp2_with fail
          rw [← hV2, ← hbb]
          clear hV2 hbb c0 hlen hkeL hk hk1 hk2
          have HK5 : Hid (Ok w2 w5) := hok5
          have HK6 : Hid (Ok w w5) := HK2.out.step hok5
          clear hok5
          subst hke
          go_loopw [18] (fun i wx => ∃ (k : Nat), k ≤ ts.length ∧ i = .int .i64 k ∧ Hid (Ok w5 wx ∧ ∃ gs, BMap wx bb k gs ∧ Agn ts L k gs)) (fun i _ => (ts.length - intOf i).toNat)
          case atStart => exact ⟨0, Nat.zero_le _, rfl, HV2.out.1, [], HV2.out.2, Agn.zero ts L⟩
          case round =>
            obtain ⟨k, hk, rfl, HKr⟩ := hrel
            clear HV2
            by_cases hk1 : k < ts.length
            · have hk2 : (k : Int) < (200 : Int) := (by have h := cast_lt' hk1; rw [HML.out] at h; exact h)
              obtain ⟨x, hx⟩ : ∃ x, ts[k]? = some x := ⟨ts[k], List.getElem?_eq_getElem hk1⟩
              obtain ⟨hokx, gs, hBx, hAx⟩ := HKr.out
              have HBX : Hid (Ok w5 wr ∧ BMap wr bb k gs) := ⟨hokx, hBx⟩
              have HKo : Hid (Ok w wr) := HK6.out.step hokx
              obtain ⟨tb, o, hro, htb, hcc⟩ := HST.out (fun e => by rw [e] at hk1; simp at hk1)
              subst hro
              have c0 := HKo.out.cell (p := ⟨tb, o + k * 2, none⟩) htb (hcc k x hx).1
              have c1 := HKo.out.cell (p := ⟨tb, o + k * 2 + 1, none⟩) htb (hcc k x hx).2
              have hmx := List.mem_of_getElem? hx
              obtain ⟨x1, x2⟩ := x
              obtain ⟨i1, i2⟩ := HIN.out _ hmx
              simp only at c0 c1 i1 i2
              have hkw : IntKind.i64.wrap ((k : Int) + 1) = ((k + 1 : Nat) : Int) := kw_bnd (k_200 hk1 HTL.out)
              by_cases h1 : x1 ∈ lv L
              · have h2 : x2 ∈ lv L := HWK.out.cls _ hmx h1
                have run1 := PMap.ok_yes (HKs.out.2.ok hokx) i1.1 i1.2 h1
                have run2 := PMap.look (HKs.out.2.ok hokx) i2.1 i2.2 h2
                have harc := HWK.out.arc hmx h1
                have HA0 : Hid (Agn ts L k gs) := hAx
                have HA1 : Hid (Agn ts L (k + 1) (addK gs (((lv L).idxOf x2 : Nat) : Int))) := hAx.put hx
                have HA2 : Hid ((lv L).idxOf x1 < (lv L).idxOf x2 → Agn ts L (k + 1) gs) := fun h => hAx.skip hx (fun _ => h)
                obtain ⟨f, hf⟩ := at_idx h2
                simp only at harc
                generalize (lv L).idxOf x1 = u at *
                generalize (lv L).idxOf x2 = q at *
                have hxq : xs[q]? = some (f.1, (f.2.1 : Int), f.2.2) := by rw [HXS.out.1]; exact els_at hf
                have hqb := k_bnd HXS.out (List.getElem?_eq_some_iff.1 hxq).1
                have hq : (q : Int) < (xs.length : Int) := cast_lt' (List.getElem?_eq_some_iff.1 hxq).1
                have c2 := (HK5.out.step hokx).cell (p := ⟨ga, q * 3 + 2, none⟩) HHA.out.1 (HHA.out.2 q _ hxq).2.2
                simp only at c2
                by_cases fw : u < q
                · have z1 : ¬ (q : Int) ≤ (u : Int) := cast_nle fw
                  have HA3 : Hid (Agn ts L (k + 1) gs) := HA2.out fw
                  have HN : Hid (Ok w5 wr ∧ ∃ gs, BMap wr bb (k + 1) gs ∧ Agn ts L (k + 1) gs) := ⟨HBX.out.1, gs, HBX.out.2.more, HA3.out⟩
                  generalize f.2.2 = hh at c2
                  clear harc hf hxq hqb hBx hAx HA0 HA1 HA2 HA3 h1 h2 i1 i2 hmx hcc hx htb fw hokx HBX HKr
                  cases hh with
                  | true =>
                    go_wp2_with fail
                    go_roundw
                    case rel => exact ⟨k + 1, hk1, rfl, HN⟩
                    case measure => exact meas hk1
                  | false =>
                    go_wp2_with fail
                    go_roundw
                    case rel => exact ⟨k + 1, hk1, rfl, HN⟩
                    case measure => exact meas hk1
                · have z1 : (q : Int) ≤ (u : Int) := cast_le (Nat.le_of_not_lt fw)
                  obtain ⟨hh, hue⟩ := back_of harc fw hf
                  rw [hh] at c2
                  obtain ⟨E, hE⟩ : ∃ E, E = q + 1 + runI (f.2.1 : Int) (xs.drop (q + 1)) := ⟨_, rfl⟩
                  have hEL : u < E := by rw [hE, HXS.out.1]; exact hue
                  have z2 : (u : Int) < (E : Int) := cast_lt' hEL
                  have hend := end_any (ca := capl) ((HSE.out.ok HK5.out).ok hokx) hxq (xs_bnd HXS.out)
                  rw [← hE] at hend
                  have HEND : Hid _ := hend
                  have HQB : Hid (q < 1000000000000 ∧ k < maxLen) := ⟨hqb, k_max (k_200 hk1 HTL.out)⟩
                  clear harc hf hxq hqb hBx hAx HA0 HA2 h1 h2 i1 i2 hmx hcc hx htb fw hokx HKr hend hE hEL hh hue
                  go_wp2_with (first
                    | (go_at_call 12; refine (Calls.mono HEND.out ?_); rintro e w7 ⟨rfl, hk7⟩; obtain ⟨w8, run4, hB8, hG8⟩ := BMap.put (HBX.out.2.ok hk7) (q_lo q) (q_hi HQB.out.1) HQB.out.2; have HN : Hid (Ok w5 w8 ∧ ∃ gs, BMap w8 bb (k + 1) gs ∧ Agn ts L (k + 1) gs) := ⟨Below.grown (HBX.out.1.step hk7) hG8 (HBX.out.1.step hk7).le (fun k e => by injection e with e; rw [← e, HBB.out]; exact Nat.le_refl _), _, hB8, HA1.out⟩; clear hk7 hB8 hG8)
                    | fail)
                  go_roundw
                  case rel => exact ⟨k + 1, hk1, rfl, HN⟩
                  case measure => exact meas hk1
              · have run1 := PMap.ok_no (HKs.out.2.ok hokx) i1.1 i1.2 h1
                have HN : Hid (Ok w5 wr ∧ ∃ gs, BMap wr bb (k + 1) gs ∧ Agn ts L (k + 1) gs) := ⟨hokx, gs, hBx.more, hAx.skip hx (fun h => absurd h h1)⟩
                clear hBx hAx h1 i1 i2 hmx hcc hx htb hokx HBX HKr
                go_wp2_with fail
                go_roundw
                case rel => exact ⟨k + 1, hk1, rfl, HN⟩
                case measure => exact meas hk1
            · have hke : k = ts.length := Nat.le_antisymm hk (Nat.le_of_not_lt hk1)
              have hk2 : ¬ (k : Int) < (200 : Int) := (by have h := cast_nlt hk1; rw [HML.out] at h; exact h)
              obtain ⟨w6, hw6⟩ : ∃ z, z = wr := ⟨_, rfl⟩
              subst hw6
              obtain ⟨hok6, gs, hB6, hA6⟩ := HKr.out
              rw [hke] at hA6
              have HB6 : Hid (BMap w6 bb k gs) := hB6
              have HA6 : Hid (Agn ts L ts.length gs) := hA6
              have HK7 : Hid (Ok w2 w6) := HK5.out.step hok6
              have HK8 : Hid (Ok w w6) := HK6.out.step hok6
              clear hok6 hB6 hA6 HKr
              go_wp2_with fail
              clear hk2
              go_loopw [23] (fun i wx => ∃ (k : Nat), k ≤ xs.length ∧ i = .int .i64 k ∧ Hid (Ok w6 wx)) (fun i _ => (xs.length - intOf i).toNat)
              case atStart => exact ⟨0, Nat.zero_le _, rfl, Ok.refl w6⟩
              case round =>
                obtain ⟨j, hj, rfl, HKr⟩ := hrel
                by_cases hj1 : j < xs.length
                · have hj2 : (j : Int) < (xs.length : Int) := cast_lt' hj1
                  have hjL : j < L.length := (by have h := hj1; rw [HLN.out] at h; exact h)
                  obtain ⟨f, hf⟩ : ∃ f, L[j]? = some f := ⟨L[j], List.getElem?_eq_getElem hjL⟩
                  have hxj : xs[j]? = some (f.1, (f.2.1 : Int), f.2.2) := by rw [HXS.out.1]; exact els_at hf
                  have hjb := k_bnd HXS.out hj1
                  have c2 := (HK7.out.step HKr.out).cell (p := ⟨ga, j * 3 + 2, none⟩) HHA.out.1 (HHA.out.2 j _ hxj).2.2
                  simp only at c2
                  have hjw : IntKind.i64.wrap ((j : Int) + 1) = ((j + 1 : Nat) : Int) := kw_bnd hjb
                  have run1 := BMap.look (HB6.out.ok HKr.out) (q_lo j) (q_hi hjb)
                  have HHD : Hid (f.2.2 = true → ((j : Nat) : Int) ∈ gs) := fun h => HA6.out.head HWK.out hf h
                  generalize f.2.2 = hh at c2 HHD
                  cases hh with
                  | true =>
                    rw [decide_eq_true (HHD.out rfl)] at run1
                    clear hjL hf hxj hjb HHD
                    go_wp2_with fail
                    go_roundw
                    case rel => exact ⟨j + 1, hj1, rfl, HKr⟩
                    case measure => exact meas hj1
                  | false =>
                    clear hjL hf hxj hjb HHD run1
                    go_wp2_with fail
                    go_roundw
                    case rel => exact ⟨j + 1, hj1, rfl, HKr⟩
                    case measure => exact meas hj1
                · have hj2 : ¬ (j : Int) < (xs.length : Int) := cast_nlt hj1
                  go_wp2_with fail
                  go_ret
                  exact ⟨rfl, HK8.out.step HKr.out⟩
end Go.Proofs.Ytdhpdhgplnncoaa
