import Derived.Test.YtbakinibehhfnaaWsw
set_option linter.unusedVariables false
set_option linter.unusedSimpArgs false
set_option linter.unnecessarySimpa false
/- WtoSettles: the way with more than 120 arcs. -/
namespace Go.Proofs.Ytbakinibehhfnaa
open Go.RowKit Go.Maps
set_option maxRecDepth 100000 in
set_option maxHeartbeats 8000000 in
theorem set_Agood {w : World} {n root : Int} {ro mo : Option Addr} {cap mcap : Nat} {ars ts : List (Int × Int)} {ms : List Int} (HST : Hid (SAr w ro ts)) (HAO : Hid (ro = none → cap = 0)) (hlc : ars.length ≤ cap) (HMS : Hid (SIn w mo ms)) (HMI : Hid (∀ x ∈ ms, in64 x)) (HR : Hid (in64 root)) (HIN : Hid (∀ x ∈ ts, in64 x.1 ∧ in64 x.2)) (HTL : Hid (ts.length ≤ 120)) (hc : cap ≤ 140737488355328) (h120 : (120 : Int) < (ars.length : Int)) (HML : Hid (ts.length = 120)) (hcc : 120 ≤ cap) (hb : (badV n root || ts.any (badA n)) = false) :
    Calls Try.prog 4 #[.int .i64 n, .slice ro ars.length cap, .int .i64 root, .slice mo ms.length mcap] w fun e w' => e = .returned (.bool true) ∧ Ok w w' := by
  have HB : Hid ((badV n root || ts.any (badA n)) = false) := hb
  clear hb
  have h120n : 120 < ars.length := by omega
  have hcc2 : (120 : Int) ≤ (cap : Int) := by omega
  have hmm := @run_makeMap Try.prog
  go_enter Try.func4, Try.ntmps4
  go_wp2_with (first
    | (at_builtin; refine wpList_append_arcs rfl _ _ rfl w.heap.size (.slice (some ⟨w.heap.size, 0, none⟩) 0 0) 0 [] (by rfl) (own_empty w) ro cap ts (by rw [HML.out]; rfl) (HST.out.ok ((Ok.refl _).alloc _)) HAO.out (by have := HTL.out; omega) (by simp) ?_; intro v1 w1 hown1 hgrow1; have HO1 : Hid (w1.ownsRow w.heap.size 29 2 v1 ts.length (pr ts)) := (by rw [Nat.zero_add] at hown1; exact hown1); have HK1 : Hid (Ok w w1) := Below.grown ((Ok.refl w).alloc _) hgrow1 (by simp) (fun k e => by simp [Value.ownBlock] at e; omega); clear hown1 hgrow1; obtain ⟨_, ao1, cap1, hv1, hS1⟩ := SAr.of HO1.out; subst hv1; have HS1 : Hid (SAr w1 ao1 ts) := hS1; clear hS1)
    | (go_at_call 7; refine (Calls.mono (Order_any (n := n) (root := root) (cap := cap1) HS1.out (by have := HTL.out; omega) HR.out.1 HR.out.2 (fun x hx => HIN.out x hx)) ?_); rintro e w2 ⟨hk2, hbad, hgood⟩; have HK2 : Hid (Ok w w2) := HK1.out.step hk2; obtain ⟨L, v, hE, rfl, ho, hll⟩ := hgood HB.out; obtain ⟨xs, hxs⟩ : ∃ xs, xs = els L := ⟨_, rfl⟩; rw [← hxs] at ho; obtain ⟨_, ao, capl, rfl, hse⟩ := SEl.of ho; have HEN : Hid (Ends (outs ts) (start (outs ts) root) L) := hE; have HSE : Hid (SEl w2 ao xs) := hse; have HXS : Hid (xs = els L ∧ L.length ≤ 1000000000000) := ⟨hxs, hll⟩; clear hk2 hbad hgood HS1 HO1 HK1 hE ho hse hxs hll)
    | fail)
  have HWK : Hid (Weak ts root L) := weak_of (by have := HTL.out; omega) HEN.out
  have HLN : Hid (xs.length = L.length) := by rw [HXS.out.1]; exact els_len L
  have HL1 : Hid (L.length ≤ 121) := Nat.le_trans HWK.out.len (Nat.succ_le_succ HTL.out)
  have HVX : Hid (vsX xs = lv L) := vs_of HXS.out.1
  have HVI : Hid (∀ v ∈ lv L, in64 v) := HWK.out.in64s HR.out HIN.out
  obtain ⟨V, hV⟩ : ∃ V, V = w2.alloc (.map #[] 0) := ⟨_, rfl⟩
  obtain ⟨bv, hbv⟩ : ∃ b, b = w2.heap.size := ⟨_, rfl⟩
  have HV0 : Hid (SM w2 V bv 0 (lv L) (fun _ => 0)) := by rw [hV, hbv]; exact ⟨(Ok.refl _).alloc _, ⟨[], VMap.made w2, fun v h => (by cases h)⟩, fun _ => in64_zero⟩
  have HBV : Hid (bv = w2.heap.size) := hbv
  rw [← hV, ← hbv]
  clear hV hbv
  go_loopw [11, 13] (fun hd i wr => ∃ (k c : Nat), k ≤ xs.length ∧ i = .int .i64 k ∧ hd = .int .i64 c ∧ Hid (c = cntH L k ∧ ∃ f, SM w2 wr bv k (lv L) f)) (fun _ i _ => ((xs.length : Int) - intOf i).toNat)
  case atStart => exact ⟨0, 0, Nat.zero_le _, rfl, rfl, (cntH_zero L).symm, _, HV0.out⟩
  case round =>
    obtain ⟨k, c, hk, rfl, rfl, HKr⟩ := hrel
    clear HV0
    by_cases hk1 : k < xs.length
    · have hk2 : (k : Int) < (xs.length : Int) := cast_lt' hk1
      have hkL : k < L.length := (by have h := hk1; rw [HLN.out] at h; exact h)
      obtain ⟨y, hy⟩ : ∃ y, L[k]? = some y := ⟨L[k], List.getElem?_eq_getElem hkL⟩
      have hst := cntH_step hy
      obtain ⟨v, dd, hh⟩ := y
      simp only at hst
      have hxk : xs[k]? = some (v, (dd : Int), hh) := by rw [HXS.out.1]; exact els_at hy
      obtain ⟨hcc, f, ⟨hok, ⟨K, hVM, hKs⟩, hfi⟩⟩ := HKr.out
      obtain ⟨ga, hao, la, ha⟩ := HSE.out (fun e => by rw [e] at hk1; cases hk1)
      subst hao
      obtain ⟨p0, p1, p2⟩ := ha k _ hxk
      have c0 := hok.cell (p := ⟨ga, k * 3, none⟩) la p0
      have c2 := hok.cell (p := ⟨ga, k * 3 + 2, none⟩) la p2
      simp only at c0 c2
      have hvL : v ∈ lv L := List.mem_of_getElem? (lv_at hy)
      have hvi := HVI.out v hvL
      have hkw : IntKind.i64.wrap ((k : Int) + 1) = ((k + 1 : Nat) : Int) := kw_bnd (small_k hkL HL1.out)
      have hcw : IntKind.i64.wrap ((c : Int) + 1) = ((c + 1 : Nat) : Int) := cw_bnd (by rw [hcc]; exact cntH_le L k) HL1.out
      have HCT : Hid (hh = true → c + 1 = cntH L (k + 1)) := fun e => by rw [hst, if_pos e, hcc]
      have HCF : Hid (hh = false → c = cntH L (k + 1)) := fun e => by rw [hst, if_neg (by rw [e]; simp), hcc]; rfl
      by_cases hm : k < ms.length
      · have hm2 : (k : Int) < (ms.length : Int) := cast_lt' hm
        obtain ⟨z, hz⟩ : ∃ z, ms[k]? = some z := ⟨ms[k], List.getElem?_eq_getElem hm⟩
        have hzi := HMI.out z (List.mem_of_getElem? hz)
        obtain ⟨mb, mof, hmo, lm, hmc⟩ := HMS.out (fun e => by rw [e] at hm; cases hm)
        subst hmo
        have c3 := (HK2.out.step hok).cell (p := ⟨mb, mof + k, none⟩) lm (hmc k z hz)
        have hdw : Ok wr wr.drew := (Ok.refl wr).drew
        obtain ⟨w6, run1, hV6, hG6⟩ := VMap.put (hVM.ok hdw) hvi.1 hvi.2 hzi.1 hzi.2 (k_max2 hkL HL1.out)
        have HN : Hid (SM w2 w6 bv (k + 1) (lv L) (updF f v z)) := SM.put (hok.step hdw) HBV.out hKs hfi hvL hzi hV6 hG6
        clear hst hxk hcc hok hVM hKs hfi la ha p0 p1 p2 hvL hvi hz hzi lm hmc hV6 hG6 hy hkL HKr hdw
        cases hh with
        | true =>
          have HC : Hid (c + 1 = cntH L (k + 1)) := HCT.out rfl
          clear HCT HCF
          go_wp2_with fail
          go_region
          go_wp2_with fail
          go_roundw
          case rel => exact ⟨k + 1, c + 1, hk1, rfl, rfl, HC.out, _, HN.out⟩
          case measure => exact meas hk1
        | false =>
          have HC : Hid (c = cntH L (k + 1)) := HCF.out rfl
          clear HCT HCF
          go_wp2_with fail
          go_region
          go_wp2_with fail
          go_roundw
          case rel => exact ⟨k + 1, c, hk1, rfl, rfl, HC.out, _, HN.out⟩
          case measure => exact meas hk1
      · have hm2 : ¬ (k : Int) < (ms.length : Int) := cast_nlt hm
        have HN : Hid (SM w2 wr bv (k + 1) (lv L) f) := SM.more ⟨hok, ⟨K, hVM, hKs⟩, hfi⟩ (Nat.le_succ k)
        clear hst hxk hcc hok hVM hKs hfi la ha p0 p1 p2 hvL hvi hy hkL HKr
        cases hh with
        | true =>
          have HC : Hid (c + 1 = cntH L (k + 1)) := HCT.out rfl
          clear HCT HCF
          go_wp2_with fail
          go_roundw
          case rel => exact ⟨k + 1, c + 1, hk1, rfl, rfl, HC.out, _, HN.out⟩
          case measure => exact meas hk1
        | false =>
          have HC : Hid (c = cntH L (k + 1)) := HCF.out rfl
          clear HCT HCF
          go_wp2_with fail
          go_roundw
          case rel => exact ⟨k + 1, c, hk1, rfl, rfl, HC.out, _, HN.out⟩
          case measure => exact meas hk1
    · have hke : k = L.length := (Nat.le_antisymm hk (Nat.le_of_not_lt hk1)).trans HLN.out
      have hk2 : ¬ (k : Int) < (xs.length : Int) := cast_nlt hk1
      obtain ⟨hcc, f, hSM⟩ := HKr.out
      have HC : Hid (c = L.countP (fun e => e.2.2)) := by unfold Hid; rw [hcc]; exact cntH_all hke
      have HCL : Hid (c ≤ L.length) := by unfold Hid; rw [hcc]; exact cntH_le L k
      have HS0 : Hid (SM w2 wr bv (121 + 0 * 14520) (lv L) (swN (lv L) ts f 0)) := hSM.more (n_first hke HL1.out)
      clear HKr hcc hSM
      go_wp2_with fail
      clear hk hk1 hk2 hke
      go_loopw [14, 15] (fun sw mo wr => ∃ (s : Nat) (mb : Bool), sw = .int .i64 s ∧ mo = .bool mb ∧ Hid (SM w2 wr bv (121 + s * 14520) (lv L) (swN (lv L) ts f s) ∧ s ≤ c + 2 ∧ (mb = true → s ≤ c + 1) ∧ (mb = false → Fix (lv L) ts (swN (lv L) ts f s)))) (fun sw _ _ => ((c : Int) + 3 - intOf sw).toNat)
      case atStart => exact ⟨0, true, rfl, rfl, HS0.out, Nat.zero_le _, fun _ => Nat.zero_le _, fun h => (by cases h)⟩
      case round =>
        obtain ⟨s, mb, rfl, rfl, HSr⟩ := hrel
        clear HS0
        cases mb with
        | true =>
          have HSC : Hid (s ≤ c + 1) := HSr.out.2.2.1 rfl
          have HS1 : Hid (SN w2 wr bv (121 + s * 14520 + 0 * 120) (lv L) (swN (lv L) ts f s) (preT (lv L) ts 0) false) := by unfold Hid; rw [preT_zero]; exact (SN.zero HSr.out.1).more (Nat.le_refl _)
          clear HSr
          go_wp2_with fail
          obtain ⟨fs, hfs⟩ : ∃ g, g = swN (lv L) ts f s := ⟨_, rfl⟩
          rw [← hfs] at HS1
          have HFS : Hid (fs = swN (lv L) ts f s) := hfs
          clear hfs
          go_loopw [15, 16] (fun mo i wr => ∃ (i' : Nat) (mb : Bool), i' ≤ xs.length ∧ i = .int .i64 i' ∧ mo = .bool mb ∧ Hid (SN w2 wr bv (121 + s * 14520 + i' * 120) (lv L) fs (preT (lv L) ts i') mb)) (fun _ i _ => ((xs.length : Int) - intOf i).toNat)
          case atStart => exact ⟨0, false, Nat.zero_le _, rfl, rfl, HS1⟩
          case round =>
            obtain ⟨i, mb, hi, rfl, rfl, HSi⟩ := hrel
            clear HS1
            by_cases hi1 : i < xs.length
            · have hi2 : (i : Int) < (xs.length : Int) := cast_lt' hi1
              have hiL : i < L.length := (by have h := hi1; rw [HLN.out] at h; exact h)
              obtain ⟨y, hy⟩ : ∃ y, L[i]? = some y := ⟨L[i], List.getElem?_eq_getElem hiL⟩
              obtain ⟨v, dd, hh⟩ := y
              have hxk : xs[i]? = some (v, (dd : Int), hh) := by rw [HXS.out.1]; exact els_at hy
              obtain ⟨ga, hao, la, ha⟩ := HSE.out (fun e => by rw [e] at hi1; cases hi1)
              subst hao
              have hok : Ok w2 wr := (by obtain ⟨g, h1, _⟩ := HSi.out; exact h1.1)
              have c0 := hok.cell (p := ⟨ga, i * 3, none⟩) la (ha i _ hxk).1
              simp only at c0
              have HVL : Hid (v ∈ lv L) := List.mem_of_getElem? (lv_at hy)
              have hiw : IntKind.i64.wrap ((i : Int) + 1) = ((i + 1 : Nat) : Int) := kw_bnd (small_k hiL HL1.out)
              have HPS : Hid (preT (lv L) ts (i + 1) = preT (lv L) ts i ++ rowT ts v) := preT_step (lv_at hy)
              have HIL : Hid (i < L.length) := hiL
              have HS2 : Hid (SN w2 wr bv (121 + s * 14520 + i * 120 + 0) (lv L) fs (preT (lv L) ts i ++ rowT (ts.take 0) v) mb) := by unfold Hid; rw [show rowT (ts.take 0) v = [] from rfl, List.append_nil]; exact HSi.out
              clear hy hxk la ha hok hiL HSi
              go_wp2_with fail
              clear c0
              go_loopw [15, 18] (fun mo a wr => ∃ (k : Nat) (mb : Bool), k ≤ ts.length ∧ a = .int .i64 k ∧ mo = .bool mb ∧ Hid (SN w2 wr bv (121 + s * 14520 + i * 120 + k) (lv L) fs (preT (lv L) ts i ++ rowT (ts.take k) v) mb)) (fun _ a _ => ((ts.length : Int) - intOf a).toNat)
              case atStart => exact ⟨0, mb, Nat.zero_le _, rfl, rfl, HS2⟩
              case round =>
                obtain ⟨k, mb, hk, rfl, rfl, HSk⟩ := hrel
                clear HS2
                by_cases hk1 : k < ts.length
                · have hk2 : (k : Int) < (120 : Int) := (by have h := cast_lt' hk1; rw [HML.out] at h; exact h)
                  obtain ⟨x, hx⟩ : ∃ x, ts[k]? = some x := ⟨ts[k], List.getElem?_eq_getElem hk1⟩
                  have HRT : Hid (rowT (ts.take (k + 1)) v = rowT (ts.take k) v ++ [(v, x)]) := rowT_take hx
                  obtain ⟨g, ⟨hok, ⟨K, hVM, hKs⟩, hgi⟩, hSW⟩ := HSk.out
                  obtain ⟨tb, o, hro, htb, hcc⟩ := HST.out (fun e => by rw [e] at hk1; cases hk1)
                  subst hro
                  have c0 := (HK2.out.step hok).cell (p := ⟨tb, o + k * 2, none⟩) htb (hcc k x hx).1
                  have c1 := (HK2.out.step hok).cell (p := ⟨tb, o + k * 2 + 1, none⟩) htb (hcc k x hx).2
                  have hmx := List.mem_of_getElem? hx
                  obtain ⟨x1, x2⟩ := x
                  obtain ⟨i1, i2⟩ := HIN.out _ hmx
                  simp only at c0 c1 i1 i2
                  have hkw : IntKind.i64.wrap ((k : Int) + 1) = ((k + 1 : Nat) : Int) := kw_bnd (small_k hk1 (Nat.le_succ_of_le HTL.out))
                  have HI1 : Hid (in64 x1) := i1
                  have HVV : Hid (in64 v) := HVI.out v HVL.out
                  have HVM : Hid (VMap wr bv (121 + s * 14520 + i * 120 + k) g K) := hVM
                  have HOK : Hid (Ok w2 wr) := hok
                  have HKS : Hid (∀ u ∈ K, u ∈ lv L) := hKs
                  have HGI : Hid (∀ u, in64 (g u)) := hgi
                  have HSW : Hid (SW (lv L) fs (preT (lv L) ts i ++ rowT (ts.take k) v) g mb) := hSW
                  have HMX : Hid (121 + s * 14520 + i * 120 + k < maxLen) := n_max HSC.out HCL.out HL1.out HIL.out hk1 HTL.out
                  have HSM : Hid (SM w2 wr bv (121 + s * 14520 + i * 120 + k) (lv L) g) := ⟨hok, ⟨K, hVM, hKs⟩, hgi⟩
                  have run1 := VMap.look_ok hVM i1.1 i1.2
                  clear hok hVM hKs hgi hSW htb hcc hx hmx i1 i2 HSk
                  by_cases e2 : x2 = v
                  · have c1' := c1
                    rw [e2] at c1
                    clear c1'
                    by_cases h0 : x1 ∈ K
                    · have h1 : x1 ∈ lv L := HKS.out x1 h0
                      rw [decide_eq_true h0] at run1
                      have run2 := VMap.look HVM.out HI1.out.1 HI1.out.2
                      have run3 := VMap.look HVM.out HVV.out.1 HVV.out.2
                      by_cases hlt : g v < g x1
                      · obtain ⟨w8, run4, hV8, hG8⟩ := VMap.put (y := g x1) HVM.out HVV.out.1 HVV.out.2 (HGI.out x1).1 (HGI.out x1).2 HMX.out
                        have HN : Hid (SN w2 w8 bv (121 + s * 14520 + i * 120 + (k + 1)) (lv L) fs (preT (lv L) ts i ++ rowT (ts.take (k + 1)) v) true) := (by unfold Hid; rw [HRT.out, ← List.append_assoc]; exact ⟨_, SM.put HOK.out HBV.out HKS.out HGI.out HVL.out (HGI.out x1) hV8 hG8, HSW.out.put (p := (v, x1, x2)) ⟨e2, h1, hlt⟩⟩)
                        clear hV8 hG8 e2 h0 h1 HRT
                        go_wp2_with fail
                        go_roundw
                        case rel => exact ⟨k + 1, true, hk1, rfl, rfl, HN⟩
                        case measure => exact meas hk1
                      · have HN : Hid (SN w2 wr bv (121 + s * 14520 + i * 120 + (k + 1)) (lv L) fs (preT (lv L) ts i ++ rowT (ts.take (k + 1)) v) mb) := (by unfold Hid; rw [HRT.out, ← List.append_assoc]; exact ⟨g, SM.more HSM.out (Nat.le_succ _), HSW.out.skip (p := (v, x1, x2)) (fun h => hlt h.2.2)⟩)
                        clear e2 h0 h1 HRT
                        go_wp2_with fail
                        go_roundw
                        case rel => exact ⟨k + 1, mb, hk1, rfl, rfl, HN⟩
                        case measure => exact meas hk1
                    · rw [decide_eq_false h0] at run1
                      have hins := inside_any (ca := capl) (v := x1) (HSE.out.ok HOK.out) (xs_bnd HXS.out)
                      rw [HVX.out] at hins
                      by_cases h1 : x1 ∈ lv L
                      · rw [decide_eq_true h1] at hins
                        have HNS : Hid _ := hins
                        clear hins
                        by_cases hlt : g v < g x1
                        · have E2 : Hid (x2 = v) := e2
                          have H1 : Hid (x1 ∈ lv L) := h1
                          clear e2 h0 h1
                          go_wp2_with (first
                            | (go_at_call 10; refine (Calls.mono HNS.out ?_); rintro e w7 ⟨rfl, hk7⟩; have run2 := VMap.look (HVM.out.ok hk7) HI1.out.1 HI1.out.2; have run3 := VMap.look (HVM.out.ok hk7) HVV.out.1 HVV.out.2; obtain ⟨w8, run4, hV8, hG8⟩ := VMap.put (y := g x1) (HVM.out.ok hk7) HVV.out.1 HVV.out.2 (HGI.out x1).1 (HGI.out x1).2 HMX.out; have HN : Hid (SN w2 w8 bv (121 + s * 14520 + i * 120 + (k + 1)) (lv L) fs (preT (lv L) ts i ++ rowT (ts.take (k + 1)) v) true) := (by unfold Hid; rw [HRT.out, ← List.append_assoc]; exact ⟨_, SM.put (HOK.out.step hk7) HBV.out HKS.out HGI.out HVL.out (HGI.out x1) hV8 hG8, HSW.out.put (p := (v, x1, x2)) ⟨E2.out, H1.out, hlt⟩⟩); clear hV8 hG8 hk7)
                            | fail)
                          go_roundw
                          case rel => exact ⟨k + 1, true, hk1, rfl, rfl, HN⟩
                          case measure => exact meas hk1
                        · clear h0
                          go_wp2_with (first
                            | (go_at_call 10; refine (Calls.mono HNS.out ?_); rintro e w7 ⟨rfl, hk7⟩; have run2 := VMap.look (HVM.out.ok hk7) HI1.out.1 HI1.out.2; have run3 := VMap.look (HVM.out.ok hk7) HVV.out.1 HVV.out.2; have HN : Hid (SN w2 w7 bv (121 + s * 14520 + i * 120 + (k + 1)) (lv L) fs (preT (lv L) ts i ++ rowT (ts.take (k + 1)) v) mb) := (by unfold Hid; rw [HRT.out, ← List.append_assoc]; exact ⟨g, SM.more (HSM.out.ok hk7) (Nat.le_succ _), HSW.out.skip (p := (v, x1, x2)) (fun h => hlt h.2.2)⟩); clear hk7)
                            | fail)
                          go_roundw
                          case rel => exact ⟨k + 1, mb, hk1, rfl, rfl, HN⟩
                          case measure => exact meas hk1
                      · rw [decide_eq_false h1] at hins
                        have HNS : Hid _ := hins
                        have H1 : Hid (¬ x1 ∈ lv L) := h1
                        clear hins h0 h1
                        go_wp2_with (first
                          | (go_at_call 10; refine (Calls.mono HNS.out ?_); rintro e w7 ⟨rfl, hk7⟩; have HN : Hid (SN w2 w7 bv (121 + s * 14520 + i * 120 + (k + 1)) (lv L) fs (preT (lv L) ts i ++ rowT (ts.take (k + 1)) v) mb) := (by unfold Hid; rw [HRT.out, ← List.append_assoc]; exact ⟨g, SM.more (HSM.out.ok hk7) (Nat.le_succ _), HSW.out.skip (p := (v, x1, x2)) (fun h => H1.out h.2.1)⟩); clear hk7)
                          | fail)
                        go_roundw
                        case rel => exact ⟨k + 1, mb, hk1, rfl, rfl, HN⟩
                        case measure => exact meas hk1
                  · have HN : Hid (SN w2 wr bv (121 + s * 14520 + i * 120 + (k + 1)) (lv L) fs (preT (lv L) ts i ++ rowT (ts.take (k + 1)) v) mb) := (by unfold Hid; rw [HRT.out, ← List.append_assoc]; exact ⟨g, SM.more HSM.out (Nat.le_succ _), HSW.out.skip (p := (v, x1, x2)) (fun h => e2 h.1)⟩)
                    clear HRT
                    generalize decide (x1 ∈ K) = okb at run1
                    go_wp2_with fail
                    go_roundw
                    case rel => exact ⟨k + 1, mb, hk1, rfl, rfl, HN⟩
                    case measure => exact meas hk1
                · have hke : k = ts.length := Nat.le_antisymm hk (Nat.le_of_not_lt hk1)
                  have hk2 : ¬ (k : Int) < (120 : Int) := (by have h := cast_nlt hk1; rw [HML.out] at h; exact h)
                  have HN : Hid (SN w2 wr bv (121 + s * 14520 + (i + 1) * 120) (lv L) fs (preT (lv L) ts (i + 1)) mb) := by
                    have h := HSk.out.more (n_row (s := s) (i := i) hke HTL.out)
                    rw [hke, List.take_length] at h
                    unfold Hid
                    rw [HPS.out]
                    exact h
                  clear HSk
                  go_wp2_with fail
                  go_roundw
                  case rel => exact ⟨i + 1, mb, hi1, rfl, rfl, HN⟩
                  case measure => exact meas hi1
            · have hie : i = L.length := (Nat.le_antisymm hi (Nat.le_of_not_lt hi1)).trans HLN.out
              have hi2 : ¬ (i : Int) < (xs.length : Int) := cast_nlt hi1
              obtain ⟨g, hSM, hSW⟩ := HSi.out
              rw [preT_all (lv L) ts (by rw [lv_len]; exact hie)] at hSW
              have HEQ : Hid (g = swN (lv L) ts f (s + 1)) := by unfold Hid; rw [hSW.eq, HFS.out]; rfl
              have HN : Hid (SM w2 wr bv (121 + (s + 1) * 14520) (lv L) (swN (lv L) ts f (s + 1)) ∧ s + 1 ≤ c + 2 ∧ (mb = true → s + 1 ≤ c + 1) ∧ (mb = false → Fix (lv L) ts (swN (lv L) ts f (s + 1)))) := by
                refine ⟨?_, Nat.succ_le_succ HSC.out, fun e => ?_, fun e => ?_⟩
                · rw [← HEQ.out]; exact hSM.more (n_sweep hie HL1.out)
                · obtain ⟨v, m, h1, h2⟩ := hSW.yes e
                  rw [HFS.out] at h1
                  rw [HEQ.out] at h2
                  rw [HC.out]
                  exact Nat.succ_le_succ (HWK.out.sweeps f ⟨v, m, h1, h2⟩)
                · rw [← HEQ.out]
                  subst e
                  exact SW.fix HWK.out hSW
              have hcw : IntKind.i64.wrap ((c : Int) + 1) = ((c + 1 : Nat) : Int) := cw_bnd HCL.out HL1.out
              have hsw : IntKind.i64.wrap ((s : Int) + 1) = ((s + 1 : Nat) : Int) := cw2_bnd (Nat.le_succ_of_le HSC.out) HCL.out HL1.out
              have hno : ¬ ((c + 1 : Nat) : Int) < (s : Int) := not_over HSC.out
              clear hSM hSW HSi
              go_wp2_with fail
              go_roundw
              case rel => exact ⟨s + 1, mb, rfl, rfl, HN⟩
              case measure => exact meas2 HSC.out
        | false =>
          have HFX : Hid (SM w2 wr bv (121 + s * 14520) (lv L) (swN (lv L) ts f s) ∧ Fix (lv L) ts (swN (lv L) ts f s)) := ⟨HSr.out.1, HSr.out.2.2.2 rfl⟩
          clear HSr
          go_wp2_with fail
          obtain ⟨w5, hw5⟩ : ∃ z, z = wr := ⟨_, rfl⟩
          subst hw5
          go_loopw [22] (fun a wr => ∃ (k : Nat), k ≤ ts.length ∧ a = .int .i64 k ∧ Hid (Ok w5 wr)) (fun a _ => ((ts.length : Int) - intOf a).toNat)
          case atStart => exact ⟨0, Nat.zero_le _, rfl, Ok.refl _⟩
          case round =>
            obtain ⟨k, hk, rfl, HKr⟩ := hrel
            by_cases hk1 : k < ts.length
            · have hk2 : (k : Int) < (120 : Int) := (by have h := cast_lt' hk1; rw [HML.out] at h; exact h)
              obtain ⟨x, hx⟩ : ∃ x, ts[k]? = some x := ⟨ts[k], List.getElem?_eq_getElem hk1⟩
              obtain ⟨⟨hok, ⟨K, hVM, hKs⟩, hgi⟩, hFx⟩ := HFX.out
              obtain ⟨tb, o, hro, htb, hcc⟩ := HST.out (fun e => by rw [e] at hk1; cases hk1)
              subst hro
              have HOK : Hid (Ok w2 wr) := hok.step HKr.out
              have HTB : Hid (tb < w.heap.size ∧ w.cell? ⟨tb, o + k * 2, none⟩ = some (.int .i64 x.1) ∧ w.cell? ⟨tb, o + k * 2 + 1, none⟩ = some (.int .i64 x.2)) := ⟨htb, hcc k x hx⟩
              have hmx := List.mem_of_getElem? hx
              obtain ⟨i1, i2⟩ := HIN.out _ hmx
              have hFk := hFx x hmx
              obtain ⟨x1, x2⟩ := x
              have HI : Hid (in64 x1 ∧ in64 x2) := ⟨i1, i2⟩
              have c0 := (HK2.out.step HOK.out).cell (p := ⟨tb, o + k * 2, none⟩) HTB.out.1 HTB.out.2.1
              have c1 := (HK2.out.step HOK.out).cell (p := ⟨tb, o + k * 2 + 1, none⟩) HTB.out.1 HTB.out.2.2
              simp only at c0 c1 hFk
              have HVM : Hid (VMap wr bv (121 + s * 14520) (swN (lv L) ts f s) K) := hVM.ok HKr.out
              have hkw : IntKind.i64.wrap ((k : Int) + 1) = ((k + 1 : Nat) : Int) := kw_bnd (small_k hk1 (Nat.le_succ_of_le HTL.out))
              have HDW : Hid (Ok wr wr.drew) := (Ok.refl wr).drew
              have hins := inside_any (ca := capl) (v := x1) (HSE.out.ok (HOK.out.step HDW.out)) (xs_bnd HXS.out)
              rw [HVX.out] at hins
              generalize swN (lv L) ts f s = g at *
              clear hok hVM hKs hgi hFx htb hcc hx hmx i1 i2
              by_cases h1 : x1 ∈ lv L
              · rw [decide_eq_true h1] at hins
                have HNS : Hid _ := hins
                have hno := hFk h1
                clear hins h1 hFk
                go_wp2_with fail
                go_region_held3 (fun w' => w'.cell? ⟨tb, o + k * 2, none⟩ = some (.int .i64 x1) ∧ w'.cell? ⟨tb, o + k * 2 + 1, none⟩ = some (.int .i64 x2))
                  (first | (exact ⟨c0, c1⟩) | (exact ⟨d0, d1⟩) | go_keep)
                  (first
                  | (go_at_call 10; refine (Calls.mono HNS.out ?_); rintro e w7 ⟨rfl, hk7⟩; have HK9 : Hid (Ok wr w7) := HDW.out.step hk7; have run2 := VMap.look (HVM.out.ok HK9.out) HI.out.1.1 HI.out.1.2; have run3 := VMap.look (HVM.out.ok HK9.out) HI.out.2.1 HI.out.2.2; have d0 := ((HK2.out.step HOK.out).step HK9.out).cell (p := ⟨tb, o + k * 2, none⟩) HTB.out.1 HTB.out.2.1; have d1 := ((HK2.out.step HOK.out).step HK9.out).cell (p := ⟨tb, o + k * 2 + 1, none⟩) HTB.out.1 HTB.out.2.2; have HN : Hid (Ok w5 w7) := HKr.out.step HK9.out; clear hk7)
                  | fail)
                all_goals
                  go_wp2_with fail
                  go_roundw
                  case rel => exact ⟨k + 1, hk1, rfl, HN⟩
                  case measure => exact meas hk1
              · rw [decide_eq_false h1] at hins
                have HNS : Hid _ := hins
                clear hins h1 hFk
                go_wp2_with fail
                refine wp_region_held_drew (S := (fun w' => w'.cell? ⟨tb, o + k * 2, none⟩ = some (.int .i64 x1) ∧ w'.cell? ⟨tb, o + k * 2 + 1, none⟩ = some (.int .i64 x2))) (by kernel_rfl) (by (try dsimp only); first | exact ⟨c0, c1⟩ | exact ⟨d0, d1⟩ | go_keep) (fun hHeld => ?_)
                refine wpAnyH_take (i := 0) (v := ?_) rfl (by kernel_rfl) (by kernel_rfl) (by kernel_rfl) (fun _ _ _ h => h) (Or.inl ⟨by rfl, ?_⟩) (by assumption) ?_
                rotate_left
                · intro w hSw; (try dsimp only at hSw); first | (go_simp; done) | (go_simp; with_reducible rfl)
                (try simp only [Act.put, List.getElem_toArray, List.getElem_cons_succ, List.getElem_cons_zero, List.setIfInBounds_toArray, List.set_cons_zero, List.set_cons_succ])
                refine wpAnyH_take (i := 1) (v := ?_) rfl (by kernel_rfl) (by kernel_rfl) (by kernel_rfl) (fun _ _ _ h => h) (Or.inl ⟨by rfl, ?_⟩) (by assumption) ?_
                rotate_left
                · intro w hSw; (try dsimp only at hSw); first | (go_simp; done) | (go_simp; with_reducible rfl)
                (try simp only [Act.put, List.getElem_toArray, List.getElem_cons_succ, List.getElem_cons_zero, List.setIfInBounds_toArray, List.set_cons_zero, List.set_cons_succ])
                refine wpAnyH_take (i := 2) (v := ?_) rfl (by kernel_rfl) (by kernel_rfl) (by kernel_rfl) (fun _ _ _ h => h) (Or.inl ⟨by rfl, ?_⟩) (by assumption) ?_
                rotate_left
                · intro w hSw; (try dsimp only at hSw); first | (go_simp; done) | (go_simp; with_reducible rfl)
                (try simp only [Act.put, List.getElem_toArray, List.getElem_cons_succ, List.getElem_cons_zero, List.setIfInBounds_toArray, List.set_cons_zero, List.set_cons_succ])
                refine wpAnyH_take (i := 3) (v := ?_) rfl (by kernel_rfl) (by kernel_rfl) (by kernel_rfl) (fun _ _ _ h => h) (Or.inl ⟨by rfl, ?_⟩) (by assumption) ?_
                rotate_left
                · intro w hSw; (try dsimp only at hSw); first | (go_simp; done) | (go_simp; with_reducible rfl)
                (try simp only [Act.put, List.getElem_toArray, List.getElem_cons_succ, List.getElem_cons_zero, List.setIfInBounds_toArray, List.set_cons_zero, List.set_cons_succ])
                refine wpAnyH_take (i := 4) (v := ?_) rfl (by kernel_rfl) (by kernel_rfl) (by kernel_rfl) (fun _ _ _ h => h) (Or.inl ⟨by rfl, ?_⟩) (by assumption) ?_
                rotate_left
                · intro w hSw; (try dsimp only at hSw); first | (go_simp; done) | (go_simp; with_reducible rfl)
                (try simp only [Act.put, List.getElem_toArray, List.getElem_cons_succ, List.getElem_cons_zero, List.setIfInBounds_toArray, List.set_cons_zero, List.set_cons_succ])
                refine wpAnyH_take (i := 5) (v := ?_) rfl (by kernel_rfl) (by kernel_rfl) (by kernel_rfl) (fun _ _ _ h => h) (Or.inl ⟨by rfl, ?_⟩) (by assumption) ?_
                rotate_left
                · intro w hSw; (try dsimp only at hSw); first | (go_simp; done) | (go_simp; with_reducible rfl)
                (try simp only [Act.put, List.getElem_toArray, List.getElem_cons_succ, List.getElem_cons_zero, List.setIfInBounds_toArray, List.set_cons_zero, List.set_cons_succ])
                refine wpAnyH_ready (rs := [6]) (by kernel_rfl) (by simp) ?_
                refine AllReadyH.cons rfl (fun K hK => ?_) AllReadyH.nil
                go_simp
                refine (Calls.mono HNS.out ?_)
                rintro e w7 ⟨rfl, hk7⟩
                have HK9 : Hid (Ok wr w7) := HDW.out.step hk7
                have d0 := ((HK2.out.step HOK.out).step HK9.out).cell (p := ⟨tb, o + k * 2, none⟩) HTB.out.1 HTB.out.2.1
                have d1 := ((HK2.out.step HOK.out).step HK9.out).cell (p := ⟨tb, o + k * 2 + 1, none⟩) HTB.out.1 HTB.out.2.2
                have HN : Hid (Ok w5 w7) := HKr.out.step HK9.out
                clear hk7
                go_wp2_with fail
                refine hK.out _ _ (by (try dsimp only); first | exact ⟨c0, c1⟩ | exact ⟨d0, d1⟩ | go_keep) (fun hHeld => ?_)
                clear hK K
                (try simp only [Act.put, List.getElem_toArray, List.getElem_cons_succ, List.getElem_cons_zero, List.setIfInBounds_toArray, List.set_cons_zero, List.set_cons_succ])
                refine wpAnyH_take (i := 7) (v := ?_) rfl (by kernel_rfl) (by kernel_rfl) (by kernel_rfl) (fun _ _ _ h => h) (Or.inl ⟨by rfl, ?_⟩) (by assumption) ?_
                rotate_left
                · intro w hSw; (try dsimp only at hSw); first | (go_simp; done) | (go_simp; with_reducible rfl)
                (try simp only [Act.put, List.getElem_toArray, List.getElem_cons_succ, List.getElem_cons_zero, List.setIfInBounds_toArray, List.set_cons_zero, List.set_cons_succ])
                refine wpAnyH_take (i := 8) (v := undef) rfl (by kernel_rfl) (by kernel_rfl) (by kernel_rfl) (fun _ _ _ h => h) (Or.inr ⟨by rfl, rfl⟩) (by assumption) ?_
                (try simp only [Act.put, List.getElem_toArray, List.getElem_cons_succ, List.getElem_cons_zero, List.setIfInBounds_toArray, List.set_cons_zero, List.set_cons_succ])
                refine wpAnyH_take (i := 9) (v := undef) rfl (by kernel_rfl) (by kernel_rfl) (by kernel_rfl) (fun _ _ _ h => h) (Or.inr ⟨by rfl, rfl⟩) (by assumption) ?_
                (try simp only [Act.put, List.getElem_toArray, List.getElem_cons_succ, List.getElem_cons_zero, List.setIfInBounds_toArray, List.set_cons_zero, List.set_cons_succ])
                refine wpAnyH_take (i := 10) (v := undef) rfl (by kernel_rfl) (by kernel_rfl) (by kernel_rfl) (fun _ _ _ h => h) (Or.inr ⟨by rfl, rfl⟩) (by assumption) ?_
                (try simp only [Act.put, List.getElem_toArray, List.getElem_cons_succ, List.getElem_cons_zero, List.setIfInBounds_toArray, List.set_cons_zero, List.set_cons_succ])
                refine wpAnyH_take (i := 11) (v := undef) rfl (by kernel_rfl) (by kernel_rfl) (by kernel_rfl) (fun _ _ _ h => h) (Or.inr ⟨by rfl, rfl⟩) (by assumption) ?_
                (try simp only [Act.put, List.getElem_toArray, List.getElem_cons_succ, List.getElem_cons_zero, List.setIfInBounds_toArray, List.set_cons_zero, List.set_cons_succ])
                refine wpAnyH_take (i := 12) (v := undef) rfl (by kernel_rfl) (by kernel_rfl) (by kernel_rfl) (fun _ _ _ h => h) (Or.inr ⟨by rfl, rfl⟩) (by assumption) ?_
                (try simp only [Act.put, List.getElem_toArray, List.getElem_cons_succ, List.getElem_cons_zero, List.setIfInBounds_toArray, List.set_cons_zero, List.set_cons_succ])
                refine wpAnyH_take (i := 13) (v := undef) rfl (by kernel_rfl) (by kernel_rfl) (by kernel_rfl) (fun _ _ _ h => h) (Or.inr ⟨by rfl, rfl⟩) (by assumption) ?_
                (try simp only [Act.put, List.getElem_toArray, List.getElem_cons_succ, List.getElem_cons_zero, List.setIfInBounds_toArray, List.set_cons_zero, List.set_cons_succ])
                refine wpAnyH_take (i := 14) (v := undef) rfl (by kernel_rfl) (by kernel_rfl) (by kernel_rfl) (fun _ _ _ h => h) (Or.inr ⟨by rfl, rfl⟩) (by assumption) ?_
                (try simp only [Act.put, List.getElem_toArray, List.getElem_cons_succ, List.getElem_cons_zero, List.setIfInBounds_toArray, List.set_cons_zero, List.set_cons_succ])
                refine wpAnyH_take (i := 15) (v := undef) rfl (by kernel_rfl) (by kernel_rfl) (by kernel_rfl) (fun _ _ _ h => h) (Or.inr ⟨by rfl, rfl⟩) (by assumption) ?_
                (try simp only [Act.put, List.getElem_toArray, List.getElem_cons_succ, List.getElem_cons_zero, List.setIfInBounds_toArray, List.set_cons_zero, List.set_cons_succ])
                refine wpAnyH_take (i := 16) (v := undef) rfl (by kernel_rfl) (by kernel_rfl) (by kernel_rfl) (fun _ _ _ h => h) (Or.inr ⟨by rfl, rfl⟩) (by assumption) ?_
                (try simp only [Act.put, List.getElem_toArray, List.getElem_cons_succ, List.getElem_cons_zero, List.setIfInBounds_toArray, List.set_cons_zero, List.set_cons_succ])
                refine wpAnyH_take (i := 17) (v := undef) rfl (by kernel_rfl) (by kernel_rfl) (by kernel_rfl) (fun _ _ _ h => h) (Or.inr ⟨by rfl, rfl⟩) (by assumption) ?_
                (try simp only [Act.put, List.getElem_toArray, List.getElem_cons_succ, List.getElem_cons_zero, List.setIfInBounds_toArray, List.set_cons_zero, List.set_cons_succ])
                refine wpAnyH_take (i := 18) (v := undef) rfl (by kernel_rfl) (by kernel_rfl) (by kernel_rfl) (fun _ _ _ h => h) (Or.inr ⟨by rfl, rfl⟩) (by assumption) ?_
                (try simp only [Act.put, List.getElem_toArray, List.getElem_cons_succ, List.getElem_cons_zero, List.setIfInBounds_toArray, List.set_cons_zero, List.set_cons_succ])
                refine wpAnyH_take (i := 19) (v := undef) rfl (by kernel_rfl) (by kernel_rfl) (by kernel_rfl) (fun _ _ _ h => h) (Or.inr ⟨by rfl, rfl⟩) (by assumption) ?_
                (try simp only [Act.put, List.getElem_toArray, List.getElem_cons_succ, List.getElem_cons_zero, List.setIfInBounds_toArray, List.set_cons_zero, List.set_cons_succ])
                refine wpAnyH_take (i := 20) (v := undef) rfl (by kernel_rfl) (by kernel_rfl) (by kernel_rfl) (fun _ _ _ h => h) (Or.inr ⟨by rfl, rfl⟩) (by assumption) ?_
                (try simp only [Act.put, List.getElem_toArray, List.getElem_cons_succ, List.getElem_cons_zero, List.setIfInBounds_toArray, List.set_cons_zero, List.set_cons_succ])
                refine wpAnyH_take (i := 21) (v := undef) rfl (by kernel_rfl) (by kernel_rfl) (by kernel_rfl) (fun _ _ _ h => h) (Or.inr ⟨by rfl, rfl⟩) (by assumption) ?_
                (try simp only [Act.put, List.getElem_toArray, List.getElem_cons_succ, List.getElem_cons_zero, List.setIfInBounds_toArray, List.set_cons_zero, List.set_cons_succ])
                refine wpAnyH_take (i := 22) (v := undef) rfl (by kernel_rfl) (by kernel_rfl) (by kernel_rfl) (fun _ _ _ h => h) (Or.inr ⟨by rfl, rfl⟩) (by assumption) ?_
                (try simp only [Act.put, List.getElem_toArray, List.getElem_cons_succ, List.getElem_cons_zero, List.setIfInBounds_toArray, List.set_cons_zero, List.set_cons_succ])
                refine wpAnyH_take (i := 23) (v := ?_) rfl (by kernel_rfl) (by kernel_rfl) (by kernel_rfl) (fun _ _ _ h => h) (Or.inl ⟨by rfl, ?_⟩) (by assumption) ?_
                rotate_left
                · intro w hSw; (try dsimp only at hSw); first | (go_simp; done) | (go_simp; with_reducible rfl)
                (try simp only [Act.put, List.getElem_toArray, List.getElem_cons_succ, List.getElem_cons_zero, List.setIfInBounds_toArray, List.set_cons_zero, List.set_cons_succ])
                refine wpAnyH_done (by kernel_rfl) ?_ _
                all_goals
                  go_wp2_with fail
                  go_roundw
                  case rel => exact ⟨k + 1, hk1, rfl, HN⟩
                  case measure => exact meas hk1
            · have hk2 : ¬ (k : Int) < (120 : Int) := (by have h := cast_nlt hk1; rw [HML.out] at h; exact h)
              have HKe : Hid (Ok w wr) := (HK2.out.step HFX.out.1.1).step HKr.out
              go_wp2_with (first
                | (go_at_call 8; refine (Calls.mono (taken_any _) ?_); rintro e w3 ⟨rfl, hk⟩; have HK3 : Hid (Ok w w3) := HKe.out.step hk; clear hk)
                | fail)
              go_ret
              exact ⟨rfl, HK3.out⟩
end Go.Proofs.Ytbakinibehhfnaa
