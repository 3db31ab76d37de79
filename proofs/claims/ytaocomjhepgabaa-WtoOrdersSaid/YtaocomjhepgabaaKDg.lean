import Derived.Deep.LoopGhost
import Derived.Test.YtaocomjhepgabaaKDh
set_option linter.unusedVariables false
set_option linter.unusedSimpArgs false
set_option linter.unnecessarySimpa false
/- Dg -/
namespace Go.Proofs.Ytaocomjhepgabaa
open Go.RowKit Go.Maps Go.ChangeShapes Go.WideShapes
theorem grown_none_some {w w' : World} {b : Nat} (h : w.grownBy w' none) : w.grownBy w' (some b) := ⟨h.os, h.tape, h.output, h.size, fun k hk _ => h.block k hk (by simp)⟩
set_option maxRecDepth 100000 in
set_option maxHeartbeats 16000000 in
theorem rvisit_any {D : DV} {succ : Int → List Int} {U : List Int} {n : Nat} (G : GS succ U) (hD : DOk D succ) (hV : VisOk D succ U n) {T : St Int} {v : Int} (hI : Inv succ U T) (hN : InvN T) (hmu : mu U T.marks ≤ n) (hvU : v ∈ U) (hv0 : T.marks v = 0) {R : Nat → Prop} {w : World} {sv lv : Value} {A : List (Int × Nat × Bool)} {q : Nat} (hR : ∀ b, R b → b < w.heap.size) (hvs : VS D w T sv) (hpl : PL w D.W0.heap.size (KK D R w sv) q lv T.depth A) (hA : A.length ≤ T.list.length) :
    Calls Try.prog 21 #[.pointer (some ⟨D.M, 0, none⟩), .int .i64 v, lv] w (VisPost D succ U R T v A w sv) := by
  have gT := gd_of G.g hI hN hvU hv0
  have HG : Hid (GS succ U) := G
  have HD : Hid (DOk D succ) := hD
  have HV : Hid (VisOk D succ U n) := hV
  have HT : Hid (Gd T ∧ mu U T.marks ≤ n ∧ v ∈ U ∧ T.marks v = 0 ∧ Inv succ U T ∧ InvN T) := ⟨gT, hmu, hvU, hv0, hI, hN⟩
  have HIN : Hid (in64 v) := G.i64 v hvU
  have HR : Hid (∀ b, R b → b < w.heap.size) := hR
  have HA : Hid (A.length ≤ T.list.length) := hA
  have HVS : Hid (VS D w T sv) := hvs
  have HPL : Hid (PL w D.W0.heap.size (KK D R w sv) q lv T.depth A) := hpl
  obtain ⟨lo, ln, lc, rfl⟩ := hpl.sl
  have hcnt : T.count ≤ 1000000000 := G.cnt hI
  obtain ⟨cn, hcn⟩ : ∃ cn, cn = T.count + 1 := ⟨_, rfl⟩
  have hcw : IntKind.i64.wrap ((T.count : Int) + 1) = (cn : Int) := wrap_nat (by omega) (by omega)
  have hmkc : mkv (T.count + 1) = (cn : Int) := by rw [mkv_num (by have := gT.sm; omega), hcn]
  have HCN : Hid (cn = T.count + 1 ∧ mkv (T.count + 1) = (cn : Int) ∧ in64 (cn : Int)) := ⟨hcn, hmkc, by unfold in64; omega⟩
  have HST : Hid (T.stack.length + 1 ≤ maxLen ∧ (T.stack.length + 1) * 8 ≤ 140737488355328) := by have := hI.stl; unfold Hid maxLen; omega
  have HCNT : Hid (T.count ≤ 1000000000) := hcnt
  obtain ⟨m0, m1, m2, m3, m4, m5⟩ := hvs.cells
  have hMl := hvs.lt.1
  have hW0 : D.W0.heap.size ≤ w.heap.size := hvs.hw
  obtain ⟨so, sc, hsv⟩ := own_form hvs.st
  subst hsv
  obtain ⟨i0, hi0, hy0, hy1, hy2⟩ := info_of Try.info3
  clear gT G hD hV hI hN hmu hvU hv0 hR hvs hpl hA hcnt hcn hmkc
  go_enter Try.func21, Try.ntmps21
  go_wp2_with (first
    | (at_builtin; refine wpList_append_lies _ rfl _ _ 32 rfl D.W0.heap.size 3 i0 _ 1 8 Try.underlying32 hi0 hy0 hy1 hy2 rfl (by decide) _ T.stack.length (stkI T.stack) (by rfl) (World.ownsRow.alloc HVS.out.st _) ⟨w.heap.size, 0, none⟩ 1 1 [.int .i64 v] (by rfl) rfl (by intro j u hj; exact news_row (heap_at _ _ _ (by simp)) j u hj) (by simp [Value.oneCell']) (by decide) HST.out.1 HST.out.2 (by simp; omega) (w.heap.size + 1) (by simp) ?_; intro gg capg w4 hown4 hgrow hat4 hlt4; have hpush := HVS.out.pushed HD.out hgrow hown4 (hat4.imp (fun e => e) (fun e => ⟨gg, rfl, e⟩)) cn; have HM4 : Hid _ := hpush.1; have HVSM : Hid _ := hpush.2.1; have HFR4 : Hid _ := hpush.2.2; clear hpush hown4 hgrow hat4 m0 m1 m2 m3 m4 m5 hMl; obtain ⟨m0, m1, m2, m3, m4, m5⟩ := row4_facts HM4.out; have hMl := lt_row HM4.out)
    | fail)
  obtain ⟨Z, hZ⟩ : ∃ Z, Z = ((w4.setCell ⟨D.M, 3, none⟩ (.slice (some ⟨gg, 0, none⟩) (T.stack.length + 1) capg)).setCell ⟨D.M, 2, none⟩ (.int .i64 (cn : Nat))) := ⟨_, rfl⟩
  rw [← hZ] at HVSM HFR4 ⊢
  clear hZ m0 m1 m2 m3 m4 m5 hMl HM4
  obtain ⟨N, K, hNK, hVM⟩ := HVSM.out.mm
  obtain ⟨w5, hrun5, hm5, hg5⟩ := (hVM.ok (w' := Z.drew) (Below.drew (Below.refl _ _))).put HIN.out.1 HIN.out.2 HCN.out.2.2.1 HCN.out.2.2.2 (by have := HCNT.out; unfold maxLen; omega)
  have hfin : VS D w5 (visit succ v T) (.slice (some ⟨gg, 0, none⟩) (T.stack.length + 1) capg) ∧ Fr D Z (.slice (some ⟨gg, 0, none⟩) (T.stack.length + 1) capg) w5 (.slice (some ⟨gg, 0, none⟩) (T.stack.length + 1) capg) := by
    refine VSm.marked (K := K) (by rw [← HCN.out.1]; exact HVSM.out) HD.out hNK ?_ (World.grownBy.trans (grown_none_some (grown_below (Below.drew (Below.refl _ _)))) hg5)
    rw [HCN.out.2.1]; exact hm5
  have HV5 : Hid _ := hfin.1
  have HF5 : Hid (Fr D w (.slice so T.stack.length sc) w5 (.slice (some ⟨gg, 0, none⟩) (T.stack.length + 1) capg)) := HFR4.out.trans hfin.2
  clear hfin hm5 hg5 hNK hVM
  obtain ⟨m0, m1, m2, m3, m4, m5⟩ := row4_facts HVSM.out.mr
  have hMl := lt_row HVSM.out.mr
  obtain ⟨n0, n1, n2, n3, n4, n5⟩ := HV5.out.cells
  have n2' : w5.cell? ⟨D.M, 2, none⟩ = some (.int .i64 (cn : Nat)) := by rw [n2]; show some (Value.int .i64 ((T.count + 1 : Nat) : Int)) = _; rw [← HCN.out.1]
  clear n2
  go_region_held3 (fun w' => w'.cell? ⟨D.M, 1, none⟩ = some (.map (some D.bm)) ∧ w'.cell? ⟨D.M, 2, none⟩ = some (.int .i64 (cn : Nat))) (go_keep)
    (first | fail)
  clear hrun5 m0 m1 m2 m3 m4 m5 hMl n0 n1 n3 n4 n5
  have hMl : D.M < w5.heap.size := HV5.out.lt.1
  have HVI0 : Hid (VI D succ U R T v A w (.slice so T.stack.length sc) 0 0 cn false [] [] (.slice lo ln lc) (.slice (some ⟨gg, 0, none⟩) (T.stack.length + 1) capg) q w5) := by
    refine ⟨?_, HT.out.2.2.2.2.1.visit HG.out.g HT.out.2.2.1 HT.out.2.2.2.1, ?_, HV5.out, HPL.out.fr HD.out HF5.out, HF5.out⟩
    · rw [HCN.out.1]; exact mid_start (succ := succ) HT.out.2.2.2.1
    · intro x
      show upd T.marks v (T.count + 1) x = 0 ∨ upd T.marks v (T.count + 1) x = DONE ∨ x ∈ v :: T.stack
      unfold upd
      by_cases e : x = v
      · exact Or.inr (Or.inr (by rw [e]; exact List.mem_cons_self))
      · rw [if_neg e]
        rcases HT.out.2.2.2.2.2 x with h | h | h
        · exact Or.inl h
        · exact Or.inr (Or.inl h)
        · exact Or.inr (Or.inr (List.mem_cons_of_mem _ h))
  obtain ⟨Lv, hLv⟩ : ∃ Lv, Lv = succ v := ⟨_, rfl⟩
  have HLv : Hid (Lv = succ v) := hLv
  have HSL : Hid (Lv.length ≤ 10000) := by unfold Hid; rw [hLv]; exact HG.out.sl v
  clear hLv
  go_wp2_with fail
  clear n2'
  go_loopw [2, 8, 9, 10, 11, 12] (fun l h p i x y wr => ∃ (k : Nat) (ao : Option Addr) (nn c hh : Nat) (lp : Bool), k ≤ Lv.length ∧ l = .slice ao nn c ∧ h = .int .i64 (hh : Nat) ∧ p = .bool lp ∧ i = .int .i64 (k : Nat) ∧ Hid (∃ kk s l sv' q, VI D succ U R T v A w (.slice so T.stack.length sc) k kk hh lp s l (.slice ao nn c) sv' q wr)) (fun _ _ _ i _ _ _ => ((Lv.length : Int) - intOf i).toNat)
  case atStart => exact ⟨0, lo, ln, lc, cn, false, Nat.zero_le _, rfl, rfl, rfl, rfl, ⟨0, [], [], _, q, HVI0.out⟩⟩
  case round =>
    obtain ⟨k, ao, nn, c, hh, lp, hk, rfl, rfl, rfl, rfl, HJ⟩ := hrel
    obtain ⟨kk, s, l, sv', q', hvi⟩ := HJ.out
    have HVI : Hid (VI D succ U R T v A w (.slice so T.stack.length sc) k kk hh lp s l (.slice ao nn c) sv' q' wr) := hvi
    clear hvi HJ hMl
    obtain ⟨m0, m1, m2, m3, m4, m5⟩ := HVI.out.vs.cells
    obtain ⟨to, tc, hto0, hrow⟩ := HVI.out.vs.look HD.out HIN.out
    rw [← HLv.out] at hto0 hrow
    have hto := hto0 wr rfl
    clear hto0
    have HROW : Hid _ := hrow
    have hMl : D.M < wr.heap.size := HVI.out.vs.lt.1
    clear hrow m2 m3 m4 m5
    by_cases hkl : k < Lv.length
    · have hkl' : (k : Int) < (Lv.length : Int) := cast_lt' hkl
      have hkw : IntKind.i64.wrap ((k : Int) + 1) = ((k + 1 : Nat) : Int) := kw_bnd (by have := HSL.out; omega)
      obtain ⟨u, hu⟩ : ∃ u, Lv[k]? = some u := ⟨Lv[k], List.getElem?_eq_getElem hkl⟩
      obtain ⟨g, hg, hgl, hgc⟩ := HROW.out (fun e => by rw [e] at hkl; cases hkl)
      subst hg
      have c0 := hgc k u hu
      clear hgc
      have HU : Hid ((succ v)[k]? = some u) := by unfold Hid; rw [← HLv.out]; exact hu
      have huU : u ∈ U := HG.out.g.cl v HT.out.2.2.1 u (List.mem_of_getElem? HU.out)
      have hmk := HVI.out.vs.mark (HG.out.i64 u huU)
      clear huU hu
      have hle := HVI.out.m.le
      by_cases h0 : (iter succ kk (visit succ v T)).marks u = 0
      · rw [h0, mkv_zero] at hmk
        have HCALL : Hid (∀ _ : Unit, Calls Try.prog 21 #[.pointer (some ⟨D.M, 0, none⟩), .int .i64 u, .slice ao nn c] wr (fun e w' => ∃ (low : Nat) (kk' : Nat) (s' : List Int) (l' : List (Int × Nat × Bool)) (lv' sv'' : Value) (q' : Nat), e = .returned (.tuple #[.int .i64 (low : Nat), lv']) ∧ (low ≤ hh → VI D succ U R T v A w (.slice so T.stack.length sc) (k + 1) kk' low true s' l' lv' sv'' q' w') ∧ (hh < low → VI D succ U R T v A w (.slice so T.stack.length sc) (k + 1) kk' hh lp s' l' lv' sv'' q' w') ∧ IsSl lv')) := fun _ => HVI.out.call HG.out HT.out.1 HV.out HT.out.2.1 HT.out.2.2.1 HR.out HA.out HU.out h0
        clear h0 hle
        go_wp2_with fail
        refine Calls.mono (HCALL.out ()) ?_
        rintro e w2 ⟨low, kk2, s2, l2, lv2, sv2, q2, rfl, hc1, hc2, hsl2⟩
        obtain ⟨ao2, n2, c2, rfl⟩ := hsl2
        have HC1 : Hid _ := hc1
        have HC2 : Hid _ := hc2
        clear hc1 hc2
        by_cases hyl : low ≤ hh
        · have hyl' : (low : Int) ≤ (hh : Int) := by omega
          have HN : Hid _ := HC1.out hyl
          clear hyl HC1 HC2
          go_wp2_with fail
          go_roundw
          case rel => exact ⟨k + 1, ao2, n2, c2, low, true, hkl, rfl, rfl, rfl, rfl, ⟨kk2, s2, l2, sv2, q2, HN.out⟩⟩
          case measure => exact meas hkl
        · have hyl' : ¬ (low : Int) ≤ (hh : Int) := by omega
          have HN : Hid _ := HC2.out (by omega)
          clear hyl HC1 HC2
          go_wp2_with fail
          go_roundw
          case rel => exact ⟨k + 1, ao2, n2, c2, hh, lp, hkl, rfl, rfl, rfl, rfl, ⟨kk2, s2, l2, sv2, q2, HN.out⟩⟩
          case measure => exact meas hkl
      · have hne : (mkv ((iter succ kk (visit succ v T)).marks u) == 0) = false := by
          rw [beq_eq_false_iff_ne]; exact fun e => h0 (mkv_eq0.1 e)
        by_cases h1 : (iter succ kk (visit succ v T)).marks u = DONE
        · have HN : Hid _ := (HVI.out.heard HG.out HT.out.1 HU.out h0).2 (by rw [h1]; have := HT.out.1.sm; omega)
          rw [h1, mkv_done] at hmk
          clear h0 h1 hne hle
          go_wp2_with fail
          go_roundw
          case rel => exact ⟨k + 1, ao, nn, c, hh, lp, hkl, rfl, rfl, rfl, rfl, ⟨kk + 1, s, l, sv', q', HN.out⟩⟩
          case measure => exact meas hkl
        · have hnum : mkv ((iter succ kk (visit succ v T)).marks u) = ((iter succ kk (visit succ v T)).marks u : Int) := by unfold mkv; rw [if_neg h1]
          have HB : Hid _ := HVI.out.heard HG.out HT.out.1 HU.out h0
          rw [hnum] at hmk
          obtain ⟨y, hy⟩ : ∃ y, y = (iter succ kk (visit succ v T)).marks u := ⟨_, rfl⟩
          rw [← hy] at hmk HB
          have hy0 : ((y : Int) == 0) = false := by rw [beq_eq_false_iff_ne]; rw [hy]; omega
          have hy1 : ((y : Int) == -1) = false := by rw [beq_eq_false_iff_ne]; omega
          clear hy h0 h1 hne hle hnum
          by_cases hyl : y ≤ hh
          · have hyl' : (y : Int) ≤ (hh : Int) := by omega
            have HN : Hid _ := HB.out.1 hyl
            clear hyl
            go_wp2_with fail
            go_roundw
            case rel => exact ⟨k + 1, ao, nn, c, y, true, hkl, rfl, rfl, rfl, rfl, ⟨kk + 1, s, l, sv', q', HN.out⟩⟩
            case measure => exact meas hkl
          · have hyl' : ¬ (y : Int) ≤ (hh : Int) := by omega
            have HN : Hid _ := HB.out.2 (by omega)
            clear hyl
            go_wp2_with fail
            go_roundw
            case rel => exact ⟨k + 1, ao, nn, c, hh, lp, hkl, rfl, rfl, rfl, rfl, ⟨kk + 1, s, l, sv', q', HN.out⟩⟩
            case measure => exact meas hkl
    · have hkl' : ¬ (k : Int) < (Lv.length : Int) := cast_nlt hkl
      have hke : k = Lv.length := by omega
      have hm := HVI.out.m
      rw [hke, HLv.out, List.drop_length] at hm
      have HM : Hid (Mid succ T v (iter succ kk (visit succ v T)) [] hh lp s l) := hm
      clear hm hke hkl
      have hmk := HVI.out.vs.mark HIN.out
      rw [HM.out.vm, HCN.out.2.1] at hmk
      by_cases hhe : hh = cn
      · subst hhe
        have hcnt2 := HG.out.cnt HVI.out.i
        obtain ⟨N, K, hNK, hVM⟩ := HVI.out.vs.mm
        obtain ⟨w6, hrun6, hm6, hg6⟩ := hVM.put HIN.out.1 HIN.out.2 (y := -1) (by decide) (by decide) (by unfold maxLen; omega)
        have hmk6 := VSe.marked (e' := 1) (k := DONE) HVI.out.vs HD.out (N := N) (K := K) (v := v) (by omega) (by rw [mkv_done]; exact hm6) hg6
        have hstk := HM.out.stack
        have HPI0 : Hid (PI D R (iter succ kk (visit succ v T)) v lp (l ++ A) T.depth (.slice ao nn c) q' w (.slice so T.stack.length sc) (iter succ kk (visit succ v T)).stack (iter succ kk (visit succ v T)).marks sv' w6) := by
          refine ⟨by rw [hstk]; simp, rfl, fun e => ?_, hmk6.1, HVI.out.pl.fr HD.out hmk6.2, HVI.out.fr.trans hmk6.2⟩
          have := HM.out.lp0 HCN.out.1 e
          rw [hstk, this]; exact ⟨_, rfl⟩
        obtain ⟨g0, cap0, hsv0⟩ : ∃ g cap, sv' = .slice (some ⟨g, 0, none⟩) (iter succ kk (visit succ v T)).stack.length cap := by
          obtain ⟨u1, t1, ht1⟩ : ∃ u1 t1, (iter succ kk (visit succ v T)).stack = u1 :: t1 := by
            rw [hstk]; cases s with
            | nil => exact ⟨_, _, rfl⟩
            | cons a b => exact ⟨_, _, rfl⟩
          obtain ⟨g, cap, e, _⟩ := HVI.out.vs.top ht1
          exact ⟨g, cap, by rw [e, ht1]; rfl⟩
        rw [hsv0] at HPI0
        have HCNT2 : Hid ((iter succ kk (visit succ v T)).count ≤ 1000000000) := hcnt2
        have HSTK : Hid (∀ x ∈ (iter succ kk (visit succ v T)).stack, in64 x) := fun x hx => HG.out.i64 x (HVI.out.i.stk x hx).1
        clear hcnt2 hNK hVM hm6 hg6 hmk6 hstk hsv0
        go_wp2_with fail
        clear hrun6 m0 m1 hMl hto hmk HROW
        obtain ⟨Wo, hWo⟩ : ∃ W, W = wr := ⟨_, rfl⟩
        subst hWo
        go_loopg [13] (iter succ kk (visit succ v T)).stack.length (fun gk u wr => ∃ (t : List Int) (m : Int → Nat) (g cap : Nat), gk = t.length ∧ Hid (PI D R (iter succ kk (visit succ v T)) v lp (l ++ A) T.depth (.slice ao nn c) q' w (.slice so T.stack.length sc) t m (.slice (some ⟨g, 0, none⟩) t.length cap) wr ∧ ∀ x ∈ t, in64 x))
        case atStart => exact ⟨_, _, g0, cap0, rfl, ⟨HPI0.out, HSTK.out⟩⟩
        case round =>
          obtain ⟨t, m, g, cap, hgk, HP⟩ := hrel
          obtain ⟨u, s', ht⟩ : ∃ u s', t = u :: s' := by
            cases t with
            | nil => exact absurd HP.out.1.vt (by simp)
            | cons a b => exact ⟨a, b, rfl⟩
          subst ht
          obtain ⟨y, hy⟩ : ∃ y, y = s'.length := ⟨_, rfl⟩
          obtain ⟨n1, hn1⟩ : ∃ n1, n1 = (u :: s').length := ⟨_, rfl⟩
          have hn1' : n1 = s'.length + 1 := hn1
          have HGK : Hid (gk = s'.length + 1) := hgk
          have HIU : Hid (in64 u ∧ ∀ x ∈ s', in64 x) := ⟨HP.out.2 u List.mem_cons_self, fun x hx => HP.out.2 x (List.mem_cons_of_mem _ hx)⟩
          have HPI : Hid (PI D R (iter succ kk (visit succ v T)) v lp (l ++ A) T.depth (.slice ao nn c) q' w (.slice so T.stack.length sc) (u :: s') m (.slice (some ⟨g, 0, none⟩) (s'.length + 1) cap) wr) := HP.out.1
          obtain ⟨m0, m1, m2, m3, m4, m5⟩ := HPI.out.vs.cells
          obtain ⟨c0, p1, p2, p3, p4⟩ := HPI.out.cells
          have hMl : D.M < wr.heap.size := HPI.out.vs.lt.1
          rw [← hy] at c0
          rw [← hn1'] at m3
          have hyn : y < n1 := by omega
          have hyn' : (y : Int) < (n1 : Int) := by omega
          have hyc : y ≤ cap := by omega
          have hmx := p2
          unfold maxLen at hmx
          have hyw : IntKind.i64.wrap ((n1 : Int) - 1) = (y : Int) := wrap_nat (by omega) (by omega)
          have HY : Hid (y = s'.length ∧ n1 = s'.length + 1) := ⟨hy, hn1'⟩
          have hMg : D.M ≠ g := by have := HD.out.uM; have := HD.out.ub; omega
          clear hgk hn1 hn1' hy HP m2 m4
          go_wp2_with fail
          go_quiet (fail)
          go_wp2_with fail
          go_region
          obtain ⟨X, hX⟩ : ∃ X, X = wr.drewN (nq + 1) := ⟨_, rfl⟩
          have hbX : Below wr.heap.size wr X := by rw [hX]; exact (Ok.refl wr).draws _
          rw [← hX]
          clear hX m0 m1 m3 m5 hMl c0 p1 p2 p3 p4 hyn hyn' hyc hmx hyw hMg
          have hyy := HY.out.1
          subst hyy
          have HPX : Hid (PI D R (iter succ kk (visit succ v T)) v lp (l ++ A) T.depth (.slice ao nn c) q' w (.slice so T.stack.length sc) (u :: s') m (.slice (some ⟨g, 0, none⟩) (s'.length + 1) cap) X) := HPI.out.below HD.out hbX
          clear hbX HPI
          have hMl : D.M < X.heap.size := HPX.out.vs.lt.1
          by_cases huv : u = v
          · subst huv
            have HPE : Hid (PE D R (iter succ kk (visit succ u T)) u (l ++ A) T.depth (.slice ao nn c) q' w (.slice so T.stack.length sc) (.slice (some ⟨g, 0, none⟩) s'.length cap) (X.setCell ⟨D.M, 3, none⟩ (.slice (some ⟨g, 0, none⟩) s'.length cap))) := HPX.out.done HD.out
            obtain ⟨Y, hY⟩ : ∃ Y, Y = X.setCell ⟨D.M, 3, none⟩ (.slice (some ⟨g, 0, none⟩) s'.length cap) := ⟨_, rfl⟩
            rw [← hY] at HPE ⊢
            clear hY hMl HPX
            have HLL : Hid ((l ++ A).length ≤ 1000000000000) := by
              have h1 := HVI.out.i.len
              have h2 := HCNT2.out
              rw [HM.out.list, List.length_append] at h1
              have := HA.out
              unfold Hid; rw [List.length_append]; omega
            cases lp with
            | true =>
              have HVI' : Hid (VI D succ U R T u A w (.slice so T.stack.length sc) k kk (T.count + 1) true s l (.slice ao nn c) sv' q' Wo) := by unfold Hid; rw [← HCN.out.1]; exact HVI.out
              have HM' : Hid (Mid succ T u (iter succ kk (visit succ u T)) [] (T.count + 1) true s l) := by unfold Hid; rw [← HCN.out.1]; exact HM.out
              go_wp2_with fail
              refine Calls.mono (comp_call HG.out HT.out.1 HD.out HV.out HT.out.2.1 HT.out.2.2.1 HR.out HVI'.out HM'.out HPE.out) ?_
              rintro e w3 ⟨k2, l2, In, sv3, q3, m3, i3, n3, rfl, v3, p3, f3⟩
              obtain ⟨ai, ni, ci, rfl⟩ := p3.sl
              have HE : Hid _ := And.intro m3 (And.intro i3 (And.intro n3 (And.intro v3 f3)))
              have hpl := (HPE.out.pl.fr HD.out f3).ups (Nat.le_max_left q' q3)
              have hpi := p3.ups (Nat.le_max_right q' q3)
              have hRR : ∀ b, R b → b < w3.heap.size := fun b hb => by have h1 := HR.out b hb; have h2 := HPE.out.fr.size; have h3 := f3.size; omega
              have HF : Hid (∀ _ : Unit, Calls Try.prog 34 #[.agg #[.int .i64 u, .bool true, .slice ai ni ci], .slice ao nn c] w3 fun e w' => ∃ v', e = .returned v' ∧ Ok w3 w' ∧ PL w' D.W0.heap.size (KK D R w' sv3) (max q' q3 + 1) v' T.depth (((u, T.depth + 1, true) :: l2) ++ (l ++ A))) := fun _ => (front_any hpl v3.hw (fun b hb => hb.2.1) HLL.out (u, true, .slice ai ni ci, (u, T.depth + 1, true) :: l2) ⟨_, _, _, rfl⟩ (fun h => by cases h) (fun _ => ⟨l2, hpi, rfl⟩)).mono (fun e w' ⟨v', h1, h2, h3⟩ => ⟨v', h1, h2, PL.fresh v3 hRR h2 h3⟩)
              clear m3 i3 n3 v3 f3 hpl hpi hRR p3
              go_wp2_with (go_at_call 34; refine Calls.mono (HF.out ()) ?_; rintro e w9 ⟨lv9, rfl, hb9, hp9⟩; have HB9 : Hid (Ok w3 w9) := hb9; have HP9 : Hid (PL w9 D.W0.heap.size (KK D R w9 sv3) (max q' q3 + 1) lv9 T.depth (((u, T.depth + 1, true) :: l2) ++ (l ++ A))) := hp9; clear hb9 hp9)
              go_ret2
              have := comp_end HG.out HT.out.1 HD.out HVI'.out HPE.out HE.out.1 HE.out.2.1 HE.out.2.2.1 HE.out.2.2.2.1 HE.out.2.2.2.2 HB9.out HP9.out
              rw [← HCN.out.1] at this
              exact this
            | false =>
              have HVI' : Hid (VI D succ U R T u A w (.slice so T.stack.length sc) k kk (T.count + 1) false s l (.slice ao nn c) sv' q' Wo) := by unfold Hid; rw [← HCN.out.1]; exact HVI.out
              have HM' : Hid (Mid succ T u (iter succ kk (visit succ u T)) [] (T.count + 1) false s l) := by unfold Hid; rw [← HCN.out.1]; exact HM.out
              have hRR : ∀ b, R b → b < Y.heap.size := fun b hb => by have h1 := HR.out b hb; have h2 := HPE.out.fr.size; omega
              have HF : Hid (∀ _ : Unit, Calls Try.prog 34 #[.agg #[.int .i64 u, .bool false, .slice none 0 0], .slice ao nn c] Y fun e w' => ∃ v', e = .returned v' ∧ Ok Y w' ∧ PL w' D.W0.heap.size (KK D R w' (.slice (some ⟨g, 0, none⟩) s'.length cap)) (q' + 1) v' T.depth ([(u, T.depth, false)] ++ (l ++ A))) := fun _ => (front_any HPE.out.pl HPE.out.vs.hw (fun b hb => hb.2.1) HLL.out (u, false, .slice none 0 0, [(u, T.depth, false)]) ⟨_, _, _, rfl⟩ (fun _ => rfl) (fun h => by cases h)).mono (fun e w' ⟨v', h1, h2, h3⟩ => ⟨v', h1, h2, PL.fresh HPE.out.vs hRR h2 h3⟩)
              clear hRR
              go_wp2_with (go_at_call 34; refine Calls.mono (HF.out ()) ?_; rintro e w9 ⟨lv9, rfl, hb9, hp9⟩; have HB9 : Hid (Ok Y w9) := hb9; have HP9 : Hid (PL w9 D.W0.heap.size (KK D R w9 (.slice (some ⟨g, 0, none⟩) s'.length cap)) (q' + 1) lv9 T.depth ([(u, T.depth, false)] ++ (l ++ A))) := hp9; clear hb9 hp9)
              go_ret2
              have := alone_end HG.out HT.out.1 HVI'.out HM'.out HPE.out HD.out HB9.out HP9.out
              rw [← HCN.out.1] at this
              exact this
          · have huv' : ((u : Int) == (v : Int)) = false := by rw [beq_eq_false_iff_ne]; exact huv
            cases lp with
            | false =>
              obtain ⟨t', ht'⟩ := HPX.out.top rfl
              injection ht' with ht' _
              exact absurd ht' huv
            | true =>
              obtain ⟨w7, hrun7, hpi7⟩ := HPX.out.pop HD.out huv HIU.out.1 HCNT2.out
              have HP7 : Hid _ := hpi7
              obtain ⟨m0, m1, m2, m3, m4, m5⟩ := HPX.out.vs.cells
              clear hpi7 huv
              go_wp2_with fail
              go_roundg s'.length
              case measure => rw [HGK.out]; omega
              case rel => exact ⟨s', _, g, cap, rfl, ⟨HP7.out, HIU.out.2⟩⟩
      · have hhe' : ((hh : Int) == (cn : Int)) = false := by rw [beq_eq_false_iff_ne]; omega
        have HHE : Hid (hh ≠ T.count + 1) := by unfold Hid; rw [← HCN.out.1]; exact hhe
        clear hhe
        go_wp2_with fail
        go_ret2
        exact HVI.out.open_ HG.out HT.out.1 HM.out HHE.out
end Go.Proofs.Ytaocomjhepgabaa
