import Derived.Test.YtbakinibehhfnaaWhm
import Derived.Test.YtbakinibehhfnaaWfh
import Derived.Test.YtbakinibehhfnaaWbt
import Derived.Deep.LoopGhost
set_option linter.unusedVariables false
set_option linter.unusedSimpArgs false
set_option linter.unnecessarySimpa false
/- winnowlaw10.reached: what a root reaches: contract. -/
namespace Go.Proofs.Ytbakinibehhfnaa
open Go.RowKit Go.Maps
def cntN (ars : List (Int × Int)) (ks : List Int) : Nat := ars.countP (fun a => decide (a.2 ∉ ks))
def ClosedK (ars : List (Int × Int)) (ks : List Int) : Prop := ∀ x ∈ ars, x.1 ∈ ks → x.2 ∈ ks
structure RI (w wr : World) (ars : List (Int × Int)) (root : Int) (ks : List Int) : Prop where
  ok : Ok w wr
  mp : BMap wr w.heap.size ks.length ks
  rt : root ∈ ks
  nd : ks.Nodup
  rc : ∀ P : Int → Prop, P root → (∀ x ∈ ars, P x.1 → P x.2) → ∀ v ∈ ks, P v
  bd : ks.length + cntN ars ks ≤ ars.length + 1
theorem cntN_lt {ars : List (Int × Int)} {ks : List Int} {x : Int × Int} (hx : x ∈ ars) (h2 : x.2 ∉ ks) : cntN ars (ks ++ [x.2]) < cntN ars ks := by
  refine cp_lt (fun a ha => ?_) hx (by simpa using h2) (by simp)
  simp only [decide_eq_true_eq, List.mem_append, not_or] at ha ⊢
  exact ha.1
theorem RI.add {w wr w' : World} {ars : List (Int × Int)} {root : Int} {ks : List Int} (h : RI w wr ars root ks) {x : Int × Int} (hx : x ∈ ars) (h1 : x.1 ∈ ks) (h2 : x.2 ∉ ks) (hm : BMap w' w.heap.size (ks.length + 1) (addK ks x.2)) (hg : wr.grownBy w' (some w.heap.size)) :
    RI w w' ars root (ks ++ [x.2]) where
  ok := Below.grown h.ok hg h.ok.le (fun k e => by injection e with e; omega)
  mp := by
    unfold addK at hm
    rw [if_neg h2] at hm
    rw [List.length_append]
    exact hm
  rt := List.mem_append_left _ h.rt
  nd := by
    rw [List.nodup_append]
    exact ⟨h.nd, by simp, fun a ha b hb e => by simp at hb; exact h2 (by rw [← hb, ← e]; exact ha)⟩
  rc := fun P h0 hc v hv => by
    rcases List.mem_append.1 hv with hv | hv
    · exact h.rc P h0 hc v hv
    · simp at hv; rw [hv]; exact hc x hx (h.rc P h0 hc _ h1)
  bd := by
    have := cntN_lt hx h2
    have := h.bd
    rw [List.length_append]
    simp only [List.length_singleton]
    omega
set_option maxHeartbeats 4000000 in
theorem reached_any {w : World} {ro : Option Addr} {cap : Nat} {ars : List (Int × Int)} {root : Int} (hs : SAr w ro ars) (hr0 : -9223372036854775808 ≤ root) (hr1 : root ≤ 9223372036854775807) (hin : ∀ x ∈ ars, in64 x.1 ∧ in64 x.2) (hl : ars.length ≤ 1000) :
    Calls Try.prog 11 #[.slice ro ars.length cap, .int .i64 root] w fun e w' => e = .returned (.map (some w.heap.size)) ∧ ∃ ks, RI w w' ars root ks ∧ ClosedK ars ks := by
  have hmm := @run_makeMap Try.prog
  obtain ⟨w1, hrun, hB, hG⟩ := (BMap.made w).put hr0 hr1 (by unfold maxLen; omega)
  have HS : Hid (SAr w ro ars) := hs
  have HIN : Hid (∀ x ∈ ars, in64 x.1 ∧ in64 x.2) := hin
  have H0 : Hid (RI w w1 ars root [root]) := {
    ok := Below.grown ((Ok.refl w).alloc _) hG (by simp) (fun k e => by injection e with e; omega)
    mp := hB
    rt := by simp
    nd := by simp
    rc := fun P h0 _ v hv => by simp at hv; rw [hv]; exact h0
    bd := by
      have : cntN ars [root] ≤ ars.length := List.countP_le_length
      simp; omega }
  have hl2 : (ars.length : Int) ≤ 1000 := by omega
  clear hs hin hB hG
  go_enter Try.func11, Try.ntmps11
  go_wp2_with fail
  clear hrun hmm hr0 hr1
  go_loopg [6, 7] (2 * cntN ars [root] + 1) (fun gk m i wr => ∃ (mb : Bool) (ks : List Int), m = .bool mb ∧ Hid (RI w wr ars root ks ∧ (mb = false → ClosedK ars ks) ∧ gk = 2 * cntN ars ks + mb.toNat))
  case atStart => exact ⟨true, [root], rfl, ⟨H0.out, (fun h => by cases h), rfl⟩⟩
  case round =>
    obtain ⟨mb, ks, rfl, HK⟩ := hrel
    clear H0
    cases mb
    · go_wp2_with fail
      go_ret
      exact ⟨rfl, ks, HK.out.1, HK.out.2.1 trivial⟩
    · go_wp2_with fail
      have HJ0 : Hid (∃ ks', RI w wr ars root ks' ∧ (false = false → ks' = ks ∧ ∀ j x, j < 0 → ars[j]? = some x → x.1 ∈ ks' → x.2 ∈ ks') ∧ (false = true → cntN ars ks' < cntN ars ks)) := ⟨ks, HK.out.1, fun _ => ⟨rfl, fun j x hj => by omega⟩, fun h => by cases h⟩
      go_loopw [6, 7] (fun m i v => ∃ (k : Nat) (mb : Bool), k ≤ ars.length ∧ i = .int .i64 k ∧ m = .bool mb ∧ Hid (∃ ks', RI w v ars root ks' ∧ (mb = false → ks' = ks ∧ ∀ j x, j < k → ars[j]? = some x → x.1 ∈ ks' → x.2 ∈ ks') ∧ (mb = true → cntN ars ks' < cntN ars ks))) (fun _ i _ => (ars.length - intOf i).toNat)
      case atStart => exact ⟨0, false, by omega, rfl, rfl, HJ0⟩
      case round =>
        obtain ⟨k, mb, hk, rfl, rfl, HJ⟩ := hrel
        clear HJ0
        by_cases hk1 : k < ars.length
        · have hk2 : (k : Int) < ars.length := by omega
          obtain ⟨ks', hRI, hf, ht⟩ := HJ.out
          obtain ⟨x, hx⟩ : ∃ x, ars[k]? = some x := ⟨ars[k], List.getElem?_eq_getElem hk1⟩
          have hxm : x ∈ ars := List.mem_of_getElem? hx
          obtain ⟨tb, o, hro, htb, hc⟩ := HS.out (fun e => by rw [e] at hk1; simp at hk1)
          subst hro
          have c0 := Ok.cell hRI.ok htb (hc k x hx).1
          have c1 := Ok.cell hRI.ok htb (hc k x hx).2
          obtain ⟨⟨i0, i1⟩, i2, i3⟩ := HIN.out x hxm
          have l1 := hRI.mp.look i0 i1
          have l2 := hRI.mp.look i2 i3
          obtain ⟨w2, hrun2, hB2, hG2⟩ := hRI.mp.put i2 i3 (by have := hRI.bd; unfold maxLen; omega)
          obtain ⟨x1, x2⟩ := x
          simp only at c0 c1 i0 i1 i2 i3 l1 l2 hrun2 hB2
          have HR : Hid (RI w wr ars root ks') := hRI
          have HX : Hid (ars[k]? = some (x1, x2)) := hx
          have HF : Hid (mb = false → ks' = ks ∧ ∀ j x, j < k → ars[j]? = some x → x.1 ∈ ks' → x.2 ∈ ks') := hf
          have HT : Hid (mb = true → cntN ars ks' < cntN ars ks) := ht
          have HB2 : Hid _ := hB2
          have HG2 : Hid _ := hG2
          have HXM : Hid ((x1, x2) ∈ ars) := hxm
          clear hRI hx hf ht hB2 hG2 hxm hc htb i0 i1 i2 i3 HJ
          by_cases m1 : x1 ∈ ks'
          · rw [decide_eq_true m1] at l1
            by_cases m2 : x2 ∈ ks'
            · rw [decide_eq_true m2] at l2
              clear hrun2
              have HN : Hid (∃ ks', RI w wr ars root ks' ∧ (mb = false → ks' = ks ∧ ∀ j x, j < k + 1 → ars[j]? = some x → x.1 ∈ ks' → x.2 ∈ ks') ∧ (mb = true → cntN ars ks' < cntN ars ks)) := by
                refine ⟨ks', HR.out, fun h => ⟨(HF.out h).1, fun j x hj hx => ?_⟩, HT.out⟩
                by_cases e : j = k
                · subst e; rw [HX.out] at hx; injection hx with hx; subst hx; exact fun _ => m2
                · exact (HF.out h).2 j x (by omega) hx
              clear m1 m2
              go_wp2_with fail
              go_roundw
              case rel => exact ⟨k + 1, mb, by omega, rfl, rfl, HN⟩
              case measure => simp only [intOf]; omega
            · rw [decide_eq_false m2] at l2
              have HN : Hid (∃ ks', RI w w2 ars root ks' ∧ (true = false → ks' = ks ∧ ∀ j x, j < k + 1 → ars[j]? = some x → x.1 ∈ ks' → x.2 ∈ ks') ∧ (true = true → cntN ars ks' < cntN ars ks)) := by
                refine ⟨ks' ++ [x2], HR.out.add HXM.out m1 m2 HB2.out HG2.out, fun h => (by cases h), fun _ => ?_⟩
                have h1 := cntN_lt (ks := ks') HXM.out m2
                cases mb
                · rw [← (HF.out rfl).1]; exact h1
                · exact Nat.lt_trans h1 (HT.out rfl)
              clear m1 m2
              go_wp2_with fail
              go_roundw
              case rel => exact ⟨k + 1, true, by omega, rfl, rfl, HN⟩
              case measure => simp only [intOf]; omega
          · rw [decide_eq_false m1] at l1
            clear hrun2 l2
            have HN : Hid (∃ ks', RI w wr ars root ks' ∧ (mb = false → ks' = ks ∧ ∀ j x, j < k + 1 → ars[j]? = some x → x.1 ∈ ks' → x.2 ∈ ks') ∧ (mb = true → cntN ars ks' < cntN ars ks)) := by
              refine ⟨ks', HR.out, fun h => ⟨(HF.out h).1, fun j x hj hx => ?_⟩, HT.out⟩
              by_cases e : j = k
              · subst e; rw [HX.out] at hx; injection hx with hx; subst hx; exact fun hh => absurd hh m1
              · exact (HF.out h).2 j x (by omega) hx
            clear m1
            go_wp2_with fail
            go_roundw
            case rel => exact ⟨k + 1, mb, by omega, rfl, rfl, HN⟩
            case measure => simp only [intOf]; omega
        · have hke : k = ars.length := by omega
          obtain ⟨ks', hRI, hf, ht⟩ := HJ.out
          go_wp2_with fail
          go_roundg (2 * cntN ars ks' + mb.toNat)
          case measure =>
            rw [HK.out.2.2]
            cases mb
            · rw [(hf rfl).1]; simp
            · have := ht rfl; simp; omega
          case rel =>
            refine ⟨mb, ks', rfl, ⟨hRI, fun h => ?_, rfl⟩⟩
            intro x hx
            obtain ⟨j, hj, e⟩ := List.mem_iff_getElem.1 hx
            exact (hf h).2 j x (by omega) (by rw [← e]; exact List.getElem?_eq_getElem hj)
end Go.Proofs.Ytbakinibehhfnaa
