import Derived.Test.YtbkblijoimmdeaaKEf
set_option linter.unusedVariables false
set_option linter.unusedSimpArgs false
set_option linter.unnecessarySimpa false
/- Ej -/
namespace Go.Proofs.Ytbkblijoimmdeaa
open Go.RowKit
/-- A slice of numbers; an empty one may have any address. -/
def SIs (w : World) (ro : Option Addr) (ts : List Int) : Prop :=
  ts ≠ [] → ∃ tb o, ro = some ⟨tb, o, none⟩ ∧ tb < w.heap.size ∧ ∀ i (h : i < ts.length), w.cell? ⟨tb, o + i, none⟩ = some (.int .i64 ts[i])
theorem SIs.at {w w1 : World} {ro : Option Addr} {ts : List Int} (h : SIs w ro ts) (hb : Ok w w1) {k : Nat} (hk : k < ts.length) :
    ∃ tb o, ro = some ⟨tb, o, none⟩ ∧ tb < w.heap.size ∧ w1.cell? ⟨tb, o + k, none⟩ = some (.int .i64 ts[k]) := by
  obtain ⟨tb, o, e, hlt, hc⟩ := h (fun c => by rw [c] at hk; simp at hk)
  exact ⟨tb, o, e, hlt, (Below.cell hb hlt).trans (hc k hk)⟩
theorem SIs.ok {w w1 : World} {ro : Option Addr} {ts : List Int} (h : SIs w ro ts) (hb : Ok w w1) : SIs w1 ro ts := by
  intro hne
  obtain ⟨tb, o, e, hlt, hc⟩ := h hne
  exact ⟨tb, o, e, Nat.lt_of_lt_of_le hlt hb.le, fun i hi => (Below.cell hb hlt).trans (hc i hi)⟩
/-- A slice of slices of numbers. -/
def SSs (w : World) (ro : Option Addr) (sa : List (List Int)) : Prop :=
  sa ≠ [] → ∃ tb o, ro = some ⟨tb, o, none⟩ ∧ tb < w.heap.size ∧ ∀ i (h : i < sa.length), ∃ eo ec, w.cell? ⟨tb, o + i, none⟩ = some (.slice eo sa[i].length ec) ∧ SIs w eo sa[i] ∧ sa[i].length ≤ 17592186044416
theorem SSs.at {w w1 : World} {ro : Option Addr} {sa : List (List Int)} (h : SSs w ro sa) (hb : Ok w w1) {k : Nat} (hk : k < sa.length) :
    ∃ tb o eo ec, ro = some ⟨tb, o, none⟩ ∧ tb < w.heap.size ∧ w1.cell? ⟨tb, o + k, none⟩ = some (.slice eo sa[k].length ec) ∧ SIs w1 eo sa[k] ∧ sa[k].length ≤ 17592186044416 := by
  obtain ⟨tb, o, e, hlt, hc⟩ := h (fun c => by rw [c] at hk; simp at hk)
  obtain ⟨eo, ec, h1, h2, h3⟩ := hc k hk
  exact ⟨tb, o, eo, ec, e, hlt, (Below.cell hb hlt).trans h1, h2.ok hb, h3⟩
theorem SSs.ok {w w1 : World} {ro : Option Addr} {sa : List (List Int)} (h : SSs w ro sa) (hb : Ok w w1) : SSs w1 ro sa := by
  intro hne
  obtain ⟨tb, o, e, hlt, hc⟩ := h hne
  refine ⟨tb, o, e, Nat.lt_of_lt_of_le hlt hb.le, fun i hi => ?_⟩
  obtain ⟨eo, ec, h1, h2, h3⟩ := hc i hi
  exact ⟨eo, ec, (Below.cell hb hlt).trans h1, h2.ok hb, h3⟩
/-- A store in memory. -/
def StIs (w : World) (v : Value) (sv : List Int) (sa : List (List Int)) : Prop := ∃ so sc ao ac, v = .agg #[.slice so sv.length sc, .slice ao sa.length ac] ∧ SIs w so sv ∧ SSs w ao sa ∧ sv.length ≤ 17592186044416 ∧ sa.length ≤ 17592186044416
theorem StIs.ok {w w1 : World} {v : Value} {sv : List Int} {sa : List (List Int)} (h : StIs w v sv sa) (hb : Ok w w1) : StIs w1 v sv sa := by
  obtain ⟨so, sc, ao, ac, h1, h2, h3, h4⟩ := h
  exact ⟨so, sc, ao, ac, h1, h2.ok hb, h3.ok hb, h4⟩
set_option maxHeartbeats 4000000 in
theorem ehas1_any (a : NT) (v : Int) (ga : Nat) (ha : RawN a) (w0 w : World) (hok : Ok w0 w) (hr : w.heap[ga]? = some (.cells #[.bool a.2.2.2.2, .int .i64 a.1, .int .i64 a.2.1, .int .u64 (a.2.2.1 : Int), .int .u64 (a.2.2.2.1 : Int)] 46 (0, 0))) :
    Calls Try.prog 40 #[.int .i64 v, .pointer (some ⟨ga, 0, none⟩)] w fun e w' => e = .returned (.bool (!insN a v)) ∧ Ok w0 w' := by
  obtain ⟨b, hb0⟩ : ∃ b, insN a v = b := ⟨_, rfl⟩
  rw [hb0]
  have HB : Hid _ := hb0
  have HA : Hid (RawN a) := ha
  clear hb0 ha
  obtain ⟨a0, a1, a2, a3, a4, -⟩ := row5_facts hr
  go_enter Try.func40, Try.ntmps40
  go_wp2_with fail
  refine (nhas_any a v HA.out w0 _ hok).mono ?_
  rintro e w1 ⟨rfl, hb⟩
  rw [HB.out]
  have H1 : Hid (Ok w0 w1) := hb
  clear hb
  go_wp2_with fail
  go_ret
  exact ⟨rfl, H1.out⟩
theorem iany_take {l : List Int} {f : Int → Bool} {k : Nat} (hk : k < l.length) : (l.take (k + 1)).any f = ((l.take k).any f || f l[k]) := by
  rw [List.take_succ_eq_append_getElem hk, List.any_append]; simp
theorem not_any {l : List Int} {a : NT} : (!(l.any (fun v => !insN a v))) = l.all (fun v => insN a v) := by
  induction l with
  | nil => rfl
  | cons x l ih => simp only [List.any_cons, List.all_cons, Bool.not_or, Bool.not_not, ih]
set_option maxRecDepth 100000 in
set_option maxHeartbeats 4000000 in
theorem eindexI_any (l : List Int) (a : NT) (ga : Nat) (ro : Option Addr) (cap : Nat) (ha : RawN a) (hn : l.length ≤ 17592186044416) (w : World) (hr : w.heap[ga]? = some (.cells #[.bool a.2.2.2.2, .int .i64 a.1, .int .i64 a.2.1, .int .u64 (a.2.2.1 : Int), .int .u64 (a.2.2.2.1 : Int)] 46 (0, 0))) (hR : SIs w ro l) :
    Calls Try.prog 59 #[.slice ro l.length cap, .func (Fn.func 40) #[] #[.pointer (some ⟨ga, 0, none⟩)]] w fun e w' => ∃ z : Int, e = .returned (.int .i64 z) ∧ decide (0 ≤ z) = l.any (fun v => !insN a v) ∧ Ok w w' := by
  obtain ⟨m, hmm⟩ : ∃ m, m = l.length := ⟨_, rfl⟩
  have HR : Hid (SIs w ro l) := hR
  have RA : Hid _ := hr
  have HA : Hid (RawN a) := ha
  rw [← hmm] at hn ⊢
  have HM : Hid (m = l.length) := hmm
  obtain ⟨b, hbb⟩ : ∃ b, b = l.any (fun v => !insN a v) := ⟨_, rfl⟩
  rw [← hbb]
  have HBB : Hid _ := hbb
  clear hR hmm hbb hr ha
  have HB : Hid (m ≤ 4611686018427387904) := by unfold Hid; omega
  go_enter Try.func59, Try.ntmps59
  go_wp2_with fail
  go_loopw [8] (fun s8 wr => ∃ (k : Nat), k ≤ m ∧ s8 = .int .i64 (k : Int) ∧ Hid ((l.take k).any (fun v => !insN a v) = false) ∧ Hid (Ok w wr)) (fun s8 _ => m - (intOf s8).toNat)
  case atStart => exact ⟨0, by omega, rfl, by unfold Hid; simp, Ok.refl w⟩
  case round =>
    obtain ⟨k, hk, rfl, HI, HK⟩ := hrel
    by_cases k3 : k < m
    · have k3i : (k : Int) < (m : Int) := by omega
      have k0i : (0 : Int) ≤ (k : Int) := by omega
      obtain ⟨tb, o, ero, htb, p0⟩ := SIs.at HR.out HK.out (k := k) (by rw [← HM.out]; exact k3)
      obtain ⟨p, hp⟩ : ∃ p, p = (l[k]'(by rw [← HM.out]; exact k3)) := ⟨_, rfl⟩
      obtain ⟨c, hc⟩ : ∃ c, c = !insN a p := ⟨_, rfl⟩
      have HT : Hid ((l.take (k + 1)).any (fun v => !insN a v) = c) := by
        unfold Hid
        rw [iany_take (by rw [← HM.out]; exact k3), HI.out, hc, hp]; simp
      have HE : Hid (c = true → b = true) := by
        intro h
        rw [HBB.out, List.any_eq_true]
        exact ⟨p, by rw [hp]; exact List.getElem_mem _, by rw [← hc]; exact h⟩
      have HC : Hid ((!insN a p) = c) := hc.symm
      subst ero
      rw [← hp] at p0
      clear hp hc
      have s0 := HK.out.le
      have s2 : tb < wr.heap.size := by omega
      go_wp2_with fail
      refine (ehas1_any a p ga HA.out wr _ (Ok.refl _) (Ok.row' HK.out RA.out)).mono ?_
      rintro e w4 ⟨rfl, hb⟩
      have Hw4 : Hid (Ok w w4) := HK.out.step hb
      rw [HC.out]
      clear hb HK p0 s0 s2 HC
      cases c
      · have HF : Hid ((l.take (k + 1)).any (fun v => !insN a v) = false) := HT
        clear HE HT
        go_wp2_with fail
        exact ⟨⟨k + 1, by omega, by simp, HF.out, Hw4.out⟩, by simp [intOf]; omega⟩
      · have HF : Hid (b = true) := HE.out rfl
        clear HE HT
        go_wp2_with fail
        go_ret
        exact ⟨_, rfl, by rw [HF.out]; exact decide_eq_true k0i, Hw4.out⟩
    · have k3e : k = m := by omega
      subst k3e
      go_wp2_with fail
      go_ret
      refine ⟨_, rfl, ?_, HK.out⟩
      rw [HBB.out]
      have h := HI.out
      rw [List.take_of_length_le (by rw [← HM.out]; exact Nat.le_refl _)] at h
      rw [h]; decide
set_option maxRecDepth 100000 in
set_option maxHeartbeats 4000000 in
theorem econtI_any (l : List Int) (a : NT) (ga : Nat) (ro : Option Addr) (cap : Nat) (ha : RawN a) (hn : l.length ≤ 17592186044416) (w : World) (hr : w.heap[ga]? = some (.cells #[.bool a.2.2.2.2, .int .i64 a.1, .int .i64 a.2.1, .int .u64 (a.2.2.1 : Int), .int .u64 (a.2.2.2.1 : Int)] 46 (0, 0))) (hR : SIs w ro l) :
    Calls Try.prog 39 #[.slice ro l.length cap, .func (Fn.func 40) #[] #[.pointer (some ⟨ga, 0, none⟩)]] w fun e w' => e = .returned (.bool (l.any (fun v => !insN a v))) ∧ Ok w w' := by
  have HR : Hid (SIs w ro l) := hR
  have RA : Hid _ := hr
  clear hR hr
  obtain ⟨b, hbb⟩ : ∃ b, b = l.any (fun v => !insN a v) := ⟨_, rfl⟩
  rw [← hbb]
  have HBB : Hid _ := hbb
  clear hbb
  go_enter Try.func39, Try.ntmps39
  go_wp2_with fail
  refine (eindexI_any l a ga ro cap ha hn w RA.out HR.out).mono ?_
  rintro e w1 ⟨z, rfl, hz, hb⟩
  have HZ : Hid (decide (0 ≤ z) = b) := by unfold Hid; rw [HBB.out]; exact hz
  have Hb : Hid (Ok w w1) := hb
  clear hz hb
  go_wp2_with fail
  go_ret
  exact ⟨by rw [← HZ.out]; rfl, Hb.out⟩
set_option maxRecDepth 100000 in
set_option maxHeartbeats 4000000 in
theorem ehasAll_any (a : NT) (l : List Int) (ro : Option Addr) (cap : Nat) (ha : RawN a) (hn : l.length ≤ 17592186044416) (w0 w : World) (hok : Ok w0 w) (hR : SIs w ro l) :
    Calls Try.prog 21 #[nv a, .slice ro l.length cap] w fun e w' => e = .returned (.bool (l.all (fun v => insN a v))) ∧ Ok w0 w' := by
  have HO : Hid (Ok w0 w) := hok
  have HR : Hid (SIs w ro l) := hR
  have HA : Hid (RawN a) := ha
  clear hok hR ha
  rw [← not_any]
  obtain ⟨b, hbb⟩ : ∃ b, l.any (fun v => !insN a v) = b := ⟨_, rfl⟩
  rw [hbb]
  have HBB : Hid _ := hbb
  clear hbb
  unfold nv
  go_enter Try.func21, Try.ntmps21
  go_wp2_with fail
  obtain ⟨W, hW⟩ : ∃ W, W = w.alloc (.cells #[.bool a.2.2.2.2, .int .i64 a.1, .int .i64 a.2.1, .int .u64 (a.2.2.1 : Int), .int .u64 (a.2.2.2.1 : Int)] 46) := ⟨_, rfl⟩
  have ra : Hid (W.heap[w.heap.size]? = some (.cells #[.bool a.2.2.2.2, .int .i64 a.1, .int .i64 a.2.1, .int .u64 (a.2.2.1 : Int), .int .u64 (a.2.2.2.1 : Int)] 46)) := by unfold Hid; rw [hW]; exact heap_new0 _ _
  have OW : Hid (Ok w W) := by unfold Hid; rw [hW]; exact (Ok.refl _).alloc _
  rw [← hW]
  clear hW
  refine (econtI_any l a w.heap.size ro cap HA.out hn W ra.out (HR.out.ok OW.out)).mono ?_
  rintro e w1 ⟨rfl, hb⟩
  rw [HBB.out]
  have H1 : Hid (Ok w0 w1) := (HO.out.step OW.out).step hb
  clear hb
  go_wp2_with fail
  go_ret
  exact ⟨rfl, H1.out⟩
set_option maxRecDepth 100000 in
set_option maxHeartbeats 8000000 in
theorem eeqHas_any (l : List NT) (m : List Int) (lo mo : Option Addr) (lc mc : Nat) (hl : ∀ a ∈ l, RawN a) (nl : l.length ≤ 3518437208883) (nm : m.length ≤ 17592186044416) {B : Nat} (w0 w : World) (hok : Ok w0 w) (hL : SNs B w lo l) (hM : SIs w mo m) :
    Calls Try.prog 19 #[.slice lo l.length lc, .slice mo m.length mc, .func (Fn.func 18) #[] #[]] w fun e w' => e = .returned (.bool (eqF insN l m)) ∧ Ok w0 w' := by
  obtain ⟨n, hnn⟩ : ∃ n, n = l.length := ⟨_, rfl⟩
  obtain ⟨k2, hk2⟩ : ∃ n, n = m.length := ⟨_, rfl⟩
  obtain ⟨b, hb0⟩ : ∃ b, b = eqF insN l m := ⟨_, rfl⟩
  have HL : Hid (SNs B w lo l ∧ ∀ p ∈ l, RawN p) := ⟨hL, hl⟩
  have HM : Hid (SIs w mo m) := hM
  have HO : Hid (Ok w0 w) := hok
  rw [← hnn] at nl ⊢
  rw [← hk2] at nm ⊢
  rw [← hb0]
  have HN : Hid (n = l.length ∧ k2 = m.length) := ⟨hnn, hk2⟩
  have HB : Hid (b = eqF insN l m) := hb0
  clear hL hM hl hok hnn hk2 hb0
  by_cases he : n = k2
  · subst he
    go_enter Try.func19, Try.ntmps19
    go_wp2_with fail
    go_loopw [17] (fun s17 wr => ∃ (k : Nat), k ≤ n ∧ s17 = .int .i64 (k : Int) ∧ Hid (∀ i (h1 : i < l.length) (h2 : i < m.length), i < k → insN l[i] m[i] = true) ∧ Hid (Ok w wr)) (fun s17 _ => n - (intOf s17).toNat)
    case atStart => exact ⟨0, by omega, rfl, fun i _ _ h => by omega, Ok.refl w⟩
    case round =>
      obtain ⟨k, hk, rfl, HI, HK⟩ := hrel
      by_cases k3 : k < n
      · have k3i : (k : Int) < (n : Int) := by omega
        have k0i : (0 : Int) ≤ (k : Int) := by omega
        have h1 : k < l.length := by rw [← HN.out.1]; exact k3
        have h2 : k < m.length := by rw [← HN.out.2]; exact k3
        obtain ⟨tb, o, ero, htb, p0, p1, p2, p3, p4⟩ := SNs.at HL.out.1 HK.out (k := k) h1
        obtain ⟨tc, o2, ero2, htc, r0⟩ := SIs.at HM.out HK.out (k := k) h2
        obtain ⟨p, hp⟩ : ∃ p, p = l[k] := ⟨_, rfl⟩
        obtain ⟨q, hq⟩ : ∃ q, q = m[k] := ⟨_, rfl⟩
        have HP : Hid (RawN p) := by unfold Hid; rw [hp]; exact HL.out.2 _ (List.getElem_mem _)
        have HF : Hid (insN p q = false → b = false) := by
          intro h
          rw [HB.out]
          cases hz : eqF insN l m
          · rfl
          · have := (eqF_iff.1 hz).2 k h1 h2
            rw [← hp, ← hq, h] at this
            cases this
        have HT : Hid (insN p q = true → ∀ i (h1 : i < l.length) (h2 : i < m.length), i < k + 1 → insN l[i] m[i] = true) := by
          intro h i j1 j2 hi
          by_cases e : i < k
          · exact HI.out i j1 j2 e
          · have : i = k := by omega
            subst this
            rw [← hp, ← hq]; exact h
        subst ero ero2
        rw [← hp] at p0 p1 p2 p3 p4
        rw [← hq] at r0
        clear hp hq h1 h2
        have s0 := HK.out.le
        have s2 : tb < wr.heap.size := by omega
        have s3 : tc < wr.heap.size := by omega
        have n5 : ¬ tb = wr.heap.size := by omega
        have n6 : ¬ wr.heap.size = tb := by omega
        have n7 : ¬ tc = wr.heap.size := by omega
        have n8 : ¬ wr.heap.size = tc := by omega
        go_wp2_with fail
        refine (nhas_any p q HP.out wr _ (by repeat (first | exact Ok.refl _ | refine Ok.alloc ?_ _ | refine Ok.draws ?_ _ | fail))).mono ?_
        rintro e w4 ⟨rfl, hb⟩
        have Hw4 : Hid (Ok w w4) := HK.out.step hb
        clear hb HK p0 p1 p2 p3 p4 r0 s0 s2 s3 n5 n6 n7 n8
        rcases Bool.eq_false_or_eq_true (insN p q) with hz | hz
        · have HT2 : Hid _ := HT.out hz
          rw [hz]
          clear HT HF hz
          go_wp2_with fail
          exact ⟨⟨k + 1, by omega, by simp, HT2.out, Hw4.out⟩, by simp [intOf]; omega⟩
        · have HF2 : Hid (b = false) := HF.out hz
          rw [hz]
          clear HT HF hz
          go_wp2_with fail
          go_ret
          exact ⟨by rw [HF2.out]; rfl, HO.out.step Hw4.out⟩
      · have k3e : k = n := by omega
        subst k3e
        have HE : Hid (b = true) := by
          unfold Hid
          rw [HB.out]
          exact eqF_iff.2 ⟨by rw [← HN.out.1, ← HN.out.2], fun i j1 j2 => HI.out i j1 j2 (by rw [HN.out.1]; exact j1)⟩
        go_wp2_with fail
        go_ret
        exact ⟨by rw [HE.out]; rfl, HO.out.step HK.out⟩
  · have hne : ((n : Int) != (k2 : Int)) = true := by simp; omega
    have HE : Hid (b = false) := by
      unfold Hid
      rw [HB.out]
      exact eqF_off (fun h => he (by rw [HN.out.1, HN.out.2]; exact h))
    go_enter Try.func19, Try.ntmps19
    go_wp2_with fail
    go_ret
    exact ⟨by rw [HE.out]; rfl, HO.out⟩
set_option maxRecDepth 100000 in
set_option maxHeartbeats 8000000 in
theorem eeqAll_any (l : List NT) (m : List (List Int)) (lo mo : Option Addr) (lc mc : Nat) (hl : ∀ a ∈ l, RawN a) (nl : l.length ≤ 3518437208883) (nm : m.length ≤ 17592186044416) {B : Nat} (w0 w : World) (hok : Ok w0 w) (hL : SNs B w lo l) (hM : SSs w mo m) :
    Calls Try.prog 20 #[.slice lo l.length lc, .slice mo m.length mc, .func (Fn.func 21) #[] #[]] w fun e w' => e = .returned (.bool (eqF (fun (a : NT) (l : List Int) => l.all (fun v => insN a v)) l m)) ∧ Ok w0 w' := by
  obtain ⟨n, hnn⟩ : ∃ n, n = l.length := ⟨_, rfl⟩
  obtain ⟨k2, hk2⟩ : ∃ n, n = m.length := ⟨_, rfl⟩
  obtain ⟨b, hb0⟩ : ∃ b, b = eqF (fun (a : NT) (l : List Int) => l.all (fun v => insN a v)) l m := ⟨_, rfl⟩
  have HL : Hid (SNs B w lo l ∧ ∀ p ∈ l, RawN p) := ⟨hL, hl⟩
  have HM : Hid (SSs w mo m) := hM
  have HO : Hid (Ok w0 w) := hok
  rw [← hnn] at nl ⊢
  rw [← hk2] at nm ⊢
  rw [← hb0]
  have HN : Hid (n = l.length ∧ k2 = m.length) := ⟨hnn, hk2⟩
  have HB : Hid (b = eqF (fun (a : NT) (l : List Int) => l.all (fun v => insN a v)) l m) := hb0
  clear hL hM hl hok hnn hk2 hb0
  by_cases he : n = k2
  · subst he
    go_enter Try.func20, Try.ntmps20
    go_wp2_with fail
    go_loopw [17] (fun s17 wr => ∃ (k : Nat), k ≤ n ∧ s17 = .int .i64 (k : Int) ∧ Hid (∀ i (h1 : i < l.length) (h2 : i < m.length), i < k → m[i].all (fun v => insN l[i] v) = true) ∧ Hid (Ok w wr)) (fun s17 _ => n - (intOf s17).toNat)
    case atStart => exact ⟨0, by omega, rfl, fun i _ _ h => by omega, Ok.refl w⟩
    case round =>
      obtain ⟨k, hk, rfl, HI, HK⟩ := hrel
      by_cases k3 : k < n
      · have k3i : (k : Int) < (n : Int) := by omega
        have k0i : (0 : Int) ≤ (k : Int) := by omega
        have h1 : k < l.length := by rw [← HN.out.1]; exact k3
        have h2 : k < m.length := by rw [← HN.out.2]; exact k3
        obtain ⟨tb, o, ero, htb, p0, p1, p2, p3, p4⟩ := SNs.at HL.out.1 HK.out (k := k) h1
        obtain ⟨tc, o2, eo, ec, ero2, htc, r0, sq, nq⟩ := SSs.at HM.out HK.out (k := k) h2
        obtain ⟨p, hp⟩ : ∃ p, p = l[k] := ⟨_, rfl⟩
        obtain ⟨q, hq⟩ : ∃ q, q = m[k] := ⟨_, rfl⟩
        have HP : Hid (RawN p) := by unfold Hid; rw [hp]; exact HL.out.2 _ (List.getElem_mem _)
        have HF : Hid (q.all (fun v => insN p v) = false → b = false) := by
          intro h
          rw [HB.out]
          cases hz : eqF (fun (a : NT) (l : List Int) => l.all (fun v => insN a v)) l m
          · rfl
          · have := (eqF_iff.1 hz).2 k h1 h2
            rw [← hp, ← hq, h] at this
            cases this
        have HT : Hid (q.all (fun v => insN p v) = true → ∀ i (h1 : i < l.length) (h2 : i < m.length), i < k + 1 → m[i].all (fun v => insN l[i] v) = true) := by
          intro h i j1 j2 hi
          by_cases e : i < k
          · exact HI.out i j1 j2 e
          · have : i = k := by omega
            subst this
            rw [← hp, ← hq]; exact h
        subst ero ero2
        rw [← hp] at p0 p1 p2 p3 p4
        rw [← hq] at r0 sq nq
        have SQ : Hid (SIs wr eo q ∧ q.length ≤ 17592186044416) := ⟨sq, nq⟩
        clear sq nq
        clear hp hq h1 h2
        have s0 := HK.out.le
        have s2 : tb < wr.heap.size := by omega
        have s3 : tc < wr.heap.size := by omega
        have n5 : ¬ tb = wr.heap.size := by omega
        have n6 : ¬ wr.heap.size = tb := by omega
        have n7 : ¬ tc = wr.heap.size := by omega
        have n8 : ¬ wr.heap.size = tc := by omega
        go_wp2_with fail
        refine (ehasAll_any p q eo ec HP.out SQ.out.2 wr _ (by repeat (first | exact Ok.refl _ | refine Ok.alloc ?_ _ | refine Ok.draws ?_ _ | fail)) (SQ.out.1.ok (by repeat (first | exact Ok.refl _ | refine Ok.alloc ?_ _ | refine Ok.draws ?_ _ | fail)))).mono ?_
        rintro e w4 ⟨rfl, hb⟩
        have Hw4 : Hid (Ok w w4) := HK.out.step hb
        clear hb HK p0 p1 p2 p3 p4 r0 s0 s2 s3 n5 n6 n7 n8
        rcases Bool.eq_false_or_eq_true (q.all (fun v => insN p v)) with hz | hz
        · have HT2 : Hid _ := HT.out hz
          rw [hz]
          clear HT HF hz
          go_wp2_with fail
          exact ⟨⟨k + 1, by omega, by simp, HT2.out, Hw4.out⟩, by simp [intOf]; omega⟩
        · have HF2 : Hid (b = false) := HF.out hz
          rw [hz]
          clear HT HF hz
          go_wp2_with fail
          go_ret
          exact ⟨by rw [HF2.out]; rfl, HO.out.step Hw4.out⟩
      · have k3e : k = n := by omega
        subst k3e
        have HE : Hid (b = true) := by
          unfold Hid
          rw [HB.out]
          exact eqF_iff.2 ⟨by rw [← HN.out.1, ← HN.out.2], fun i j1 j2 => HI.out i j1 j2 (by rw [HN.out.1]; exact j1)⟩
        go_wp2_with fail
        go_ret
        exact ⟨by rw [HE.out]; rfl, HO.out.step HK.out⟩
  · have hne : ((n : Int) != (k2 : Int)) = true := by simp; omega
    have HE : Hid (b = false) := by
      unfold Hid
      rw [HB.out]
      exact eqF_off (fun h => he (by rw [HN.out.1, HN.out.2]; exact h))
    go_enter Try.func20, Try.ntmps20
    go_wp2_with fail
    go_ret
    exact ⟨by rw [HE.out]; rfl, HO.out⟩
theorem storeL {w : World} {so ao : Option Addr} {n m sc ac : Nat} {sv : List Int} {sa : List (List Int)} (h : StIs w (.agg #[.slice so n sc, .slice ao m ac]) sv sa) : SIs w so sv ∧ SSs w ao sa ∧ sv.length ≤ 17592186044416 ∧ sa.length ≤ 17592186044416 := by
  obtain ⟨so', sc', ao', ac', e, h1, h2, h3, h4⟩ := h
  simp only [Value.agg.injEq, Array.mk.injEq, List.cons.injEq, Value.slice.injEq] at e
  obtain ⟨⟨e1, e2, _⟩, ⟨e3, e4, _⟩, _⟩ := e
  subst e1 e3
  exact ⟨h1, h2, h3, h4⟩
set_option maxRecDepth 100000 in
set_option maxHeartbeats 8000000 in
theorem eHas_any (x : ET) (xv sw : Value) (sv : List Int) (sa : List (List Int)) (hx : RawE x) {B : Nat} (w0 w : World) (hok : Ok w0 w) (hX : EnvIs B w xv x) (hS : StIs w sw sv sa) :
    Calls Try.prog 7 #[xv, sw] w fun e w' => e = .returned (.bool (has0 (normE x) sv sa)) ∧ Ok w0 w' := by
  have Ex0 := hX
  obtain ⟨po, pc, pp, pd, ex, _, _, _, _⟩ := hX
  subst ex
  have Ex : Hid (EnvIs B w (.agg #[.bool x.1, .slice po x.2.1.length pc, .slice pp x.2.2.length pd]) x) := Ex0
  have Rx : Hid (RawE x) := hx
  clear Ex0 hx
  have Es0 := hS
  obtain ⟨so, sc, ao, ac, es, _, _, _, _⟩ := hS
  subst es
  have ES : Hid (StIs w (.agg #[.slice so sv.length sc, .slice ao sa.length ac]) sv sa) := Es0
  clear Es0
  have HO : Hid (Ok w0 w) := hok
  clear hok
  obtain ⟨X, hX2⟩ : ∃ X, normE x = X := ⟨_, rfl⟩
  rw [hX2]
  have HX : Hid _ := hX2
  have NX : Hid (NorE X) := by unfold Hid; rw [← hX2]; exact normE_nor Rx.out
  clear hX2
  obtain ⟨L, hL⟩ : ∃ L, L = has0 X sv sa := ⟨_, rfl⟩
  rw [← hL]
  have HL : Hid (L = has0 X sv sa) := hL
  clear hL
  go_enter Try.func7, Try.ntmps7
  go_wp2_with fail
  obtain ⟨W, hW⟩ : ∃ W, W = ((w).alloc (.cells #[.bool x.1, .slice po x.2.1.length pc, .slice pp x.2.2.length pd] 24)).alloc (.cells #[.slice so sv.length sc, .slice ao sa.length ac] 28) := ⟨_, rfl⟩
  have rx : Hid (W.heap[w.heap.size]? = some (.cells #[.bool x.1, .slice po x.2.1.length pc, .slice pp x.2.2.length pd] 24)) := by unfold Hid; rw [hW]; exact (by repeat (first | (refine heap_at _ _ _ ?hx; case hx => (first | (simp; done) | (simp; omega))) | (refine heap_past _ _ _ ?hy ?_; case hy => (first | (simp; done) | (simp; omega))) | fail))
  have rs : Hid (W.heap[w.heap.size + 1]? = some (.cells #[.slice so sv.length sc, .slice ao sa.length ac] 28)) := by unfold Hid; rw [hW]; exact (by repeat (first | (refine heap_at _ _ _ ?hx; case hx => (first | (simp; done) | (simp; omega))) | (refine heap_past _ _ _ ?hy ?_; case hy => (first | (simp; done) | (simp; omega))) | fail))
  have HW : Hid (Ok w W) := by unfold Hid; rw [hW]; have hok := Ok.refl w; exact (by repeat (first | exact hok | refine Ok.alloc ?_ _ | refine Ok.draws ?_ _ | fail))
  rw [← hW]
  clear hW
  obtain ⟨gs, egs⟩ : ∃ g, g = w.heap.size + 1 := ⟨_, rfl⟩
  rw [← egs] at rs ⊢
  obtain ⟨gx, egx⟩ : ∃ g, g = w.heap.size := ⟨_, rfl⟩
  rw [← egx] at rx ⊢
  have lgx : w.heap.size ≤ gx := by omega
  have nxs : ¬ gx = gs := by omega
  have lgs : w.heap.size ≤ gs := by omega
  have nsx : ¬ gs = gx := by omega
  clear egx egs
  have ExW : Hid (EnvIs B W (.agg #[.bool x.1, .slice po x.2.1.length pc, .slice pp x.2.2.length pd]) x) := Ex.out.ok HW.out
  have Lx : Hid (gx < W.heap.size) := lt_row rx.out
  have Ls : Hid (gs < W.heap.size) := lt_row rs.out
  have ESW : Hid (StIs W (.agg #[.slice so sv.length sc, .slice ao sa.length ac]) sv sa) := ES.out.ok HW.out
  refine (eNorm_at x _ Rx.out W _ (Ok.refl _) ExW.out).mono ?_
  rintro e w1 ⟨r, rfl, hE, _, hb⟩
  rw [HX.out] at hE
  have EX0 : Hid (EnvIs W.heap.size w1 r X) := hE
  obtain ⟨to, tc, tp, td, e3, _, _, _, _⟩ := hE
  subst e3
  replace rx : Hid _ := Ok.row' hb rx.out
  replace rs : Hid _ := Ok.row' hb rs.out
  have ES1 : Hid (StIs w1 (.agg #[.slice so sv.length sc, .slice ao sa.length ac]) sv sa) := ESW.out.ok hb
  have H1 : Hid (Ok w w1) := HW.out.step hb
  have O1 : Hid (Ok W w1) := hb
  clear hb
  obtain ⟨Z, hZ⟩ : ∃ Z, Z = ((w1.setCell ⟨gx, 0, none⟩ (.bool X.1)).setCell ⟨gx, 1, none⟩ (.slice to X.2.1.length tc)).setCell ⟨gx, 2, none⟩ (.slice tp X.2.2.length td) := ⟨_, rfl⟩
  have rX : Hid (Z.heap[gx]? = some (.cells #[.bool X.1, .slice to X.2.1.length tc, .slice tp X.2.2.length td] 24)) := by unfold Hid; rw [hZ]; exact erow_set3 rx.out _ _ _
  have rS : Hid (Z.heap[gs]? = some (.cells #[.slice so sv.length sc, .slice ao sa.length ac] 28)) := by unfold Hid; rw [hZ, heap_setCell_other _ _ _ _ nsx, heap_setCell_other _ _ _ _ nsx, heap_setCell_other _ _ _ _ nsx]; exact rs.out
  have EX : Hid (EnvIs W.heap.size Z (.agg #[.bool X.1, .slice to X.2.1.length tc, .slice tp X.2.2.length td]) X) := by unfold Hid; rw [hZ]; exact EX0.out.set3 Lx.out _ _ _
  have HZ : Hid (Ok w Z) := by unfold Hid; rw [hZ]; exact set3_ok H1.out lgx _ _ _
  have ESZ : Hid (StIs Z (.agg #[.slice so sv.length sc, .slice ao sa.length ac]) sv sa) := ES.out.ok HZ.out
  rcases Bool.eq_false_or_eq_true X.1 with h1 | h1
  · have HR : Hid (L = false) := by unfold Hid; rw [HL.out]; unfold has0; rw [h1]; rfl
    obtain ⟨k0, k1, k2, k3, k4, k5⟩ := erow3_facts rx.out
    have n1 := nsx
    have n2 := nxs
    obtain ⟨s0, s1, s2, s3⟩ := row_facts rs.out
    rw [h1] at hZ
    rw [h1]
    go_wp2_with fail
    go_ret
    exact ⟨by rw [HR.out]; rfl, HO.out.step (set3_ok H1.out lgx _ _ _)⟩
  · obtain ⟨b1, hb1⟩ : ∃ b, b = eqF insN X.2.1 sv := ⟨_, rfl⟩
    obtain ⟨b2, hb2⟩ : ∃ b, b = eqF (fun (a : NT) (l : List Int) => l.all (fun v => insN a v)) X.2.2 sa := ⟨_, rfl⟩
    have HR0 : Hid (L = (b1 && b2)) := by unfold Hid; rw [HL.out, hb1, hb2]; unfold has0; rw [h1]; rfl
    have HB1 : Hid _ := hb1
    have HB2 : Hid _ := hb2
    clear hb1 hb2
    obtain ⟨k0, k1, k2, k3, k4, k5⟩ := erow3_facts rx.out
    obtain ⟨s0, s1, s2, s3⟩ := row_facts rs.out
    rw [h1] at hZ rX EX
    rw [h1]
    clear h1
    go_wp2_with fail
    rw [← hZ]
    clear k0 k1 k2 k3 k4 k5
    clear s0 s1 s2 s3 hZ
    obtain ⟨so1, so2, so3, so4⟩ := storeL ESZ.out
    refine (eeqHas_any X.2.1 sv _ _ _ _ NX.out.raw.1 EX.out.lists.2.2.2.2.1 so3 Z _ (Ok.refl _) EX.out.lists.1 so1).mono ?_
    rintro e w3 ⟨rfl, hb⟩
    rw [← HB1.out]
    replace rX : Hid _ := Ok.row' hb rX.out
    replace rS : Hid _ := Ok.row' hb rS.out
    have Z3 : Hid (Ok Z w3) := hb
    clear hb
    have SO : Hid _ := And.intro so2 so4
    clear so1 so2 so3 so4
    cases b1
    · have HR : Hid (L = false) := by unfold Hid; rw [HR0.out]; rfl
      go_wp2_with fail
      go_ret
      exact ⟨by rw [HR.out]; rfl, HO.out.step (HZ.out.step Z3.out)⟩
    · have HR : Hid (L = b2) := by unfold Hid; rw [HR0.out]; rfl
      obtain ⟨a0, a1, a2, a3, a4, a5⟩ := erow3_facts rX.out
      obtain ⟨s0, s1, s2, s3⟩ := row_facts rS.out
      go_wp2_with fail
      clear a0 a1 a2 a3 a4 a5
      clear s0 s1 s2 s3
      refine (eeqAll_any X.2.2 sa _ _ _ _ NX.out.raw.2 EX.out.lists.2.2.2.2.2 SO.out.2 Z _ Z3.out (EX.out.lists.2.1.ok Z3.out) (SO.out.1.ok Z3.out)).mono ?_
      rintro e w4 ⟨rfl, hb⟩
      rw [← HB2.out]
      have Z4 : Hid (Ok Z w4) := hb
      clear hb
      go_wp2_with fail
      go_ret
      exact ⟨by rw [HR.out]; rfl, HO.out.step (HZ.out.step Z4.out)⟩
end Go.Proofs.Ytbkblijoimmdeaa
