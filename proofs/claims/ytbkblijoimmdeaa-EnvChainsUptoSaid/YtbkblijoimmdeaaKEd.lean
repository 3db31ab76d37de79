import Derived.Test.YtbkblijoimmdeaaKEc
set_option linter.unusedVariables false
set_option linter.unusedSimpArgs false
set_option linter.unnecessarySimpa false
/- Ed -/
namespace Go.Proofs.Ytbkblijoimmdeaa
open Go.RowKit
set_option maxRecDepth 100000 in
set_option maxHeartbeats 8000000 in
theorem eeqLeq_any (l m : List NT) (lo mo : Option Addr) (lc mc : Nat) (hl : ∀ a ∈ l, RawN a) (hm : ∀ a ∈ m, RawN a) (nl : l.length ≤ 3518437208883) (nm : m.length ≤ 3518437208883) {B C : Nat} (w0 w : World) (hok : Ok w0 w) (hL : SNs B w lo l) (hM : SNs C w mo m) :
    Calls Try.prog 25 #[.slice lo l.length lc, .slice mo m.length mc, .func (Fn.func 26) #[] #[]] w fun e w' => e = .returned (.bool (eqF lqN l m)) ∧ Ok w0 w' := by
  obtain ⟨n, hnn⟩ : ∃ n, n = l.length := ⟨_, rfl⟩
  obtain ⟨k2, hk2⟩ : ∃ n, n = m.length := ⟨_, rfl⟩
  obtain ⟨b, hb0⟩ : ∃ b, b = eqF lqN l m := ⟨_, rfl⟩
  have HL : Hid (SNs B w lo l ∧ ∀ p ∈ l, RawN p) := ⟨hL, hl⟩
  have HM : Hid (SNs C w mo m ∧ ∀ p ∈ m, RawN p) := ⟨hM, hm⟩
  have HO : Hid (Ok w0 w) := hok
  rw [← hnn] at nl ⊢
  rw [← hk2] at nm ⊢
  rw [← hb0]
  have HN : Hid (n = l.length ∧ k2 = m.length) := ⟨hnn, hk2⟩
  have HB : Hid (b = eqF lqN l m) := hb0
  clear hL hM hl hm hok hnn hk2 hb0
  by_cases he : n = k2
  · subst he
    go_enter Try.func25, Try.ntmps25
    go_wp2_with fail
    go_loopw [17] (fun s17 wr => ∃ (k : Nat), k ≤ n ∧ s17 = .int .i64 (k : Int) ∧ Hid (∀ i (h1 : i < l.length) (h2 : i < m.length), i < k → lqN l[i] m[i] = true) ∧ Hid (Ok w wr)) (fun s17 _ => n - (intOf s17).toNat)
    case atStart => exact ⟨0, by omega, rfl, fun i _ _ h => by omega, Ok.refl w⟩
    case round =>
      obtain ⟨k, hk, rfl, HI, HK⟩ := hrel
      by_cases k3 : k < n
      · have k3i : (k : Int) < (n : Int) := by omega
        have k0i : (0 : Int) ≤ (k : Int) := by omega
        have h1 : k < l.length := by rw [← HN.out.1]; exact k3
        have h2 : k < m.length := by rw [← HN.out.2]; exact k3
        obtain ⟨tb, o, ero, htb, p0, p1, p2, p3, p4⟩ := SNs.at HL.out.1 HK.out (k := k) h1
        obtain ⟨tc, o2, ero2, htc, r0, r1, r2, r3, r4⟩ := SNs.at HM.out.1 HK.out (k := k) h2
        obtain ⟨p, hp⟩ : ∃ p, p = l[k] := ⟨_, rfl⟩
        obtain ⟨q, hq⟩ : ∃ q, q = m[k] := ⟨_, rfl⟩
        have HP : Hid (RawN p ∧ RawN q) := by unfold Hid; rw [hp, hq]; exact ⟨HL.out.2 _ (List.getElem_mem _), HM.out.2 _ (List.getElem_mem _)⟩
        have HF : Hid (lqN p q = false → b = false) := by
          intro h
          rw [HB.out]
          cases hz : eqF lqN l m
          · rfl
          · have := (eqF_iff.1 hz).2 k h1 h2
            rw [← hp, ← hq, h] at this
            cases this
        have HT : Hid (lqN p q = true → ∀ i (h1 : i < l.length) (h2 : i < m.length), i < k + 1 → lqN l[i] m[i] = true) := by
          intro h i j1 j2 hi
          by_cases e : i < k
          · exact HI.out i j1 j2 e
          · have : i = k := by omega
            subst this
            rw [← hp, ← hq]; exact h
        subst ero ero2
        rw [← hp] at p0 p1 p2 p3 p4
        rw [← hq] at r0 r1 r2 r3 r4
        clear hp hq h1 h2
        have s0 := HK.out.le
        have s2 : tb < wr.heap.size := by omega
        have s3 : tc < wr.heap.size := by omega
        have n5 : ¬ tb = wr.heap.size := by omega
        have n6 : ¬ wr.heap.size = tb := by omega
        have n7 : ¬ tc = wr.heap.size := by omega
        have n8 : ¬ wr.heap.size = tc := by omega
        go_wp2_with fail
        refine (nleq_any p q HP.out.1 HP.out.2 wr _ (by repeat (first | exact Ok.refl _ | refine Ok.alloc ?_ _ | refine Ok.draws ?_ _ | fail))).mono ?_
        rintro e w4 ⟨rfl, hb⟩
        have Hw4 : Hid (Ok w w4) := HK.out.step hb
        clear hb HK p0 p1 p2 p3 p4 r0 r1 r2 r3 r4 s0 s2 s3 n5 n6 n7 n8
        rcases Bool.eq_false_or_eq_true (lqN p q) with hz | hz
        · have HT2 : Hid _ := HT.out hz
          rw [hz]
          clear HT HF hz
          go_wp2_with fail
          exact ⟨⟨k + 1, by omega, by simp, HT2.out, Hw4.out⟩, by simp [intOf]; omega⟩
        · have HF2 : Hid (b = false) := HF.out hz
          rw [hz]
          clear HT HF hz
          go_wp2_with fail
          go_ret
          exact ⟨by rw [HF2.out]; rfl, HO.out.step Hw4.out⟩
      · have k3e : k = n := by omega
        subst k3e
        have HE : Hid (b = true) := by
          unfold Hid
          rw [HB.out]
          exact eqF_iff.2 ⟨by rw [← HN.out.1, ← HN.out.2], fun i j1 j2 => HI.out i j1 j2 (by rw [HN.out.1]; exact j1)⟩
        go_wp2_with fail
        go_ret
        exact ⟨by rw [HE.out]; rfl, HO.out.step HK.out⟩
  · have hne : ((n : Int) != (k2 : Int)) = true := by simp; omega
    have HE : Hid (b = false) := by
      unfold Hid
      rw [HB.out]
      exact eqF_off (fun h => he (by rw [HN.out.1, HN.out.2]; exact h))
    go_enter Try.func25, Try.ntmps25
    go_wp2_with fail
    go_ret
    exact ⟨by rw [HE.out]; rfl, HO.out⟩
theorem tite {α : Type} {P1 P2 P3 P4 P5 : Prop} [Decidable P1] [Decidable P2] [Decidable P3] [Decidable P4] [Decidable P5] {T F : α} : (if P1 then if P2 then if P3 then if P4 then if P5 then T else F else F else F else F else F) = if (P1 ∧ P2 ∧ P3 ∧ P4 ∧ P5) then T else F := by
  by_cases h1 : P1 <;> by_cases h2 : P2 <;> by_cases h3 : P3 <;> by_cases h4 : P4 <;> by_cases h5 : P5 <;> simp [h1, h2, h3, h4, h5]
theorem tqn_ne {x y : Int × Int × Nat × Nat × Bool} (h : x ≠ y) {α : Type} (T F : α) : (if x.2.2.2.2 = y.2.2.2.2 then if x.1 = y.1 then if x.2.1 = y.2.1 then if (x.2.2.1 : Int) = (y.2.2.1 : Int) then if (x.2.2.2.1 : Int) = (y.2.2.2.1 : Int) then T else F else F else F else F else F) = F := by
  rw [tite]
  obtain ⟨a, b, c, d, e⟩ := x
  obtain ⟨a', b', c', d', e'⟩ := y
  exact if_neg (fun k => h (by simp only [Prod.mk.injEq]; have k3 := k.2.2.2.1; have k4 := k.2.2.2.2; simp only at k3 k4; exact ⟨k.2.1, k.2.2.1, by omega, by omega, k.1⟩))
set_option maxRecDepth 100000 in
set_option maxHeartbeats 8000000 in
theorem eEqual_any (l m : List NT) (lo mo : Option Addr) (lc mc : Nat) (nl : l.length ≤ 3518437208883) (nm : m.length ≤ 3518437208883) {B C : Nat} (w0 w : World) (hok : Ok w0 w) (hL : SNs B w lo l) (hM : SNs C w mo m) :
    Calls Try.prog 33 #[.slice lo l.length lc, .slice mo m.length mc] w fun e w' => e = .returned (.bool (decide (l = m))) ∧ Ok w0 w' := by
  obtain ⟨n, hnn⟩ : ∃ n, n = l.length := ⟨_, rfl⟩
  obtain ⟨k2, hk2⟩ : ∃ n, n = m.length := ⟨_, rfl⟩
  obtain ⟨b, hb0⟩ : ∃ b, b = decide (l = m) := ⟨_, rfl⟩
  have HL : Hid (SNs B w lo l) := hL
  have HM : Hid (SNs C w mo m) := hM
  have HO : Hid (Ok w0 w) := hok
  rw [← hnn] at nl ⊢
  rw [← hk2] at nm ⊢
  rw [← hb0]
  have HN : Hid (n = l.length ∧ k2 = m.length) := ⟨hnn, hk2⟩
  have HB : Hid (b = decide (l = m)) := hb0
  clear hL hM hok hnn hk2 hb0
  by_cases he : n = k2
  · subst he
    go_enter Try.func33, Try.ntmps33
    go_wp2_with fail
    go_loopw [13] (fun s13 wr => ∃ (k : Nat), k ≤ n ∧ s13 = .int .i64 (k : Int) ∧ Hid (∀ i (h1 : i < l.length) (h2 : i < m.length), i < k → l[i] = m[i]) ∧ Hid (Ok w wr)) (fun s13 _ => n - (intOf s13).toNat)
    case atStart => exact ⟨0, by omega, rfl, fun i _ _ h => by omega, Ok.refl w⟩
    case round =>
      obtain ⟨k, hk, rfl, HI, HK⟩ := hrel
      by_cases k3 : k < n
      · have k3i : (k : Int) < (n : Int) := by omega
        have k0i : (0 : Int) ≤ (k : Int) := by omega
        have h1 : k < l.length := by rw [← HN.out.1]; exact k3
        have h2 : k < m.length := by rw [← HN.out.2]; exact k3
        obtain ⟨tb, o, ero, htb, p0, p1, p2, p3, p4⟩ := SNs.at HL.out HK.out (k := k) h1
        obtain ⟨tc, o2, ero2, htc, r0, r1, r2, r3, r4⟩ := SNs.at HM.out HK.out (k := k) h2
        obtain ⟨p, hp⟩ : ∃ p, p = l[k] := ⟨_, rfl⟩
        obtain ⟨q, hq⟩ : ∃ q, q = m[k] := ⟨_, rfl⟩
        have HF : Hid (p ≠ q → b = false) := by
          intro h
          rw [HB.out, decide_eq_false_iff_not]
          intro hz
          apply h
          rw [hp, hq]
          simp only [hz]
        have HT : Hid (p = q → ∀ i (h1 : i < l.length) (h2 : i < m.length), i < k + 1 → l[i] = m[i]) := by
          intro h i j1 j2 hi
          by_cases e : i < k
          · exact HI.out i j1 j2 e
          · have : i = k := by omega
            subst this
            rw [← hp, ← hq]; exact h
        subst ero ero2
        rw [← hp] at p0 p1 p2 p3 p4
        rw [← hq] at r0 r1 r2 r3 r4
        clear hp hq h1 h2
        by_cases xc : p = q
        · have HT2 : Hid _ := HT.out xc
          clear HT HF
          subst xc
          go_wp2_with fail
          go_region
          all_goals (go_wp2_with fail)
          all_goals exact ⟨⟨k + 1, by omega, by simp, HT2.out, Ok.draws HK.out _⟩, by simp [intOf]; omega⟩
        · have HF2 : Hid (b = false) := HF.out xc
          have hne : ∀ (α : Type) (T F : α), (if p.2.2.2.2 = q.2.2.2.2 then if p.1 = q.1 then if p.2.1 = q.2.1 then if (p.2.2.1 : Int) = (q.2.2.1 : Int) then if (p.2.2.2.1 : Int) = (q.2.2.2.1 : Int) then T else F else F else F else F else F) = F := fun _ _ _ => tqn_ne xc _ _
          clear HT HF xc
          go_wp2_with fail
          go_region
          all_goals (go_wp2_with fail)
          all_goals go_ret
          all_goals exact ⟨by rw [HF2.out]; rfl, HO.out.step (Ok.draws HK.out _)⟩
      · have k3e : k = n := by omega
        subst k3e
        have HE : Hid (b = true) := by
          unfold Hid
          rw [HB.out, decide_eq_true_iff]
          exact List.ext_getElem (by rw [← HN.out.1, ← HN.out.2]) (fun i j1 j2 => HI.out i j1 j2 (by rw [HN.out.1]; exact j1))
        go_wp2_with fail
        go_ret
        exact ⟨by rw [HE.out]; rfl, HO.out.step HK.out⟩
  · have hne : ((n : Int) != (k2 : Int)) = true := by simp; omega
    have HE : Hid (b = false) := by
      unfold Hid
      rw [HB.out, decide_eq_false_iff_not]
      exact fun h => he (by rw [HN.out.1, HN.out.2, h])
    go_enter Try.func33, Try.ntmps33
    go_wp2_with fail
    go_ret
    exact ⟨by rw [HE.out]; rfl, HO.out⟩
end Go.Proofs.Ytbkblijoimmdeaa
