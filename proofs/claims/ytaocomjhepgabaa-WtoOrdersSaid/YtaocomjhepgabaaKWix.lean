import Derived.Test.YtaocomjhepgabaaKWnd
set_option linter.unusedVariables false
set_option linter.unusedSimpArgs false
set_option linter.unnecessarySimpa false
/- Wtop Wix -/
namespace Go.Proofs.Ytaocomjhepgabaa
section
open Go.RowKit
def badV (n v : Int) : Bool := decide (v < 0) || decide (n ≤ v)
def badA (n : Int) (a : Int × Int) : Bool := badV n a.1 || badV n a.2
set_option maxHeartbeats 4000000 in
theorem none_any (w : World) (n v : Int) (b : Nat) (hc : w.cell? ⟨b, 0, none⟩ = some (.int .i64 n)) :
    Calls Try.prog 16 #[.int .i64 v, .pointer (some ⟨b, 0, none⟩)] w fun e w' => e = .returned (.bool (badV n v)) ∧ w' = w := by
  by_cases h1 : v < 0
  · have HE : Hid (badV n v = true) := by unfold Hid badV; simp [h1]
    have d1 : decide (v < 0) = true := by simpa using h1
    rw [HE.out]
    go_enter Try.func16, Try.ntmps16
    go_wp2_with fail
    go_ret
    exact ⟨rfl, rfl⟩
  · have d1 : decide (v < 0) = false := by simpa using h1
    by_cases h2 : n ≤ v
    · have HE : Hid (badV n v = true) := by unfold Hid badV; simp [h2]
      have d2 : decide (n ≤ v) = true := by simpa using h2
      rw [HE.out]
      go_enter Try.func16, Try.ntmps16
      go_wp2_with fail
      go_ret
      exact ⟨rfl, rfl⟩
    · have HE : Hid (badV n v = false) := by unfold Hid badV; simp [h1, h2]
      have d2 : decide (n ≤ v) = false := by simpa using h2
      have h2' : v < n := by omega
      rw [HE.out]
      go_enter Try.func16, Try.ntmps16
      go_wp2_with fail
      go_ret
      exact ⟨rfl, rfl⟩
set_option maxHeartbeats 4000000 in
theorem wrong_any (w : World) (n : Int) (a : Int × Int) (b bf : Nat) (hc : w.cell? ⟨b, 0, none⟩ = some (.int .i64 n)) (hb : b < w.heap.size) (hf : w.cell? ⟨bf, 0, none⟩ = some (.func (.func 16) #[] #[.pointer (some ⟨b, 0, none⟩)])) (hbf : bf < w.heap.size) :
    Calls Try.prog 17 #[.agg #[.int .i64 a.1, .int .i64 a.2], .pointer (some ⟨bf, 0, none⟩)] w fun e w' => e = .returned (.bool (badA n a)) ∧ Ok w w' := by
  obtain ⟨a1, a2⟩ := a
  have n1 : ¬ b = w.heap.size := by omega
  have n2 : ¬ bf = w.heap.size := by omega
  have HC : Hid (w.cell? ⟨b, 0, none⟩ = some (.int .i64 n)) := hc
  have HA : Hid (∀ o, (w.alloc o).cell? ⟨b, 0, none⟩ = some (.int .i64 n)) := fun o => (World.cell?_alloc_past _ _ _ hb).trans hc
  cases h1 : badV n a1 with
  | true =>
    have HE : Hid (badA n (a1, a2) = true) := by unfold Hid badA; rw [h1]; rfl
    rw [HE.out]
    have HV : Hid (badV n a1 = true) := h1
    clear h1
    go_enter Try.func17, Try.ntmps17
    go_wp2_with (go_at_call 16; refine (Calls.mono (none_any _ n a1 b (by first | exact HA.out _ | exact HC.out)) ?_); rw [HV.out]; rintro e w' ⟨rfl, hw⟩; replace hw := hw.symm; subst hw)
    go_ret
    exact ⟨rfl, (Ok.refl _).alloc _⟩
  | false =>
    have HE : Hid (badA n (a1, a2) = badV n a2) := by unfold Hid badA; rw [h1]; rfl
    rw [HE.out]
    have HV : Hid (badV n a1 = false) := h1
    clear h1
    go_enter Try.func17, Try.ntmps17
    go_wp2_with (first
      | (go_at_call_of 16 (a1); refine (Calls.mono (none_any _ n a1 b (by first | exact HA.out _ | exact HC.out)) ?_); rw [HV.out]; rintro e w' ⟨rfl, hw⟩; replace hw := hw.symm; subst hw)
      | (go_at_call_of 16 (a2); refine (Calls.mono (none_any _ n a2 b (by first | exact HA.out _ | exact HC.out)) ?_); rintro e w' ⟨rfl, hw⟩; replace hw := hw.symm; subst hw)
      | fail)
    go_ret
    exact ⟨rfl, (Ok.refl _).alloc _⟩
end
section
open Go.RowKit
/-- The closures of Order in a world. -/
structure OC (w : World) (n : Int) (b bf : Nat) : Prop where
  c : w.cell? ⟨b, 0, none⟩ = some (.int .i64 n)
  lb : b < w.heap.size
  f : w.cell? ⟨bf, 0, none⟩ = some (.func (.func 16) #[] #[.pointer (some ⟨b, 0, none⟩)])
  lf : bf < w.heap.size
theorem OC.ok {w w' : World} {n : Int} {b bf : Nat} (h : OC w n b bf) (hb : Ok w w') : OC w' n b bf :=
  ⟨hb.cell (p := ⟨b, 0, none⟩) h.lb h.c, Nat.lt_of_lt_of_le h.lb hb.le, hb.cell (p := ⟨bf, 0, none⟩) h.lf h.f, Nat.lt_of_lt_of_le h.lf hb.le⟩
set_option maxHeartbeats 4000000 in
theorem index_any {w : World} {n : Int} {b bf : Nat} {ro : Option Addr} {cap : Nat} {ars : List (Int × Int)} (h : OC w n b bf) (hs : SAr w ro ars) (hl : ars.length ≤ 10000) :
    Calls Try.prog 23 #[.slice ro ars.length cap, .func (.func 17) #[] #[.pointer (some ⟨bf, 0, none⟩)]] w fun e w' => (∃ k : Int, e = .returned (.int .i64 k) ∧ decide (0 ≤ k) = ars.any (badA n)) ∧ Ok w w' := by
  have HO : Hid (OC w n b bf) := h
  have HS : Hid (SAr w ro ars) := hs
  clear h hs
  go_enter Try.func23, Try.ntmps23
  go_wp2_with fail
  go_loopw [8] (fun a wr => ∃ (i : Nat), i ≤ ars.length ∧ a = .int .i64 (i : Nat) ∧ Hid ((ars.take i).any (badA n) = false) ∧ Hid (Ok w wr)) (fun a _ => ars.length - (intOf a).toNat)
  case atStart => exact ⟨0, by omega, rfl, by simp [Hid], Ok.refl _⟩
  case round =>
    obtain ⟨i, hi, rfl, HA, HK⟩ := hrel
    by_cases hil : i < ars.length
    · have hil' : (i : Int) < (ars.length : Int) := by omega
      obtain ⟨x, hx⟩ : ∃ x, ars[i]? = some x := ⟨ars[i], List.getElem?_eq_getElem hil⟩
      obtain ⟨tb, o, rfl, htb, hcs⟩ := (HS.out.ok HK.out) (by intro e; rw [e] at hil; cases hil)
      obtain ⟨a0, a1⟩ := hcs i _ hx
      have HX : Hid (ars[i]? = some x) := hx
      have hiw : IntKind.i64.wrap ((i : Int) + 1) = ((i + 1 : Nat) : Int) := wrap_nat (by omega) (by omega)
      have HOC : Hid (OC wr n b bf) := HO.out.ok HK.out
      have HST : Hid ((ars.take (i + 1)).any (badA n) = badA n x) := by
        unfold Hid
        rw [List.take_add_one, hx, List.any_append, HA.out]; simp
      clear hx hcs
      cases hbx : badA n x with
      | true =>
        have HB : Hid (badA n x = true) := hbx
        have HAY : Hid (ars.any (badA n) = true) := by
          unfold Hid
          rw [List.any_eq_true]
          exact ⟨x, List.mem_of_getElem? HX.out, HB.out⟩
        clear hbx
        go_wp2_with (go_at_call 17; refine (Calls.mono (wrong_any _ n x b bf HOC.out.c HOC.out.lb HOC.out.f HOC.out.lf) ?_); rw [HB.out]; rintro e w1 ⟨rfl, hk⟩; have HK1 : Hid (Ok wr w1) := hk; clear hk)
        go_ret
        exact ⟨⟨i, rfl, by rw [HAY.out]; simp⟩, HK.out.step HK1.out⟩
      | false =>
        have HB : Hid (badA n x = false) := hbx
        clear hbx
        go_wp2_with (go_at_call 17; refine (Calls.mono (wrong_any _ n x b bf HOC.out.c HOC.out.lb HOC.out.f HOC.out.lf) ?_); rw [HB.out]; rintro e w1 ⟨rfl, hk⟩; have HK1 : Hid (Ok wr w1) := hk; clear hk)
        refine ⟨⟨i + 1, by omega, rfl, ?_, HK.out.step HK1.out⟩, by simp only [intOf]; omega⟩
        unfold Hid; rw [HST.out]; exact HB.out
    · have hil' : ¬ (i : Int) < (ars.length : Int) := by omega
      have HAY : Hid (ars.any (badA n) = false) := by
        have := HA.out
        rw [show i = ars.length by omega, List.take_length] at this
        exact this
      go_wp2_with fail
      go_ret
      exact ⟨⟨-1, rfl, by rw [HAY.out]; rfl⟩, HK.out⟩
set_option maxHeartbeats 4000000 in
theorem contains_any {w : World} {n : Int} {b bf : Nat} {ro : Option Addr} {cap : Nat} {ars : List (Int × Int)} (h : OC w n b bf) (hs : SAr w ro ars) (hl : ars.length ≤ 10000) :
    Calls Try.prog 18 #[.slice ro ars.length cap, .func (.func 17) #[] #[.pointer (some ⟨bf, 0, none⟩)]] w fun e w' => e = .returned (.bool (ars.any (badA n))) ∧ Ok w w' := by
  have HC : Hid (Calls Try.prog 23 #[.slice ro ars.length cap, .func (.func 17) #[] #[.pointer (some ⟨bf, 0, none⟩)]] w fun e w' => (∃ k : Int, e = .returned (.int .i64 k) ∧ decide (0 ≤ k) = ars.any (badA n)) ∧ Ok w w') := index_any h hs hl
  clear h hs
  go_enter Try.func18, Try.ntmps18
  go_wp2_with (go_at_call 23; refine (Calls.mono HC.out ?_); rintro e w1 ⟨⟨k, rfl, hk⟩, hok⟩; have HK : Hid (decide (0 ≤ k) = ars.any (badA n)) := hk; clear hk)
  go_ret
  exact ⟨(by rw [← HK.out]; rfl), hok⟩
end
end Go.Proofs.Ytaocomjhepgabaa
