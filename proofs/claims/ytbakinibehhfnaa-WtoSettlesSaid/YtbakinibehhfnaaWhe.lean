import Derived.Test.YtbakinibehhfnaaWsam
set_option linter.unusedVariables false
set_option linter.unusedSimpArgs false
set_option linter.unnecessarySimpa false
/- winnowlaw10.end: the place behind the component whose head stands at i: contract. -/
namespace Go.Proofs.Ytbakinibehhfnaa
open Go.RowKit
def underI (d : Int) (y : Int × Int × Bool) : Bool := decide (d < y.2.1) || (decide (y.2.1 = d) && !y.2.2)
def runI (d : Int) : List (Int × Int × Bool) → Nat
  | [] => 0
  | y :: r => if underI d y = true then 1 + runI d r else 0
theorem runI_le (d : Int) : ∀ l, runI d l ≤ l.length
  | [] => Nat.le_refl _
  | y :: r => by unfold runI; split; have := runI_le d r; simp; omega; exact Nat.zero_le _
theorem run_yes {d : Int} {xs : List (Int × Int × Bool)} {k : Nat} {y : Int × Int × Bool} (h : xs[k]? = some y) (hu : underI d y = true) : runI d (xs.drop k) = 1 + runI d (xs.drop (k + 1)) := by
  obtain ⟨hk, rfl⟩ := List.getElem?_eq_some_iff.1 h
  rw [List.drop_eq_getElem_cons hk, runI, if_pos hu]
theorem run_no {d : Int} {xs : List (Int × Int × Bool)} {k : Nat} {y : Int × Int × Bool} (h : xs[k]? = some y) (hu : underI d y = false) : runI d (xs.drop k) = 0 := by
  obtain ⟨hk, rfl⟩ := List.getElem?_eq_some_iff.1 h
  rw [List.drop_eq_getElem_cons hk, runI, if_neg (by rw [hu]; simp)]
set_option maxHeartbeats 4000000 in
theorem end_any {w : World} {ao : Option Addr} {ca : Nat} {xs : List (Int × Int × Bool)} {i : Nat} {v d : Int} {hb : Bool} (h1 : SEl w ao xs) (hx : xs[i]? = some (v, d, hb)) (hl : xs.length ≤ 1000000000000) :
    Calls Try.prog 12 #[.slice ao xs.length ca, .int .i64 (i : Nat)] w fun e w' => e = .returned (.int .i64 ((i + 1 + runI d (xs.drop (i + 1)) : Nat) : Int)) ∧ Ok w w' := by
  have hil : i < xs.length := (List.getElem?_eq_some_iff.1 hx).1
  have hne : xs ≠ [] := by intro e; rw [e] at hil; cases hil
  obtain ⟨ga, rfl, la, ha⟩ := h1 hne
  obtain ⟨p0, p1, p2⟩ := ha i _ hx
  simp only at p0 p1 p2
  have HA : Hid (∀ (k : Nat) (x : Int × Int × Bool), xs[k]? = some x → w.cell? ⟨ga, k * 3, none⟩ = some (.int .i64 x.1) ∧ w.cell? ⟨ga, k * 3 + 1, none⟩ = some (.int .i64 x.2.1) ∧ w.cell? ⟨ga, k * 3 + 2, none⟩ = some (.bool x.2.2)) := ha
  have hil' : (i : Int) < (xs.length : Int) := by omega
  have hiw : IntKind.i64.wrap ((i : Int) + 1) = ((i + 1 : Nat) : Int) := wrap_nat (by omega) (by omega)
  obtain ⟨E, hE⟩ : ∃ E, E = i + 1 + runI d (xs.drop (i + 1)) := ⟨_, rfl⟩
  rw [← hE]
  have HE : Hid (E = i + 1 + runI d (xs.drop (i + 1))) := hE
  clear hE hx h1 ha hne
  go_enter Try.func12, Try.ntmps12
  go_wp2_with fail
  go_loopw [5] (fun a wr => ∃ (k : Nat), k ≤ xs.length ∧ a = .int .i64 (k : Nat) ∧ Hid (Ok w wr ∧ E = k + runI d (xs.drop k))) (fun a _ => xs.length - (intOf a).toNat)
  case atStart => exact ⟨i + 1, by omega, rfl, ⟨Ok.refl _, HE.out⟩⟩
  case round =>
    obtain ⟨k, hk, rfl, HK⟩ := hrel
    clear HE
    by_cases hkl : k < xs.length
    · have hkl' : (k : Int) < (xs.length : Int) := by omega
      obtain ⟨y, hy⟩ : ∃ y, xs[k]? = some y := ⟨xs[k], List.getElem?_eq_getElem hkl⟩
      have c0 := HK.out.1.cell (p := ⟨ga, k * 3, none⟩) la (HA.out k y hy).1
      have c1 := HK.out.1.cell (p := ⟨ga, k * 3 + 1, none⟩) la (HA.out k y hy).2.1
      have c2 := HK.out.1.cell (p := ⟨ga, k * 3 + 2, none⟩) la (HA.out k y hy).2.2
      have q1 := HK.out.1.cell (p := ⟨ga, i * 3 + 1, none⟩) la p1
      have hkw : IntKind.i64.wrap ((k : Int) + 1) = ((k + 1 : Nat) : Int) := wrap_nat (by omega) (by omega)
      obtain ⟨y1, y2, y3⟩ := y
      simp only at c0 c1 c2
      have HY : Hid (xs[k]? = some (y1, y2, y3)) := hy
      clear hy
      by_cases e1 : d < y2
      · have d1 : decide (d < y2) = true := decide_eq_true e1
        have HN : Hid (E = (k + 1) + runI d (xs.drop (k + 1))) := by
          have := run_yes (d := d) HY.out (by unfold underI; rw [d1]; rfl)
          have h2 := HK.out.2; unfold Hid; omega
        go_wp2_with fail
        go_quiet (fail)
        go_wp2_with fail
        refine ⟨⟨k + 1, by omega, rfl, ⟨?_, HN.out⟩⟩, by simp only [intOf]; omega⟩
        first | exact HK.out.1 | exact HK.out.1.draws _ | exact Below.drew HK.out.1
      · have d1 : decide (d < y2) = false := decide_eq_false e1
        by_cases e2 : y2 = d
        · have d2 : (y2 == d) = true := by simpa using e2
          have HE2 : Hid _ := e2
          cases y3
          · have HN : Hid (E = (k + 1) + runI d (xs.drop (k + 1))) := by
              have := run_yes (d := d) HY.out (by unfold underI; simp [e2])
              have h2 := HK.out.2; unfold Hid; omega
            clear e2
            go_wp2_with fail
            go_quiet (fail)
            go_wp2_with fail
            refine ⟨⟨k + 1, by omega, rfl, ⟨?_, HN.out⟩⟩, by simp only [intOf]; omega⟩
            first | exact HK.out.1 | exact HK.out.1.draws _ | exact Below.drew HK.out.1
          · have HN : Hid (E = k) := by
              have := run_no (d := d) HY.out (by unfold underI; simp [d1])
              have h2 := HK.out.2; unfold Hid; omega
            clear e2
            go_wp2_with fail
            go_quiet (fail)
            go_wp2_with fail
            go_ret
            refine ⟨by rw [HN.out]; rfl, ?_⟩
            first | exact HK.out.1 | exact HK.out.1.draws _ | exact Below.drew HK.out.1
        · have d2 : (y2 == d) = false := by simpa using e2
          have HN : Hid (E = k) := by
            have := run_no (d := d) HY.out (by unfold underI; simp [d1, e2])
            have h2 := HK.out.2; unfold Hid; omega
          clear e2
          go_wp2_with fail
          go_quiet (fail)
          go_wp2_with fail
          go_ret
          refine ⟨by rw [HN.out]; rfl, ?_⟩
          first | exact HK.out.1 | exact HK.out.1.draws _ | exact Below.drew HK.out.1
    · have hkl' : ¬ (k : Int) < (xs.length : Int) := by omega
      have HN : Hid (E = k) := by
        have h2 := HK.out.2
        rw [List.drop_eq_nil_of_le (by omega)] at h2
        exact h2
      go_wp2_with fail
      go_quiet (fail)
      go_wp2_with fail
      go_ret
      refine ⟨by rw [HN.out]; rfl, ?_⟩
      first | exact HK.out.1 | exact HK.out.1.draws _ | exact Below.drew HK.out.1
end Go.Proofs.Ytbakinibehhfnaa
