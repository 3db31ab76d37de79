import Derived.Test.YtaocomjhepgabaaKWor
set_option linter.unusedVariables false
set_option linter.unusedSimpArgs false
set_option linter.unnecessarySimpa false
/- Wsam -/
namespace Go.Proofs.Ytaocomjhepgabaa
open Go.RowKit
/-- A slice of elements, as they are read; none may have any address. -/
def SEl (w : World) (ao : Option Addr) (xs : List (Int × Int × Bool)) : Prop :=
  xs ≠ [] → ∃ g, ao = some ⟨g, 0, none⟩ ∧ g < w.heap.size ∧ ∀ (k : Nat) (x : Int × Int × Bool), xs[k]? = some x → w.cell? ⟨g, k * 3, none⟩ = some (.int .i64 x.1) ∧ w.cell? ⟨g, k * 3 + 1, none⟩ = some (.int .i64 x.2.1) ∧ w.cell? ⟨g, k * 3 + 2, none⟩ = some (.bool x.2.2)
theorem SEl.ok {w w' : World} {ao : Option Addr} {xs : List (Int × Int × Bool)} (h : SEl w ao xs) (hb : Ok w w') : SEl w' ao xs := by
  intro hne
  obtain ⟨g, e, hl, hc⟩ := h hne
  exact ⟨g, e, Nat.lt_of_lt_of_le hl hb.le, fun k x hx => ⟨hb.cell (p := ⟨g, k * 3, none⟩) hl (hc k x hx).1, hb.cell (p := ⟨g, k * 3 + 1, none⟩) hl (hc k x hx).2.1, hb.cell (p := ⟨g, k * 3 + 2, none⟩) hl (hc k x hx).2.2⟩⟩
theorem SEl.of {w : World} {B n : Nat} {v : Value} {xs : List (Int × Int × Bool)} (h : w.ownsRow B 35 3 v n (fl xs)) : n = xs.length ∧ ∃ ao cap, v = .slice ao xs.length cap ∧ SEl w ao xs := by
  have hn : n = xs.length := by have := h.1; rw [fl_len] at this; omega
  subst hn
  refine ⟨rfl, ?_⟩
  obtain ⟨ao, cap, rfl⟩ := own_form h
  refine ⟨ao, cap, rfl, fun hne => ?_⟩
  have hpos : 0 < xs.length := List.length_pos_iff.2 hne
  obtain ⟨g, cap', e, _, hl⟩ := h.form hpos
  injection e with e1 _ e3
  subst e1 e3
  exact ⟨g, rfl, hl, fun k x hx => by
    obtain ⟨a, b, c, _, _⟩ := own_cell3 h hx
    exact ⟨a, b, c⟩⟩
set_option maxHeartbeats 4000000 in
theorem same_yes {w : World} {ao bo : Option Addr} {ca cb : Nat} {xs : List (Int × Int × Bool)} (h1 : SEl w ao xs) (h2 : SEl w bo xs) (hl : xs.length ≤ 1000000000000) :
    Calls Try.prog 9 #[.slice ao xs.length ca, .slice bo xs.length cb] w fun e w' => e = .returned (.bool true) ∧ Ok w w' := by
  have H1 : Hid (SEl w ao xs) := h1
  have H2 : Hid (SEl w bo xs) := h2
  clear h1 h2
  go_enter Try.func9, Try.ntmps9
  go_wp2_with fail
  go_loopw [5] (fun a wr => ∃ (i : Nat), i ≤ xs.length ∧ a = .int .i64 (i : Nat) ∧ Hid (Ok w wr)) (fun a _ => xs.length - (intOf a).toNat)
  case atStart => exact ⟨0, by omega, rfl, Ok.refl _⟩
  case round =>
    obtain ⟨i, hi, rfl, HK⟩ := hrel
    by_cases hil : i < xs.length
    · have hil' : (i : Int) < (xs.length : Int) := by omega
      obtain ⟨x, hx⟩ : ∃ x, xs[i]? = some x := ⟨xs[i], List.getElem?_eq_getElem hil⟩
      have hne : xs ≠ [] := by intro e; rw [e] at hil; cases hil
      obtain ⟨ga, rfl, la, ha⟩ := (H1.out.ok HK.out) hne
      obtain ⟨gb, rfl, lb, hb⟩ := (H2.out.ok HK.out) hne
      obtain ⟨a0, a1, a2⟩ := ha i x hx
      obtain ⟨b0, b1, b2⟩ := hb i x hx
      obtain ⟨x1, x2, x3⟩ := x
      simp only at a0 a1 a2 b0 b1 b2
      have hiw : IntKind.i64.wrap ((i : Int) + 1) = ((i + 1 : Nat) : Int) := wrap_nat (by omega) (by omega)
      clear ha hb hx hne
      go_wp2_with fail
      go_quiet (fail)
      go_wp2_with fail
      refine ⟨⟨i + 1, by omega, rfl, ?_⟩, by simp only [intOf]; omega⟩
      first | exact HK | exact HK.out.draws _ | exact Below.drew HK.out
    · have hil' : ¬ (i : Int) < (xs.length : Int) := by omega
      go_wp2_with fail
      go_ret
      exact ⟨rfl, HK.out⟩
end Go.Proofs.Ytaocomjhepgabaa
