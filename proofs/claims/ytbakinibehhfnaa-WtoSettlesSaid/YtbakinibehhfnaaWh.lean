import Derived.Test.YtbakinibehhfnaaWf
import Derived.Test.YtbakinibehhfnaaWok
set_option linter.unusedVariables false
set_option linter.unusedSimpArgs false
set_option linter.unnecessarySimpa false
/- wto: hear. -/
namespace Go.Proofs.Ytbakinibehhfnaa
open Go.RowKit
/-- The world behind hear. -/
def heard (w : World) (b o m l : Nat) (s : Bool) : World := if s = false ∧ m ≤ l then (w.setCell ⟨b, o + 2, none⟩ (.int .i64 m)).setCell ⟨b, o + 3, none⟩ (.bool true) else w
theorem heard_no {w : World} {b o m l : Nat} {s : Bool} (h : ¬ (s = false ∧ m ≤ l)) : heard w b o m l s = w := if_neg h
theorem heard_yes {w : World} {b o m l : Nat} {s : Bool} (h : s = false ∧ m ≤ l) : heard w b o m l s = (w.setCell ⟨b, o + 2, none⟩ (.int .i64 m)).setCell ⟨b, o + 3, none⟩ (.bool true) := if_pos h
set_option maxHeartbeats 4000000 in
theorem hear_any (w : World) (b o m l : Nat) (lp s : Bool) (hb : b < w.heap.size) (h2 : w.cell? ⟨b, o + 2, none⟩ = some (.int .i64 l)) (h3 : w.cell? ⟨b, o + 3, none⟩ = some (.bool lp)) (h4 : w.cell? ⟨b, o + 4, none⟩ = some (.bool s)) (hw : ∀ k, w.frozen? ⟨b, k, none⟩ = false) :
    Calls Try.prog 30 #[.pointer (some ⟨b, o, none⟩), .int .i64 m] w fun e w' => e = .returned (.tuple #[]) ∧ w' = heard w b o m l s := by
  have hw2 := hw (o + 2)
  have hw3 := hw (o + 3)
  clear hw
  cases s with
  | true =>
    have HE : Hid _ := heard_no (w := w) (b := b) (o := o) (m := m) (l := l) (s := true) (by simp)
    go_enter Try.func30, Try.ntmps30
    go_wp2_with fail
    go_end0
    exact ⟨rfl, HE.out.symm⟩
  | false =>
    by_cases hl : m ≤ l
    · have HE : Hid _ := heard_yes (w := w) (b := b) (o := o) (m := m) (l := l) (s := false) ⟨rfl, hl⟩
      have hd : decide ((m : Int) ≤ (l : Int)) = true := by simpa using hl
      have hl' : (m : Int) ≤ (l : Int) := by omega
      go_enter Try.func30, Try.ntmps30
      go_wp2_with fail
      go_end0
      exact ⟨rfl, HE.out.symm⟩
    · have HE : Hid _ := heard_no (w := w) (b := b) (o := o) (m := m) (l := l) (s := false) (fun h => hl h.2)
      have hd : decide ((m : Int) ≤ (l : Int)) = false := by simpa using hl
      have hl' : ¬ (m : Int) ≤ (l : Int) := by omega
      go_enter Try.func30, Try.ntmps30
      go_wp2_with fail
      go_end0
      exact ⟨rfl, HE.out.symm⟩
end Go.Proofs.Ytbakinibehhfnaa
