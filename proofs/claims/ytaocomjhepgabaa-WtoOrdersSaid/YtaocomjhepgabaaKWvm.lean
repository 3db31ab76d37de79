import Derived.Test.YtaocomjhepgabaaKWhp
import Derived.Test.YtaocomjhepgabaaKWsm
set_option linter.unusedVariables false
set_option linter.unusedSimpArgs false
set_option linter.unnecessarySimpa false
/- Wvm -/
namespace Go.Proofs.Ytaocomjhepgabaa
open Go.RowKit Go.Maps
structure VIs (D : DataW Unit) (f : Int → Int) (K : List Int) : Prop where
  mp : IsMap D
  yes : ∀ v, v ∈ K → has D (.int .i64 v) = true
  no : ∀ v, v ∉ K → has D (.int .i64 v) = false
  val : ∀ v, D.atKey (.int .i64 v) (.lit (.int .i64 0)) = .lit (.int .i64 (f v))
theorem VIs.nil : VIs (.map []) (fun _ => 0) [] := ⟨⟨[], rfl⟩, fun v h => (by cases h), fun v _ => rfl, fun v => (by have h : has (.map [] : DataW Unit) (.int .i64 v) = false := rfl; rw [atKey_of_not_has h])⟩
theorem VIs.put {D : DataW Unit} {f : Int → Int} {K : List Int} (h : VIs D f K) (v y : Int) : VIs (D.put (.int .i64 v) (.lit (.int .i64 y))) (updF f v y) (addK K v) := by
  refine ⟨?_, fun u hu => ?_, fun u hu => ?_, fun u => ?_⟩
  · obtain ⟨es, rfl⟩ := h.mp
    exact ⟨_, DataW.put_eq _ _ _⟩
  · by_cases e : u = v
    · subst e; exact has_put_same h.mp (key_lit _) _
    · rw [has_put_other (key_ne e)]
      rcases mem_addK.1 hu with h1 | h1
      · exact h.yes u h1
      · exact absurd h1 e
  · have e : u ≠ v := fun e => hu (mem_addK.2 (.inr e))
    rw [has_put_other (key_ne e)]
    exact h.no u (fun h1 => hu (mem_addK.2 (.inl h1)))
  · by_cases e : u = v
    · subst e; rw [atKey_put_same h.mp (key_lit _), updF_same]
    · rw [atKey_put_other (key_ne e), updF_other e]; exact h.val u
/-- A map of marks: f, nought where there is none; K: the keys. -/
def VMap (w : World) (b N : Nat) (f : Int → Int) (K : List Int) : Prop := ∃ n D, n ≤ N ∧ w.ownsMap Try.prog 3 (plainElem Try.prog 3) b n D ∧ VIs D f K
theorem VMap.ok {w w' : World} {b N : Nat} {f : Int → Int} {K : List Int} (h : VMap w b N f K) (hb : Ok w w') : VMap w' b N f K := by
  obtain ⟨n, D, h0, h1, h2⟩ := h; exact ⟨n, D, h0, h1.kept (grown_below hb) (by simp), h2⟩
theorem VMap.more {w : World} {b N M : Nat} {f : Int → Int} {K : List Int} (h : VMap w b N f K) (hm : N ≤ M) : VMap w b M f K := by
  obtain ⟨n, D, h0, h1, h2⟩ := h; exact ⟨n, D, Nat.le_trans h0 hm, h1, h2⟩
theorem VMap.look {w : World} {b N : Nat} {f : Int → Int} {K : List Int} (h : VMap w b N f K) {v : Int} (h0 : -9223372036854775808 ≤ v) (h1 : v ≤ 9223372036854775807) :
    (Instr.lookup 33 (.map (some b)) (.int .i64 v) false).run Try.prog w = .ok (.int .i64 (f v)) w := by
  obtain ⟨n, D, _, hD, hS⟩ := h
  have hkey : keyOf Try.prog 3 (.int .i64 v) = some (.int .i64 v) := keyOf_int_mk Try.underlying3 (wf_of h0 h1)
  obtain ⟨u, ps, hrun, hu⟩ := hD.lookup law3 Try.underlying33 (zero3 w) (plainElem_int Try.underlying3 (by decide)) hkey
  rw [hS.val v] at hu
  obtain ⟨a, rfl, e⟩ := pm_int hu
  simp only [DataW.lit.injEq, Lit.int.injEq, true_and] at e
  rw [hrun, ← e]
theorem VMap.put {w : World} {b N : Nat} {f : Int → Int} {K : List Int} (h : VMap w b N f K) {v y : Int} (h0 : -9223372036854775808 ≤ v) (h1 : v ≤ 9223372036854775807) (h2 : -9223372036854775808 ≤ y) (h3 : y ≤ 9223372036854775807) (hN : N < maxLen) :
    ∃ w', (Instr.mapUpdate 33 (.map (some b)) (.int .i64 v) (.int .i64 y)).run Try.prog w = .ok () w' ∧ VMap w' b (N + 1) (updF f v y) (addK K v) ∧ w.grownBy w' (some b) := by
  obtain ⟨n, D, hn, hD, hS⟩ := h
  have hkey : keyOf Try.prog 3 (.int .i64 v) = some (.int .i64 v) := keyOf_int_mk Try.underlying3 (wf_of h0 h1)
  obtain ⟨w', hrun, hD', hg⟩ := hD.update law3 Try.underlying33 (by omega) hkey (plainElem_int (a := y) Try.underlying3 (wf_of h2 h3))
  exact ⟨w', hrun, ⟨n + 1, _, by omega, hD', hS.put v y⟩, hg⟩
end Go.Proofs.Ytaocomjhepgabaa
