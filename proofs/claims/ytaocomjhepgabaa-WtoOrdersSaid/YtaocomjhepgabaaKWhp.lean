import Derived.Test.YtaocomjhepgabaaKWhm
set_option linter.unusedVariables false
set_option linter.unusedSimpArgs false
set_option linter.unnecessarySimpa false
/- Whp -/
namespace Go.Proofs.Ytaocomjhepgabaa
open Go.RowKit Go.Maps
/-- A map that tells of each of vs its first place. -/
def PMap (w : World) (b N : Nat) (vs : List Int) : Prop := ∃ n D, n ≤ N ∧ w.ownsMap Try.prog 3 (plainElem Try.prog 3) b n D ∧ MapIs D vs
theorem PMap.lt {w : World} {b N : Nat} {vs : List Int} (h : PMap w b N vs) : b < w.heap.size := by
  obtain ⟨n, D, _, h1, _⟩ := h; exact h1.lt
theorem PMap.kept {w w' : World} {b N : Nat} {vs : List Int} {row : Option Nat} (h : PMap w b N vs) (hg : w.grownBy w' row) (hne : some b ≠ row) : PMap w' b N vs := by
  obtain ⟨n, D, h0, h1, h2⟩ := h; exact ⟨n, D, h0, h1.kept hg hne, h2⟩
theorem PMap.alloc {w : World} {b N : Nat} {vs : List Int} (h : PMap w b N vs) (o : Obj) : PMap (w.alloc o) b N vs := by
  obtain ⟨n, D, h0, h1, h2⟩ := h; exact ⟨n, D, h0, h1.alloc o, h2⟩
theorem BMap.kept {w w' : World} {b N : Nat} {ks : List Int} {row : Option Nat} (h : BMap w b N ks) (hg : w.grownBy w' row) (hne : some b ≠ row) : BMap w' b N ks := by
  obtain ⟨n, D, h0, h1, h2⟩ := h; exact ⟨n, D, h0, h1.kept hg hne, h2⟩
theorem BMap.alloc {w : World} {b N : Nat} {ks : List Int} (h : BMap w b N ks) (o : Obj) : BMap (w.alloc o) b N ks := by
  obtain ⟨n, D, h0, h1, h2⟩ := h; exact ⟨n, D, h0, h1.alloc o, h2⟩
theorem pm_int {u : Value} {z : DataW Unit × List MemPlace} (h : plainElem (H := Unit) Try.prog 3 u = some z) : ∃ a, u = .int .i64 a ∧ z.1 = .lit (.int .i64 a) := by
  obtain ⟨a, h1, h2, _⟩ := plainElem_int_inv Try.underlying3 h
  exact ⟨a, h1, by rw [h2]⟩
theorem PMap.look {w : World} {b N : Nat} {vs : List Int} (h : PMap w b N vs) {v : Int} (h0 : -9223372036854775808 ≤ v) (h1 : v ≤ 9223372036854775807) (hv : v ∈ vs) :
    (Instr.lookup 33 (.map (some b)) (.int .i64 v) false).run Try.prog w = .ok (.int .i64 (vs.idxOf v : Nat)) w := by
  obtain ⟨n, D, _, hD, hS⟩ := h
  have hkey : keyOf Try.prog 3 (.int .i64 v) = some (.int .i64 v) := keyOf_int_mk Try.underlying3 (wf_of h0 h1)
  obtain ⟨u, ps, hrun, hu⟩ := hD.lookup law3 Try.underlying33 (zero3 w) (plainElem_int Try.underlying3 (by decide)) hkey
  rw [hrun, (hS.yes v hv).2] at *
  obtain ⟨a, rfl, e⟩ := pm_int hu
  simp only [DataW.lit.injEq, Lit.int.injEq, true_and] at e
  rw [← e]
theorem PMap.put {w : World} {b N : Nat} {vs : List Int} (h : PMap w b N vs) {v : Int} (h0 : -9223372036854775808 ≤ v) (h1 : v ≤ 9223372036854775807) (hv : v ∉ vs) (hN : N < maxLen) (hl : vs.length ≤ 1000000000000) :
    ∃ w', (Instr.mapUpdate 33 (.map (some b)) (.int .i64 v) (.int .i64 (vs.length : Nat))).run Try.prog w = .ok () w' ∧ PMap w' b (N + 1) (vs ++ [v]) ∧ w.grownBy w' (some b) := by
  obtain ⟨n, D, hn, hD, hS⟩ := h
  have hkey : keyOf Try.prog 3 (.int .i64 v) = some (.int .i64 v) := keyOf_int_mk Try.underlying3 (wf_of h0 h1)
  obtain ⟨w', hrun, hD', hg⟩ := hD.update law3 Try.underlying33 (by omega) hkey (plainElem_int (a := ((vs.length : Nat) : Int)) Try.underlying3 (wf_of (by omega) (by omega)))
  exact ⟨w', hrun, ⟨n + 1, _, by omega, hD', hS.put hv⟩, hg⟩
end Go.Proofs.Ytaocomjhepgabaa
