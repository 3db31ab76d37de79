import Derived.Test.YtaocomjhepgabaaKWnum
set_option linter.unusedVariables false
set_option linter.unusedSimpArgs false
set_option linter.unnecessarySimpa false
/- Whm -/
namespace Go.Proofs.Ytaocomjhepgabaa
open Go.RowKit Go.Maps
theorem zero4 (w : World) : (zeroValue 4).run Try.prog w = .ok (.bool false) w := by kernel_rfl
/-- A map that holds true for just the numbers ks. -/
structure SetIs (D : DataW Unit) (ks : List Int) : Prop where
  mp : IsMap D
  yes : ∀ v, v ∈ ks → has D (.int .i64 v) = true ∧ D.atKey (.int .i64 v) (.lit (.bool false)) = .lit (.bool true)
  no : ∀ v, v ∉ ks → has D (.int .i64 v) = false
  len : size D = ks.length
theorem SetIs.nil : SetIs (.map []) [] := ⟨⟨[], rfl⟩, fun v h => (by cases h), fun v _ => rfl, rfl⟩
theorem key_lit (v : Int) : WideAt.IsKeyLit (.int .i64 v) := by simp [WideAt.IsKeyLit]
theorem key_ne {u v : Int} (h : u ≠ v) : (Lit.int .i64 u) ≠ .int .i64 v := fun e => by injection e with _ e; exact h e
theorem SetIs.put {D : DataW Unit} {ks : List Int} (h : SetIs D ks) (ht : Tidy D) {v : Int} (hv : v ∉ ks) : SetIs (D.put (.int .i64 v) (.lit (.bool true))) (ks ++ [v]) := by
  refine ⟨?_, fun u hu => ?_, fun u hu => ?_, ?_⟩
  · obtain ⟨es, rfl⟩ := h.mp
    exact ⟨_, DataW.put_eq _ _ _⟩
  · by_cases e : u = v
    · subst e
      exact ⟨has_put_same h.mp (key_lit _) _, atKey_put_same h.mp (key_lit _) _ _⟩
    · have hu' : u ∈ ks := by
        rcases List.mem_append.1 hu with h | h
        · exact h
        · simp at h; exact absurd h e
      rw [has_put_other (key_ne e), atKey_put_other (key_ne e)]
      exact h.yes u hu'
  · have hne : u ≠ v := fun e => hu (by simp [e])
    rw [has_put_other (key_ne hne)]
    exact h.no u (fun h => hu (List.mem_append_left _ h))
  · rw [size_put ht, h.no v hv, h.len]; simp
theorem SetIs.again {D : DataW Unit} {ks : List Int} (h : SetIs D ks) (ht : Tidy D) {v : Int} (hv : v ∈ ks) : SetIs (D.put (.int .i64 v) (.lit (.bool true))) ks := by
  refine ⟨?_, fun u hu => ?_, fun u hu => ?_, ?_⟩
  · obtain ⟨es, rfl⟩ := h.mp
    exact ⟨_, DataW.put_eq _ _ _⟩
  · by_cases e : u = v
    · subst e
      exact ⟨has_put_same h.mp (key_lit _) _, atKey_put_same h.mp (key_lit _) _ _⟩
    · rw [has_put_other (key_ne e), atKey_put_other (key_ne e)]
      exact h.yes u hu
  · have hne : u ≠ v := fun e => hu (by rw [e]; exact hv)
    rw [has_put_other (key_ne hne)]
    exact h.no u hu
  · rw [size_put ht, (h.yes v hv).1, h.len]; simp
/-- A set of numbers in a world. -/
def BMap (w : World) (b N : Nat) (ks : List Int) : Prop := ∃ n D, n ≤ N ∧ w.ownsMap Try.prog 3 (plainElem Try.prog 4) b n D ∧ SetIs D ks
theorem BMap.lt {w : World} {b N : Nat} {ks : List Int} (h : BMap w b N ks) : b < w.heap.size := by
  obtain ⟨n, D, _, h1, _⟩ := h; exact h1.lt
theorem BMap.look {w : World} {b N : Nat} {ks : List Int} (h : BMap w b N ks) {v : Int} (h0 : -9223372036854775808 ≤ v) (h1 : v ≤ 9223372036854775807) :
    (Instr.lookup 39 (.map (some b)) (.int .i64 v) false).run Try.prog w = .ok (.bool (decide (v ∈ ks))) w := by
  obtain ⟨n, D, _, hD, hS⟩ := h
  have hkey : keyOf Try.prog 3 (.int .i64 v) = some (.int .i64 v) := keyOf_int_mk Try.underlying3 (wf_of h0 h1)
  obtain ⟨u, ps, hrun, hu⟩ := hD.lookup law3 Try.underlying39 (zero4 w) (plainElem_bool Try.underlying4 false) hkey
  rw [hrun]
  by_cases hv : v ∈ ks
  · rw [(hS.yes v hv).2] at hu
    obtain ⟨x, hx, hy⟩ : ∃ x, u = .bool x ∧ (DataW.lit (.bool true) : DataW Unit) = .lit (.bool x) := by
      have := plainElem_places hu
      cases u with
      | bool x =>
        rw [plainElem_bool Try.underlying4 x] at hu
        simp only [Option.some.injEq, Prod.mk.injEq] at hu
        exact ⟨x, rfl, hu.1.symm⟩
      | _ => simp [plainElem, Try.underlying4] at hu
    rw [hx, decide_eq_true hv]
    simp only [DataW.lit.injEq, Lit.bool.injEq] at hy
    rw [← hy]
  · rw [atKey_of_not_has (hS.no v hv)] at hu
    obtain ⟨x, hx, hy⟩ : ∃ x, u = .bool x ∧ (DataW.lit (.bool false) : DataW Unit) = .lit (.bool x) := by
      cases u with
      | bool x =>
        rw [plainElem_bool Try.underlying4 x] at hu
        simp only [Option.some.injEq, Prod.mk.injEq] at hu
        exact ⟨x, rfl, hu.1.symm⟩
      | _ => simp [plainElem, Try.underlying4] at hu
    rw [hx, decide_eq_false hv]
    simp only [DataW.lit.injEq, Lit.bool.injEq] at hy
    rw [← hy]
theorem BMap.len {w : World} {b N : Nat} {ks : List Int} (h : BMap w b N ks) (ty : TypeId) : (Builtin.len_ #[39] ty #[.map (some b)]).run Try.prog w = .ok (.int .i64 (ks.length : Nat)) w := by
  obtain ⟨n, D, _, hD, hS⟩ := h
  rw [hD.len Try.underlying39 ty, hS.len]
/-- The numbers, one more; it may stand there. -/
def addK (ks : List Int) (v : Int) : List Int := if v ∈ ks then ks else ks ++ [v]
theorem BMap.put {w : World} {b N : Nat} {ks : List Int} (h : BMap w b N ks) {v : Int} (h0 : -9223372036854775808 ≤ v) (h1 : v ≤ 9223372036854775807) (hN : N < maxLen) :
    ∃ w', (Instr.mapUpdate 39 (.map (some b)) (.int .i64 v) (.bool true)).run Try.prog w = .ok () w' ∧ BMap w' b (N + 1) (addK ks v) ∧ w.grownBy w' (some b) := by
  obtain ⟨n, D, hn, hD, hS⟩ := h
  have hkey : keyOf Try.prog 3 (.int .i64 v) = some (.int .i64 v) := keyOf_int_mk Try.underlying3 (wf_of h0 h1)
  obtain ⟨w', hrun, hD', hg⟩ := hD.update law3 Try.underlying39 (by omega) hkey (plainElem_bool Try.underlying4 true)
  refine ⟨w', hrun, ⟨n + 1, _, by omega, hD', ?_⟩, hg⟩
  unfold addK
  split
  · rename_i hv; exact hS.again (hD.tidy law3) hv
  · rename_i hv; exact hS.put (hD.tidy law3) hv
end Go.Proofs.Ytaocomjhepgabaa
