import Derived.Test.YtbakinibehhfnaaWhp
import Derived.Test.YtbakinibehhfnaaWsm
set_option linter.unusedVariables false
set_option linter.unusedSimpArgs false
set_option linter.unnecessarySimpa false
/- WtoSettles: the map of marks: as run equations; inside. -/
namespace Go.Proofs.Ytbakinibehhfnaa
open Go.RowKit Go.Maps
structure VIs (D : DataW Unit) (f : Int → Int) (K : List Int) : Prop where
  mp : IsMap D
  yes : ∀ v, v ∈ K → has D (.int .i64 v) = true
  no : ∀ v, v ∉ K → has D (.int .i64 v) = false
  val : ∀ v, D.atKey (.int .i64 v) (.lit (.int .i64 0)) = .lit (.int .i64 (f v))
theorem VIs.nil : VIs (.map []) (fun _ => 0) [] := ⟨⟨[], rfl⟩, fun v h => (by cases h), fun v _ => rfl, fun v => (by have h : has (.map [] : DataW Unit) (.int .i64 v) = false := rfl; rw [atKey_of_not_has h])⟩
theorem VIs.put {D : DataW Unit} {f : Int → Int} {K : List Int} (h : VIs D f K) (v y : Int) : VIs (D.put (.int .i64 v) (.lit (.int .i64 y))) (updF f v y) (addK K v) := by
  refine ⟨?_, fun u hu => ?_, fun u hu => ?_, fun u => ?_⟩
  · obtain ⟨es, rfl⟩ := h.mp
    exact ⟨_, DataW.put_eq _ _ _⟩
  · by_cases e : u = v
    · subst e; exact has_put_same h.mp (key_lit _) _
    · rw [has_put_other (key_ne e)]
      rcases mem_addK.1 hu with h1 | h1
      · exact h.yes u h1
      · exact absurd h1 e
  · have e : u ≠ v := fun e => hu (mem_addK.2 (.inr e))
    rw [has_put_other (key_ne e)]
    exact h.no u (fun h1 => hu (mem_addK.2 (.inl h1)))
  · by_cases e : u = v
    · subst e; rw [atKey_put_same h.mp (key_lit _), updF_same]
    · rw [atKey_put_other (key_ne e), updF_other e]; exact h.val u
/-- A map of marks: f, nought where there is none; K: the keys. -/
def VMap (w : World) (b N : Nat) (f : Int → Int) (K : List Int) : Prop := ∃ n D, n ≤ N ∧ w.ownsMap Try.prog 3 (plainElem Try.prog 3) b n D ∧ VIs D f K
theorem VMap.made (w : World) : VMap (w.alloc (.map #[] 0)) w.heap.size 0 (fun _ => 0) [] := ⟨0, _, Nat.le_refl _, World.ownsMap_made w Try.prog 3 _, VIs.nil⟩
theorem VMap.ok {w w' : World} {b N : Nat} {f : Int → Int} {K : List Int} (h : VMap w b N f K) (hb : Ok w w') : VMap w' b N f K := by
  obtain ⟨n, D, h0, h1, h2⟩ := h; exact ⟨n, D, h0, h1.kept (grown_below hb) (by simp), h2⟩
theorem VMap.more {w : World} {b N M : Nat} {f : Int → Int} {K : List Int} (h : VMap w b N f K) (hm : N ≤ M) : VMap w b M f K := by
  obtain ⟨n, D, h0, h1, h2⟩ := h; exact ⟨n, D, Nat.le_trans h0 hm, h1, h2⟩
theorem VMap.look {w : World} {b N : Nat} {f : Int → Int} {K : List Int} (h : VMap w b N f K) {v : Int} (h0 : -9223372036854775808 ≤ v) (h1 : v ≤ 9223372036854775807) :
    (Instr.lookup 33 (.map (some b)) (.int .i64 v) false).run Try.prog w = .ok (.int .i64 (f v)) w := by
  obtain ⟨n, D, _, hD, hS⟩ := h
  have hkey : keyOf Try.prog 3 (.int .i64 v) = some (.int .i64 v) := keyOf_int_mk Try.underlying3 (wf_of h0 h1)
  obtain ⟨u, ps, hrun, hu⟩ := hD.lookup law3 Try.underlying33 (zero3 w) (plainElem_int Try.underlying3 (by decide)) hkey
  rw [hS.val v] at hu
  obtain ⟨a, rfl, e⟩ := pm_int hu
  simp only [DataW.lit.injEq, Lit.int.injEq, true_and] at e
  rw [hrun, ← e]
theorem VMap.look_ok {w : World} {b N : Nat} {f : Int → Int} {K : List Int} (h : VMap w b N f K) {v : Int} (h0 : -9223372036854775808 ≤ v) (h1 : v ≤ 9223372036854775807) :
    (Instr.lookup 33 (.map (some b)) (.int .i64 v) true).run Try.prog w = .ok (.tuple #[.int .i64 (f v), .bool (decide (v ∈ K))]) w := by
  obtain ⟨n, D, _, hD, hS⟩ := h
  have hkey : keyOf Try.prog 3 (.int .i64 v) = some (.int .i64 v) := keyOf_int_mk Try.underlying3 (wf_of h0 h1)
  obtain ⟨u, ps, hrun, hu⟩ := hD.look_ok law3 Try.underlying33 (zero3 w) (plainElem_int Try.underlying3 (by decide)) hkey
  rw [hS.val v] at hu
  obtain ⟨a, rfl, e⟩ := pm_int hu
  simp only [DataW.lit.injEq, Lit.int.injEq, true_and] at e
  rw [hrun, ← e]
  by_cases hv : v ∈ K
  · rw [hS.yes v hv, decide_eq_true hv]
  · rw [hS.no v hv, decide_eq_false hv]
theorem VMap.put {w : World} {b N : Nat} {f : Int → Int} {K : List Int} (h : VMap w b N f K) {v y : Int} (h0 : -9223372036854775808 ≤ v) (h1 : v ≤ 9223372036854775807) (h2 : -9223372036854775808 ≤ y) (h3 : y ≤ 9223372036854775807) (hN : N < maxLen) :
    ∃ w', (Instr.mapUpdate 33 (.map (some b)) (.int .i64 v) (.int .i64 y)).run Try.prog w = .ok () w' ∧ VMap w' b (N + 1) (updF f v y) (addK K v) ∧ w.grownBy w' (some b) := by
  obtain ⟨n, D, hn, hD, hS⟩ := h
  have hkey : keyOf Try.prog 3 (.int .i64 v) = some (.int .i64 v) := keyOf_int_mk Try.underlying3 (wf_of h0 h1)
  obtain ⟨w', hrun, hD', hg⟩ := hD.update law3 Try.underlying33 (by omega) hkey (plainElem_int (a := y) Try.underlying3 (wf_of h2 h3))
  exact ⟨w', hrun, ⟨n + 1, _, by omega, hD', hS.put v y⟩, hg⟩
/-- Vertices of a list of elements. -/
def vsX (xs : List (Int × Int × Bool)) : List Int := xs.map (·.1)
theorem any_mem {vs : List Int} {v : Int} {k : Nat} (h1 : vs[k]? = some v) : v ∈ vs := List.mem_of_getElem? h1
theorem not_next {vs : List Int} {v y : Int} {k : Nat} (h : v ∉ vs.take k) (hy : vs[k]? = some y) (hn : y ≠ v) : v ∉ vs.take (k + 1) := by
  obtain ⟨hk, he⟩ := List.getElem?_eq_some_iff.1 hy
  rw [List.take_succ_eq_append_getElem hk, he]
  intro hh
  rcases List.mem_append.1 hh with hh | hh
  · exact h hh
  · rw [List.mem_singleton] at hh; exact hn hh.symm
theorem vsX_at {xs : List (Int × Int × Bool)} {k : Nat} {x : Int × Int × Bool} (h : xs[k]? = some x) : (vsX xs)[k]? = some x.1 := by
  unfold vsX; rw [List.getElem?_map, h]; rfl
theorem vsX_len (xs : List (Int × Int × Bool)) : (vsX xs).length = xs.length := by unfold vsX; rw [List.length_map]
set_option maxHeartbeats 4000000 in
theorem inside_any {w : World} {ao : Option Addr} {ca : Nat} {xs : List (Int × Int × Bool)} {v : Int} (h1 : SEl w ao xs) (hl : xs.length ≤ 1000000000000) :
    Calls Try.prog 10 #[.slice ao xs.length ca, .int .i64 v] w fun e w' => e = .returned (.bool (decide (v ∈ vsX xs))) ∧ Ok w w' := by
  have HS : Hid (SEl w ao xs) := h1
  have HL : Hid (xs.length ≤ 1000000000000) := hl
  obtain ⟨d, hd⟩ : ∃ d, d = decide (v ∈ vsX xs) := ⟨_, rfl⟩
  rw [← hd]
  have HD : Hid (d = decide (v ∈ vsX xs)) := hd
  clear hd h1 hl
  go_enter Try.func10, Try.ntmps10
  go_wp2_with fail
  go_loopw [5] (fun a wr => ∃ (k : Nat), k ≤ xs.length ∧ a = .int .i64 (k : Nat) ∧ Hid (Ok w wr ∧ v ∉ (vsX xs).take k)) (fun a _ => ((xs.length : Int) - intOf a).toNat)
  case atStart => exact ⟨0, Nat.zero_le _, rfl, Ok.refl _, by simp⟩
  case round =>
    obtain ⟨k, hk, rfl, HK⟩ := hrel
    by_cases hkl : k < xs.length
    · have hkl' : (k : Int) < (xs.length : Int) := cast_lt' hkl
      obtain ⟨y, hy⟩ : ∃ y, xs[k]? = some y := ⟨xs[k], List.getElem?_eq_getElem hkl⟩
      obtain ⟨ga, hao, la, ha⟩ := HS.out (fun e => by rw [e] at hkl; cases hkl)
      subst hao
      have c0 := HK.out.1.cell (p := ⟨ga, k * 3, none⟩) la (ha k y hy).1
      have hkw : IntKind.i64.wrap ((k : Int) + 1) = ((k + 1 : Nat) : Int) := kw_bnd (Nat.lt_of_lt_of_le hkl HL.out)
      obtain ⟨y1, y2, y3⟩ := y
      simp only at c0
      have HY : Hid ((vsX xs)[k]? = some y1) := vsX_at hy
      clear hy ha la
      by_cases e1 : y1 = v
      · subst e1
        have HDT : Hid (d = true) := by unfold Hid; rw [HD.out]; exact decide_eq_true (any_mem HY.out)
        go_wp2_with fail
        go_ret
        exact ⟨by rw [HDT.out]; rfl, HK.out.1⟩
      · have HN : Hid (Ok w wr ∧ v ∉ (vsX xs).take (k + 1)) := ⟨HK.out.1, not_next HK.out.2 HY.out e1⟩
        go_wp2_with fail
        go_roundw
        case rel => exact ⟨k + 1, hkl, rfl, HN⟩
        case measure => exact meas hkl
    · have hkl' : ¬ (k : Int) < (xs.length : Int) := cast_nlt hkl
      have HDT : Hid (d = false) := by unfold Hid; rw [HD.out]; refine decide_eq_false ?_; have := HK.out.2; rwa [List.take_of_length_le (by rw [vsX_len]; exact Nat.le_of_not_lt hkl)] at this
      go_wp2_with fail
      go_ret
      exact ⟨by rw [HDT.out]; rfl, HK.out.1⟩
end Go.Proofs.Ytbakinibehhfnaa
