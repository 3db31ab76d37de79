import Derived.Deep.LoopGhost
import Derived.Test.YtaocomjhepgabaaKWbt
import Derived.Test.YtaocomjhepgabaaKWfh
import Derived.Test.YtaocomjhepgabaaKWhe
import Derived.Test.YtaocomjhepgabaaKWhm
import Derived.Test.YtaocomjhepgabaaKWhp
import Derived.Test.YtaocomjhepgabaaKWhq
set_option linter.unusedVariables false
set_option linter.unusedSimpArgs false
set_option linter.unnecessarySimpa false
/- Whr Whw -/
namespace Go.Proofs.Ytaocomjhepgabaa
section
open Go.RowKit Go.Maps
def cntN (ars : List (Int × Int)) (ks : List Int) : Nat := ars.countP (fun a => decide (a.2 ∉ ks))
structure RI (w wr : World) (ars : List (Int × Int)) (root : Int) (ks : List Int) : Prop where
  ok : Ok w wr
  mp : BMap wr w.heap.size ks.length ks
  rt : root ∈ ks
  nd : ks.Nodup
  rc : ∀ P : Int → Prop, P root → (∀ x ∈ ars, P x.1 → P x.2) → ∀ v ∈ ks, P v
  bd : ks.length + cntN ars ks ≤ ars.length + 1
theorem cntN_lt {ars : List (Int × Int)} {ks : List Int} {x : Int × Int} (hx : x ∈ ars) (h2 : x.2 ∉ ks) : cntN ars (ks ++ [x.2]) < cntN ars ks := by
  refine cp_lt (fun a ha => ?_) hx (by simpa using h2) (by simp)
  simp only [decide_eq_true_eq, List.mem_append, not_or] at ha ⊢
  exact ha.1
theorem RI.add {w wr w' : World} {ars : List (Int × Int)} {root : Int} {ks : List Int} (h : RI w wr ars root ks) {x : Int × Int} (hx : x ∈ ars) (h1 : x.1 ∈ ks) (h2 : x.2 ∉ ks) (hm : BMap w' w.heap.size (ks.length + 1) (addK ks x.2)) (hg : wr.grownBy w' (some w.heap.size)) :
    RI w w' ars root (ks ++ [x.2]) where
  ok := Below.grown h.ok hg h.ok.le (fun k e => by injection e with e; omega)
  mp := by
    unfold addK at hm
    rw [if_neg h2] at hm
    rw [List.length_append]
    exact hm
  rt := List.mem_append_left _ h.rt
  nd := by
    rw [List.nodup_append]
    exact ⟨h.nd, by simp, fun a ha b hb e => by simp at hb; exact h2 (by rw [← hb, ← e]; exact ha)⟩
  rc := fun P h0 hc v hv => by
    rcases List.mem_append.1 hv with hv | hv
    · exact h.rc P h0 hc v hv
    · simp at hv; rw [hv]; exact hc x hx (h.rc P h0 hc _ h1)
  bd := by
    have := cntN_lt hx h2
    have := h.bd
    rw [List.length_append]
    simp only [List.length_singleton]
    omega
end
section
open Go.RowKit Go.Maps
theorem lv_at {L : List (Int × Nat × Bool)} {k : Nat} {e : Int × Nat × Bool} (h : L[k]? = some e) : (lv L)[k]? = some e.1 := by
  unfold lv; rw [List.getElem?_map, h]; rfl
theorem not_yet {l : List Int} (hn : l.Nodup) {k : Nat} {v : Int} (h : l[k]? = some v) : v ∉ l.take k := by
  obtain ⟨hk, he⟩ := List.getElem?_eq_some_iff.1 h
  have e : l = l.take k ++ v :: l.drop (k + 1) := by rw [← he, ← List.drop_eq_getElem_cons hk, List.take_append_drop]
  rw [e] at hn
  intro hh
  exact (List.nodup_append.1 hn).2.2 _ hh _ List.mem_cons_self rfl
theorem BMap.ok {w w' : World} {b N : Nat} {ks : List Int} (h : BMap w b N ks) (hb : Ok w w') : BMap w' b N ks := h.kept (grown_below hb) (by simp)
theorem PMap.ok {w w' : World} {b N : Nat} {ks : List Int} (h : PMap w b N ks) (hb : Ok w w') : PMap w' b N ks := h.kept (grown_below hb) (by simp)
theorem kw_bnd {k : Nat} (hk : k < 1000000000000) : IntKind.i64.wrap ((k : Int) + 1) = ((k + 1 : Nat) : Int) := wrap_nat (by omega) (by omega)
theorem cast_lt' {a b : Nat} (h : a < b) : (a : Int) < (b : Int) := by omega
theorem cast_nlt {a b : Nat} (h : ¬ a < b) : ¬ (a : Int) < (b : Int) := by omega
theorem mem_addK {ks : List Int} {v x : Int} : x ∈ addK ks v ↔ x ∈ ks ∨ x = v := by
  unfold addK
  split
  · constructor
    · exact Or.inl
    · rintro (h | rfl)
      · exact h
      · assumption
  · simp
theorem BMap.more {w : World} {b N : Nat} {ks : List Int} (h : BMap w b N ks) : BMap w b (N + 1) ks := by
  obtain ⟨n, D, h0, h1, h2⟩ := h; exact ⟨n, D, by omega, h1, h2⟩
theorem meas {k l : Nat} (h : k < l) : ((l : Int) - ((k + 1 : Nat) : Int)).toNat < ((l : Int) - (k : Int)).toNat := by omega
theorem lv_len (L : List (Int × Nat × Bool)) : (lv L).length = L.length := by unfold lv; rw [List.length_map]
/-- Of the first k arcs those that go back have their heads in gs. -/
def Agn (ts : List (Int × Int)) (L : List (Int × Nat × Bool)) (k : Nat) (gs : List Int) : Prop :=
  ∀ j, j < k → ∀ x, ts[j]? = some x → x.1 ∈ lv L → (lv L).idxOf x.2 ≤ (lv L).idxOf x.1 → (((lv L).idxOf x.2 : Nat) : Int) ∈ gs
theorem Agn.zero (ts : List (Int × Int)) (L : List (Int × Nat × Bool)) : Agn ts L 0 [] := fun j h => absurd h (Nat.not_lt_zero j)
theorem Agn.put {ts : List (Int × Int)} {L : List (Int × Nat × Bool)} {k : Nat} {gs : List Int} {x : Int × Int} (h : Agn ts L k gs) (hx : ts[k]? = some x) : Agn ts L (k + 1) (addK gs (((lv L).idxOf x.2 : Nat) : Int)) := by
  intro j hj y hy h1 h2
  by_cases hjk : j < k
  · exact mem_addK.2 (.inl (h j hjk y hy h1 h2))
  · have e : j = k := by omega
    rw [e, hx] at hy
    injection hy with hy
    subst hy
    exact mem_addK.2 (.inr rfl)
theorem Agn.head {ts : List (Int × Int)} {root : Int} {L : List (Int × Nat × Bool)} {gs : List Int} (h : Agn ts L ts.length gs) (hw : Weak ts root L) {i : Nat} {e : Int × Nat × Bool} (he : L[i]? = some e) (ht : e.2.2 = true) : ((i : Nat) : Int) ∈ gs := by
  obtain ⟨x, hx, h1, h2, h3, _⟩ := hw.head he ht
  obtain ⟨j, hj, hjx⟩ := List.mem_iff_getElem.1 hx
  have := h j hj x (by rw [List.getElem?_eq_getElem hj, hjx]) h1 (by rw [h2]; exact h3)
  rw [h2] at this
  exact this
end
end Go.Proofs.Ytaocomjhepgabaa
