import Derived.Test.YtaocomjhepgabaaKWbt
import Derived.Test.YtaocomjhepgabaaKWhe
import Derived.Test.YtaocomjhepgabaaKWnp
import Derived.Test.YtaocomjhepgabaaKWrc
import Derived.Test.YtaocomjhepgabaaKWto
set_option linter.unusedVariables false
set_option linter.unusedSimpArgs false
set_option linter.unnecessarySimpa false
/- Whl Whq -/
namespace Go.Proofs.Ytaocomjhepgabaa
section
/-- The numbers of a list, each once. -/
def once : List Int → List Int
  | [] => []
  | x :: l => if x ∈ l then once l else x :: once l
theorem mem_once : ∀ {l : List Int} {x : Int}, x ∈ once l ↔ x ∈ l
  | [], x => by simp [once]
  | y :: l, x => by
    unfold once
    split
    · rename_i h
      rw [mem_once, List.mem_cons]
      exact ⟨Or.inr, fun hh => hh.elim (fun e => by rw [e]; exact h) (fun e => e)⟩
    · rw [List.mem_cons, List.mem_cons, mem_once]
theorem once_nodup : ∀ (l : List Int), (once l).Nodup
  | [] => by simp [once]
  | y :: l => by
    unfold once
    split
    · exact once_nodup l
    · rename_i h
      rw [List.nodup_cons]
      exact ⟨fun hh => h (mem_once.1 hh), once_nodup l⟩
theorem once_len : ∀ (l : List Int), (once l).length ≤ l.length
  | [] => Nat.le_refl _
  | y :: l => by
    have := once_len l
    unfold once
    split <;> simp <;> omega
theorem mem_outs {ars : List (Int × Int)} {v w : Int} : w ∈ outs ars v ↔ (v, w) ∈ ars := by
  unfold outs
  rw [List.mem_map]
  constructor
  · rintro ⟨a, ha, rfl⟩
    rw [List.mem_filter] at ha
    have : a.1 = v := by simpa using ha.2
    rw [← this]; exact ha.1
  · intro h
    exact ⟨(v, w), List.mem_filter.2 ⟨h, by simp⟩, rfl⟩
/-- P10.2, of what Order answers of arcs. -/
structure Weak (ars : List (Int × Int)) (root : Int) (L : List (Int × Nat × Bool)) : Prop where
  nd : (lv L).Nodup
  ord : OrdL (outs ars) 0 L
  fst : ∃ e L', L = e :: L' ∧ e.1 = root
  cls : ∀ x ∈ ars, x.1 ∈ lv L → x.2 ∈ lv L
  rch : ∀ P : Int → Prop, P root → (∀ x ∈ ars, P x.1 → P x.2) → ∀ v ∈ lv L, P v
/-- What a root reaches, said twice, is one set. -/
theorem Weak.keys {ars : List (Int × Int)} {root : Int} {L : List (Int × Nat × Bool)} (h : Weak ars root L) {ks : List Int} (rt : root ∈ ks) (cl : ∀ x ∈ ars, x.1 ∈ ks → x.2 ∈ ks) (rc : ∀ P : Int → Prop, P root → (∀ x ∈ ars, P x.1 → P x.2) → ∀ v ∈ ks, P v) : ∀ v, v ∈ lv L ↔ v ∈ ks := by
  intro v
  constructor
  · exact h.rch (· ∈ ks) rt cl v
  · refine rc (· ∈ lv L) ?_ h.cls v
    obtain ⟨e, L', e1, e2⟩ := h.fst
    rw [e1, lv_cons, e2]; exact List.mem_cons_self
end
section
theorem idx_split {p q : List (Int × Nat × Bool)} {e : Int × Nat × Bool} (h : (lv (p ++ e :: q)).Nodup) : (lv (p ++ e :: q)).idxOf e.1 = p.length := by
  rw [lv_append, lv_cons] at h ⊢
  have hn : e.1 ∉ lv p := fun hh => (List.nodup_append.1 h).2.2 _ hh _ List.mem_cons_self rfl
  rw [List.idxOf_append, if_neg hn, List.idxOf_cons_self]
  simp [lv]
theorem under_els {d : Nat} {y : Int × Nat × Bool} (h : Under d y) : underI (d : Int) (y.1, (y.2.1 : Int), y.2.2) = true := by
  unfold underI
  rcases h with h | ⟨h1, h2⟩
  · simp only; rw [decide_eq_true (by omega)]; rfl
  · simp only; rw [h1, h2]; simp
theorem run_app {d : Nat} : ∀ {b : List (Int × Nat × Bool)} {r : List (Int × Int × Bool)}, (∀ y ∈ b, Under d y) → runI (d : Int) (els b ++ r) = b.length + runI (d : Int) r
  | [], r, _ => by simp [els]
  | y :: b, r, h => by
    have := run_app (b := b) (r := r) (fun z hz => h z (List.mem_cons_of_mem _ hz))
    show runI (d : Int) ((y.1, (y.2.1 : Int), y.2.2) :: (els b ++ r)) = _
    rw [runI, if_pos (under_els (h y List.mem_cons_self)), this]
    simp; omega
theorem els_app (a b : List (Int × Nat × Bool)) : els (a ++ b) = els a ++ els b := by unfold els; rw [List.map_append]
theorem els_len (a : List (Int × Nat × Bool)) : (els a).length = a.length := by unfold els; rw [List.length_map]
/-- The place behind the part of the head at i. -/
def endL (L : List (Int × Nat × Bool)) (i : Nat) (d : Nat) : Nat := i + 1 + runI (d : Int) ((els L).drop (i + 1))
theorem endL_split {a b : List (Int × Nat × Bool)} {f : Int × Nat × Bool} (d : Nat) : endL (a ++ f :: b) a.length d = a.length + 1 + runI (d : Int) (els b) := by
  unfold endL
  rw [els_app]
  have : (els a ++ els (f :: b)).drop (a.length + 1) = els b := by
    rw [← els_len a, List.drop_append]
    simp [els]
  rw [this]
/-- An arc goes forward, or back to a head whose part holds where it comes from. -/
theorem Weak.arc {ars : List (Int × Int)} {root : Int} {L : List (Int × Nat × Bool)} (h : Weak ars root L) {x : Int × Int} (hx : x ∈ ars) (h1 : x.1 ∈ lv L) :
    (lv L).idxOf x.1 < (lv L).idxOf x.2 ∨ ∃ f, L[(lv L).idxOf x.2]? = some f ∧ f.2.2 = true ∧ (lv L).idxOf x.2 ≤ (lv L).idxOf x.1 ∧ (lv L).idxOf x.1 < endL L ((lv L).idxOf x.2) f.2.1 := by
  obtain ⟨e, he, hex⟩ := List.mem_map.1 h1
  obtain ⟨p, q, hL⟩ := List.append_of_mem he
  have hnd := h.nd
  rw [hL] at hnd
  have i1 : (lv L).idxOf x.1 = p.length := by rw [hL, ← hex]; exact idx_split hnd
  rcases h.ord.fwd p e q hL x.2 (mem_outs.2 (by rw [hex]; exact hx)) with f | f | f
  · left
    obtain ⟨g, hg, hgx⟩ := List.mem_map.1 f
    obtain ⟨q1, q2, hq⟩ := List.append_of_mem hg
    have hL2 : L = (p ++ e :: q1) ++ g :: q2 := by rw [hL, hq]; simp
    have i2 : (lv L).idxOf x.2 = (p ++ e :: q1).length := by
      rw [hL2, ← hgx]
      exact idx_split (by rw [← hL2]; exact h.nd)
    rw [i1, i2]
    simp
  · right
    rcases f with ⟨f1, f2⟩ | ⟨a, g, b, f1, f2, f3, f4, f5⟩
    · have i2 : (lv L).idxOf x.2 = p.length := by rw [hL, ← f1]; exact idx_split hnd
      refine ⟨e, ?_, f2, by omega, ?_⟩
      · rw [i2, hL]; simp
      · rw [i1, i2, hL, endL_split]; omega
    · have hL2 : L = a ++ g :: (b ++ e :: q) := by rw [hL, f1]; simp
      have i2 : (lv L).idxOf x.2 = a.length := by
        rw [hL2, ← f2]
        exact idx_split (by rw [← hL2]; exact h.nd)
      refine ⟨g, ?_, f3, ?_, ?_⟩
      · rw [i2, hL2]; simp
      · rw [i1, i2, f1]; simp
      · rw [i1, i2, hL2, endL_split, els_app, run_app f4]
        have hr : runI (g.2.1 : Int) (els (e :: q)) = 1 + runI (g.2.1 : Int) (els q) := by
          show runI _ ((e.1, (e.2.1 : Int), e.2.2) :: els q) = _
          rw [runI, if_pos (under_els f5)]
        rw [hr, f1]
        simp
        omega
  · exact absurd (h.cls x hx h1) f
/-- Each head has an arc to it from its part. -/
theorem Weak.head {ars : List (Int × Int)} {root : Int} {L : List (Int × Nat × Bool)} (h : Weak ars root L) {i : Nat} {e : Int × Nat × Bool} (he : L[i]? = some e) (ht : e.2.2 = true) :
    ∃ x ∈ ars, x.1 ∈ lv L ∧ (lv L).idxOf x.2 = i ∧ i ≤ (lv L).idxOf x.1 ∧ (lv L).idxOf x.1 < endL L i e.2.1 := by
  obtain ⟨hi, hei⟩ := List.getElem?_eq_some_iff.1 he
  have hL : L = L.take i ++ e :: L.drop (i + 1) := by
    rw [← hei, ← List.drop_eq_getElem_cons hi, List.take_append_drop]
  have hlen : (L.take i).length = i := by rw [List.length_take]; omega
  generalize ha : L.take i = a at hL hlen
  generalize hb : L.drop (i + 1) = b at hL
  clear ha hb
  have hnd := h.nd
  rw [hL] at hnd
  have i2 : (lv L).idxOf e.1 = i := by rw [hL, idx_split hnd, hlen]
  rcases h.ord.hed a e b hL ht with f | ⟨b1, y, b2, f1, f2, f3, f4⟩
  · refine ⟨(e.1, e.1), mem_outs.1 f, ?_, i2, by rw [i2]; exact Nat.le_refl _, ?_⟩
    · rw [hL, lv_append, lv_cons]; exact List.mem_append_right _ List.mem_cons_self
    · rw [i2]; unfold endL; omega
  · have hL2 : L = (a ++ e :: b1) ++ y :: b2 := by rw [hL, f1]; simp
    have i1 : (lv L).idxOf y.1 = (a ++ e :: b1).length := by
      rw [hL2]; exact idx_split (by rw [← hL2]; exact h.nd)
    refine ⟨(y.1, e.1), mem_outs.1 f2, ?_, i2, ?_, ?_⟩
    · rw [hL2, lv_append, lv_cons]; exact List.mem_append_right _ List.mem_cons_self
    · rw [i1]; simp; omega
    · rw [i1]
      have e1 : endL L i e.2.1 = a.length + 1 + runI (e.2.1 : Int) (els b) := by rw [← hlen, hL]; exact endL_split _
      rw [e1, f1, els_app, run_app f3]
      have hr : runI (e.2.1 : Int) (els (y :: b2)) = 1 + runI (e.2.1 : Int) (els b2) := by
        show runI _ ((y.1, (y.2.1 : Int), y.2.2) :: els b2) = _
        rw [runI, if_pos (under_els f4)]
      rw [hr]
      simp
      omega
end
end Go.Proofs.Ytaocomjhepgabaa
