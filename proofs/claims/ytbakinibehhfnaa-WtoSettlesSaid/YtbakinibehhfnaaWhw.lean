import Derived.Test.YtbakinibehhfnaaWfh
import Derived.Test.YtbakinibehhfnaaWhr
import Derived.Test.YtbakinibehhfnaaWhe
import Derived.Test.YtbakinibehhfnaaWhq
import Derived.Test.YtbakinibehhfnaaWhp
set_option linter.unusedVariables false
set_option linter.unusedSimpArgs false
set_option linter.unnecessarySimpa false
/- WtoHolds: the way where the root and all arcs are good. -/
namespace Go.Proofs.Ytbakinibehhfnaa
open Go.RowKit Go.Maps
/-- Depths stay below the places. -/
theorem chn_le : ∀ {d : Nat} {l : List (Int × Nat × Bool)}, Chn d l → ∀ (i : Nat) (e : Int × Nat × Bool), l[i]? = some e → e.2.1 ≤ d + i + 1
  | d, [], _, i, e, h => by simp at h
  | d, f :: r, hc, 0, e, h => by
    simp at h; subst h
    have := hc.1; unfold hd1 at this; split at this <;> omega
  | d, f :: r, hc, i + 1, e, h => by
    have h' : r[i]? = some e := by simpa using h
    have h1 := chn_le hc.2 i e h'
    have h2 := hc.1; unfold hd1 at h2
    split at h2 <;> omega
theorem els_at {L : List (Int × Nat × Bool)} {k : Nat} {e : Int × Nat × Bool} (h : L[k]? = some e) : (els L)[k]? = some (e.1, (e.2.1 : Int), e.2.2) := by
  unfold els; rw [List.getElem?_map, h]; rfl
theorem lv_at {L : List (Int × Nat × Bool)} {k : Nat} {e : Int × Nat × Bool} (h : L[k]? = some e) : (lv L)[k]? = some e.1 := by
  unfold lv; rw [List.getElem?_map, h]; rfl
theorem lv_take {L : List (Int × Nat × Bool)} {k : Nat} {e : Int × Nat × Bool} (h : L[k]? = some e) : (lv L).take (k + 1) = (lv L).take k ++ [e.1] := by
  obtain ⟨hk, he⟩ := List.getElem?_eq_some_iff.1 (lv_at h)
  rw [List.take_succ_eq_append_getElem hk, he]
theorem not_yet {l : List Int} (hn : l.Nodup) {k : Nat} {v : Int} (h : l[k]? = some v) : v ∉ l.take k := by
  obtain ⟨hk, he⟩ := List.getElem?_eq_some_iff.1 h
  have e : l = l.take k ++ v :: l.drop (k + 1) := by rw [← he, ← List.drop_eq_getElem_cons hk, List.take_append_drop]
  rw [e] at hn
  intro hh
  exact (List.nodup_append.1 hn).2.2 _ hh _ List.mem_cons_self rfl
theorem BMap.ok {w w' : World} {b N : Nat} {ks : List Int} (h : BMap w b N ks) (hb : Ok w w') : BMap w' b N ks := h.kept (grown_below hb) (by simp)
theorem PMap.ok {w w' : World} {b N : Nat} {ks : List Int} (h : PMap w b N ks) (hb : Ok w w') : PMap w' b N ks := h.kept (grown_below hb) (by simp)
theorem keys_in {root : Int} {ts : List (Int × Int)} {ks : List Int} (hr : in64 root) (hi : ∀ x ∈ ts, in64 x.1 ∧ in64 x.2) (h : ∀ P : Int → Prop, P root → (∀ x ∈ ts, P x.1 → P x.2) → ∀ v ∈ ks, P v) : ∀ v ∈ ks, in64 v := h in64 hr (fun x hx _ => (hi x hx).2)
theorem wj_one {k j : Nat} (h : k = j + 1) (hk : k ≤ 1000000000000) : wrap64 ((k : Int) - 1) = (j : Int) := by unfold wrap64; omega
theorem wj_two {pd : Nat} (h : pd ≤ 1000000000001) : wrap64 ((pd : Int) + 1) = (pd : Int) + 1 := by unfold wrap64; omega
theorem wj_three {pd : Nat} (h : pd ≤ 1000000000001) : IntKind.i64.wrap ((pd : Int) + 1) = (pd : Int) + 1 := by rw [IntKind.wrap_i64]; omega
theorem k_bnd {xs : List (Int × Int × Bool)} {L : List (Int × Nat × Bool)} {k : Nat} (h : xs = els L ∧ L.length ≤ 1000000000000) (hk : k < xs.length) : k < 1000000000000 := by
  rw [h.1, els_len] at hk; omega
theorem kw_bnd {k : Nat} (hk : k < 1000000000000) : IntKind.i64.wrap ((k : Int) + 1) = ((k + 1 : Nat) : Int) := wrap_nat (by omega) (by omega)
theorem pd_bnd {k j pd : Nat} (h : pd ≤ 0 + j + 1) (hj : k = j + 1) (hk : k < 1000000000000) : pd ≤ 1000000000001 := by omega
theorem k_max {k : Nat} (hk : k < 1000000000000) : k < maxLen := by unfold maxLen; omega
theorem lv_take_len {L : List (Int × Nat × Bool)} {k : Nat} (hk : k < L.length) : ((lv L).take k).length = k := by rw [List.length_take]; unfold lv; rw [List.length_map]; omega
theorem most_true {L : List (Int × Nat × Bool)} {k j : Nat} {v : Int} {dd : Nat} {f : Int × Nat × Bool} (hc : Chn 0 L) (hy : L[k]? = some (v, dd, true)) (hj : k = j + 1) (hf : L[j]? = some f) : ¬ ((f.2.1 : Int) + 1) < (dd : Int) := by
  have h := chn_at hc k _ hy
  rw [hj] at h
  simp only [hf, hd1] at h
  simp at h; omega
theorem most_false {L : List (Int × Nat × Bool)} {k j : Nat} {v : Int} {dd : Nat} {f : Int × Nat × Bool} (hc : Chn 0 L) (hy : L[k]? = some (v, dd, false)) (hj : k = j + 1) (hf : L[j]? = some f) : ¬ (f.2.1 : Int) < (dd : Int) := by
  have h := chn_at hc k _ hy
  rw [hj] at h
  simp only [hf, hd1] at h
  simp at h; omega
theorem most_true0 {L : List (Int × Nat × Bool)} {k : Nat} {v : Int} {dd : Nat} (hc : Chn 0 L) (hy : L[k]? = some (v, dd, true)) (hj : k = 0) : ¬ (1 : Int) < (dd : Int) := by
  have h := chn_at hc k _ hy
  rw [hj] at h
  simp [hd1] at h; omega
theorem most_false0 {L : List (Int × Nat × Bool)} {k : Nat} {v : Int} {dd : Nat} (hc : Chn 0 L) (hy : L[k]? = some (v, dd, false)) (hj : k = 0) : ¬ (0 : Int) < (dd : Int) := by
  have h := chn_at hc k _ hy
  rw [hj] at h
  simp [hd1] at h; omega
theorem dep_pos {L : List (Int × Nat × Bool)} {k : Nat} {v : Int} {dd : Nat} {ts : List (Int × Int)} (ho : OrdL (outs ts) 0 L) (hy : L[k]? = some (v, dd, true)) : ¬ (dd : Int) < 1 := by
  rcases ho.dep _ (List.mem_of_getElem? hy) with h | h
  · simp only at h; omega
  · simp at h
theorem pos_of {k : Nat} (h : ¬ k = 0) : (0 : Int) < (k : Int) := by omega
theorem npos_of {k : Nat} (h : k = 0) : ¬ (0 : Int) < (k : Int) := by omega
theorem pred_of {k : Nat} (h : ¬ k = 0) : ∃ j, k = j + 1 := ⟨k - 1, by omega⟩
theorem cast_lt' {a b : Nat} (h : a < b) : (a : Int) < (b : Int) := by omega
theorem cast_nlt {a b : Nat} (h : ¬ a < b) : ¬ (a : Int) < (b : Int) := by omega
theorem nneg {a : Nat} : ¬ (a : Int) < 0 := by omega
theorem good_arcs {n root : Int} {ts : List (Int × Int)} (hb : (badV n root || ts.any (badA n)) = false) : (¬ root < 0 ∧ ¬ n ≤ root) ∧ ∀ x ∈ ts, ¬ x.1 < 0 ∧ ¬ n ≤ x.1 ∧ ¬ x.2 < 0 ∧ ¬ n ≤ x.2 := by
  rw [Bool.or_eq_false_iff] at hb
  refine ⟨?_, fun x hx => ?_⟩
  · have := hb.1; unfold badV at this; simp only [Bool.or_eq_false_iff, decide_eq_false_iff_not] at this; exact this
  · have := List.any_eq_false.1 hb.2 x hx
    unfold badA badV at this
    simp only [Bool.or_eq_true, decide_eq_true_eq, not_or] at this
    exact ⟨this.1.1, this.1.2, this.2.1, this.2.2⟩
theorem mem_addK {ks : List Int} {v x : Int} : x ∈ addK ks v ↔ x ∈ ks ∨ x = v := by
  unfold addK
  split
  · constructor
    · exact Or.inl
    · rintro (h | rfl)
      · exact h
      · assumption
  · simp
theorem BMap.more {w : World} {b N : Nat} {ks : List Int} (h : BMap w b N ks) : BMap w b (N + 1) ks := by
  obtain ⟨n, D, h0, h1, h2⟩ := h; exact ⟨n, D, by omega, h1, h2⟩
theorem k_200 {k l : Nat} (h : k < l) (hl : l ≤ 200) : k < 1000000000000 := by omega
theorem cast_le {a b : Nat} (h : a ≤ b) : (a : Int) ≤ (b : Int) := by omega
theorem cast_nle {a b : Nat} (h : a < b) : ¬ (b : Int) ≤ (a : Int) := by omega
theorem q_lo (q : Nat) : (-9223372036854775808 : Int) ≤ (q : Int) := by omega
theorem q_hi {q : Nat} (h : q < 1000000000000) : (q : Int) ≤ 9223372036854775807 := by omega
theorem meas {k l : Nat} (h : k < l) : ((l : Int) - ((k + 1 : Nat) : Int)).toNat < ((l : Int) - (k : Int)).toNat := by omega
theorem at_idx {L : List (Int × Nat × Bool)} {v : Int} (h : v ∈ lv L) : ∃ f, L[(lv L).idxOf v]? = some f := by
  have := List.idxOf_lt_length_of_mem h
  unfold lv at this ⊢
  rw [List.length_map] at this
  exact ⟨_, List.getElem?_eq_getElem this⟩
theorem back_of {L : List (Int × Nat × Bool)} {u q : Nat} {f : Int × Nat × Bool} (h : u < q ∨ ∃ f, L[q]? = some f ∧ f.2.2 = true ∧ q ≤ u ∧ u < endL L q f.2.1) (hn : ¬ u < q) (hf : L[q]? = some f) : f.2.2 = true ∧ u < endL L q f.2.1 := by
  rcases h with h | ⟨g, h1, h2, _, h3⟩
  · exact absurd h hn
  · rw [hf] at h1; injection h1 with h1; subst h1; exact ⟨h2, h3⟩
theorem xs_bnd {xs : List (Int × Int × Bool)} {L : List (Int × Nat × Bool)} (h : xs = els L ∧ L.length ≤ 1000000000000) : xs.length ≤ 1000000000000 := by rw [h.1, els_len]; exact h.2
theorem lv_len (L : List (Int × Nat × Bool)) : (lv L).length = L.length := by unfold lv; rw [List.length_map]
theorem keys_len {ts : List (Int × Int)} {root : Int} {L : List (Int × Nat × Bool)} {ks : List Int} (hw : Weak ts root L) (hn : ks.Nodup) (h : ∀ v, v ∈ lv L ↔ v ∈ ks) : L.length = ks.length := by
  rw [← lv_len]; exact same_len hw.nd hn h
/-- Of the first k arcs those that go back have their heads in gs. -/
def Agn (ts : List (Int × Int)) (L : List (Int × Nat × Bool)) (k : Nat) (gs : List Int) : Prop :=
  ∀ j, j < k → ∀ x, ts[j]? = some x → x.1 ∈ lv L → (lv L).idxOf x.2 ≤ (lv L).idxOf x.1 → (((lv L).idxOf x.2 : Nat) : Int) ∈ gs
theorem Agn.zero (ts : List (Int × Int)) (L : List (Int × Nat × Bool)) : Agn ts L 0 [] := fun j h => absurd h (Nat.not_lt_zero j)
theorem Agn.skip {ts : List (Int × Int)} {L : List (Int × Nat × Bool)} {k : Nat} {gs : List Int} {x : Int × Int} (h : Agn ts L k gs) (hx : ts[k]? = some x) (hs : x.1 ∈ lv L → (lv L).idxOf x.1 < (lv L).idxOf x.2) : Agn ts L (k + 1) gs := by
  intro j hj y hy h1 h2
  by_cases hjk : j < k
  · exact h j hjk y hy h1 h2
  · have e : j = k := by omega
    rw [e, hx] at hy
    injection hy with hy
    subst hy
    have := hs h1
    omega
theorem Agn.put {ts : List (Int × Int)} {L : List (Int × Nat × Bool)} {k : Nat} {gs : List Int} {x : Int × Int} (h : Agn ts L k gs) (hx : ts[k]? = some x) : Agn ts L (k + 1) (addK gs (((lv L).idxOf x.2 : Nat) : Int)) := by
  intro j hj y hy h1 h2
  by_cases hjk : j < k
  · exact mem_addK.2 (.inl (h j hjk y hy h1 h2))
  · have e : j = k := by omega
    rw [e, hx] at hy
    injection hy with hy
    subst hy
    exact mem_addK.2 (.inr rfl)
theorem Agn.head {ts : List (Int × Int)} {root : Int} {L : List (Int × Nat × Bool)} {gs : List Int} (h : Agn ts L ts.length gs) (hw : Weak ts root L) {i : Nat} {e : Int × Nat × Bool} (he : L[i]? = some e) (ht : e.2.2 = true) : ((i : Nat) : Int) ∈ gs := by
  obtain ⟨x, hx, h1, h2, h3, _⟩ := hw.head he ht
  obtain ⟨j, hj, hjx⟩ := List.mem_iff_getElem.1 hx
  have := h j hj x (by rw [List.getElem?_eq_getElem hj, hjx]) h1 (by rw [h2]; exact h3)
  rw [h2] at this
  exact this
end Go.Proofs.Ytbakinibehhfnaa
