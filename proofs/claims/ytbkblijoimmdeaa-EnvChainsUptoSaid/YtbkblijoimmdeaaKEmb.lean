import Derived.Test.YtbkblijoimmdeaaKEm
set_option linter.unusedVariables false
set_option linter.unusedSimpArgs false
/- Emb -/
namespace Go.Proofs.Ytbkblijoimmdeaa
/-- EnvMembers. -/
theorem has_ded (sv : List Int) (sa : List (List Int)) : has0 dedE sv sa = false := rfl
theorem has_iff {v a : List NT} {sv : List Int} {sa : List (List Int)} : has0 (false, v, a) sv sa = true ↔ (v.length = sv.length ∧ ∀ i (h1 : i < v.length) (h2 : i < sv.length), insN v[i] sv[i] = true) ∧ (a.length = sa.length ∧ ∀ i (h1 : i < a.length) (h2 : i < sa.length), ∀ x ∈ sa[i], insN a[i] x = true) := by
  simp [has0, eqF_iff]
theorem leq_iff {v a v' a' : List NT} : leq0 (false, v, a) (false, v', a') = true ↔ (v.length = v'.length ∧ ∀ i (h1 : i < v.length) (h2 : i < v'.length), lqN v[i] v'[i] = true) ∧ (a.length = a'.length ∧ ∀ i (h1 : i < a.length) (h2 : i < a'.length), lqN a[i] a'[i] = true) := by
  simp [leq0, eqF_iff]
theorem leq_ded (f : ET) : leq0 dedE f = true := by simp [leq0, dedE]
theorem leq_ded' (v a : List NT) : leq0 (false, v, a) dedE = false := by simp [leq0, dedE]
theorem shp_iff {v a v' a' : List NT} : shp0 (false, v, a) (false, v', a') = true ↔ v.length = v'.length ∧ a.length = a'.length := by simp [shp0]
theorem mem_leq {e f : ET} (he : NorE e) (hf : NorE f) {sv : List Int} {sa : List (List Int)} (i1 : ∀ x ∈ sv, In64 x) (i2 : ∀ l ∈ sa, ∀ x ∈ l, In64 x) (h : leq0 e f = true) (k : has0 e sv sa = true) : has0 f sv sa = true := by
  rcases he.cas with rfl | ⟨v, a, rfl, h1, h2⟩
  · cases k
  rcases hf.cas with rfl | ⟨v', a', rfl, h3, h4⟩
  · rw [leq_ded'] at h; cases h
  obtain ⟨⟨l1, q1⟩, l2, q2⟩ := leq_iff.1 h
  obtain ⟨⟨m1, p1⟩, m2, p2⟩ := has_iff.1 k
  refine has_iff.2 ⟨⟨by omega, fun i k1 k2 => ?_⟩, by omega, fun i k1 k2 x hx => ?_⟩
  · have hi := i1 _ (List.getElem_mem k2)
    exact (insN_iff (h3 _ (List.getElem_mem k1)).1 hi).2 ((lqN_iff (h1 _ (List.getElem_mem (by omega))).1 (h3 _ (List.getElem_mem k1)).1).1 (q1 i (by omega) k1) _ hi ((insN_iff (h1 _ (List.getElem_mem (by omega))).1 hi).1 (p1 i (by omega) k2)))
  · have hi := i2 _ (List.getElem_mem k2) x hx
    exact (insN_iff (h4 _ (List.getElem_mem k1)).1 hi).2 ((lqN_iff (h2 _ (List.getElem_mem (by omega))).1 (h4 _ (List.getElem_mem k1)).1).1 (q2 i (by omega) k1) _ hi ((insN_iff (h2 _ (List.getElem_mem (by omega))).1 hi).1 (p2 i (by omega) k2 x hx)))
theorem shp_not {e f : ET} (h : shp0 e f = false) : (meet0 e f).1 = true ∧ ∀ p, (tog0 p e f).1 = true := by
  obtain ⟨d, v, a⟩ := e
  obtain ⟨d', v', a'⟩ := f
  unfold shp0 at h
  simp only [Bool.or_eq_false_iff] at h
  obtain ⟨rfl, rfl, h⟩ := h
  have k : v.length ≠ v'.length ∨ a.length ≠ a'.length := by
    rcases Nat.decEq v.length v'.length with q | q
    · exact Or.inl q
    · rcases Nat.decEq a.length a'.length with r | r
      · exact Or.inr r
      · simp [q, r] at h
  have e1 : ∀ p, pairE p (false, v, a) (false, v', a') = dedE := fun p => if_pos k
  refine ⟨?_, fun p => ?_⟩
  · simp [meet0, e1, dedE]
  · simp [tog0, e1, dedE]
theorem mem_tog {p : NT → NT → NT} (hp : ∀ a b, Liv a → Liv b → Liv (p a b)) (hm : ∀ a b, Liv a → Liv b → ∀ v, In64 v → MemN a v ∨ MemN b v → MemN (p a b) v) {e f : ET} (he : NorE e) (hf : NorE f) (hs : shp0 e f = true) {sv : List Int} {sa : List (List Int)} (i1 : ∀ x ∈ sv, In64 x) (i2 : ∀ l ∈ sa, ∀ x ∈ l, In64 x) (h : has0 e sv sa = true ∨ has0 f sv sa = true) : has0 (tog0 p e f) sv sa = true := by
  rcases he.cas with rfl | ⟨v, a, rfl, h1, h2⟩
  · rcases h with h | h
    · cases h
    · exact h
  rcases hf.cas with rfl | ⟨v', a', rfl, h3, h4⟩
  · rcases h with h | h
    · exact h
    · cases h
  obtain ⟨l1, l2⟩ := shp_iff.1 hs
  have e1 : tog0 p (false, v, a) (false, v', a') = (false, List.zipWith p v v', List.zipWith p a a') := by
    rw [← pair_liv hp h1 h2 h3 h4 l1 l2]; simp [tog0]
  rw [e1]
  refine has_iff.2 ?_
  rcases h with h | h
  · obtain ⟨⟨m1, p1⟩, m2, p2⟩ := has_iff.1 h
    refine ⟨⟨by simp; omega, fun i k1 k2 => ?_⟩, by simp; omega, fun i k1 k2 x hx => ?_⟩
    · have hi := i1 _ (List.getElem_mem k2)
      rw [List.getElem_zipWith]
      have q1 := h1 _ (List.getElem_mem (l := v) (n := i) (by omega))
      have q3 := h3 _ (List.getElem_mem (l := v') (n := i) (by omega))
      exact (insN_iff (hp _ _ q1 q3).1 hi).2 (hm _ _ q1 q3 _ hi (Or.inl ((insN_iff q1.1 hi).1 (p1 i (by omega) k2))))
    · have hi := i2 _ (List.getElem_mem k2) x hx
      rw [List.getElem_zipWith]
      have q1 := h2 _ (List.getElem_mem (l := a) (n := i) (by omega))
      have q3 := h4 _ (List.getElem_mem (l := a') (n := i) (by omega))
      exact (insN_iff (hp _ _ q1 q3).1 hi).2 (hm _ _ q1 q3 _ hi (Or.inl ((insN_iff q1.1 hi).1 (p2 i (by omega) k2 x hx))))
  · obtain ⟨⟨m1, p1⟩, m2, p2⟩ := has_iff.1 h
    refine ⟨⟨by simp; omega, fun i k1 k2 => ?_⟩, by simp; omega, fun i k1 k2 x hx => ?_⟩
    · have hi := i1 _ (List.getElem_mem k2)
      rw [List.getElem_zipWith]
      have q1 := h1 _ (List.getElem_mem (l := v) (n := i) (by omega))
      have q3 := h3 _ (List.getElem_mem (l := v') (n := i) (by omega))
      exact (insN_iff (hp _ _ q1 q3).1 hi).2 (hm _ _ q1 q3 _ hi (Or.inr ((insN_iff q3.1 hi).1 (p1 i (by omega) k2))))
    · have hi := i2 _ (List.getElem_mem k2) x hx
      rw [List.getElem_zipWith]
      have q1 := h2 _ (List.getElem_mem (l := a) (n := i) (by omega))
      have q3 := h4 _ (List.getElem_mem (l := a') (n := i) (by omega))
      exact (insN_iff (hp _ _ q1 q3).1 hi).2 (hm _ _ q1 q3 _ hi (Or.inr ((insN_iff q3.1 hi).1 (p2 i (by omega) k2 x hx))))
theorem mem_join {e f : ET} (he : NorE e) (hf : NorE f) (hs : shp0 e f = true) {sv : List Int} {sa : List (List Int)} (i1 : ∀ x ∈ sv, In64 x) (i2 : ∀ l ∈ sa, ∀ x ∈ l, In64 x) (h : has0 e sv sa = true ∨ has0 f sv sa = true) : has0 (tog0 joinN e f) sv sa = true :=
  mem_tog (fun a b ha hb => join_liv ha hb) (fun a b ha hb v hv k => joinN_mem ha.1 hb.1 hv k) he hf hs i1 i2 h
theorem mem_wid (ts : List Int) {e f : ET} (he : NorE e) (hf : NorE f) (hs : shp0 e f = true) {sv : List Int} {sa : List (List Int)} (i1 : ∀ x ∈ sv, In64 x) (i2 : ∀ l ∈ sa, ∀ x ∈ l, In64 x) (h : has0 e sv sa = true ∨ has0 f sv sa = true) : has0 (tog0 (fun a b => widenN a b ts) e f) sv sa = true :=
  mem_tog (fun a b ha hb => wid_liv ha hb ts) (fun a b ha hb v hv k => wid_mem ha hb ts hv k) he hf hs i1 i2 h
theorem mem_meet {e f : ET} (he : NorE e) (hf : NorE f) (hs : shp0 e f = true) {sv : List Int} {sa : List (List Int)} (i1 : ∀ x ∈ sv, In64 x) (i2 : ∀ l ∈ sa, ∀ x ∈ l, In64 x) (hne : ∀ l ∈ sa, l ≠ []) : has0 (meet0 e f) sv sa = (has0 e sv sa && has0 f sv sa) := by
  rcases he.cas with rfl | ⟨v, a, rfl, h1, h2⟩
  · rfl
  rcases hf.cas with rfl | ⟨v', a', rfl, h3, h4⟩
  · rw [has_ded, Bool.and_false]; rfl
  obtain ⟨l1, l2⟩ := shp_iff.1 hs
  have e1 : meet0 (false, v, a) (false, v', a') = madE (List.zipWith meetN v v') (List.zipWith meetN a a') := by
    simp [meet0, pairE, l1, l2]
  rw [e1]
  have hz : has0 (false, List.zipWith meetN v v', List.zipWith meetN a a') sv sa = true ↔ (has0 (false, v, a) sv sa && has0 (false, v', a') sv sa) = true := by
    rw [Bool.and_eq_true, has_iff, has_iff, has_iff]
    simp only [List.length_zipWith, List.getElem_zipWith]
    constructor
    · rintro ⟨⟨m1, p1⟩, m2, p2⟩
      have A1 : ∀ i (k1 : i < v.length) (k1' : i < v'.length) (k2 : i < sv.length), MemN v[i] sv[i] ∧ MemN v'[i] sv[i] := fun i k1 k1' k2 => by
        have hi := i1 _ (List.getElem_mem k2)
        have q1 := h1 _ (List.getElem_mem k1)
        have q3 := h3 _ (List.getElem_mem k1')
        exact (meetN_mem q1.1 q3.1 hi).1 ((insN_iff (meetN_raw q1.1 q3.1) hi).1 (p1 i (by omega) k2))
      have A2 : ∀ i (k1 : i < a.length) (k1' : i < a'.length) (k2 : i < sa.length), ∀ x ∈ sa[i], MemN a[i] x ∧ MemN a'[i] x := fun i k1 k1' k2 x hx => by
        have hi := i2 _ (List.getElem_mem k2) x hx
        have q1 := h2 _ (List.getElem_mem k1)
        have q3 := h4 _ (List.getElem_mem k1')
        exact (meetN_mem q1.1 q3.1 hi).1 ((insN_iff (meetN_raw q1.1 q3.1) hi).1 (p2 i (by omega) k2 x hx))
      refine ⟨⟨⟨by omega, fun i k1 k2 => (insN_iff (h1 _ (List.getElem_mem k1)).1 (i1 _ (List.getElem_mem k2))).2 (A1 i k1 (by omega) k2).1⟩, by omega, fun i k1 k2 x hx => (insN_iff (h2 _ (List.getElem_mem k1)).1 (i2 _ (List.getElem_mem k2) x hx)).2 (A2 i k1 (by omega) k2 x hx).1⟩, ⟨by omega, fun i k1 k2 => (insN_iff (h3 _ (List.getElem_mem k1)).1 (i1 _ (List.getElem_mem k2))).2 (A1 i (by omega) k1 k2).2⟩, by omega, fun i k1 k2 x hx => (insN_iff (h4 _ (List.getElem_mem k1)).1 (i2 _ (List.getElem_mem k2) x hx)).2 (A2 i (by omega) k1 k2 x hx).2⟩
    · rintro ⟨⟨⟨m1, p1⟩, m2, p2⟩, ⟨m3, p3⟩, m4, p4⟩
      refine ⟨⟨by omega, fun i k1 k2 => ?_⟩, by omega, fun i k1 k2 x hx => ?_⟩
      · have hi := i1 _ (List.getElem_mem k2)
        have q1 := h1 _ (List.getElem_mem (l := v) (n := i) (by omega))
        have q3 := h3 _ (List.getElem_mem (l := v') (n := i) (by omega))
        exact (insN_iff (meetN_raw q1.1 q3.1) hi).2 ((meetN_mem q1.1 q3.1 hi).2 ⟨(insN_iff q1.1 hi).1 (p1 i (by omega) k2), (insN_iff q3.1 hi).1 (p3 i (by omega) k2)⟩)
      · have hi := i2 _ (List.getElem_mem k2) x hx
        have q1 := h2 _ (List.getElem_mem (l := a) (n := i) (by omega))
        have q3 := h4 _ (List.getElem_mem (l := a') (n := i) (by omega))
        exact (insN_iff (meetN_raw q1.1 q3.1) hi).2 ((meetN_mem q1.1 q3.1 hi).2 ⟨(insN_iff q1.1 hi).1 (p2 i (by omega) k2 x hx), (insN_iff q3.1 hi).1 (p4 i (by omega) k2 x hx)⟩)
  by_cases hb : ((List.zipWith meetN v v').any (fun x => x.2.2.2.2) || (List.zipWith meetN a a').any (fun x => x.2.2.2.2)) = true
  · have e2 : madE (List.zipWith meetN v v') (List.zipWith meetN a a') = dedE := if_pos hb
    rw [e2, has_ded]
    cases hk : (has0 (false, v, a) sv sa && has0 (false, v', a') sv sa)
    · rfl
    · exfalso
      obtain ⟨⟨m1, p1⟩, m2, p2⟩ := has_iff.1 (hz.2 hk)
      simp only [Bool.or_eq_true, List.any_eq_true] at hb
      rcases hb with ⟨x, hx, hb⟩ | ⟨x, hx, hb⟩
      · obtain ⟨i, hi, rfl⟩ := List.mem_iff_getElem.1 hx
        have hlen := hi
        rw [List.length_zipWith] at hlen
        have k2 : i < sv.length := by omega
        have := p1 i hi k2
        rw [List.getElem_zipWith] at this hb
        have q1 := h1 _ (List.getElem_mem (l := v) (n := i) (by omega))
        have q3 := h3 _ (List.getElem_mem (l := v') (n := i) (by omega))
        have z := ((insN_iff (meetN_raw q1.1 q3.1) (i1 _ (List.getElem_mem k2))).1 this).1
        rw [hb] at z; cases z
      · obtain ⟨i, hi, rfl⟩ := List.mem_iff_getElem.1 hx
        have hlen := hi
        rw [List.length_zipWith] at hlen
        have k2 : i < sa.length := by omega
        obtain ⟨y, hy⟩ := List.exists_mem_of_ne_nil _ (hne _ (List.getElem_mem k2))
        have := p2 i hi k2 y hy
        rw [List.getElem_zipWith] at this hb
        have q1 := h2 _ (List.getElem_mem (l := a) (n := i) (by omega))
        have q3 := h4 _ (List.getElem_mem (l := a') (n := i) (by omega))
        have z := ((insN_iff (meetN_raw q1.1 q3.1) (i2 _ (List.getElem_mem k2) y hy)).1 this).1
        rw [hb] at z; cases z
  · have e2 : madE (List.zipWith meetN v v') (List.zipWith meetN a a') = (false, List.zipWith meetN v v', List.zipWith meetN a a') := if_neg hb
    rw [e2]
    exact bool_ext hz
end Go.Proofs.Ytbkblijoimmdeaa
