import Derived.Test.YtbkblijoimmdeaaKEmb
set_option linter.unusedVariables false
set_option linter.unusedSimpArgs false
/- Emo -/
namespace Go.Proofs.Ytbkblijoimmdeaa
/-- EnvOrders. -/
theorem leq_refl {e : ET} (h : NorE e) : leq0 e e = true := by
  rcases h.cas with rfl | ⟨v, a, rfl, h1, h2⟩
  · rfl
  · exact leq_iff.2 ⟨⟨rfl, fun i k1 k2 => lq_refl (h1 _ (List.getElem_mem k1)).1⟩, rfl, fun i k1 k2 => lq_refl (h2 _ (List.getElem_mem k1)).1⟩
def same0 (e f : ET) : Bool := decide (e.1 = f.1) && (decide (e.2.1 = f.2.1) && decide (e.2.2 = f.2.2))
theorem same_iff {e f : ET} : same0 e f = true ↔ e = f := by
  obtain ⟨d, v, a⟩ := e
  obtain ⟨d', v', a'⟩ := f
  simp [same0]
theorem leq_anti {e f : ET} (he : NorE e) (hf : NorE f) : (leq0 e f && leq0 f e) = same0 e f := by
  refine bool_ext ?_
  rw [Bool.and_eq_true, same_iff]
  refine ⟨fun h => ?_, fun h => by subst h; exact ⟨leq_refl he, leq_refl he⟩⟩
  rcases he.cas with rfl | ⟨v, a, rfl, h1, h2⟩
  · rcases hf.cas with rfl | ⟨v', a', rfl, h3, h4⟩
    · rfl
    · rw [leq_ded'] at h; cases h.2
  rcases hf.cas with rfl | ⟨v', a', rfl, h3, h4⟩
  · rw [leq_ded'] at h; cases h.1
  obtain ⟨⟨l1, q1⟩, l2, q2⟩ := leq_iff.1 h.1
  obtain ⟨⟨l3, q3⟩, l4, q4⟩ := leq_iff.1 h.2
  have e1 : v = v' := List.ext_getElem l1 (fun i k1 k2 => lq_anti (h1 _ (List.getElem_mem k1)) (h3 _ (List.getElem_mem k2)) (q1 i k1 k2) (q3 i k2 k1))
  have e2 : a = a' := List.ext_getElem l2 (fun i k1 k2 => lq_anti (h2 _ (List.getElem_mem k1)) (h4 _ (List.getElem_mem k2)) (q2 i k1 k2) (q4 i k2 k1))
  rw [e1, e2]
theorem leq_trans {e f g : ET} (he : NorE e) (hf : NorE f) (hg : NorE g) (k1 : leq0 e f = true) (k2 : leq0 f g = true) : leq0 e g = true := by
  rcases he.cas with rfl | ⟨v, a, rfl, h1, h2⟩
  · exact leq_ded g
  rcases hf.cas with rfl | ⟨v', a', rfl, h3, h4⟩
  · rw [leq_ded'] at k1; cases k1
  rcases hg.cas with rfl | ⟨u, b, rfl, h5, h6⟩
  · rw [leq_ded'] at k2; cases k2
  obtain ⟨⟨l1, q1⟩, l2, q2⟩ := leq_iff.1 k1
  obtain ⟨⟨l3, q3⟩, l4, q4⟩ := leq_iff.1 k2
  exact leq_iff.2 ⟨⟨by omega, fun i j1 j2 => lq_trans (h1 _ (List.getElem_mem j1)).1 (h3 _ (List.getElem_mem (by omega))).1 (h5 _ (List.getElem_mem j2)).1 (q1 i j1 (by omega)) (q3 i (by omega) j2)⟩, by omega, fun i j1 j2 => lq_trans (h2 _ (List.getElem_mem j1)).1 (h4 _ (List.getElem_mem (by omega))).1 (h6 _ (List.getElem_mem j2)).1 (q2 i j1 (by omega)) (q4 i (by omega) j2)⟩
theorem meet_cas {v a v' a' : List NT} : meet0 (false, v, a) (false, v', a') = dedE ∨ (v.length = v'.length ∧ a.length = a'.length ∧ meet0 (false, v, a) (false, v', a') = (false, List.zipWith meetN v v', List.zipWith meetN a a')) := by
  by_cases h : v.length = v'.length ∧ a.length = a'.length
  · have e1 : meet0 (false, v, a) (false, v', a') = madE (List.zipWith meetN v v') (List.zipWith meetN a a') := by simp [meet0, pairE, h.1, h.2]
    rw [e1]
    unfold madE
    split
    · exact Or.inl rfl
    · exact Or.inr ⟨h.1, h.2, rfl⟩
  · left
    have k : v.length ≠ v'.length ∨ a.length ≠ a'.length := by
      rcases Nat.decEq v.length v'.length with q | q
      · exact Or.inl q
      · exact Or.inr (fun r => h ⟨q, r⟩)
    have e1 : pairE meetN (false, v, a) (false, v', a') = dedE := if_pos k
    simp [meet0, e1]
theorem meet_below {e f : ET} (he : NorE e) (hf : NorE f) : leq0 (meet0 e f) e = true ∧ leq0 (meet0 e f) f = true := by
  rcases he.cas with rfl | ⟨v, a, rfl, h1, h2⟩
  · exact ⟨leq_ded _, leq_ded _⟩
  rcases hf.cas with rfl | ⟨v', a', rfl, h3, h4⟩
  · have e1 : meet0 (false, v, a) dedE = dedE := by simp [meet0, dedE]
    rw [e1]; exact ⟨leq_ded _, leq_ded _⟩
  rcases meet_cas (v := v) (a := a) (v' := v') (a' := a') with e1 | ⟨l1, l2, e1⟩
  · rw [e1]; exact ⟨leq_ded _, leq_ded _⟩
  rw [e1]
  refine ⟨leq_iff.2 ⟨⟨by simp; omega, fun i k1 k2 => ?_⟩, by simp; omega, fun i k1 k2 => ?_⟩, leq_iff.2 ⟨⟨by simp; omega, fun i k1 k2 => ?_⟩, by simp; omega, fun i k1 k2 => ?_⟩⟩
  · rw [List.getElem_zipWith]; exact lq_e1 (h1 _ (List.getElem_mem _)).1 (h3 _ (List.getElem_mem _)).1
  · rw [List.getElem_zipWith]; exact lq_e1 (h2 _ (List.getElem_mem _)).1 (h4 _ (List.getElem_mem _)).1
  · rw [List.getElem_zipWith]; exact lq_e2 (h1 _ (List.getElem_mem _)).1 (h3 _ (List.getElem_mem _)).1
  · rw [List.getElem_zipWith]; exact lq_e2 (h2 _ (List.getElem_mem _)).1 (h4 _ (List.getElem_mem _)).1
theorem zip_comm {p : NT → NT → NT} {l m : List NT} (h : ∀ a ∈ l, ∀ b ∈ m, p a b = p b a) : List.zipWith p l m = List.zipWith p m l := by
  refine List.ext_getElem (by simp [Nat.min_comm]) (fun i k1 k2 => ?_)
  rw [List.getElem_zipWith, List.getElem_zipWith]
  exact h _ (List.getElem_mem _) _ (List.getElem_mem _)
theorem pair_comm {p : NT → NT → NT} {e f : ET} (h1 : ∀ a ∈ e.2.1, ∀ b ∈ f.2.1, p a b = p b a) (h2 : ∀ a ∈ e.2.2, ∀ b ∈ f.2.2, p a b = p b a) : pairE p e f = pairE p f e := by
  unfold pairE
  rw [zip_comm h1, zip_comm h2]
  by_cases k : e.2.1.length ≠ f.2.1.length ∨ e.2.2.length ≠ f.2.2.length
  · rw [if_pos k, if_pos (by rcases k with k | k; exact Or.inl (Ne.symm k); exact Or.inr (Ne.symm k))]
  · rw [if_neg k, if_neg (fun q => k (by rcases q with q | q; exact Or.inl (Ne.symm q); exact Or.inr (Ne.symm q)))]
theorem meet_com {e f : ET} (he : NorE e) (hf : NorE f) : meet0 e f = meet0 f e := by
  unfold meet0
  rw [Bool.or_comm, pair_comm (fun a ha b hb => meet_comm' (he.raw.1 a ha) (hf.raw.1 b hb)) (fun a ha b hb => meet_comm' (he.raw.2 a ha) (hf.raw.2 b hb))]
theorem join_com {e f : ET} (he : NorE e) (hf : NorE f) : tog0 joinN e f = tog0 joinN f e := by
  unfold tog0
  rw [pair_comm (fun a ha b hb => join_comm' (he.raw.1 a ha) (hf.raw.1 b hb)) (fun a ha b hb => join_comm' (he.raw.2 a ha) (hf.raw.2 b hb))]
  by_cases h1 : e.1 = true <;> by_cases h2 : f.1 = true
  · rw [if_pos h1, if_pos h2]
    rcases he.cas with rfl | ⟨v, a, rfl, _⟩
    · rcases hf.cas with rfl | ⟨v', a', rfl, _⟩
      · rfl
      · cases h2
    · cases h1
  · rw [if_pos h1, if_neg h2, if_pos h1]
  · rw [if_neg h1, if_pos h2, if_pos h2]
  · rw [if_neg h1, if_neg h2, if_neg h2, if_neg h1]
theorem tog_al {p : NT → NT → NT} (hp : ∀ a b, Liv a → Liv b → Liv (p a b)) {v a v' a' : List NT} (h1 : ∀ x ∈ v, Liv x) (h2 : ∀ x ∈ a, Liv x) (h3 : ∀ x ∈ v', Liv x) (h4 : ∀ x ∈ a', Liv x) (l1 : v.length = v'.length) (l2 : a.length = a'.length) : tog0 p (false, v, a) (false, v', a') = (false, List.zipWith p v v', List.zipWith p a a') := by
  rw [← pair_liv hp h1 h2 h3 h4 l1 l2]; simp [tog0]
theorem tog_ded (p : NT → NT → NT) (f : ET) : tog0 p dedE f = f := if_pos rfl
theorem tog_ded' (p : NT → NT → NT) (v a : List NT) : tog0 p (false, v, a) dedE = (false, v, a) := by simp [tog0, dedE]
/-- what is above both, number by number, is so as a whole. -/
theorem tog_above {p : NT → NT → NT} (hp : ∀ a b, Liv a → Liv b → Liv (p a b)) (k1 : ∀ a b, Liv a → Liv b → lqN a (p a b) = true) (k2 : ∀ a b, Liv a → Liv b → lqN b (p a b) = true) {e f : ET} (he : NorE e) (hf : NorE f) (hs : shp0 e f = true) : leq0 e (tog0 p e f) = true ∧ leq0 f (tog0 p e f) = true := by
  rcases he.cas with rfl | ⟨v, a, rfl, h1, h2⟩
  · rw [tog_ded]; exact ⟨leq_ded _, leq_refl hf⟩
  rcases hf.cas with rfl | ⟨v', a', rfl, h3, h4⟩
  · rw [tog_ded']; exact ⟨leq_refl he, leq_ded _⟩
  obtain ⟨l1, l2⟩ := shp_iff.1 hs
  rw [tog_al hp h1 h2 h3 h4 l1 l2]
  refine ⟨leq_iff.2 ⟨⟨by simp; omega, fun i j1 j2 => ?_⟩, by simp; omega, fun i j1 j2 => ?_⟩, leq_iff.2 ⟨⟨by simp; omega, fun i j1 j2 => ?_⟩, by simp; omega, fun i j1 j2 => ?_⟩⟩
  · rw [List.getElem_zipWith]; exact k1 _ _ (h1 _ (List.getElem_mem _)) (h3 _ (List.getElem_mem _))
  · rw [List.getElem_zipWith]; exact k1 _ _ (h2 _ (List.getElem_mem _)) (h4 _ (List.getElem_mem _))
  · rw [List.getElem_zipWith]; exact k2 _ _ (h1 _ (List.getElem_mem _)) (h3 _ (List.getElem_mem _))
  · rw [List.getElem_zipWith]; exact k2 _ _ (h2 _ (List.getElem_mem _)) (h4 _ (List.getElem_mem _))
theorem join_above {e f : ET} (he : NorE e) (hf : NorE f) (hs : shp0 e f = true) : leq0 e (tog0 joinN e f) = true ∧ leq0 f (tog0 joinN e f) = true :=
  tog_above (fun a b ha hb => join_liv ha hb) (fun a b ha hb => lq_j1 ha.1 hb.1) (fun a b ha hb => lq_j2 ha.1 hb.1) he hf hs
theorem join_wid (ts : List Int) {e f : ET} (he : NorE e) (hf : NorE f) (hs : shp0 e f = true) : leq0 (tog0 joinN e f) (tog0 (fun a b => widenN a b ts) e f) = true := by
  rcases he.cas with rfl | ⟨v, a, rfl, h1, h2⟩
  · rw [tog_ded, tog_ded]; exact leq_refl hf
  rcases hf.cas with rfl | ⟨v', a', rfl, h3, h4⟩
  · rw [tog_ded', tog_ded']; exact leq_refl he
  obtain ⟨l1, l2⟩ := shp_iff.1 hs
  rw [tog_al (fun a b ha hb => join_liv ha hb) h1 h2 h3 h4 l1 l2, tog_al (fun a b ha hb => wid_liv ha hb ts) h1 h2 h3 h4 l1 l2]
  refine leq_iff.2 ⟨⟨by simp, fun i j1 j2 => ?_⟩, by simp, fun i j1 j2 => ?_⟩
  · rw [List.getElem_zipWith, List.getElem_zipWith]; exact lq_jw (h1 _ (List.getElem_mem _)) (h3 _ (List.getElem_mem _)) ts
  · rw [List.getElem_zipWith, List.getElem_zipWith]; exact lq_jw (h2 _ (List.getElem_mem _)) (h4 _ (List.getElem_mem _)) ts
theorem join_leq {e f : ET} (he : NorE e) (hf : NorE f) (h : leq0 e f = true) : tog0 joinN e f = f := by
  rcases he.cas with rfl | ⟨v, a, rfl, h1, h2⟩
  · exact tog_ded _ _
  rcases hf.cas with rfl | ⟨v', a', rfl, h3, h4⟩
  · rw [leq_ded'] at h; cases h
  obtain ⟨⟨l1, q1⟩, l2, q2⟩ := leq_iff.1 h
  rw [tog_al (fun a b ha hb => join_liv ha hb) h1 h2 h3 h4 l1 l2]
  have e1 : List.zipWith joinN v v' = v' := List.ext_getElem (by simp; omega) (fun i k1 k2 => by rw [List.getElem_zipWith]; exact join_le (h1 _ (List.getElem_mem _)) (h3 _ (List.getElem_mem _)) (q1 i (by omega) k2))
  have e2 : List.zipWith joinN a a' = a' := List.ext_getElem (by simp; omega) (fun i k1 k2 => by rw [List.getElem_zipWith]; exact join_le (h2 _ (List.getElem_mem _)) (h4 _ (List.getElem_mem _)) (q2 i (by omega) k2))
  rw [e1, e2]
theorem meet_glb {e f g : ET} (he : NorE e) (hf : NorE f) (hg : NorE g) (k1 : leq0 g e = true) (k2 : leq0 g f = true) : leq0 g (meet0 e f) = true := by
  rcases hg.cas with rfl | ⟨u, b, rfl, h5, h6⟩
  · exact leq_ded _
  rcases he.cas with rfl | ⟨v, a, rfl, h1, h2⟩
  · rw [leq_ded'] at k1; cases k1
  rcases hf.cas with rfl | ⟨v', a', rfl, h3, h4⟩
  · rw [leq_ded'] at k2; cases k2
  obtain ⟨⟨l1, q1⟩, l2, q2⟩ := leq_iff.1 k1
  obtain ⟨⟨l3, q3⟩, l4, q4⟩ := leq_iff.1 k2
  have G : ∀ {x y g : NT}, Liv x → Liv y → Liv g → lqN g x = true → lqN g y = true → Liv (meetN x y) := by
    intro x y g hx hy hg j1 j2
    refine ⟨meetN_raw hx.1 hy.1, meetN_norm hx.1 hy.1, ?_⟩
    obtain ⟨z, hz, m⟩ := liv_some hg
    exact ((meetN_mem hx.1 hy.1 hz).2 ⟨(lqN_iff hg.1 hx.1).1 j1 z hz m, (lqN_iff hg.1 hy.1).1 j2 z hz m⟩).1
  have e1 : meet0 (false, v, a) (false, v', a') = (false, List.zipWith meetN v v', List.zipWith meetN a a') := by
    have e0 : meet0 (false, v, a) (false, v', a') = madE (List.zipWith meetN v v') (List.zipWith meetN a a') := by simp [meet0, pairE, ← l1, ← l2, l3, l4]
    rw [e0]
    refine made_liv (fun x hx => ?_) (fun x hx => ?_)
    · obtain ⟨i, hi, rfl⟩ := List.mem_iff_getElem.1 hx
      rw [List.length_zipWith] at hi
      rw [List.getElem_zipWith]
      exact G (h1 _ (List.getElem_mem _)) (h3 _ (List.getElem_mem _)) (h5 u[i] (List.getElem_mem (by omega))) (q1 i (by omega) (by omega)) (q3 i (by omega) (by omega))
    · obtain ⟨i, hi, rfl⟩ := List.mem_iff_getElem.1 hx
      rw [List.length_zipWith] at hi
      rw [List.getElem_zipWith]
      exact G (h2 _ (List.getElem_mem _)) (h4 _ (List.getElem_mem _)) (h6 b[i] (List.getElem_mem (by omega))) (q2 i (by omega) (by omega)) (q4 i (by omega) (by omega))
  rw [e1]
  refine leq_iff.2 ⟨⟨by simp; omega, fun i j1 j2 => ?_⟩, by simp; omega, fun i j1 j2 => ?_⟩
  · rw [List.length_zipWith] at j2
    rw [List.getElem_zipWith]
    exact lq_glb (h1 _ (List.getElem_mem _)).1 (h3 _ (List.getElem_mem _)).1 (h5 _ (List.getElem_mem _)).1 (q1 i j1 (by omega)) (q3 i j1 (by omega))
  · rw [List.length_zipWith] at j2
    rw [List.getElem_zipWith]
    exact lq_glb (h2 _ (List.getElem_mem _)).1 (h4 _ (List.getElem_mem _)).1 (h6 _ (List.getElem_mem _)).1 (q2 i j1 (by omega)) (q4 i j1 (by omega))
end Go.Proofs.Ytbkblijoimmdeaa
