import Derived.Test.YtbkblijoimmdeaaKNfm
import Derived.Test.YtbkblijoimmdeaaKNws
set_option linter.unusedVariables false
set_option linter.unusedSimpArgs false
/- Em -/
namespace Go.Proofs.Ytbkblijoimmdeaa
/- Abstract stores: plain mathematics: Norm, Leq, Has, Join, Meet, Widen of Envs, number by number. -/
abbrev NT : Type := Int × Int × Nat × Nat × Bool
abbrev ET : Type := Bool × List NT × List NT
/-- a normal form that has a number. -/
def Liv (a : NT) : Prop := RawN a ∧ NormN a ∧ a.2.2.2.2 = false
theorem norm_bot {a : NT} (ha : RawN a) (n : NormN a) (h : ∀ v, In64 v → ¬ MemN a v) : a.2.2.2.2 = true := by
  cases k : a.2.2.2.2
  · exact absurd (someN_mem n k in_zero) (h _ (someN_in ha n in_zero))
  · rfl
theorem liv_some {a : NT} (h : Liv a) : ∃ v, In64 v ∧ MemN a v := ⟨_, someN_in h.1 h.2.1 in_zero, someN_mem h.2.1 h.2.2 in_zero⟩
theorem lq_refl {a : NT} (ha : RawN a) : lqN a a = true := (lqN_iff ha ha).2 (fun _ _ h => h)
theorem lq_trans {a b c : NT} (ha : RawN a) (hb : RawN b) (hc : RawN c) (h1 : lqN a b = true) (h2 : lqN b c = true) : lqN a c = true :=
  (lqN_iff ha hc).2 (fun v hv h => (lqN_iff hb hc).1 h2 v hv ((lqN_iff ha hb).1 h1 v hv h))
theorem lq_anti {a b : NT} (ha : Liv a) (hb : Liv b) (h1 : lqN a b = true) (h2 : lqN b a = true) : a = b :=
  norm_ext ha.2.1 hb.2.1 (fun v hv => ⟨(lqN_iff ha.1 hb.1).1 h1 v hv, (lqN_iff hb.1 ha.1).1 h2 v hv⟩)
theorem meet_comm' {a b : NT} (ha : RawN a) (hb : RawN b) : meetN a b = meetN b a :=
  norm_ext (meetN_norm ha hb) (meetN_norm hb ha) (fun v hv => by rw [meetN_mem ha hb hv, meetN_mem hb ha hv, And.comm])
theorem join_comm' {a b : NT} (ha : RawN a) (hb : RawN b) : joinN a b = joinN b a := by
  refine norm_ext (joinN_norm ha hb) (joinN_norm hb ha) (fun v hv => ⟨fun h => ?_, fun h => ?_⟩)
  · exact joinN_least ha hb (joinN_raw hb ha) (joinN_norm hb ha) (fun u hu k => joinN_mem hb ha hu (Or.inr k)) (fun u hu k => joinN_mem hb ha hu (Or.inl k)) hv h
  · exact joinN_least hb ha (joinN_raw ha hb) (joinN_norm ha hb) (fun u hu k => joinN_mem ha hb hu (Or.inr k)) (fun u hu k => joinN_mem ha hb hu (Or.inl k)) hv h
theorem join_liv {a b : NT} (ha : Liv a) (hb : Liv b) : Liv (joinN a b) := by
  refine ⟨joinN_raw ha.1 hb.1, joinN_norm ha.1 hb.1, ?_⟩
  obtain ⟨v, hv, h⟩ := liv_some ha
  exact (joinN_mem ha.1 hb.1 hv (Or.inl h)).1
theorem wid_mem {a b : NT} (ha : Liv a) (hb : Liv b) (ts : List Int) {v : Int} (hv : In64 v) (h : MemN a v ∨ MemN b v) : MemN (widenN a b ts) v := by
  unfold widenN
  rw [normN_id ha.1 ha.2.1, normN_id hb.1 hb.2.1]
  exact widRaw_mem ha.1 ha.2.1 hb.1 hb.2.1 ts hv h
theorem wid_liv {a b : NT} (ha : Liv a) (hb : Liv b) (ts : List Int) : Liv (widenN a b ts) := by
  obtain ⟨v, hv, h⟩ := liv_some ha
  have m := wid_mem ha hb ts hv (Or.inl h)
  refine ⟨?_, ?_, m.1⟩
  · unfold widenN
    rw [normN_id ha.1 ha.2.1, normN_id hb.1 hb.2.1]
    exact widRaw_raw ha.1 ha.2.1 hb.1 hb.2.1 ts
  · unfold widenN
    rw [normN_id ha.1 ha.2.1, normN_id hb.1 hb.2.1]
    exact widRaw_norm ha.1 ha.2.1 hb.1 hb.2.1 ts
theorem lq_jw {a b : NT} (ha : Liv a) (hb : Liv b) (ts : List Int) : lqN (joinN a b) (widenN a b ts) = true := by
  have w := wid_liv ha hb ts
  exact (lqN_iff (joinN_raw ha.1 hb.1) w.1).2 (fun v hv h => joinN_least ha.1 hb.1 w.1 w.2.1 (fun u hu k => wid_mem ha hb ts hu (Or.inl k)) (fun u hu k => wid_mem ha hb ts hu (Or.inr k)) hv h)
theorem lq_j1 {a b : NT} (ha : RawN a) (hb : RawN b) : lqN a (joinN a b) = true := (lqN_iff ha (joinN_raw ha hb)).2 (fun v hv h => joinN_mem ha hb hv (Or.inl h))
theorem lq_j2 {a b : NT} (ha : RawN a) (hb : RawN b) : lqN b (joinN a b) = true := (lqN_iff hb (joinN_raw ha hb)).2 (fun v hv h => joinN_mem ha hb hv (Or.inr h))
theorem lq_e1 {a b : NT} (ha : RawN a) (hb : RawN b) : lqN (meetN a b) a = true := (lqN_iff (meetN_raw ha hb) ha).2 (fun v hv h => ((meetN_mem ha hb hv).1 h).1)
theorem lq_e2 {a b : NT} (ha : RawN a) (hb : RawN b) : lqN (meetN a b) b = true := (lqN_iff (meetN_raw ha hb) hb).2 (fun v hv h => ((meetN_mem ha hb hv).1 h).2)
theorem lq_glb {a b g : NT} (ha : RawN a) (hb : RawN b) (hg : RawN g) (h1 : lqN g a = true) (h2 : lqN g b = true) : lqN g (meetN a b) = true :=
  (lqN_iff hg (meetN_raw ha hb)).2 (fun v hv h => (meetN_mem ha hb hv).2 ⟨(lqN_iff hg ha).1 h1 v hv h, (lqN_iff hg hb).1 h2 v hv h⟩)
theorem join_le {a b : NT} (ha : Liv a) (hb : Liv b) (h : lqN a b = true) : joinN a b = b := by
  refine norm_ext (joinN_norm ha.1 hb.1) hb.2.1 (fun v hv => ⟨fun k => ?_, fun k => joinN_mem ha.1 hb.1 hv (Or.inr k)⟩)
  exact joinN_least ha.1 hb.1 hb.1 hb.2.1 ((lqN_iff ha.1 hb.1).1 h) (fun _ _ q => q) hv k
/-- two lists, element by element. -/
def eqF {A B : Type} (f : A → B → Bool) : List A → List B → Bool
  | [], [] => true
  | a :: l, b :: m => f a b && eqF f l m
  | _, _ => false
theorem eqF_iff {A B : Type} {f : A → B → Bool} : ∀ {l : List A} {m : List B}, eqF f l m = true ↔ l.length = m.length ∧ ∀ i (h1 : i < l.length) (h2 : i < m.length), f l[i] m[i] = true
  | [], [] => by simp [eqF]
  | [], _ :: _ => by simp [eqF]
  | _ :: _, [] => by simp [eqF]
  | a :: l, b :: m => by
    simp only [eqF, Bool.and_eq_true, eqF_iff (l := l) (m := m), List.length_cons]
    constructor
    · rintro ⟨h1, h2, h3⟩
      refine ⟨by omega, fun i k1 k2 => ?_⟩
      cases i with
      | zero => exact h1
      | succ i => exact h3 i (by omega) (by omega)
    · rintro ⟨h1, h2⟩
      exact ⟨h2 0 (by omega) (by omega), by omega, fun i k1 k2 => h2 (i + 1) (by omega) (by omega)⟩
theorem eqF_off {A B : Type} {f : A → B → Bool} {l : List A} {m : List B} (h : ¬ l.length = m.length) : eqF f l m = false := by
  cases k : eqF f l m
  · rfl
  · exact absurd (eqF_iff.1 k).1 h
/-- the Env of no store; of these normal Nums. -/
def dedE : ET := (true, [], [])
def madE (v a : List NT) : ET := if (v.any (fun x => x.2.2.2.2) || a.any (fun x => x.2.2.2.2)) = true then dedE else (false, v, a)
def normE (e : ET) : ET := if e.1 = true then dedE else madE (e.2.1.map normN) (e.2.2.map normN)
def RawE (e : ET) : Prop := (∀ a ∈ e.2.1, RawN a) ∧ (∀ a ∈ e.2.2, RawN a)
def NorE (e : ET) : Prop := e = dedE ∨ (e.1 = false ∧ (∀ a ∈ e.2.1, Liv a) ∧ (∀ a ∈ e.2.2, Liv a))
theorem made_nor {v a : List NT} (hv : ∀ x ∈ v, RawN x ∧ NormN x) (ha : ∀ x ∈ a, RawN x ∧ NormN x) : NorE (madE v a) := by
  unfold madE
  by_cases h : (v.any (fun x => x.2.2.2.2) || a.any (fun x => x.2.2.2.2)) = true
  · rw [if_pos h]; exact Or.inl rfl
  · rw [if_neg h]
    simp only [Bool.or_eq_true, List.any_eq_true, not_or, not_exists, not_and, Bool.not_eq_true] at h
    exact Or.inr ⟨rfl, fun x hx => ⟨(hv x hx).1, (hv x hx).2, h.1 x hx⟩, fun x hx => ⟨(ha x hx).1, (ha x hx).2, h.2 x hx⟩⟩
theorem made_liv {v a : List NT} (hv : ∀ x ∈ v, Liv x) (ha : ∀ x ∈ a, Liv x) : madE v a = (false, v, a) := by
  unfold madE
  rw [if_neg]
  simp only [Bool.or_eq_true, List.any_eq_true, not_or, not_exists, not_and, Bool.not_eq_true]
  exact ⟨fun x hx => (hv x hx).2.2, fun x hx => (ha x hx).2.2⟩
theorem norm_all {l : List NT} (h : ∀ a ∈ l, RawN a) : ∀ x ∈ l.map normN, RawN x ∧ NormN x := by
  intro x hx
  obtain ⟨a, ha, rfl⟩ := List.mem_map.1 hx
  exact ⟨normN_raw (h a ha), normN_norm (h a ha)⟩
theorem normE_nor {e : ET} (h : RawE e) : NorE (normE e) := by
  unfold normE
  by_cases k : e.1 = true
  · rw [if_pos k]; exact Or.inl rfl
  · rw [if_neg k]
    exact made_nor (norm_all h.1) (norm_all h.2)
theorem map_id' {l : List NT} (h : ∀ a ∈ l, Liv a) : l.map normN = l := by
  have : l.map normN = l.map id := List.map_congr_left (fun a ha => normN_id (h a ha).1 (h a ha).2.1)
  rw [this, List.map_id]
theorem normE_liv {v a : List NT} (hv : ∀ x ∈ v, Liv x) (ha : ∀ x ∈ a, Liv x) : normE (false, v, a) = (false, v, a) := by
  unfold normE
  rw [if_neg (by simp)]
  show madE (v.map normN) (a.map normN) = _
  rw [map_id' hv, map_id' ha, made_liv hv ha]
theorem NorE.cas {e : ET} (h : NorE e) : e = dedE ∨ ∃ v a, e = (false, v, a) ∧ (∀ x ∈ v, Liv x) ∧ (∀ x ∈ a, Liv x) := by
  rcases h with h | h
  · exact Or.inl h
  · obtain ⟨d, v, a⟩ := e
    obtain ⟨h1, h2, h3⟩ := h
    simp only at h1 h2 h3
    subst h1
    exact Or.inr ⟨v, a, rfl, h2, h3⟩
theorem normE_id {e : ET} (h : NorE e) : normE e = e := by
  rcases h.cas with rfl | ⟨v, a, rfl, h1, h2⟩
  · rfl
  · exact normE_liv h1 h2
theorem NorE.raw {e : ET} (h : NorE e) : RawE e := by
  rcases h.cas with rfl | ⟨v, a, rfl, h1, h2⟩
  · exact ⟨fun a h => (List.not_mem_nil h).elim, fun a h => (List.not_mem_nil h).elim⟩
  · exact ⟨fun x hx => (h1 x hx).1, fun x hx => (h2 x hx).1⟩
/-- the calls, of normal forms. -/
def has0 (e : ET) (sv : List Int) (sa : List (List Int)) : Bool := !e.1 && (eqF insN e.2.1 sv && eqF (fun a l => l.all (fun v => insN a v)) e.2.2 sa)
def leq0 (e f : ET) : Bool := if (e.1 || f.1) = true then e.1 else (eqF lqN e.2.1 f.2.1 && eqF lqN e.2.2 f.2.2)
def pairE (p : NT → NT → NT) (e f : ET) : ET := if e.2.1.length ≠ f.2.1.length ∨ e.2.2.length ≠ f.2.2.length then dedE else madE (List.zipWith p e.2.1 f.2.1) (List.zipWith p e.2.2 f.2.2)
def tog0 (p : NT → NT → NT) (e f : ET) : ET := if e.1 = true then f else if f.1 = true then e else pairE p e f
def meet0 (e f : ET) : ET := if (e.1 || f.1) = true then dedE else pairE meetN e f
def shp0 (e f : ET) : Bool := e.1 || (f.1 || (decide (e.2.1.length = f.2.1.length) && decide (e.2.2.length = f.2.2.length)))
theorem zip_all {p : NT → NT → NT} {Q R S : NT → Prop} (hp : ∀ a b, Q a → R b → S (p a b)) {l m : List NT} (hl : ∀ x ∈ l, Q x) (hm : ∀ x ∈ m, R x) : ∀ x ∈ List.zipWith p l m, S x := by
  intro x hx
  obtain ⟨i, hi, rfl⟩ := List.mem_iff_getElem.1 hx
  rw [List.getElem_zipWith]
  exact hp _ _ (hl _ (List.getElem_mem _)) (hm _ (List.getElem_mem _))
theorem pair_liv {p : NT → NT → NT} (hp : ∀ a b, Liv a → Liv b → Liv (p a b)) {v a v' a' : List NT} (h1 : ∀ x ∈ v, Liv x) (h2 : ∀ x ∈ a, Liv x) (h3 : ∀ x ∈ v', Liv x) (h4 : ∀ x ∈ a', Liv x) (e1 : v.length = v'.length) (e2 : a.length = a'.length) :
    pairE p (false, v, a) (false, v', a') = (false, List.zipWith p v v', List.zipWith p a a') := by
  unfold pairE
  rw [if_neg (by simp [e1, e2])]
  exact made_liv (zip_all hp h1 h3) (zip_all hp h2 h4)
theorem pair_nor {p : NT → NT → NT} (hp : ∀ a b, RawN a → RawN b → RawN (p a b) ∧ NormN (p a b)) {e f : ET} (he : RawE e) (hf : RawE f) : NorE (pairE p e f) := by
  unfold pairE
  split
  · exact Or.inl rfl
  · exact made_nor (zip_all hp he.1 hf.1) (zip_all hp he.2 hf.2)
theorem join_ok (a b : NT) (ha : RawN a) (hb : RawN b) : RawN (joinN a b) ∧ NormN (joinN a b) := ⟨joinN_raw ha hb, joinN_norm ha hb⟩
theorem meet_ok (a b : NT) (ha : RawN a) (hb : RawN b) : RawN (meetN a b) ∧ NormN (meetN a b) := ⟨meetN_raw ha hb, meetN_norm ha hb⟩
theorem wid_ok (ts : List Int) (a b : NT) (ha : RawN a) (hb : RawN b) : RawN (widenN a b ts) ∧ NormN (widenN a b ts) :=
  ⟨widRaw_raw (normN_raw ha) (normN_norm ha) (normN_raw hb) (normN_norm hb) ts, widRaw_norm (normN_raw ha) (normN_norm ha) (normN_raw hb) (normN_norm hb) ts⟩
theorem tog_nor {p : NT → NT → NT} (hp : ∀ a b, RawN a → RawN b → RawN (p a b) ∧ NormN (p a b)) {e f : ET} (he : NorE e) (hf : NorE f) : NorE (tog0 p e f) := by
  unfold tog0
  by_cases h1 : e.1 = true
  · rw [if_pos h1]; exact hf
  · rw [if_neg h1]
    by_cases h2 : f.1 = true
    · rw [if_pos h2]; exact he
    · rw [if_neg h2]; exact pair_nor hp he.raw hf.raw
theorem meet_nor {e f : ET} (he : NorE e) (hf : NorE f) : NorE (meet0 e f) := by
  unfold meet0
  split
  · exact Or.inl rfl
  · exact pair_nor meet_ok he.raw hf.raw
end Go.Proofs.Ytbkblijoimmdeaa
