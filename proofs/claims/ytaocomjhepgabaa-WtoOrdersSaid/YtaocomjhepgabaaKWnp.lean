import Derived.Test.YtaocomjhepgabaaKWbeg
import Derived.Test.YtaocomjhepgabaaKWnum
set_option linter.unusedVariables false
set_option linter.unusedSimpArgs false
set_option linter.unnecessarySimpa false
/- Wnp -/
namespace Go.Proofs.Ytaocomjhepgabaa
def numAll : List Int → List (Int × Int) → List Int × List (Nat × Nat)
  | vs, [] => (vs, [])
  | vs, a :: r => ((numAll (numb (numb vs a.1).1 a.2).1 r).1, ((numb vs a.1).2, (numb (numb vs a.1).1 a.2).2) :: (numAll (numb (numb vs a.1).1 a.2).1 r).2)
theorem numAll_snoc (a : Int × Int) : ∀ (l : List (Int × Int)) (vs : List Int), numAll vs (l ++ [a]) = ((numb (numb (numAll vs l).1 a.1).1 a.2).1, (numAll vs l).2 ++ [((numb (numAll vs l).1 a.1).2, (numb (numb (numAll vs l).1 a.1).1 a.2).2)])
  | [], vs => rfl
  | b :: l, vs => by
    show numAll vs (b :: (l ++ [a])) = _
    simp only [numAll]
    rw [numAll_snoc a l]
    rfl
theorem numb_pre (vs : List Int) (v : Int) : ∃ t, (numb vs v).1 = vs ++ t := by
  unfold numb; split
  · exact ⟨[], by simp⟩
  · exact ⟨[v], rfl⟩
theorem numb_at (vs : List Int) (v : Int) : (numb vs v).1[(numb vs v).2]? = some v := by
  unfold numb; split
  · rename_i h
    have := List.idxOf_lt_length_of_mem h
    show vs[vs.idxOf v]? = some v
    rw [List.getElem?_eq_getElem this]; simp
  · simp
theorem numb_nodup {vs : List Int} (h : vs.Nodup) (v : Int) : (numb vs v).1.Nodup := by
  unfold numb; split
  · exact h
  · rename_i hn
    rw [List.nodup_append]
    exact ⟨h, by simp, fun a ha b hb => by simp at hb; subst hb; exact fun e => hn (e ▸ ha)⟩
theorem numb_len (vs : List Int) (v : Int) : (numb vs v).1.length ≤ vs.length + 1 := by
  unfold numb; split <;> simp
theorem get_pre {vs t : List Int} {i : Nat} {v : Int} (h : vs[i]? = some v) : (vs ++ t)[i]? = some v := by
  rw [List.getElem?_append_left (List.getElem?_eq_some_iff.1 h).1]; exact h
theorem numAll_pre : ∀ (l : List (Int × Int)) (vs : List Int), ∃ t, (numAll vs l).1 = vs ++ t
  | [], vs => ⟨[], by simp [numAll]⟩
  | a :: l, vs => by
    obtain ⟨t1, h1⟩ := numb_pre vs a.1
    obtain ⟨t2, h2⟩ := numb_pre (numb vs a.1).1 a.2
    obtain ⟨t3, h3⟩ := numAll_pre l (numb (numb vs a.1).1 a.2).1
    refine ⟨t1 ++ t2 ++ t3, ?_⟩
    show (numAll (numb (numb vs a.1).1 a.2).1 l).1 = _
    rw [h3, h2, h1]; simp
theorem numAll_nodup : ∀ (l : List (Int × Int)) {vs : List Int}, vs.Nodup → (numAll vs l).1.Nodup
  | [], vs, h => h
  | a :: l, vs, h => numAll_nodup l (numb_nodup (numb_nodup h a.1) a.2)
theorem numAll_len : ∀ (l : List (Int × Int)) (vs : List Int), (numAll vs l).1.length ≤ vs.length + 2 * l.length ∧ (numAll vs l).2.length = l.length
  | [], vs => by simp [numAll]
  | a :: l, vs => by
    have h1 := numb_len vs a.1
    have h2 := numb_len (numb vs a.1).1 a.2
    have h3 := numAll_len l (numb (numb vs a.1).1 a.2).1
    simp only [numAll, List.length_cons]
    omega
theorem numAll_at : ∀ (l : List (Int × Int)) (vs : List Int) (k : Nat) (x : Nat × Nat), (numAll vs l).2[k]? = some x → ∃ a, l[k]? = some a ∧ (numAll vs l).1[x.1]? = some a.1 ∧ (numAll vs l).1[x.2]? = some a.2
  | [], vs, k, x, h => by simp [numAll] at h
  | a :: l, vs, 0, x, h => by
    simp only [numAll, List.getElem?_cons_zero, Option.some.injEq] at h
    subst h
    obtain ⟨t2, h2⟩ := numb_pre (numb vs a.1).1 a.2
    obtain ⟨t3, h3⟩ := numAll_pre l (numb (numb vs a.1).1 a.2).1
    refine ⟨a, rfl, ?_, ?_⟩
    · show (numAll (numb (numb vs a.1).1 a.2).1 l).1[_]? = _
      rw [h3]
      refine get_pre ?_
      rw [h2]
      exact get_pre (numb_at vs a.1)
    · show (numAll (numb (numb vs a.1).1 a.2).1 l).1[_]? = _
      rw [h3]
      exact get_pre (numb_at _ a.2)
  | a :: l, vs, k + 1, x, h => by
    simp only [numAll, List.getElem?_cons_succ] at h
    obtain ⟨b, hb, h1, h2⟩ := numAll_at l _ k x h
    exact ⟨b, by simpa using hb, h1, h2⟩
/-- Where the arcs of one vertex lead. -/
def outs {V : Type} [DecidableEq V] (l : List (V × V)) (v : V) : List V := (l.filter (fun a => decide (a.1 = v))).map (·.2)
theorem outs_app {V : Type} [DecidableEq V] (a b : List (V × V)) (v : V) : outs (a ++ b) v = outs a v ++ outs b v := by simp [outs]
theorem outs_map {f : Nat → Int} {own : List (Nat × Nat)} {ars : List (Int × Int)} {v : Nat} (hl : own.length = ars.length) (h : ∀ (k : Nat) (x : Nat × Nat), own[k]? = some x → ∃ a : Int × Int, ars[k]? = some a ∧ f x.1 = a.1 ∧ f x.2 = a.2) (inj : ∀ x ∈ own, f x.1 = f v → x.1 = v) : outs ars (f v) = (outs own v).map f := by
  induction own generalizing ars with
  | nil => have : ars = [] := List.length_eq_zero_iff.1 hl.symm
           subst this; rfl
  | cons x own ih =>
    cases ars with
    | nil => simp at hl
    | cons a ars =>
      have h0 := h 0 x rfl
      simp only [List.getElem?_cons_zero, Option.some.injEq] at h0
      obtain ⟨a', rfl, h1, h2⟩ := h0
      have ih' := ih (ars := ars) (by simpa using hl) (fun k y hy => by simpa using h (k + 1) y (by simpa using hy)) (fun y hy => inj y (List.mem_cons_of_mem _ hy))
      have e1 : outs (a :: ars) (f v) = (if a.1 = f v then [a.2] else []) ++ outs ars (f v) := by
        unfold outs; rw [List.filter_cons]; split <;> simp_all
      have e2 : outs (x :: own) v = (if x.1 = v then [x.2] else []) ++ outs own v := by
        unfold outs; rw [List.filter_cons]; split <;> simp_all
      rw [e1, e2, List.map_append, ih']
      congr 1
      by_cases hv : x.1 = v
      · rw [if_pos hv, if_pos (by rw [← h1, hv])]; simp [h2]
      · rw [if_neg hv, if_neg (fun e => hv (inj x List.mem_cons_self (by rw [h1]; exact e)))]; rfl
def cntF (own : List (Nat × Nat)) (k : Nat) : Nat := (outs own k).length
theorem cntF_step (own : List (Nat × Nat)) {i : Nat} {x : Nat × Nat} (h : own[i]? = some x) : cntF (own.take (i + 1)) = upd (cntF (own.take i)) x.1 (cntF (own.take i) x.1 + 1) := by
  funext k
  have e : own.take (i + 1) = own.take i ++ [x] := by rw [List.take_add_one, h]; rfl
  unfold cntF upd
  rw [e, outs_app, List.length_append]
  by_cases hk : k = x.1
  · subst hk; simp [outs]
  · have : ¬ x.1 = k := fun h => hk h.symm
    simp [hk, outs, this]
theorem begF_up (own : List (Nat × Nat)) (k : Nat) : begF own (k + 1) = begF own k + (outs own k).length := by
  rw [begF_succ, Nat.add_comm]
  congr 1
  unfold cnt1 outs
  rw [List.length_map, ← List.countP_eq_length_filter]
  apply List.countP_congr
  intro a _
  simp
theorem begF_mono (own : List (Nat × Nat)) {i j : Nat} (h : i ≤ j) : begF own i ≤ begF own j := by
  induction h with
  | refl => exact Nat.le_refl _
  | step _ ih => exact Nat.le_trans ih (by rw [begF_up]; omega)
def enF (own : List (Nat × Nat)) : Nat → Nat → Nat
  | 0 => fun _ => 0
  | j + 1 => match own[j]? with
    | none => enF own j
    | some x => upd (enF own j) (begF own x.1 + cntF (own.take j) x.1) x.2
theorem enF_step (own : List (Nat × Nat)) {j : Nat} {x : Nat × Nat} (h : own[j]? = some x) : enF own (j + 1) = upd (enF own j) (begF own x.1 + cntF (own.take j) x.1) x.2 := by
  show (match own[j]? with | none => _ | some x => _) = _
  rw [h]
theorem cnt_lt (own : List (Nat × Nat)) {j : Nat} {x : Nat × Nat} (h : own[j]? = some x) : cntF (own.take j) x.1 < (outs own x.1).length := by
  have e : own = own.take j ++ x :: own.drop (j + 1) := by
    obtain ⟨hj, hx⟩ := List.getElem?_eq_some_iff.1 h
    subst hx
    simp
  have : outs own x.1 = outs (own.take j) x.1 ++ outs (x :: own.drop (j + 1)) x.1 := by rw [← outs_app, ← e]
  rw [this, List.length_append]
  unfold cntF
  have : 0 < (outs (x :: own.drop (j + 1)) x.1).length := by simp [outs]
  omega
theorem cnt_le_take (own : List (Nat × Nat)) (j k : Nat) : (outs (own.take j) k).length ≤ (outs own k).length := by
  have : outs own k = outs (own.take j) k ++ outs (own.drop j) k := by rw [← outs_app, List.take_append_drop]
  rw [this, List.length_append]; omega
theorem enF_at (own : List (Nat × Nat)) : ∀ j, j ≤ own.length → ∀ i r (h : r < (outs (own.take j) i).length), enF own j (begF own i + r) = (outs (own.take j) i)[r]
  | 0, _, i, r, h => by simp [outs] at h
  | j + 1, hj, i, r, h => by
    obtain ⟨x, hx⟩ : ∃ x, own[j]? = some x := ⟨own[j], List.getElem?_eq_getElem (by omega)⟩
    rw [enF_step own hx]
    have e : own.take (j + 1) = own.take j ++ [x] := by rw [List.take_add_one, hx]; rfl
    have e2 : outs (own.take (j + 1)) i = outs (own.take j) i ++ (if x.1 = i then [x.2] else []) := by
      rw [e, outs_app]; congr 1; unfold outs; split <;> simp_all
    have hle := cnt_le_take own j i
    have hlt := cnt_lt own hx
    have hu1 := begF_up own i
    have hu2 := begF_up own x.1
    unfold upd
    by_cases hr : r < (outs (own.take j) i).length
    · have hne : ¬ begF own i + r = begF own x.1 + cntF (own.take j) x.1 := by
        intro he
        by_cases hi : i = x.1
        · subst hi; unfold cntF at he; omega
        · rcases Nat.lt_or_gt_of_ne hi with h1 | h1
          · have := begF_mono own (show i + 1 ≤ x.1 by omega); omega
          · have := begF_mono own (show x.1 + 1 ≤ i by omega); omega
      rw [if_neg hne, enF_at own j (by omega) i r hr]
      simp only [e2]
      rw [List.getElem_append_left hr]
    · have hxi : x.1 = i := by
        by_cases hxi : x.1 = i
        · exact hxi
        · rw [e2, if_neg hxi, List.append_nil] at h; exact absurd h hr
      have hr2 : r = (outs (own.take j) i).length := by
        rw [e2, if_pos hxi, List.length_append] at h; simp at h; omega
      subst hxi
      rw [if_pos (by rw [hr2]; rfl)]
      simp only [e2, if_true]
      simp [hr2]
end Go.Proofs.Ytaocomjhepgabaa
