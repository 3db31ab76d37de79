import Derived.Test.YtjngjanheoeojaaDoorRshape
namespace Go.Proofs.YtjngjanheoeojaaDoor
set_option linter.unusedVariables false
set_option linter.unusedSimpArgs false
/-- What ties dev's path to the document's stack: the stack is the path, but for a leaf at its end. -/
structure Tied (st S : List Hold) : Prop where
  kinds : ∀ h ∈ st, h.1 < 16
  same : S = st ∨ (∃ k c, st = S ++ [(k, c)] ∧ isOpen k = false)
theorem want_eq {k : Nat} (h : k < 16) : wantR k = rWant k := by
  have : ∀ j : Fin 16, wantR ((j : Nat) : Int) = rWant j := by decide
  exact this ⟨k, h⟩
theorem want_leaf {k : Nat} (h : isOpen k = false) : wantR k ≤ 0 := by
  unfold isOpen at h
  simp at h
  omega
theorem leaf_next {k : Nat} (hk : k < 16) (h : isOpen k = false) (c : Nat) : nextD k c = 0 := by
  have h3 : ∀ j : Fin 16, isOpen j = false → (j : Nat) ≠ 9 ∧ rH0 j = 0 ∧ rH1 j = 0 ∧ rH2 j = 0 := by decide
  obtain ⟨a, b, d, e⟩ := h3 ⟨k, hk⟩ h
  unfold nextD
  rw [if_neg a]
  split
  · exact b
  split
  · exact d
  split
  · exact e
  · rfl
theorem nextD_big (o h : Nat) (hh : 3 ≤ h) : nextD o h = if o = 9 then 2 else 0 := by
  unfold nextD
  rw [if_neg (by omega : ¬ h = 0), if_neg (by omega : ¬ h = 1), if_neg (by omega : ¬ h = 2)]
theorem holds_small : ∀ o k : Fin 16, ∀ h : Fin 4, holdsR ((o : Nat) : Int) ((h : Nat) : Int) ((k : Nat) : Int) = (nextD o h == rSort k) := by decide +kernel
theorem holds_big (o h k : Nat) (hh : 3 ≤ h) : holdsR o h k = holdsR o 3 k := by
  unfold holdsR
  obtain ⟨a, b⟩ := wantR_bd o
  have e1 : ((h : Int) == 0) = false := by rw [beq_eq_false_iff_ne]; omega
  have e2 : ((h : Int) == 1) = false := by rw [beq_eq_false_iff_ne]; omega
  have e3 : ((h : Int) == 2) = false := by rw [beq_eq_false_iff_ne]; omega
  rw [e1, e2, e3, decide_eq_false (by omega : ¬ (h : Int) < wantR o), decide_eq_false (by omega : ¬ (3 : Int) < wantR o)]
  rfl
theorem holds_next (o h k : Nat) (ho : o < 16) (hk : k < 16) : holdsR o h k = (nextD o h == rSort k) := by
  by_cases hh : h < 4
  · exact holds_small ⟨o, ho⟩ ⟨k, hk⟩ ⟨h, hh⟩
  · rw [holds_big o h k (by omega)]
    have := holds_small ⟨o, ho⟩ ⟨k, hk⟩ ⟨3, by omega⟩
    rw [nextD_big o h (by omega), ← nextD_big o 3 (by omega)]
    exact this
theorem num_fit (k : Nat) (hk : k < 16) (num op : Int) (hn : num ≤ 9223372036854775807) : numB k num op = (decide (0 ≤ num) && decide (num ≤ rMost k) && decide (rOp0 k ≤ op) && decide (op ≤ rOp1 k)) := by
  have h16 : k = 0 ∨ k = 1 ∨ k = 2 ∨ k = 3 ∨ k = 4 ∨ k = 5 ∨ k = 6 ∨ k = 7 ∨ k = 8 ∨ k = 9 ∨ k = 10 ∨ k = 11 ∨ k = 12 ∨ k = 13 ∨ k = 14 ∨ k = 15 := by omega
  rcases h16 with rfl | rfl | rfl | rfl | rfl | rfl | rfl | rfl | rfl | rfl | rfl | rfl | rfl | rfl | rfl | rfl
  all_goals (rw [Bool.eq_iff_iff]; simp [numB, rMost, rOp0, rOp1]; omega)
theorem fields_fit (n : Nd) (hn : n.num ≤ 9223372036854775807) : fieldsB n.kind n.name.toList n.num n.op = fitN n := by
  unfold fieldsB fitN
  by_cases h : 0 ≤ n.kind ∧ n.kind ≤ 15
  · rw [decide_eq_true h.1, decide_eq_true h.2]
    obtain ⟨k, hk⟩ := Int.eq_ofNat_of_zero_le h.1
    have hk16 : k < 16 := by omega
    rw [hk]
    simp only [Int.toNat_natCast, Bool.true_and]
    unfold fitB
    have hnm : namedB (k : Int) = rNamed k := by
      have : ∀ j : Fin 16, namedB ((j : Nat) : Int) = rNamed j := by decide
      exact this ⟨k, hk16⟩
    rw [hnm, num_fit k hk16 _ _ hn]
  · have : (decide (0 ≤ n.kind) && decide (n.kind ≤ 15)) = false := by
      rw [Bool.eq_false_iff]; simp; omega
    rw [this]; rfl
theorem wants_cong {st : List Hold} (h : ∀ x ∈ st, x.1 < 16) : wantsB st = wantsR st := by
  unfold wantsB wantsR
  induction st with
  | nil => rfl
  | cons a t ih =>
    rw [List.any_cons, List.any_cons, ih (fun x hx => h x (List.mem_cons_of_mem _ hx)), want_eq (h a List.mem_cons_self)]
theorem wants_leaf {S : List Hold} {k c : Nat} (h : isOpen k = false) : wantsR (S ++ [(k, c)]) = wantsR S := by
  have := want_leaf h
  unfold wantsR
  rw [List.any_append]
  simp only [List.any_cons, List.any_nil, Bool.or_false]
  rw [decide_eq_false (by show ¬ ((c : Int) < wantR k); omega), Bool.or_false]
theorem Tied.wants {st S : List Hold} (h : Tied st S) (m : Nat) (hm : m ≤ st.length) : wantsB (st.drop m) = wantsR (S.drop m) := by
  rw [wants_cong (fun x hx => h.kinds x (List.mem_of_mem_drop hx))]
  rcases h.same with rfl | ⟨k, c, rfl, ho⟩
  · rfl
  · by_cases hc : m ≤ S.length
    · rw [List.drop_append_of_le_length hc, wants_leaf ho]
    · rw [List.length_append] at hm
      simp only [List.length_cons, List.length_nil] at hm
      rw [List.drop_of_length_le (by rw [List.length_append]; simp only [List.length_cons, List.length_nil]; omega), List.drop_of_length_le (by omega)]
theorem decl_sort {k : Nat} (h : k < 16) : declB k = (rSort k == 1) ∧ stmtB k = (rSort k == 2) := by
  have : ∀ j : Fin 16, declB j = (rSort j == 1) ∧ stmtB ((j : Nat) : Int) = (rSort j == 2) := by decide
  exact this ⟨k, h⟩
theorem incTop_take {S : List Hold} {m : Nat} (h : m < S.length) : incTop (S.take (m + 1)) = S.take m ++ [(S[m].1, S[m].2 + 1)] := by
  have e : S.take (m + 1) = S.take m ++ [S[m]] := List.take_succ_eq_append_getElem h
  have l : (S.take m).length = m := by rw [List.length_take]; omega
  rw [incTop_at (k := m) (by rw [List.length_take]; omega)]
  have g : (S.take (m + 1))[m]'(by rw [List.length_take]; omega) = S[m] := List.getElem_take
  rw [g, e, List.set_append_right _ _ (by omega), l, Nat.sub_self]
  rfl
theorem Tied.len {st S : List Hold} (h : Tied st S) : S.length ≤ st.length := by
  rcases h.same with rfl | ⟨k, c, rfl, _⟩
  · exact Nat.le_refl _
  · rw [List.length_append]; omega
theorem Tied.at {st S : List Hold} (h : Tied st S) {m : Nat} (hm : m < S.length) : st.take m = S.take m ∧ st.getD m (0, 0) = S[m] := by
  rcases h.same with rfl | ⟨k, c, rfl, _⟩
  · exact ⟨rfl, by rw [List.getD_eq_getElem?_getD, List.getElem?_eq_getElem hm]; rfl⟩
  · refine ⟨List.take_append_of_le_length (by omega), ?_⟩
    rw [List.getD_eq_getElem?_getD, List.getElem?_append_left hm, List.getElem?_eq_getElem hm]; rfl
theorem Tied.push {A : List Hold} {k : Nat} (hk : k < 16) (hA : ∀ h ∈ A, h.1 < 16) : Tied (A ++ [(k, 0)]) (if isOpen k then A ++ [(k, 0)] else A) := by
  refine ⟨fun h hh => ?_, ?_⟩
  · rcases List.mem_append.1 hh with hh | hh
    · exact hA h hh
    · simp at hh; subst hh; exact hk
  · cases ho : isOpen k
    · exact .inr ⟨k, 0, rfl, ho⟩
    · exact .inl rfl
theorem put_split {st : List Hold} {g : Bool} {d : Int} {k : Nat} : putOk st g d k = true ↔ (0 ≤ d - 1 ∧ d - 1 ≤ st.length) ∧ wantsB (st.drop (d - 1).toNat) = false ∧ takesB st g (d - 1).toNat (rSort k) = true := by
  unfold putOk
  simp only [Bool.and_eq_true, decide_eq_true_eq, Bool.not_eq_true']
  constructor
  · rintro ⟨⟨⟨a, b⟩, c⟩, d⟩; exact ⟨⟨a, b⟩, c, d⟩
  · rintro ⟨⟨a, b⟩, c, d⟩; exact ⟨⟨⟨a, b⟩, c⟩, d⟩
theorem run_eq (ns : List Nd) (hns : ∀ n ∈ ns, n.num ≤ 9223372036854775807) : ∀ (i : Nat) (st S : List Hold) (g : Bool), Tied st S → runD ns i st g = runR ns i S g := by
  induction ns with
  | nil =>
    intro i st S g h
    have := h.wants 0 (Nat.zero_le _)
    rw [List.drop_zero, List.drop_zero] at this
    rw [runD, runR, this]
  | cons n ns ih =>
    intro i st S g h
    have ih' := ih (fun x hx => hns x (List.mem_cons_of_mem _ hx))
    have hff := fields_fit n (hns n List.mem_cons_self)
    clear ih
    rw [runD]
    by_cases hf : fitN n = false
    · rw [if_pos hf]
      by_cases hw : wantsR (S.drop (n.depth - 1).toNat) = true
      · rw [runR_wants hw]
      · rw [runR_bad ⟨rfl, by simpa using hw⟩ (.inr (by rw [hff]; exact hf))]
    rw [if_neg hf]
    have hf' : fitN n = true := by simpa using hf
    obtain ⟨k0, k15⟩ := fitN_kind hf'
    obtain ⟨k, hk⟩ := Int.eq_ofNat_of_zero_le k0
    have hk16 : k < 16 := by omega
    have ekd : n.kind.toNat = k := by omega
    rw [ekd]
    by_cases hw : wantsR (S.drop (n.depth - 1).toNat) = true
    · rw [runR_wants hw, if_pos]
      rw [Bool.eq_false_iff, Ne, put_split]
      rintro ⟨⟨a, b⟩, c, d⟩
      rw [h.wants _ (by omega), hw] at c
      cases c
    have hw' : wantsR (S.drop (n.depth - 1).toNat) = false := by simpa using hw
    by_cases hd : n.depth ≠ (S.take (n.depth - 1).toNat).length + 1
    · rw [runR_bad ⟨rfl, hw'⟩ (.inl hd), if_pos]
      rw [Bool.eq_false_iff, Ne, put_split]
      rintro ⟨⟨a, b⟩, c, d⟩
      rw [List.length_take] at hd
      rcases h.same with rfl | ⟨lk, lc, rfl, ho⟩
      · omega
      · rw [List.length_append] at b
        simp only [List.length_cons, List.length_nil] at b
        have em : (n.depth - 1).toNat = S.length + 1 := by omega
        rw [em] at d
        unfold takesB at d
        rw [if_neg (by omega)] at d
        have eg : (S ++ [(lk, lc)]).getD (S.length + 1 - 1) (0, 0) = (lk, lc) := by simp [List.getD_eq_getElem?_getD]
        rw [eg] at d
        simp only [] at d
        rw [leaf_next (h.kinds (lk, lc) (by simp)) ho, beq_iff_eq] at d
        have := rSort_pos hk16
        omega
    have hd' : n.depth = (S.take (n.depth - 1).toNat).length + 1 := by simpa using hd
    have hle : (n.depth - 1).toNat ≤ S.length := by rw [List.length_take] at hd'; omega
    have hlen := h.len
    have hl1 : (S.take (n.depth - 1).toNat).length = (n.depth - 1).toNat := by rw [List.length_take]; omega
    have hwb : wantsB (st.drop (n.depth - 1).toNat) = false := by rw [h.wants _ (by omega)]; exact hw'
    generalize hm : (n.depth - 1).toNat = m at *
    have hdm : n.depth = (m : Int) + 1 := by omega
    cases m with
    | zero =>
      have h1 : n.depth = 1 := by omega
      rw [runR_top (by rw [hm]; exact ⟨rfl, hw'⟩) h1 (by rw [hff]; exact hf'), ekd]
      obtain ⟨e1, e2⟩ := decl_sort hk16
      rw [hk, e1, e2]
      have hs : rSort k = 1 ∨ rSort k = 2 ∨ (rSort k ≠ 1 ∧ rSort k ≠ 2) := by omega
      have hput : putOk st g n.depth k = takesB st g 0 (rSort k) := by
        rw [Bool.eq_iff_iff, put_split, hm, h1]
        constructor
        · exact fun x => x.2.2
        · exact fun x => ⟨⟨by omega, by omega⟩, hwb, x⟩
      rw [hput]
      unfold takesB
      rw [if_pos rfl]
      have hb : begunD g n = (g || rSort k == 2) := by unfold begunD; rw [if_pos h1, ekd]
      have hpp : pathPut st (n.depth - 1).toNat k = [(k, 0)] := by rw [hm]; rfl
      rcases hs with hs | hs | ⟨hs1, hs2⟩
      · rw [hs] at hb ⊢
        cases g
        · simp only [Bool.not_false]
          rw [if_neg (by decide), if_neg (by omega), if_neg (by decide), hb]
          rw [hm, ekd] at *
          exact ih' _ _ _ _ (Tied.push (A := []) hk16 (by simp))
        · rfl
      · rw [hs] at hb ⊢
        cases g
        · rw [if_neg (by decide), if_neg (by omega), if_neg (by decide), hb]
          rw [hm, ekd] at *
          exact ih' _ _ _ _ (Tied.push (A := []) hk16 (by simp))
        · rw [if_neg (by decide), if_neg (by omega), if_neg (by decide), hb]
          rw [hm, ekd] at *
          exact ih' _ _ _ _ (Tied.push (A := []) hk16 (by simp))
      · have b1 : (rSort k == 1) = false := by rw [beq_eq_false_iff_ne]; exact hs1
        have b2 : (rSort k == 2) = false := by rw [beq_eq_false_iff_ne]; exact hs2
        rw [b1, b2]
        cases g <;> rfl
    | succ m =>
      have hmS : m < S.length := by omega
      obtain ⟨t1, t2⟩ := h.at hmS
      have hkS : S[m].1 < 16 := by
        have : S[m] ∈ st := by
          rcases h.same with e | ⟨a, b, e, _⟩
          · rw [← e]; exact List.getElem_mem _
          · rw [e]; exact List.mem_append_left _ (List.getElem_mem _)
        exact h.kinds _ this
      have hget : (S.take (m + 1)).getD ((S.take (m + 1)).length - 1) (0, 0) = S[m] := by
        rw [hl1, Nat.add_sub_cancel, List.getD_eq_getElem?_getD, List.getElem?_take, if_pos (by omega), List.getElem?_eq_getElem hmS]; rfl
      rw [runR_in (S1 := S.take (m + 1)) (by rw [hm]; exact ⟨rfl, hw'⟩) (fun e => by rw [e] at hl1; simp at hl1) (by rw [hl1, hdm]) (by rw [hff]; exact hf'), hget, ekd]
      have hput : putOk st g n.depth k = (nextD S[m].1 S[m].2 == rSort k) := by
        rw [Bool.eq_iff_iff, put_split, hm, hdm]
        unfold takesB
        rw [if_neg (by omega), Nat.add_sub_cancel, t2]
        constructor
        · exact fun x => x.2.2
        · exact fun x => ⟨⟨by omega, by omega⟩, hwb, x⟩
      rw [hput, hk, holds_next _ _ _ hkS hk16]
      by_cases hx : (nextD S[m].1 S[m].2 == rSort k) = false
      · rw [if_pos hx, if_pos hx]
      · rw [if_neg hx, if_neg hx]
        by_cases h24 : 24 < n.depth
        · rw [if_pos h24, if_pos h24]
        · rw [if_neg h24, if_neg h24]
          have hb : begunD g n = g := by unfold begunD; rw [if_neg (by omega)]
          have hpp : pathPut st (m + 1) k = incTop (S.take (m + 1)) ++ [(k, 0)] := by
            unfold pathPut
            rw [if_neg (by omega), Nat.add_sub_cancel, t1, t2, incTop_take hmS, List.append_assoc]
            rfl
          rw [hb, hpp]
          refine ih' _ _ _ _ (Tied.push hk16 ?_)
          intro x hx'
          rw [incTop_take hmS] at hx'
          rcases List.mem_append.1 hx' with hx' | hx'
          · refine h.kinds x ?_
            have : x ∈ S := List.mem_of_mem_take hx'
            rcases h.same with e | ⟨a, b, e, _⟩
            · rw [← e]; exact this
            · rw [e]; exact List.mem_append_left _ this
          · simp at hx'; subst hx'; exact hkS
theorem shape_eq (ns : List Nd) (hns : ∀ n ∈ ns, n.Ok) : shapeR ns = shapeD ns := by
  unfold shapeR shapeD
  rw [run_eq ns (fun n hn => (hns n hn).num) 0 [] [] false ⟨fun h hh => absurd hh (by simp), .inl rfl⟩]
end Go.Proofs.YtjngjanheoeojaaDoor
