import Derived.Test.YtdbdgpcbhojcnaaIwm
import Derived.Test.YtdbdgpcbhojcnaaIlst
import Derived.Test.YtdbdgpcbhojcnaaIwk
set_option linter.unusedVariables false
set_option linter.unusedSimpArgs false
set_option linter.unnecessarySimpa false
/- IvalWidens: the law's walk. -/
namespace Go.Proofs.Ytdbdgpcbhojcnaa
open Go.RowKit
/-- A slice of intervals; an empty one may have any address. -/
def SIv (w : World) (ro : Option Addr) (rs : List (Int × Int)) : Prop :=
  rs ≠ [] → ∃ tb o, ro = some ⟨tb, o, none⟩ ∧ tb < w.heap.size ∧ ∀ i (h : i < rs.length), w.cell? ⟨tb, o + i * 2, none⟩ = some (.int .i64 rs[i].1) ∧ w.cell? ⟨tb, o + i * 2 + 1, none⟩ = some (.int .i64 rs[i].2)
theorem SIv.ok {w w1 : World} {ro : Option Addr} {rs : List (Int × Int)} (h : SIv w ro rs) (hb : Ok w w1) : SIv w1 ro rs := by
  intro hne
  obtain ⟨tb, o, e, hlt, hc⟩ := h hne
  exact ⟨tb, o, e, Nat.lt_of_lt_of_le hlt hb.le, fun i hi => ⟨(Below.cell hb hlt).trans (hc i hi).1, (Below.cell hb hlt).trans (hc i hi).2⟩⟩
theorem ints_one (xs : List Int) : ∀ u ∈ intsV xs, u.oneCell' = true := by
  intro u hu
  obtain ⟨l, _, rfl⟩ := List.mem_map.1 hu
  rfl
theorem add_off (g o j : Nat) : (⟨g, o, none⟩ : Addr).add j = ⟨g, o + j, none⟩ := by unfold Addr.add; split <;> simp_all
/-- Append of a slice of numbers, whatever its address, to a row of one's own. -/
theorem wpList_append_ints {P : Program} {w : World} {ops : Array Oper} {rest : List Oper} {op : Oper} {a : Act} {Q : Exit → Act → World → Prop} (hgd : op.guard = none) (s x : Operand) (t : TypeId)
    (ho : op.op = .call { callee := .builtin .append, args := #[s, x], argTypes := #[t, t] })
    (base : Nat) (e : TypeId) (i : TypeInfo) (z : Value) (ht : P.underlying t = some (.slice e)) (hi : P.info? e = some i) (hz : i.zero = some z)
    (hsize : i.size = 1) (hby : i.bytes = 8) (hzs : z.cells.size = 1)
    (v : Value) (n : Nat) (xs : List Value) (hs : a.eval s = v) (hown : w.ownsRow base e 1 v n xs)
    (ao : Option Addr) (cap : Nat) (ts : List Int) (hx : a.eval x = .slice ao ts.length cap) (hT : SInts w (.slice ao ts.length cap) ts) (hao : ao = none → cap = 0)
    (h63 : n + ts.length ≤ maxLen) (hbytes : (n + ts.length) * 8 ≤ 140737488355328) (hbase : base ≤ w.heap.size)
    (h : ∀ v' w', w'.ownsRow base e 1 v' (n + ts.length) (xs ++ intsV ts) → w.grownBy w' v.ownBlock → wpList P ops Q rest (a.put op.dst v') w') : wpList P ops Q (op :: rest) a w := by
  cases ao with
  | none =>
    have hc := hao rfl
    have hts : ts = [] := by
      rcases hT with ⟨tb, o, cp, e, _⟩ | ⟨_, _, _, e⟩
      · cases e
      · exact e
    subst hts hc
    refine wpList_append_own_none hgd s x t ho base e i 1 ht hi v n xs hs hown hx (h v w ?_ (World.grownBy.refl w _))
    have : intsV [] = [] := rfl
    rw [this, List.append_nil]
    exact hown
  | some ad =>
    have hcells : ∀ j u, (intsV ts)[j]? = some u → w.cell? (ad.add j) = some u := by
      intro j u hu
      rcases hT with ⟨tb, o, cp, e, hI⟩ | ⟨_, _, _, e⟩
      · injection e with e1 _ _
        injection e1 with e1
        subst e1
        obtain ⟨hj, hu⟩ := List.getElem?_eq_some_iff.1 hu
        have hj2 : j < ts.length := by simpa [intsV] using hj
        rw [add_off, hI.1 j hj2, ← hu]
        simp [intsV]
      · subst e; cases hu
    refine wpList_append_own w hgd s x t ho base e i z 1 8 ht hi hz hsize hby hzs (by decide) v n xs hs hown ad ts.length cap (intsV ts) hx (by simp [intsV]) hcells (ints_one ts) h63 hbytes hbase ?_
    intro v' w' k1 k2 _
    exact h v' w' k1 k2
theorem own_sints {w : World} {base g n cap : Nat} {ts : List Int} {z : Int} (h : w.ownsRow base 2 1 (.slice (some ⟨g, 0, none⟩) (n + 1) cap) (n + 1) (intsV (ts ++ [z]))) (hn : n = ts.length) (hm : n ≤ 4611686018427387903) : SInts w (.slice (some ⟨g, 0, none⟩) n cap) ts := by
  obtain ⟨g', cap', e, hI, _⟩ := own_ints h (by simp [hn]) (by omega) (by omega)
  injection e with e1 _ e3
  injection e1 with e1
  injection e1 with e1
  subst e1
  refine Or.inl ⟨g, 0, cap, by rw [hn], ?_, hI.2.1, by omega⟩
  intro i hi
  have := hI.1 i (by simp; omega)
  rw [List.getElem_append_left hi] at this
  exact this
theorem own_row {w : World} {base g n cap : Nat} {xs : List Int} (h : w.ownsRow base 2 1 (.slice (some ⟨g, 0, none⟩) n cap) n (intsV xs)) :
    ∃ cur : Array Value, base ≤ g ∧ w.heap[g]? = some (.cells cur 2 (0, 0)) ∧ n ≤ cap ∧ cap ≤ maxLen ∧ cur.size = cap * 1 ∧ cur.toList.take (n * 1) = intsV xs := by
  rcases h.2 with ⟨h, _⟩ | ⟨g', cp, cur, h, h1, h2, h3, h4, h5, h6⟩
  · cases h
  · injection h with e1 e2 e3
    injection e1 with e1
    injection e1 with e1
    subst e1 e3
    exact ⟨cur, h1, h2, h3, h4, h5, h6⟩
theorem own_set {w : World} {base g n cap : Nat} {xs : List Int} (h : w.ownsRow base 2 1 (.slice (some ⟨g, 0, none⟩) n cap) n (intsV xs)) (j : Nat) (x : Int) :
    (w.setCell ⟨g, j, none⟩ (.int .i64 x)).ownsRow base 2 1 (.slice (some ⟨g, 0, none⟩) n cap) n (intsV (xs.set j x)) := by
  obtain ⟨cur, h1, h2, h3, h4, h5, h6⟩ := own_row h
  refine ⟨?_, .inr ⟨g, cap, _, rfl, h1, heap_setCell_same _ _ _ _ _ _ h2, h3, h4, by simpa using h5, ?_⟩⟩
  · have := h.1
    simpa [intsV] using this
  · unfold intsV at h6 ⊢
    rw [List.map_set, ← h6]
    simp [List.take_set]
theorem own_far {w : World} {base g n cap : Nat} {xs : List Int} (h : w.ownsRow base 2 1 (.slice (some ⟨g, 0, none⟩) n cap) n (intsV xs)) {a : Addr} (hne : g ≠ a.block) (x : Value) :
    (w.setCell a x).ownsRow base 2 1 (.slice (some ⟨g, 0, none⟩) n cap) n (intsV xs) := by
  obtain ⟨cur, h1, h2, h3, h4, h5, h6⟩ := own_row h
  exact ⟨h.1, .inr ⟨g, cap, cur, rfl, h1, (heap_setCell_other _ _ _ _ hne).trans h2, h3, h4, h5, h6⟩⟩
/-- A cell of a row of one's own: what it holds, and that it may be written. -/
theorem own_cell {w : World} {base g n cap : Nat} {xs : List Int} (h : w.ownsRow base 2 1 (.slice (some ⟨g, 0, none⟩) n cap) n (intsV xs)) (hm : n ≤ 4611686018427387904) {j : Nat} (hj : j < n) :
    ∃ hx : j < xs.length, w.cell? ⟨g, j, none⟩ = some (.int .i64 xs[j]) ∧ w.frozen? ⟨g, j, none⟩ = false := by
  have hl : xs.length = n := by have := h.1; simpa [intsV] using this
  obtain ⟨cur, h1, h2, h3, h4, h5, h6⟩ := own_row h
  obtain ⟨g', cap', e, hI, _⟩ := own_ints h hl (by omega) hm
  injection e with e1 _ e3
  injection e1 with e1
  injection e1 with e1
  subst e1
  refine ⟨by omega, ?_, ?_⟩
  · have := hI.1 j (by omega)
    rw [Nat.zero_add] at this
    exact this
  · exact frozen_of_row _ _ _ _ _ h2
theorem own_set77 {w : World} {base g n cap : Nat} {ys : List Int} {z : Int} (h : w.ownsRow base 2 1 (.slice (some ⟨g, 0, none⟩) (n + 1) cap) (n + 1) (intsV (ys ++ [z]))) (hl : ys.length = n) {j : Nat} (hj : j < n) (x : Int) :
    (w.setCell ⟨g, j, none⟩ (.int .i64 x)).ownsRow base 2 1 (.slice (some ⟨g, 0, none⟩) (n + 1) cap) (n + 1) (intsV (ys.set j x ++ [z])) := by
  have := own_set h j x
  rw [List.set_append_left _ _ (by omega)] at this
  exact this
theorem own_any {w : World} {base n : Nat} {v : Value} {ys : List Int} (h : w.ownsRow base 2 1 v n (intsV ys)) (hm : n ≤ 4611686018427387904) : SInts w v ys := by
  have hl : ys.length = n := by have := h.1; simpa [intsV] using this
  by_cases h0 : n = 0
  · subst h0
    have hy : ys = [] := List.length_eq_zero_iff.1 hl
    rcases h.2 with ⟨rfl, _⟩ | ⟨g, cp, cur, rfl, _⟩
    · exact Or.inr ⟨_, _, rfl, hy⟩
    · exact Or.inr ⟨_, _, rfl, hy⟩
  · obtain ⟨g, cap, rfl, hI, _⟩ := own_ints h hl (by omega) hm
    exact Or.inl ⟨g, 0, cap, by rw [hl], hI⟩
/-- A copy of a row of numbers, made by append onto an empty row, at a step of a region that draws its order. -/
theorem step_copy {P : Program} {ops : Array Oper} {o : Oper} {a : Act} {w : World} {K : Act → World → Prop} {Q : Exit → Act → World → Prop} {E : Prop} (hgd : o.guard = none) (s x : Operand) (t : TypeId)
    (ho : o.op = .call { callee := .builtin .append, args := #[s, x], argTypes := #[t, t] })
    (i : TypeInfo) (z : Value) (ht : P.underlying t = some (.slice 2)) (hi : P.info? 2 = some i) (hz : i.zero = some z)
    (hsize : i.size = 1) (hby : i.bytes = 8) (hzs : z.cells.size = 1)
    (B : Nat) (hs : a.eval s = .slice (some ⟨B, 0, none⟩) 0 0) (hB : w.heap[B]? = some (.cells #[] 2 (0, 0)))
    (g n cap : Nat) (hx : a.eval x = .slice (some ⟨g, 0, none⟩) n cap) (ys : List Int) (hS : IntsAt w g 0 ys) (hl : ys.length = n) (hn : n * 8 ≤ 140737488355328) (base : Nat) (hbB : base ≤ B)
    (h : ∀ v' w', SInts w' v' ys → Below base w w' → K (a.put o.dst v') w') :
    if Region.wanted o (yielded ops a.tmps) = true then Oper.wp P o a w K Q else E := by
  have hw : Region.wanted o (yielded ops a.tmps) = true := by simp [Region.wanted, hgd]
  rw [if_pos hw]
  have hBl := lt_rowV hB
  refine wp_append_own w s x t ho base 2 i z 1 8 ht hi hz hsize hby hzs (by decide) (.slice (some ⟨B, 0, none⟩) 0 0) 0 [] hs ⟨rfl, .inr ⟨B, 0, #[], rfl, hbB, hB, Nat.le_refl _, Nat.zero_le _, rfl, rfl⟩⟩ ⟨g, 0, none⟩ n cap (intsV ys) hx (by simp [intsV, hl]) ?_ (ints_one ys) (by unfold maxLen; omega) (by omega) (by omega) ?_
  · intro j u hu
    obtain ⟨hj, hu⟩ := List.getElem?_eq_some_iff.1 hu
    have hj2 : j < ys.length := by simpa [intsV] using hj
    rw [add_off, hS.1 j hj2, ← hu]
    simp [intsV]
  · intro v' w' k1 k2 _
    rw [Nat.zero_add, List.nil_append] at k1
    exact h v' w' (own_any k1 (by omega)) ((Below.refl base w).grown k2 (by omega) (by intro k hk; simp [Value.ownBlock] at hk; omega))
end Go.Proofs.Ytdbdgpcbhojcnaa
