import Derived.Test.YtbakinibehhfnaaWtk
import Derived.Laws.AppendOwnNone
set_option linter.unusedVariables false
set_option linter.unusedSimpArgs false
set_option linter.unnecessarySimpa false
/- WtoFar: the law's walk. -/
namespace Go.Proofs.Ytbakinibehhfnaa
open Go.RowKit
def pr : List (Int × Int) → List Value
  | [] => []
  | x :: r => .int .i64 x.1 :: .int .i64 x.2 :: pr r
theorem pr_len : ∀ l, (pr l).length = l.length * 2
  | [] => rfl
  | x :: r => by simp [pr, pr_len r]; omega
theorem pr_app : ∀ a b, pr (a ++ b) = pr a ++ pr b
  | [], b => rfl
  | x :: a, b => by simp [pr, pr_app a b]
theorem pr_get : ∀ (l : List (Int × Int)) (k : Nat) (x : Int × Int), l[k]? = some x → (pr l)[k * 2]? = some (.int .i64 x.1) ∧ (pr l)[k * 2 + 1]? = some (.int .i64 x.2)
  | [], k, x, h => by simp at h
  | y :: l, 0, x, h => by simp at h; subst h; simp [pr]
  | y :: l, k + 1, x, h => by
    have := pr_get l k x (by simpa using h)
    rw [show (k + 1) * 2 = k * 2 + 1 + 1 by omega]
    simp only [pr, List.getElem?_cons_succ]
    exact this
theorem pr_of : ∀ (l : List (Int × Int)) (j : Nat) (u : Value), (pr l)[j]? = some u → ∃ k x, l[k]? = some x ∧ ((j = k * 2 ∧ u = .int .i64 x.1) ∨ (j = k * 2 + 1 ∧ u = .int .i64 x.2))
  | [], j, u, h => by simp [pr] at h
  | y :: l, 0, u, h => ⟨0, y, rfl, .inl ⟨rfl, by simpa [pr] using h.symm⟩⟩
  | y :: l, 1, u, h => ⟨0, y, rfl, .inr ⟨rfl, by simpa [pr] using h.symm⟩⟩
  | y :: l, j + 2, u, h => by
    obtain ⟨k, x, h1, h2⟩ := pr_of l j u (by simpa [pr] using h)
    exact ⟨k + 1, x, by simpa using h1, h2.imp (fun h => ⟨by omega, h.2⟩) (fun h => ⟨by omega, h.2⟩)⟩
theorem pr_one (l : List (Int × Int)) : ∀ u ∈ pr l, u.oneCell' = true := by
  intro u hu
  obtain ⟨j, hj⟩ := List.getElem?_of_mem hu
  obtain ⟨k, x, _, h⟩ := pr_of l j u hj
  rcases h with ⟨_, rfl⟩ | ⟨_, rfl⟩ <;> rfl
theorem add_off (g o j : Nat) : (⟨g, o, none⟩ : Addr).add j = ⟨g, o + j, none⟩ := by unfold Addr.add; split <;> simp_all
/-- Arcs out of a row of one's own. -/
theorem SAr.of {w : World} {B n : Nat} {v : Value} {ars : List (Int × Int)} (h : w.ownsRow B 29 2 v n (pr ars)) : n = ars.length ∧ ∃ ao cap, v = .slice ao ars.length cap ∧ SAr w ao ars := by
  have hn : n = ars.length := by have := h.1; rw [pr_len] at this; omega
  subst hn
  refine ⟨rfl, ?_⟩
  obtain ⟨ao, cap, rfl⟩ := own_form h
  refine ⟨ao, cap, rfl, fun hne => ?_⟩
  obtain ⟨g, cap', e, _, hl⟩ := h.form (List.length_pos_iff.2 hne)
  injection e with e1 _ e3
  subst e1 e3
  refine ⟨g, 0, rfl, hl, fun k x hx => ?_⟩
  obtain ⟨p1, p2⟩ := pr_get ars k x hx
  have c1 := h.cells (g := g) rfl _ _ p1
  have c2 := h.cells (g := g) rfl _ _ p2
  rw [add_off] at c1 c2
  exact ⟨c1, by rw [show 0 + k * 2 + 1 = 0 + (k * 2 + 1) by omega]; exact c2⟩
/-- Append of arcs, whatever their address, to a row of one's own. -/
theorem wpList_append_arcs {w : World} {ops : Array Oper} {rest : List Oper} {op : Oper} {a : Act} {Q : Exit → Act → World → Prop} (hgd : op.guard = none) (s x : Operand)
    (ho : op.op = .call { callee := .builtin .append, args := #[s, x], argTypes := #[22, 22] })
    (base : Nat) (v : Value) (n : Nat) (xs : List (Int × Int)) (hs : a.eval s = v) (hown : w.ownsRow base 29 2 v n (pr xs))
    (ao : Option Addr) (cap : Nat) (ts : List (Int × Int)) (hx : a.eval x = .slice ao ts.length cap) (hT : SAr w ao ts) (hao : ao = none → cap = 0)
    (hb : n + ts.length ≤ 1000000) (hbase : base ≤ w.heap.size)
    (h : ∀ v' w', w'.ownsRow base 29 2 v' (n + ts.length) (pr (xs ++ ts)) → w.grownBy w' v.ownBlock → wpList Try.prog ops Q rest (a.put op.dst v') w') : wpList Try.prog ops Q (op :: rest) a w := by
  obtain ⟨i, hi, hz, hsz, hby⟩ := info_of Try.info29
  cases ao with
  | none =>
    have hc := hao rfl
    have hts : ts = [] := by
      cases ts with
      | nil => rfl
      | cons y ts => obtain ⟨tb, o, e, _⟩ := hT (by simp); cases e
    subst hts hc
    refine wpList_append_own_none hgd s x 22 ho base 29 i 2 Try.underlying22 hi v n (pr xs) hs hown hx (h v w ?_ (World.grownBy.refl w _))
    simpa using hown
  | some ad =>
    have hcells : ∀ j u, (pr ts)[j]? = some u → w.cell? (ad.add j) = some u := by
      intro j u hu
      obtain ⟨k, y, hk, hj⟩ := pr_of ts j u hu
      obtain ⟨tb, o, e, _, hc⟩ := hT (by intro e; rw [e] at hk; simp at hk)
      injection e with e
      subst e
      rw [add_off]
      rcases hj with ⟨rfl, rfl⟩ | ⟨rfl, rfl⟩
      · exact (hc k y hk).1
      · have := (hc k y hk).2
        rw [show o + (k * 2 + 1) = o + k * 2 + 1 by omega]; exact this
    refine wpList_append_own w hgd s x 22 ho base 29 i _ 2 16 Try.underlying22 hi hz hsz hby rfl (by decide) v n (pr xs) hs hown ad ts.length cap (pr ts) hx (pr_len ts) hcells (pr_one ts) (by unfold maxLen; omega) (by omega) hbase ?_
    intro v' w' k1 k2 _
    rw [← pr_app] at k1
    exact h v' w' k1 k2
def in64 (x : Int) : Prop := -9223372036854775808 ≤ x ∧ x ≤ 9223372036854775807
theorem SAr.take {w : World} {ro : Option Addr} {ars : List (Int × Int)} (h : SAr w ro ars) (m : Nat) : SAr w ro (ars.take m) := by
  intro hne
  obtain ⟨tb, o, e, hl, hc⟩ := h (by intro e; rw [e] at hne; simp at hne)
  refine ⟨tb, o, e, hl, fun i x hx => hc i x ?_⟩
  rw [List.getElem?_take] at hx
  split at hx
  · exact hx
  · cases hx
theorem own_empty (w : World) : (w.alloc (.cells #[] 29)).ownsRow w.heap.size 29 2 (.slice (some ⟨w.heap.size, 0, none⟩) 0 0) 0 (pr []) :=
  ⟨rfl, .inr ⟨w.heap.size, 0, #[], rfl, Nat.le_refl _, heap_new0 _ _, Nat.le_refl _, Nat.zero_le _, rfl, rfl⟩⟩
theorem own_three (w : World) (a b c d e f : Int) : (w.alloc (.cells #[.int .i64 a, .int .i64 b, .int .i64 c, .int .i64 d, .int .i64 e, .int .i64 f] 29)).ownsRow w.heap.size 29 2 (.slice (some ⟨w.heap.size, 0, none⟩) 3 3) 3 (pr [(a, b), (c, d), (e, f)]) :=
  ⟨rfl, .inr ⟨w.heap.size, 3, _, rfl, Nat.le_refl _, heap_new0 _ _, Nat.le_refl _, by decide, rfl, rfl⟩⟩
theorem in_of {n root : Int} {ts : List (Int × Int)} (h : (badV n root || ts.any (badA n)) = false) : 0 ≤ root ∧ root < n ∧ ∀ x ∈ ts, (0 ≤ x.1 ∧ x.1 < n) ∧ (0 ≤ x.2 ∧ x.2 < n) := by
  rw [Bool.or_eq_false_iff] at h
  obtain ⟨h1, h2⟩ := h
  have key : ∀ v, badV n v = false → 0 ≤ v ∧ v < n := fun v hv => by
    unfold badV at hv
    simp at hv
    omega
  refine ⟨(key _ h1).1, (key _ h1).2, fun x hx => ?_⟩
  rw [List.any_eq_false] at h2
  have h3 := h2 x hx
  unfold badA at h3
  have h4 : badV n x.1 = false ∧ badV n x.2 = false := by
    cases e1 : badV n x.1 <;> cases e2 : badV n x.2 <;> simp_all
  exact ⟨key _ h4.1, key _ h4.2⟩
theorem far_good {n root F : Int} {ts : List (Int × Int)} (hF : n + 2 ≤ F ∧ F ≤ 2199023255555) (h : 0 ≤ root ∧ root < n ∧ ∀ x ∈ ts, (0 ≤ x.1 ∧ x.1 < n) ∧ (0 ≤ x.2 ∧ x.2 < n)) : (badV F root || ([(F - 1, root), (F - 2, F - 1), (F - 1, F - 2)] ++ ts).any (badA F)) = false := by
  obtain ⟨h0, h1, h2⟩ := h
  have key : ∀ v, 0 ≤ v → v < F → badV F v = false := fun v a b => by unfold badV; simp; omega
  rw [Bool.or_eq_false_iff]
  refine ⟨key _ h0 (by omega), ?_⟩
  rw [List.any_eq_false]
  intro x hx
  have : badV F x.1 = false ∧ badV F x.2 = false := by
    rcases List.mem_append.1 hx with hx | hx
    · simp at hx
      rcases hx with rfl | rfl | rfl
      · exact ⟨key _ (by simp only; omega) (by simp only; omega), key _ (by simp only; omega) (by simp only; omega)⟩
      · exact ⟨key _ (by simp only; omega) (by simp only; omega), key _ (by simp only; omega) (by simp only; omega)⟩
      · exact ⟨key _ (by simp only; omega) (by simp only; omega), key _ (by simp only; omega) (by simp only; omega)⟩
    · have := h2 x hx
      exact ⟨key _ (by omega) (by omega), key _ (by omega) (by omega)⟩
  unfold badA
  rw [this.1, this.2]; simp
theorem far_in {n root F : Int} {ts : List (Int × Int)} (hF : n + 2 ≤ F ∧ F ≤ 2199023255555) (h : 0 ≤ root ∧ root < n ∧ ∀ x ∈ ts, (0 ≤ x.1 ∧ x.1 < n) ∧ (0 ≤ x.2 ∧ x.2 < n)) (hin : ∀ x ∈ ts, in64 x.1 ∧ in64 x.2) : ∀ x ∈ [(F - 1, root), (F - 2, F - 1), (F - 1, F - 2)] ++ ts, (-9223372036854775808 ≤ x.1 ∧ x.1 ≤ 9223372036854775807) ∧ (-9223372036854775808 ≤ x.2 ∧ x.2 ≤ 9223372036854775807) := by
  obtain ⟨h0, h1, h2⟩ := h
  intro x hx
  rcases List.mem_append.1 hx with hx | hx
  · simp at hx
    rcases hx with rfl | rfl | rfl <;> (simp only; omega)
  · exact hin x hx
theorem far_same {n root F : Int} {ts : List (Int × Int)} {L L4 : List (Int × Nat × Bool)} (hF : n + 2 ≤ F ∧ F ≤ 2199023255555) (h : 0 ≤ root ∧ root < n ∧ ∀ x ∈ ts, (0 ≤ x.1 ∧ x.1 < n) ∧ (0 ≤ x.2 ∧ x.2 < n)) (hL : Ends (outs ts) (start (outs ts) root) L) (hL4 : Ends (outs ([(F - 1, root), (F - 2, F - 1), (F - 1, F - 2)] ++ ts)) (start (outs ([(F - 1, root), (F - 2, F - 1), (F - 1, F - 2)] ++ ts)) root) L4) : L4 = L := by
  obtain ⟨h0, h1, h2⟩ := h
  have nm : Nm (fun x : Int => x) (fun v => v < n) (outs ts) (outs ([(F - 1, root), (F - 2, F - 1), (F - 1, F - 2)] ++ ts)) := by
    refine ⟨fun a b _ _ e => e, fun v _ u hu => ?_, fun v hv => ?_⟩
    · unfold outs at hu
      obtain ⟨x, hx, rfl⟩ := List.mem_map.1 hu
      exact (h2 x (List.mem_filter.1 hx).1).2.2
    · rw [outs_app]
      have e : outs [(F - 1, root), (F - 2, F - 1), (F - 1, F - 2)] v = [] := by
        have a1 : ¬ F - 1 = v := by omega
        have a2 : ¬ F - 2 = v := by omega
        simp [outs, a1, a2]
      rw [e]; simp
  have := Ends.map nm (r := root) h1 hL
  have e : mapL (fun x : Int => x) L = L := by unfold mapL; simp
  rw [e] at this
  exact Ends.one hL4 this
end Go.Proofs.Ytbakinibehhfnaa
