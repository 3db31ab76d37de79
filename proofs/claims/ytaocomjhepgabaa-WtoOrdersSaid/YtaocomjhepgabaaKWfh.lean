import Derived.Laws.AppendOwnNone
import Derived.Test.YtaocomjhepgabaaKWsam
import Derived.Test.YtaocomjhepgabaaKWto
set_option linter.unusedVariables false
set_option linter.unusedSimpArgs false
set_option linter.unnecessarySimpa false
/- Wtk Wfh -/
namespace Go.Proofs.Ytaocomjhepgabaa
section
open Go.RowKit
def ars4 : List (Int × Int) := [(0, 1), (1, 2), (2, 0), (2, 1)]
def els3 : List (Int × Int × Bool) := [(0, 1, true), (1, 2, true), (2, 2, false)]
theorem ends4 : Ends (outs ars4) (start (outs ars4) 0) [(0, 1, true), (1, 2, true), (2, 2, false)] := ⟨30, by kernel_rfl, by kernel_rfl⟩
set_option maxHeartbeats 4000000 in
theorem taken_any (w : World) : Calls Try.prog 8 #[] w fun e w' => e = .returned (.bool true) ∧ Ok w w' := by
  have HA : Hid (∀ w' : World, SAr (w'.alloc (.cells #[.int .i64 0, .int .i64 1, .int .i64 1, .int .i64 2, .int .i64 2, .int .i64 0, .int .i64 2, .int .i64 1] 29)) (some ⟨w'.heap.size, 0, none⟩) ars4) := by
    intro w' _
    refine ⟨w'.heap.size, 0, rfl, by simp, fun i x hx => ?_⟩
    have hr := heap_new0 w' (.cells #[.int .i64 0, .int .i64 1, .int .i64 1, .int .i64 2, .int .i64 2, .int .i64 0, .int .i64 2, .int .i64 1] 29)
    rw [cell_of_row _ _ _ _ _ _ hr, cell_of_row _ _ _ _ _ _ hr]
    match i, hx with
    | 0, hx => simp [ars4] at hx; subst hx; simp
    | 1, hx => simp [ars4] at hx; subst hx; simp
    | 2, hx => simp [ars4] at hx; subst hx; simp
    | 3, hx => simp [ars4] at hx; subst hx; simp
    | k + 4, hx => simp [ars4] at hx
  have HC : Hid (Calls Try.prog 7 #[.int .i64 3, .slice (some ⟨w.heap.size, 0, none⟩) 4 4, .int .i64 0] (w.alloc (.cells #[.int .i64 0, .int .i64 1, .int .i64 1, .int .i64 2, .int .i64 2, .int .i64 0, .int .i64 2, .int .i64 1] 29)) (OrderIs (w.alloc (.cells #[.int .i64 0, .int .i64 1, .int .i64 1, .int .i64 2, .int .i64 2, .int .i64 0, .int .i64 2, .int .i64 1] 29)) 3 ars4 0)) :=
    Order_any (ars := ars4) (HA.out w) (by decide) (by decide) (by decide) (by decide)
  have HB : Hid (∀ w' : World, SEl (w'.alloc (.cells #[.int .i64 0, .int .i64 1, .bool true, .int .i64 1, .int .i64 2, .bool true, .int .i64 2, .int .i64 2, .bool false] 35)) (some ⟨w'.heap.size, 0, none⟩) els3) := by
    intro w' _
    refine ⟨w'.heap.size, rfl, by simp, fun i x hx => ?_⟩
    have hr := heap_new0 w' (.cells #[.int .i64 0, .int .i64 1, .bool true, .int .i64 1, .int .i64 2, .bool true, .int .i64 2, .int .i64 2, .bool false] 35)
    rw [cell_of_row _ _ _ _ _ _ hr, cell_of_row _ _ _ _ _ _ hr, cell_of_row _ _ _ _ _ _ hr]
    match i, hx with
    | 0, hx => simp [els3] at hx; subst hx; simp
    | 1, hx => simp [els3] at hx; subst hx; simp
    | 2, hx => simp [els3] at hx; subst hx; simp
    | k + 3, hx => simp [els3] at hx
  go_enter Try.func8, Try.ntmps8
  go_wp2_with (first | (go_at_call 7; refine (Calls.mono HC.out ?_); rintro e w1 ⟨hk, _, hb⟩; obtain ⟨L, v, hL, rfl, ho, hll⟩ := hb (by decide); have hLe := Ends.one hL ends4; subst hLe; obtain ⟨_, ao, cap, rfl, hse⟩ := SEl.of ho; have HK : Hid (Ok w w1) := ((Ok.refl w).alloc _).step hk; have HSE : Hid (SEl w1 ao els3) := hse; clear hk hb hL ho hll hse) | (go_at_call 9; refine (Calls.mono (same_yes (xs := els3) (SEl.ok HSE.out ((Ok.refl _).alloc _)) (HB.out _) (by decide)) ?_); rintro e w2 ⟨rfl, hk⟩; have HK2 : Hid (Ok w1 w2) := ((Ok.refl w1).alloc _).step hk; clear hk) | fail)
  go_ret
  exact ⟨rfl, HK.out.step HK2.out⟩
end
section
open Go.RowKit
def pr : List (Int × Int) → List Value
  | [] => []
  | x :: r => .int .i64 x.1 :: .int .i64 x.2 :: pr r
theorem pr_len : ∀ l, (pr l).length = l.length * 2
  | [] => rfl
  | x :: r => by simp [pr, pr_len r]; omega
theorem pr_app : ∀ a b, pr (a ++ b) = pr a ++ pr b
  | [], b => rfl
  | x :: a, b => by simp [pr, pr_app a b]
theorem pr_get : ∀ (l : List (Int × Int)) (k : Nat) (x : Int × Int), l[k]? = some x → (pr l)[k * 2]? = some (.int .i64 x.1) ∧ (pr l)[k * 2 + 1]? = some (.int .i64 x.2)
  | [], k, x, h => by simp at h
  | y :: l, 0, x, h => by simp at h; subst h; simp [pr]
  | y :: l, k + 1, x, h => by
    have := pr_get l k x (by simpa using h)
    rw [show (k + 1) * 2 = k * 2 + 1 + 1 by omega]
    simp only [pr, List.getElem?_cons_succ]
    exact this
theorem pr_of : ∀ (l : List (Int × Int)) (j : Nat) (u : Value), (pr l)[j]? = some u → ∃ k x, l[k]? = some x ∧ ((j = k * 2 ∧ u = .int .i64 x.1) ∨ (j = k * 2 + 1 ∧ u = .int .i64 x.2))
  | [], j, u, h => by simp [pr] at h
  | y :: l, 0, u, h => ⟨0, y, rfl, .inl ⟨rfl, by simpa [pr] using h.symm⟩⟩
  | y :: l, 1, u, h => ⟨0, y, rfl, .inr ⟨rfl, by simpa [pr] using h.symm⟩⟩
  | y :: l, j + 2, u, h => by
    obtain ⟨k, x, h1, h2⟩ := pr_of l j u (by simpa [pr] using h)
    exact ⟨k + 1, x, by simpa using h1, h2.imp (fun h => ⟨by omega, h.2⟩) (fun h => ⟨by omega, h.2⟩)⟩
theorem pr_one (l : List (Int × Int)) : ∀ u ∈ pr l, u.oneCell' = true := by
  intro u hu
  obtain ⟨j, hj⟩ := List.getElem?_of_mem hu
  obtain ⟨k, x, _, h⟩ := pr_of l j u hj
  rcases h with ⟨_, rfl⟩ | ⟨_, rfl⟩ <;> rfl
theorem add_off (g o j : Nat) : (⟨g, o, none⟩ : Addr).add j = ⟨g, o + j, none⟩ := by unfold Addr.add; split <;> simp_all
/-- Arcs out of a row of one's own. -/
theorem SAr.of {w : World} {B n : Nat} {v : Value} {ars : List (Int × Int)} (h : w.ownsRow B 29 2 v n (pr ars)) : n = ars.length ∧ ∃ ao cap, v = .slice ao ars.length cap ∧ SAr w ao ars := by
  have hn : n = ars.length := by have := h.1; rw [pr_len] at this; omega
  subst hn
  refine ⟨rfl, ?_⟩
  obtain ⟨ao, cap, rfl⟩ := own_form h
  refine ⟨ao, cap, rfl, fun hne => ?_⟩
  obtain ⟨g, cap', e, _, hl⟩ := h.form (List.length_pos_iff.2 hne)
  injection e with e1 _ e3
  subst e1 e3
  refine ⟨g, 0, rfl, hl, fun k x hx => ?_⟩
  obtain ⟨p1, p2⟩ := pr_get ars k x hx
  have c1 := h.cells (g := g) rfl _ _ p1
  have c2 := h.cells (g := g) rfl _ _ p2
  rw [add_off] at c1 c2
  exact ⟨c1, by rw [show 0 + k * 2 + 1 = 0 + (k * 2 + 1) by omega]; exact c2⟩
/-- Append of arcs, whatever their address, to a row of one's own. -/
theorem wpList_append_arcs {w : World} {ops : Array Oper} {rest : List Oper} {op : Oper} {a : Act} {Q : Exit → Act → World → Prop} (hgd : op.guard = none) (s x : Operand)
    (ho : op.op = .call { callee := .builtin .append, args := #[s, x], argTypes := #[22, 22] })
    (base : Nat) (v : Value) (n : Nat) (xs : List (Int × Int)) (hs : a.eval s = v) (hown : w.ownsRow base 29 2 v n (pr xs))
    (ao : Option Addr) (cap : Nat) (ts : List (Int × Int)) (hx : a.eval x = .slice ao ts.length cap) (hT : SAr w ao ts) (hao : ao = none → cap = 0)
    (hb : n + ts.length ≤ 1000000) (hbase : base ≤ w.heap.size)
    (h : ∀ v' w', w'.ownsRow base 29 2 v' (n + ts.length) (pr (xs ++ ts)) → w.grownBy w' v.ownBlock → wpList Try.prog ops Q rest (a.put op.dst v') w') : wpList Try.prog ops Q (op :: rest) a w := by
  obtain ⟨i, hi, hz, hsz, hby⟩ := info_of Try.info29
  cases ao with
  | none =>
    have hc := hao rfl
    have hts : ts = [] := by
      cases ts with
      | nil => rfl
      | cons y ts => obtain ⟨tb, o, e, _⟩ := hT (by simp); cases e
    subst hts hc
    refine wpList_append_own_none hgd s x 22 ho base 29 i 2 Try.underlying22 hi v n (pr xs) hs hown hx (h v w ?_ (World.grownBy.refl w _))
    simpa using hown
  | some ad =>
    have hcells : ∀ j u, (pr ts)[j]? = some u → w.cell? (ad.add j) = some u := by
      intro j u hu
      obtain ⟨k, y, hk, hj⟩ := pr_of ts j u hu
      obtain ⟨tb, o, e, _, hc⟩ := hT (by intro e; rw [e] at hk; simp at hk)
      injection e with e
      subst e
      rw [add_off]
      rcases hj with ⟨rfl, rfl⟩ | ⟨rfl, rfl⟩
      · exact (hc k y hk).1
      · have := (hc k y hk).2
        rw [show o + (k * 2 + 1) = o + k * 2 + 1 by omega]; exact this
    refine wpList_append_own w hgd s x 22 ho base 29 i _ 2 16 Try.underlying22 hi hz hsz hby rfl (by decide) v n (pr xs) hs hown ad ts.length cap (pr ts) hx (pr_len ts) hcells (pr_one ts) (by unfold maxLen; omega) (by omega) hbase ?_
    intro v' w' k1 k2 _
    rw [← pr_app] at k1
    exact h v' w' k1 k2
def in64 (x : Int) : Prop := -9223372036854775808 ≤ x ∧ x ≤ 9223372036854775807
theorem SAr.take {w : World} {ro : Option Addr} {ars : List (Int × Int)} (h : SAr w ro ars) (m : Nat) : SAr w ro (ars.take m) := by
  intro hne
  obtain ⟨tb, o, e, hl, hc⟩ := h (by intro e; rw [e] at hne; simp at hne)
  refine ⟨tb, o, e, hl, fun i x hx => hc i x ?_⟩
  rw [List.getElem?_take] at hx
  split at hx
  · exact hx
  · cases hx
theorem own_empty (w : World) : (w.alloc (.cells #[] 29)).ownsRow w.heap.size 29 2 (.slice (some ⟨w.heap.size, 0, none⟩) 0 0) 0 (pr []) :=
  ⟨rfl, .inr ⟨w.heap.size, 0, #[], rfl, Nat.le_refl _, heap_new0 _ _, Nat.le_refl _, Nat.zero_le _, rfl, rfl⟩⟩
end
end Go.Proofs.Ytaocomjhepgabaa
