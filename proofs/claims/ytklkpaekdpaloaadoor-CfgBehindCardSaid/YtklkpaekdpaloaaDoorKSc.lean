import Derived.Test.YtklkpaekdpaloaaDoorKSb
set_option linter.unusedVariables false
set_option linter.unusedSimpArgs false
set_option linter.unnecessarySimpa false
namespace Go.Proofs.YtklkpaekdpaloaaDoor
open Go.RowKit
theorem run_append_own_nil (base : Nat) (t ty e : TypeId) (i : TypeInfo) (size c : Nat) (w : World) (ht : Tryd.prog.underlying t = some (.slice e)) (hi : Tryd.prog.info? e = some i)
  (v : Value) (n : Nat) (xs : List Value) (hown : w.ownsRow base e size v n xs) :
  (Builtin.append_ #[t, t] ty #[v, .slice none 0 c]).run Tryd.prog w = .ok v w := by
 rcases hown.2 with ⟨rfl, rfl⟩ | ⟨g, cap, cur, rfl, _, _, hnc, _⟩
 ·simp [Builtin.append_, run_underlying ht, sizeOf, typeInfo, hi, Builtin.lenOf, Builtin.firstCells]
 ·simp [Builtin.append_, run_underlying ht, sizeOf, typeInfo, hi, Builtin.lenOf, Builtin.firstCells, hnc, storeCells]
theorem own_empty (w : World) (base : Nat) (e : TypeId) (s : Nat) (hb : base ≤ w.heap.size) : (w.alloc (.cells #[] e)).ownsRow base e s (.slice (some ⟨w.heap.size, 0, none⟩) 0 0) 0 [] := by
 have := World.ownsRow_lit (base := base) (e := e) (size := s) w #[] 0 hb (Nat.zero_le _) (by simp)
 simpa using this
theorem wpList_append_ow {w : World} {ops : Array Oper} {rest : List Oper} {op : Oper} {a : Act} {Q : Exit → Act → World → Prop} (hgd : op.guard = none) (s x : Operand) (lT eT : TypeId) (sz bts : Nat) (z : Value)
  (ho : op.op = .call { callee := .builtin .append, args := #[s, x], argTypes := #[lT, lT] })
  (hund : Tryd.prog.underlying lT = some (.slice eT)) (hinf : (Tryd.prog.info? eT).map (fun i => (i.zero, i.size, i.bytes)) = some (some z, sz, bts)) (hzc : z.cells.size = sz) (hsz : 0 < sz) (hbt : 0 < bts)
  (base : Nat) (sv : Value) (k : Nat) (ys : List Value) (hs : a.eval s = sv) (hown : w.ownsRow base eT sz sv k ys) (v : Value) (n : Nat) (xs : List Value) (hx : a.eval x = v) (hT : SL w sz v n xs)
  (hb : (k + n) * bts ≤ 140737488355328) (hbase : base ≤ w.heap.size)
  (h : ∀ v' w', w'.ownsRow base eT sz v' (k + n) (ys ++ xs) → w.grownBy w' sv.ownBlock → wpList Tryd.prog ops Q rest (a.put op.dst v') w') : wpList Tryd.prog ops Q (op :: rest) a w := by
 obtain ⟨i, hi, hz, hsi, hby⟩ := info_of hinf
 obtain ⟨h0, h1, ao, cap, rfl, h2⟩ := hT
 cases ao with
 | none =>
  have hn : n = 0 := by
   rcases h2 with h2 | ⟨b, o, e, _⟩
   ·exact h2
   ·cases e
  subst hn
  have hxs : xs = [] := List.eq_nil_of_length_eq_zero (by omega)
  subst hxs
  refine wpList_plain hgd fun K hK => ?_
  have hrun := run_append_own_nil base lT op.type eT i sz cap w hund hi sv k ys hown
  unfold Oper.wp
  simp [execOp, ho, resolve, invoke, builtin, hs, hx, hrun, Result.andThen]
  exact hK _ _ (h _ _ (by rw [List.append_nil]; exact hown) (World.grownBy.refl w _))
 | some ad =>
  by_cases hn : n = 0
  ·subst hn
   have hxs : xs = [] := List.eq_nil_of_length_eq_zero (by omega)
   subst hxs
   refine wpList_append_own_at w hgd s x lT ho base eT i z sz bts hund hi hz hsi hby hzc hsz _ k ys hs hown ad 0 cap [] hx (by simp) (by intro j u hj; simp at hj) (by simp) (by have := Nat.le_mul_of_pos_right (k + 0) hbt; unfold maxLen; omega) hb hbase ?_
   intro v' w' k1 k2 k3 k4
   exact h v' w' k1 k2
  ·obtain ⟨b, o, e, hl, hc⟩ := h2.resolve_left hn
   cases e
   refine wpList_append_own_at w hgd s x lT ho base eT i z sz bts hund hi hz hsi hby hzc hsz _ k ys hs hown ⟨b, o, none⟩ n cap xs hx h0 (by intro j u hj; rw [add_off]; exact hc j u hj) h1 (by have := Nat.le_mul_of_pos_right (k + n) hbt; unfold maxLen; omega) hb hbase ?_
   intro v' w' k1 k2 k3 k4
   exact h v' w' k1 k2
theorem own_six' {w : World} {B g : Nat} {e : TypeId} {s n : Nat} {v : Value} {xs : List Value} (h : w.ownsRow B e s v n xs) (hg : g < B) (b0 b1 b2 b3 b4 b5 : Value) :
  ((((((w.setCell ⟨g, 0, none⟩ b0).setCell ⟨g, 1, none⟩ b1).setCell ⟨g, 2, none⟩ b2).setCell ⟨g, 3, none⟩ b3).setCell ⟨g, 4, none⟩ b4).setCell ⟨g, 5, none⟩ b5).ownsRow B e s v n xs :=
 own_set (own_set (own_set (own_set (own_set (own_set h hg b0) hg b1) hg b2) hg b3) hg b4) hg b5
theorem own_cut {w : World} {B g cap : Nat} {e : TypeId} {s n m : Nat} {xs ys : List Value} (h : w.ownsRow B e s (.slice (some ⟨g, 0, none⟩) m cap) m (xs ++ ys)) (hx : xs.length = n * s) (hn : n ≤ m) : w.ownsRow B e s (.slice (some ⟨g, 0, none⟩) n cap) n xs := by
 refine ⟨hx, ?_⟩
 rcases h.2 with ⟨e1, _⟩ | ⟨g', cap', cur, e1, h1, h2, h3, h4, h5, h6⟩
 ·cases e1
 ·injection e1 with e2 e3 e4
  injection e2 with e2
  injection e2 with e2
  subst e2 e4
  refine .inr ⟨g, cap, cur, rfl, h1, h2, by omega, h4, h5, ?_⟩
  have hl : (xs ++ ys).length = m * s := h.1
  have : xs = (xs ++ ys).take (n * s) := by rw [List.take_append_of_le_length (by omega), List.take_of_length_le (by omega)]
  rw [this, ← h6, List.take_take]
  congr 1
  have := Nat.mul_le_mul_right s hn
  omega
theorem SL.one (w : World) (t : TypeId) (xs : List Value) {s : Nat} (hs : xs.length = 1 * s) (h1 : ∀ u ∈ xs, u.oneCell' = true) : SL (w.alloc (.cells xs.toArray t)) s (.slice (some ⟨w.heap.size, 0, none⟩) 1 1) 1 xs := by
 refine ⟨hs, h1, _, 1, rfl, .inr ⟨_, 0, rfl, by simp, fun j u hj => ?_⟩⟩
 rw [Nat.zero_add]
 exact (cell_of_row _ _ j _ _ _ (heap_new0 _ _)).trans (by simpa using hj)
theorem own_room {w : World} {B g cap : Nat} {e : TypeId} {s n : Nat} {xs : List Value} (h : w.ownsRow B e s (.slice (some ⟨g, 0, none⟩) n cap) n xs) : n ≤ cap ∧ cap ≤ maxLen := by
 rcases h.2 with ⟨e1, _⟩ | ⟨g', cap', cur, e1, h1, h2, h3, h4, h5, h6⟩
 ·cases e1
 ·injection e1 with e2 e3 e4
  subst e4
  exact ⟨h3, h4⟩
def mkOf (k : Nat) : List Value := if k = 0 then [.int .i64 (-7), .int .i64 0, .string ⟨#[]⟩, .int .i64 0, .int .i64 0, .int .i64 0] else if k = 1 then [.string ⟨#[114, 111, 111, 109]⟩] else if k = 2 then [.string ⟨#[]⟩, .int .i64 (-7)] else [.int .i64 (-7)]
def cpV (ns : List Nd) (l : Ls) (g d : Nat → Nat) (k : Nat) : Value := .slice (some ⟨g k, 0, none⟩) (nOf ns.length l k) (d k)
structure CpIs (w : World) (B : Nat) (g d : Nat → Nat) (ns : List Nd) (l : Ls) : Prop where
 row : ∀ k, k < 6 → w.ownsRow (B + 2) (TY k) (SZ k) (.slice (some ⟨g k, 0, none⟩) (nOf ns.length l k + 1) (d k)) (nOf ns.length l k + 1) (xOf ns ns.length l k ++ mkOf k)
 up : ∀ j k, j < k → k < 6 → g j < g k
theorem xOf_len (ns : List Nd) (l : Ls) (k : Nat) (hk : k < 6) : (xOf ns ns.length l k).length = nOf ns.length l k * SZ k := by
 rcases (show k = 0 ∨ k = 1 ∨ k = 2 ∨ k = 3 ∨ k = 4 ∨ k = 5 by omega) with rfl | rfl | rfl | rfl | rfl | rfl
 ·have e : xOf ns ns.length l 0 = ndL ns := by unfold xOf; rw [if_pos rfl, List.take_length]; rfl
  rw [e]; exact ndL_len ns
 ·simp [xOf, nOf, SZ]
 ·exact arr_len l.ar
 ·simp [xOf, nOf, SZ]
 ·simp [xOf, nOf, SZ]
 ·simp [xOf, nOf, SZ]
theorem CpIs.pr {w : World} {B : Nat} {g d : Nat → Nat} {ns : List Nd} {l : Ls} (h : CpIs w B g d ns l) : PrIs w B (cpV ns l g d) ns l := fun k hk =>
 own_base (own_cut (h.row k hk) (xOf_len ns l k hk) (Nat.le_succ _)) (Nat.le_add_right _ _)
end Go.Proofs.YtklkpaekdpaloaaDoor
