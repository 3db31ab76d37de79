import Derived.Deep.AppendLies
import Derived.Test.YtaocomjhepgabaaKDm
set_option linter.unusedVariables false
set_option linter.unusedSimpArgs false
set_option linter.unnecessarySimpa false
/- Dn -/
namespace Go.Proofs.Ytaocomjhepgabaa
open Go.RowKit Go.Maps Go.ChangeShapes Go.WideShapes
theorem run_append_old {P : Program} {w w' : World} {base : Nat} {t ty e : TypeId} {i : TypeInfo} {z r : Value} {size bytes : Nat} (ht : P.underlying t = some (.slice e)) (hi : P.info? e = some i) (hz : i.zero = some z) (hsize : i.size = size) (hby : i.bytes = bytes)
    {v : Value} {n : Nat} {xs : List Value} (hown : w.ownsRow base e size v n xs) {a : Addr} {m c : Nat} {news : List Value} (hl : news.length = m * size) (hnews : ∀ j u, news[j]? = some u → w.cell? (a.add j) = some u) (h1 : ∀ u ∈ news, u.oneCell' = true)
    (h63 : n + m ≤ maxLen) (hbytes : (n + m) * bytes ≤ 140737488355328) (hrun : (Builtin.append_ #[t, t] ty #[v, .slice (some a) m c]).run P w = .ok r w') : w'.ownsRow base e size v n xs := by
  subst hsize hby
  have hsmall : n + m ≤ 9223372036854775807 := by simp only [maxLen] at h63; omega
  rcases hown.2 with ⟨rfl, rfl⟩ | ⟨g, cap, cur, rfl, hbg, hg, hnc, hcm, hcs, htake⟩
  · have hx : xs = [] := List.eq_nil_of_length_eq_zero (by simpa using hown.1)
    subst hx
    exact World.ownsRow_nil _ _ _ _
  · refine ⟨hown.1, .inr ⟨g, cap, ?_⟩⟩
    by_cases hroom : n + m ≤ cap
    · have hfit : n * i.size + news.length ≤ cur.size := by rw [hl, hcs, ← Nat.add_mul]; exact Nat.mul_le_mul_right _ hroom
      rw [run_append_room (P := P) w t ty e i ht hi g n cap cur hg a m c news hl hnews h1 hroom hfit] at hrun
      injection hrun with _ hrun
      subst hrun
      have hns : n * i.size ≤ cur.toList.length := by rw [Array.length_toList]; omega
      refine ⟨_, rfl, hbg, setRow_heap w g cur _ e _ hg, hnc, hcm, ?_, ?_⟩
      · simp only [List.size_toArray, List.length_append, List.length_take, List.length_drop, Array.length_toList]
        omega
      · rw [List.append_assoc, List.take_append_of_le_length (by rw [List.length_take]; omega), List.take_take, Nat.min_self]
        exact htake
    · have holds : ∀ j u, xs[j]? = some u → w.cell? ((⟨g, 0, none⟩ : Addr).add j) = some u := hown.cells (g := g) rfl
      rw [run_append_grow (P := P) w t ty e i z ht hi hz ⟨g, 0, none⟩ n cap xs hown.1 holds a m c news hl hnews (by omega) (by omega) (growslice_fits (by omega) hbytes)] at hrun
      injection hrun with _ hrun
      subst hrun
      exact ⟨cur, rfl, hbg, (Below.heap_alloc w.drew _ _ (lt_row hg)).trans hg, hnc, hcm, hcs, htake⟩
theorem step_append_both {P : Program} (w : World) {ops : Array Oper} {o : Oper} {a : Act} {K : Act → World → Prop} {Q : Exit → Act → World → Prop} {E : Prop} (hgd : o.guard = none) (s x : Operand) (t : TypeId)
    (ho : o.op = .call { callee := .builtin .append, args := #[s, x], argTypes := #[t, t] })
    (base : Nat) (e : TypeId) (i : TypeInfo) (z : Value) (size bytes : Nat) (ht : P.underlying t = some (.slice e)) (hi : P.info? e = some i) (hz : i.zero = some z)
    (hsize : i.size = size) (hby : i.bytes = bytes) (hzs : z.cells.size = size) (hsz : 0 < size)
    (v : Value) (n : Nat) (xs : List Value) (hs : a.eval s = v) (hown : w.ownsRow base e size v n xs)
    (ad : Addr) (m c : Nat) (news : List Value) (hx : a.eval x = .slice (some ad) m c) (hl : news.length = m * size) (hnews : ∀ j u, news[j]? = some u → w.cell? (ad.add j) = some u) (h1 : ∀ u ∈ news, u.oneCell' = true)
    (hm : 0 < m) (h63 : n + m ≤ maxLen) (hbytes : (n + m) * bytes ≤ 140737488355328) (hbase : base ≤ w.heap.size) (H : Nat) (hH : w.heap.size = H)
    (h : ∀ g cap w', w'.ownsRow base e size (.slice (some ⟨g, 0, none⟩) (n + m) cap) (n + m) (xs ++ news) → w.grownBy w' v.ownBlock → (v.ownBlock = some g ∨ g = H) → g < w'.heap.size → w'.ownsRow base e size v n xs → K (a.put o.dst (.slice (some ⟨g, 0, none⟩) (n + m) cap)) w') :
    if Region.wanted o (yielded ops a.tmps) = true then Oper.wp P o a w K Q else E := by
  have hw : Region.wanted o (yielded ops a.tmps) = true := by simp [Region.wanted, hgd]
  rw [if_pos hw]
  obtain ⟨g, cap, w', hr, h2, h3, h4, h5⟩ := run_append_lies (P := P) w t o.type base e i z size bytes ht hi hz hsize hby hzs hsz v n xs hown ad m c news hl hnews h1 hm h63 hbytes hbase H hH
  have h6 := run_append_old ht hi hz hsize hby hown hl hnews h1 h63 hbytes hr
  unfold Oper.wp execOp
  simp only [ho, resolve, invoke, builtin, Sem.run_bind, Sem.run_pure, Result.andThen_ok, List.map_toArray, List.map_cons, List.map_nil, hs, hx, hr]
  exact h g cap w' h2 h3 h4 h5 h6
/-- Two rows of unlike types lie apart. -/
theorem own_apart {w : World} {B B' : Nat} {e e' : TypeId} {s s' n n' : Nat} {v v' : Value} {xs xs' : List Value} (h : w.ownsRow B e s v n xs) (h' : w.ownsRow B' e' s' v' n' xs') (hne : e ≠ e') : v.ownBlock = none ∨ v.ownBlock ≠ v'.ownBlock := by
  rcases h.2 with ⟨rfl, _⟩ | ⟨g, cap, cur, rfl, _, hg, _⟩
  · exact .inl rfl
  · right
    intro eq
    rcases h'.2 with ⟨rfl, _⟩ | ⟨g', cap', cur', rfl, _, hg', _⟩
    · simp [Value.ownBlock] at eq
    · simp only [Value.ownBlock, Option.some.injEq] at eq
      subst eq
      rw [hg] at hg'
      injection hg' with hg'
      injection hg' with _ hg'
      exact hne hg'
/-- How many answers are grown: lv is the list of what they grew to. -/
structure GI (w : World) (B gl : Nat) (W : World) (V : Nat → Value) (N : Nat → Nat) (k : Nat) (lv : Value) (u : Nat → Value) (wr : World) : Prop where
  al : AL w B gl W V N (fun j => MK j (N j)) wr
  uo : ∀ j, j < k → wr.ownsRow B 35 3 (u j) (N j + 1) (fl (MK j (N j + 1)))
  lo : wr.ownsRow W.heap.size 23 1 lv k ((List.range k).map u)
  ub : ∀ j, j < k → (u j).ownBlock = (V j).ownBlock ∨ ∃ b, (u j).ownBlock = some b ∧ W.heap.size ≤ b
  uu : ∀ i j, i < k → j < k → i ≠ j → (u i).ownBlock ≠ (u j).ownBlock
theorem GI.below {w : World} {B gl : Nat} {W : World} {V : Nat → Value} {N : Nat → Nat} {k : Nat} {lv : Value} {u : Nat → Value} {wr w' : World} (h : GI w B gl W V N k lv u wr) (hb : Below wr.heap.size wr w') : GI w B gl W V N k lv u w' :=
  ⟨h.al.below hb, fun j hj => (h.uo j hj).kept (grown_below hb) (Classical.em _), h.lo.kept (grown_below hb) (Classical.em _), h.ub, h.uu⟩
def putU (u : Nat → Value) (k : Nat) (x : Value) : Nat → Value := fun j => if j = k then x else u j
theorem map_putU (u : Nat → Value) (k : Nat) (x : Value) : (List.range (k + 1)).map (putU u k x) = (List.range k).map u ++ [x] := by
  rw [List.range_succ, List.map_append]
  congr 1
  · apply List.map_congr_left
    intro j hj
    unfold putU
    rw [if_neg]
    have := List.mem_range.1 hj
    omega
  · simp [putU]
theorem own_some {w : World} {B e s n : Nat} {v : Value} {xs : List Value} (h : w.ownsRow B e s v n xs) (hn : 0 < n) : ∃ b, v.ownBlock = some b := by
  obtain ⟨g, c, e, _⟩ := h.form hn
  exact ⟨g, by rw [e]; rfl⟩
theorem GI.grow {w : World} {B gl : Nat} {W : World} {V : Nat → Value} {N : Nat → Nat} {k : Nat} {lv : Value} {u : Nat → Value} {wr X1 w4 X2 w5 : World} (h : GI w B gl W V N k lv u wr) (hk : k < 3) (hb : Below wr.heap.size wr X1) {gg capg : Nat} (hg : X1.grownBy w4 (V k).ownBlock) (ho : w4.ownsRow B 35 3 (.slice (some ⟨gg, 0, none⟩) (N k + 1) capg) (N k + 1) (fl (MK k (N k)) ++ e3 (-1 - (k : Int), (N k : Int), false))) (hat : (V k).ownBlock = some gg ∨ wr.heap.size ≤ gg) (hold : w4.ownsRow B 35 3 (V k) (N k) (fl (MK k (N k))))
    (hb2 : Below w4.heap.size w4 X2) {g5 c5 : Nat} (hg5 : X2.grownBy w5 lv.ownBlock) (ho5 : w5.ownsRow W.heap.size 23 1 (.slice (some ⟨g5, 0, none⟩) (k + 1) c5) (k + 1) ((List.range k).map u ++ [.slice (some ⟨gg, 0, none⟩) (N k + 1) capg])) :
    GI w B gl W V N (k + 1) (.slice (some ⟨g5, 0, none⟩) (k + 1) c5) (putU u k (.slice (some ⟨gg, 0, none⟩) (N k + 1) capg)) w5 := by
  have a := h.al
  have hg' : wr.grownBy w4 (V k).ownBlock := World.grownBy.trans (⟨(grown_below hb).os, (grown_below hb).tape, (grown_below hb).output, hb.size, fun i hi _ => hb.block i hi⟩) hg
  have hs1 := hg'.size
  have hsz := a.sz
  have hlV : ∀ b, (V k).ownBlock = some b → b < W.heap.size := a.lt k hk
  have huV : ∀ j, j < k → (u j).ownBlock = none ∨ (u j).ownBlock ≠ (V k).ownBlock := by
    intro j hj
    obtain ⟨b, hb⟩ := own_some (h.uo j hj) (Nat.succ_pos _)
    right
    rw [hb]
    intro e
    rcases h.ub j hj with e2 | ⟨b2, e2, hb2⟩
    · rw [hb] at e2
      rcases a.ap j k (by omega) hk (by omega) with e3 | e3
      · rw [← e2] at e3; cases e3
      · exact e3 (by rw [← e2, e])
    · rw [hb] at e2; injection e2 with e2; have := hlV b e.symm; omega
  have hlk : lv.ownBlock = none ∨ lv.ownBlock ≠ (V k).ownBlock := by
    cases hl : lv.ownBlock with
    | none => exact .inl rfl
    | some b =>
      right
      intro e
      have h1 := (h.lo.lt b hl).1
      have h2 := hlV b e.symm
      omega
  -- behind the first append
  have a4 : AL w B gl W V N (fun j => MK j (N j)) w4 := by
    refine ⟨Below.grown a.ok hg' a.ok.le (fun b e => by have := ((a.own k hk).lt b e).1; have := a.hB; omega), by omega, fun b h1 h2 => (hg'.block b (by omega) (h2 k hk)).trans (a.far b h1 h2), fun j hj => ?_, a.ap, a.all, a.ng, a.hB, a.lt, a.hW⟩
    by_cases e : j = k
    · subst e; exact hold
    · exact (a.own j hj).kept hg' (a.ap j k hj hk e)
  have uo4 : ∀ j, j < k → w4.ownsRow B 35 3 (u j) (N j + 1) (fl (MK j (N j + 1))) := fun j hj => (h.uo j hj).kept hg' (huV j hj)
  have lo4 : w4.ownsRow W.heap.size 23 1 lv k ((List.range k).map u) := h.lo.kept hg' hlk
  have ho4 : w4.ownsRow B 35 3 (.slice (some ⟨gg, 0, none⟩) (N k + 1) capg) (N k + 1) (fl (MK k (N k + 1))) := by
    rw [MK_succ, fl_app]
    simpa [fl] using ho
  -- behind the second
  have hg5' : w4.grownBy w5 lv.ownBlock := World.grownBy.trans (⟨(grown_below hb2).os, (grown_below hb2).tape, (grown_below hb2).output, hb2.size, fun i hi _ => hb2.block i hi⟩) hg5
  have hs5 := hg5'.size
  have ap35 : ∀ {v : Value} {n : Nat} {xs : List Value}, w4.ownsRow B 35 3 v n xs → v.ownBlock = none ∨ v.ownBlock ≠ lv.ownBlock := fun hh => own_apart hh lo4 (by decide)
  refine ⟨⟨Below.grown a4.ok hg5' a4.ok.le (fun b e => by have := (lo4.lt b e).1; have := a.hW; omega), by omega, fun b h1 h2 => (hg5'.block b (by omega) (fun e => by have := (lo4.lt b e.symm).1; omega)).trans (a4.far b h1 h2), fun j hj => (a4.own j hj).kept hg5' (ap35 (a4.own j hj)), a.ap, a.all, a.ng, a.hB, a.lt, a.hW⟩, ?_, ?_, ?_, ?_⟩
  · intro j hj
    unfold putU
    by_cases e : j = k
    · subst e; rw [if_pos rfl]; exact ho4.kept hg5' (ap35 ho4)
    · rw [if_neg e]; exact (uo4 j (by omega)).kept hg5' (ap35 (uo4 j (by omega)))
  · rw [map_putU]; exact ho5
  · intro j hj
    unfold putU
    by_cases e : j = k
    · subst e
      rw [if_pos rfl]
      rcases hat with e2 | e2
      · exact .inl e2.symm
      · exact .inr ⟨gg, rfl, by omega⟩
    · rw [if_neg e]; exact h.ub j (by omega)
  · have huk : ∀ j, j < k → (u j).ownBlock ≠ some gg := by
      intro j hj e
      rcases hat with e2 | e2
      · rcases huV j hj with e3 | e3
        · rw [e3] at e; cases e
        · exact e3 (by rw [e, e2])
      · have := ((h.uo j hj).lt gg e).2
        omega
    intro i j hi hj hne
    unfold putU
    by_cases e1 : i = k
    · subst e1
      rw [if_pos rfl, if_neg (fun e => hne e.symm)]
      intro e
      exact huk j (by omega) e.symm
    · by_cases e2 : j = k
      · subst e2
        rw [if_neg e1, if_pos rfl]
        exact huk i (by omega)
      · rw [if_neg e1, if_neg e2]
        exact h.uu i j (by omega) (by omega) hne
theorem Try.info23 : (Try.prog.info? 23).map (fun i => (i.zero, i.size, i.bytes)) = some (some (.slice none 0 0), 1, 24) := by kernel_rfl
theorem GI.mid {w : World} {B gl : Nat} {W : World} {V : Nat → Value} {N : Nat → Nat} {k : Nat} {lv : Value} {u : Nat → Value} {wr X1 w4 : World} (h : GI w B gl W V N k lv u wr) (hk : k < 3) (hb : Below wr.heap.size wr X1) (hg : X1.grownBy w4 (V k).ownBlock) : w4.ownsRow W.heap.size 23 1 lv k ((List.range k).map u) ∧ w4.cell? ⟨gl, k, none⟩ = some (V k) ∧ W.heap.size ≤ w4.heap.size ∧ gl < w4.heap.size := by
  have a := h.al
  have hg' : wr.grownBy w4 (V k).ownBlock := World.grownBy.trans (⟨(grown_below hb).os, (grown_below hb).tape, (grown_below hb).output, hb.size, fun i hi _ => hb.block i hi⟩) hg
  have hs1 := hg'.size
  have hsz := a.sz
  have hlg := a.lg
  refine ⟨h.lo.kept hg' ?_, (World.cell?_of_block (a := ⟨gl, k, none⟩) (hg'.block gl a.lg (a.ng k hk))).trans (a.cell hk), by omega, by omega⟩
  cases hl : lv.ownBlock with
  | none => exact .inl rfl
  | some b =>
    right
    intro e
    have h1 := (h.lo.lt b hl).1
    have h2 := a.lt k hk b e.symm
    omega
theorem GI.end_ {w : World} {B gl : Nat} {W : World} {V : Nat → Value} {N : Nat → Nat} {k : Nat} {lv : Value} {u : Nat → Value} {wr w4 X2 w5 : World} (h : GI w B gl W V N k lv u wr) (hl4 : w4.ownsRow W.heap.size 23 1 lv k ((List.range k).map u)) (hc4 : w4.cell? ⟨gl, k, none⟩ = some (V k)) (hs4 : gl < w4.heap.size) (hb2 : Below w4.heap.size w4 X2) (hg5 : X2.grownBy w5 lv.ownBlock) : w5.cell? ⟨gl, k, none⟩ = some (V k) := by
  have hg' : w4.grownBy w5 lv.ownBlock := World.grownBy.trans (⟨(grown_below hb2).os, (grown_below hb2).tape, (grown_below hb2).output, hb2.size, fun i hi _ => hb2.block i hi⟩) hg5
  refine (World.cell?_of_block (a := ⟨gl, k, none⟩) (hg'.block gl hs4 (fun e => ?_))).trans hc4
  have h1 := (hl4.lt gl e.symm).1
  have h2 := lt_row h.al.all
  omega
theorem GI.start {w : World} {B gl : Nat} {W : World} {V : Nat → Value} {N : Nat → Nat} {wr : World} (h : WI w B gl W V N 3 0 wr) : GI w B gl W V N 0 (.slice none 0 0) (fun _ => .slice none 0 0) wr := by
  obtain ⟨y, h1, h2, _⟩ := h.ex
  refine ⟨⟨h1.ok, h1.sz, h1.far, fun j hj => ?_, h1.ap, h1.all, h1.ng, h1.hB, h1.lt, h1.hW⟩, fun j hj => absurd hj (Nat.not_lt_zero _), World.ownsRow_nil _ _ _ _, fun j hj => absurd hj (Nat.not_lt_zero _), fun i j hi => absurd hi (Nat.not_lt_zero _)⟩
  have := h1.own j hj
  rw [h2 j hj hj] at this
  exact this
theorem GI.long {w : World} {B gl : Nat} {W : World} {V : Nat → Value} {N : Nat → Nat} {ao : Option Addr} {c : Nat} {u : Nat → Value} {wr : World} (h : GI w B gl W V N 3 (.slice ao 3 c) u wr) : ∃ gL, ao = some ⟨gL, 0, none⟩ ∧ gL < wr.heap.size ∧ ∀ k, k < 3 → wr.cell? ⟨gL, k, none⟩ = some (u k) := by
  obtain ⟨g, cap, e, _, hl⟩ := h.lo.form (by decide)
  injection e with e1 _ e3
  subst e1 e3
  refine ⟨g, rfl, hl, fun k hk => ?_⟩
  have := h.lo.cells (g := g) rfl k (u k) (by simp [hk])
  rwa [add_off, Nat.zero_add] at this
theorem GI.grown {w : World} {B gl : Nat} {W : World} {V : Nat → Value} {N : Nat → Nat} {ao : Option Addr} {c : Nat} {u : Nat → Value} {wr : World} (h : GI w B gl W V N 3 (.slice ao 3 c) u wr) {k : Nat} (hk : k < 3) : ∃ gu cu, u k = .slice (some ⟨gu, 0, none⟩) (N k + 1) cu ∧ gu < wr.heap.size ∧ ∀ i, i < N k + 1 → wr.cell? ⟨gu, i * 3, none⟩ = some (.int .i64 (-1 - (k : Int))) ∧ wr.cell? ⟨gu, i * 3 + 1, none⟩ = some (.int .i64 (i : Int)) ∧ wr.cell? ⟨gu, i * 3 + 2, none⟩ = some (.bool false) := by
  have ho := h.uo k hk
  obtain ⟨g, cap, e, _, hl⟩ := ho.form (Nat.succ_pos _)
  rw [e] at ho
  refine ⟨g, cap, e, hl, fun i hi => ?_⟩
  obtain ⟨a, b, c, _⟩ := own_cell3 ho (MK_get hi)
  exact ⟨a, b, c⟩
theorem GI.kept {w : World} {B gl : Nat} {W : World} {V : Nat → Value} {N : Nat → Nat} {ao : Option Addr} {c : Nat} {u : Nat → Value} {wr : World} (h : GI w B gl W V N 3 (.slice ao 3 c) u wr) {k : Nat} (hk : k < 3) {av : Option Addr} {cv : Nat} (hv : V k = .slice av (N k) cv) {i : Nat} (hi : i < N k) : ∃ gv, av = some ⟨gv, 0, none⟩ ∧ gv < wr.heap.size ∧ wr.cell? ⟨gv, i * 3, none⟩ = some (.int .i64 (-1 - (k : Int))) ∧ wr.cell? ⟨gv, i * 3 + 1, none⟩ = some (.int .i64 (i : Int)) ∧ wr.cell? ⟨gv, i * 3 + 2, none⟩ = some (.bool false) := by
  have ho := h.al.own k hk
  obtain ⟨g, cap, e, _, hl⟩ := ho.form (by omega)
  rw [hv] at e ho
  injection e with e1 _ e3
  subst e1 e3
  obtain ⟨a, b, c, _⟩ := own_cell3 ho (MK_get hi)
  exact ⟨g, rfl, hl, a, b, c⟩
end Go.Proofs.Ytaocomjhepgabaa
