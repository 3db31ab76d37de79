import Derived.Maps.GroupsBeside
import Derived.Test.YtaocomjhepgabaaKWbt
import Derived.Test.YtaocomjhepgabaaKWfh
import Derived.Test.YtaocomjhepgabaaKWvm
set_option linter.unusedVariables false
set_option linter.unusedSimpArgs false
set_option linter.unnecessarySimpa false
/- Da -/
namespace Go.Proofs.Ytaocomjhepgabaa
open Go.RowKit Go.Maps Go.ChangeShapes Go.WideShapes
theorem own_same {w w' : World} {B : Nat} {e : TypeId} {s n : Nat} {v : Value} {xs : List Value} (h : w.ownsRow B e s v n xs) (hk : ∀ b, v.ownBlock = some b → w'.heap[b]? = w.heap[b]?) : w'.ownsRow B e s v n xs := by
  refine ⟨h.1, ?_⟩
  rcases h.2 with h1 | ⟨g, cap, cur, rfl, h1, h2, h3⟩
  · exact .inl h1
  · exact .inr ⟨g, cap, cur, rfl, h1, (hk g rfl).trans h2, h3⟩
/-- A piece: the vertex, whether it heads a component, the slice of what it holds, the elements that it stands for. -/
abbrev Pc := Int × Bool × Value × List (Int × Nat × Bool)
def pcs : List Pc → List Value
  | [] => []
  | p :: r => .int .i64 p.1 :: .bool p.2.1 :: p.2.2.1 :: pcs r
theorem pcs_len : ∀ l, (pcs l).length = l.length * 3
  | [] => rfl
  | x :: r => by simp [pcs, pcs_len r]; omega
theorem pcs_get : ∀ (l : List Pc) (k : Nat) (x : Pc), l[k]? = some x → (pcs l)[k * 3]? = some (.int .i64 x.1) ∧ (pcs l)[k * 3 + 1]? = some (.bool x.2.1) ∧ (pcs l)[k * 3 + 2]? = some x.2.2.1
  | [], k, x, h => by simp at h
  | y :: l, 0, x, h => by simp at h; subst h; simp [pcs]
  | y :: l, k + 1, x, h => by
    have := pcs_get l k x (by simpa using h)
    rw [show (k + 1) * 3 = k * 3 + 1 + 1 + 1 by omega]
    simp only [pcs, List.getElem?_cons_succ]
    exact this
theorem pcs_of : ∀ (l : List Pc) (j : Nat) (u : Value), (pcs l)[j]? = some u → ∃ k x, l[k]? = some x ∧ ((j = k * 3 ∧ u = .int .i64 x.1) ∨ (j = k * 3 + 1 ∧ u = .bool x.2.1) ∨ (j = k * 3 + 2 ∧ u = x.2.2.1))
  | [], j, u, h => by simp [pcs] at h
  | y :: l, 0, u, h => ⟨0, y, rfl, .inl ⟨rfl, by simpa [pcs] using h.symm⟩⟩
  | y :: l, 1, u, h => ⟨0, y, rfl, .inr (.inl ⟨rfl, by simpa [pcs] using h.symm⟩)⟩
  | y :: l, 2, u, h => ⟨0, y, rfl, .inr (.inr ⟨rfl, by simpa [pcs] using h.symm⟩)⟩
  | y :: l, j + 3, u, h => by
    obtain ⟨k, x, h1, h2⟩ := pcs_of l j u (by simpa [pcs] using h)
    exact ⟨k + 1, x, by simpa using h1, h2.imp (fun h => ⟨by omega, h.2⟩) (fun h => h.imp (fun h => ⟨by omega, h.2⟩) (fun h => ⟨by omega, h.2⟩))⟩
/-- A slice. -/
def IsSl (v : Value) : Prop := ∃ ao n c, v = .slice ao n c
theorem pcs_one {l : List Pc} (hs : ∀ p ∈ l, IsSl p.2.2.1) : ∀ u ∈ pcs l, u.oneCell' = true := by
  intro u hu
  obtain ⟨j, hj⟩ := List.getElem?_of_mem hu
  obtain ⟨k, x, hx, h⟩ := pcs_of l j u hj
  rcases h with ⟨_, rfl⟩ | ⟨_, rfl⟩ | ⟨_, rfl⟩
  · rfl
  · rfl
  · obtain ⟨ao, n, c, e⟩ := hs x (List.mem_of_getElem? hx)
    rw [e]; rfl
/-- v is a list of pieces that stands for L, at depth d; its rows lie from B on, in blocks of K. -/
def PL (w : World) (B : Nat) (K : Nat → Prop) : Nat → Value → Nat → List (Int × Nat × Bool) → Prop
  | 0, v, _, L => v = .slice none 0 0 ∧ L = []
  | n + 1, v, d, L => ∃ ps : List Pc, w.ownsRow B 77 3 v ps.length (pcs ps) ∧ (∀ b, v.ownBlock = some b → K b) ∧ (∀ p ∈ ps, IsSl p.2.2.1 ∧ (p.2.1 = false → p.2.2.2 = [(p.1, d, false)]) ∧ (p.2.1 = true → ∃ L', PL w B K n p.2.2.1 (d + 1) L' ∧ p.2.2.2 = (p.1, d + 1, true) :: L')) ∧ L = (ps.map (fun p => p.2.2.2)).flatten
theorem PL.up {w : World} {B : Nat} {K : Nat → Prop} : ∀ {n : Nat} {v : Value} {d : Nat} {L : List (Int × Nat × Bool)}, PL w B K n v d L → PL w B K (n + 1) v d L
  | 0, v, d, L, h => by
    obtain ⟨rfl, rfl⟩ := h
    exact ⟨[], World.ownsRow_nil _ _ _ _, fun b hb => by simp [Value.ownBlock] at hb, fun p hp => (by cases hp), rfl⟩
  | n + 1, v, d, L, h => by
    obtain ⟨ps, h1, h2, h3, h4⟩ := h
    refine ⟨ps, h1, h2, fun p hp => ⟨(h3 p hp).1, (h3 p hp).2.1, fun e => ?_⟩, h4⟩
    obtain ⟨L', a, b⟩ := (h3 p hp).2.2 e
    exact ⟨L', PL.up a, b⟩
theorem PL.ups {w : World} {B : Nat} {K : Nat → Prop} {n : Nat} {v : Value} {d : Nat} {L : List (Int × Nat × Bool)} (h : PL w B K n v d L) : ∀ {m : Nat}, n ≤ m → PL w B K m v d L := by
  intro m hm
  induction hm with
  | refl => exact h
  | step _ ih => exact ih.up
theorem PL.kept {w w' : World} {B : Nat} {K K' : Nat → Prop} (hk : ∀ b, K b → w'.heap[b]? = w.heap[b]?) (hK : ∀ b, K b → K' b) : ∀ {n : Nat} {v : Value} {d : Nat} {L : List (Int × Nat × Bool)}, PL w B K n v d L → PL w' B K' n v d L
  | 0, v, d, L, h => h
  | n + 1, v, d, L, h => by
    obtain ⟨ps, h1, h2, h3, h4⟩ := h
    refine ⟨ps, own_same h1 (fun b hb => hk b (h2 b hb)), fun b hb => hK b (h2 b hb), fun p hp => ⟨(h3 p hp).1, (h3 p hp).2.1, fun e => ?_⟩, h4⟩
    obtain ⟨L', a, b⟩ := (h3 p hp).2.2 e
    exact ⟨L', PL.kept hk hK a, b⟩
theorem PL.len {w : World} {B : Nat} {K : Nat → Prop} {n : Nat} {v : Value} {d : Nat} {L : List (Int × Nat × Bool)} (h : PL w B K (n + 1) v d L) : ∃ ps : List Pc, w.ownsRow B 77 3 v ps.length (pcs ps) ∧ ps.length ≤ L.length := by
  obtain ⟨ps, h1, h2, h3, h4⟩ := h
  refine ⟨ps, h1, ?_⟩
  rw [h4]
  clear h1 h2 h4
  induction ps with
  | nil => exact Nat.zero_le _
  | cons p ps ih =>
    have i := ih (fun q hq => h3 q (List.mem_cons_of_mem _ hq))
    have hp : 1 ≤ p.2.2.2.length := by
      have hq := h3 p List.mem_cons_self
      cases e : p.2.1 with
      | false => rw [hq.2.1 e]; simp
      | true => obtain ⟨L', _, b⟩ := hq.2.2 e; rw [b]; simp
    simp only [List.map_cons, List.flatten_cons, List.length_append, List.length_cons]
    omega
def mkv (k : Nat) : Int := if k = DONE then -1 else (k : Int)
theorem mkv_upd (m : Int → Nat) (v : Int) (k : Nat) : updF (fun x => mkv (m x)) v (mkv k) = fun x => mkv (upd m v k x) := by
  funext x
  unfold updF upd
  split <;> rfl
theorem mkv_done : mkv DONE = -1 := if_pos rfl
theorem mkv_zero : mkv 0 = 0 := by unfold mkv; rw [if_neg (by decide)]; rfl
theorem mkv_num {k : Nat} (h : k < DONE) : mkv k = (k : Int) := if_neg (by omega)
theorem mkv_eq0 {k : Nat} : mkv k = 0 ↔ k = 0 := by
  unfold mkv
  split
  · rename_i h; subst h; constructor
    · intro h; cases h
    · intro h; exact absurd h DONE_ne
  · omega
theorem mkv_in {k : Nat} (h : k ≤ 1000000000000 ∨ k = DONE) : in64 (mkv k) := by
  unfold mkv in64
  split
  · decide
  · rcases h with h | h
    · omega
    · rename_i hn; exact absurd h hn
def stkI : List Int → List Value
  | [] => []
  | c :: r => stkI r ++ [.int .i64 c]
theorem stkI_len : ∀ cs, (stkI cs).length = cs.length
  | [] => rfl
  | c :: r => by simp [stkI, stkI_len r]
/-- The maker's blocks, and the worlds ahead of it and behind its arcs. -/
structure DV where
  w0 : World
  W0 : World
  M : Nat
  bt : Nat
  bm : Nat
  base : Nat
/-- What the map of arcs reads as. -/
def ToIs (D : DataW Unit) (succ : Int → List Int) : Prop := ∀ v, (D.atKey (.int .i64 v) .nil = .nil ∧ succ v = []) ∨ D.atKey (.int .i64 v) .nil = .slice (lits .i64 (succ v)) []
structure DOk (D : DV) (succ : Int → List Int) : Prop where
  lM : D.w0.heap.size ≤ D.M
  lt : D.w0.heap.size ≤ D.bt
  lm : D.w0.heap.size ≤ D.bm
  nMt : D.M ≠ D.bt
  nMm : D.M ≠ D.bm
  ntm : D.bt ≠ D.bm
  uM : D.M < D.base
  ut : D.bt < D.base
  um : D.bm < D.base
  ub : D.base ≤ D.W0.heap.size
  to : ∃ n Dt, D.W0.ownsMap Try.prog 3 (rowElem D.W0 D.base 3 .i64) D.bt n Dt ∧ ToIs Dt succ
/-- The maker's state in a world. -/
structure VSe (D : DV) (e : Nat) (w : World) (T : St Int) (sv : Value) : Prop where
  ok : Ok D.w0 w
  hw : D.W0.heap.size ≤ w.heap.size
  kp : ∀ b, b < D.W0.heap.size → b ≠ D.M → b ≠ D.bm → w.heap[b]? = D.W0.heap[b]?
  mr : w.heap[D.M]? = some (.cells #[.map (some D.bt), .map (some D.bm), .int .i64 (T.count : Nat), sv] 56 (0, 0))
  mm : ∃ N K, N + T.stack.length ≤ 2 * T.count + e ∧ VMap w D.bm N (fun x => mkv (T.marks x)) K
  st : w.ownsRow D.W0.heap.size 3 1 sv T.stack.length (stkI T.stack)
abbrev VS (D : DV) (w : World) (T : St Int) (sv : Value) : Prop := VSe D 0 w T sv
/-- What may have turned between two worlds. -/
structure Fr (D : DV) (w : World) (sv : Value) (w' : World) (sv' : Value) : Prop where
  size : w.heap.size ≤ w'.heap.size
  far : ∀ b, b < w.heap.size → b ≠ D.M → b ≠ D.bm → some b ≠ sv.ownBlock → w'.heap[b]? = w.heap[b]?
  at_ : sv'.ownBlock = sv.ownBlock ∨ ∃ b, sv'.ownBlock = some b ∧ w.heap.size ≤ b
theorem Fr.refl (D : DV) (w : World) (sv : Value) : Fr D w sv w sv := ⟨Nat.le_refl _, fun _ _ _ _ _ => rfl, .inl rfl⟩
theorem Fr.trans {D : DV} {w w1 w2 : World} {sv s1 s2 : Value} (h : Fr D w sv w1 s1) (k : Fr D w1 s1 w2 s2) : Fr D w sv w2 s2 := by
  have hs := h.size
  refine ⟨Nat.le_trans hs k.size, fun b hb h1 h2 h3 => ?_, ?_⟩
  · refine (k.far b (by omega) h1 h2 ?_).trans (h.far b hb h1 h2 h3)
    rcases h.at_ with e | ⟨g, e, hg⟩
    · rw [e]; exact h3
    · rw [e]; intro e2; injection e2 with e2; omega
  · rcases k.at_ with e | ⟨g, e, hg⟩
    · rcases h.at_ with e2 | ⟨g, e2, hg⟩
      · exact .inl (e.trans e2)
      · exact .inr ⟨g, e.trans e2, hg⟩
    · exact .inr ⟨g, e, by omega⟩
theorem Fr.below {D : DV} {w w' : World} {sv : Value} (hb : Below w.heap.size w w') : Fr D w sv w' sv := ⟨hb.size, fun b h _ _ _ => hb.block b h, .inl rfl⟩
/-- Where lists of pieces may lie; R: what is kept for other things. -/
def KK (D : DV) (R : Nat → Prop) (w : World) (sv : Value) (b : Nat) : Prop := D.W0.heap.size ≤ b ∧ b < w.heap.size ∧ some b ≠ sv.ownBlock ∧ ¬ R b
theorem PL.fr {D : DV} {succ : Int → List Int} {R : Nat → Prop} (hD : DOk D succ) {w w' : World} {sv sv' : Value} (h : Fr D w sv w' sv') {n : Nat} {v : Value} {d : Nat} {L : List (Int × Nat × Bool)} (hp : PL w D.W0.heap.size (KK D R w sv) n v d L) : PL w' D.W0.heap.size (KK D R w' sv') n v d L := by
  have h1 := hD.uM
  have h2 := hD.um
  have h3 := hD.ub
  refine PL.kept (fun b hb => h.far b hb.2.1 (by have := hb.1; omega) (by have := hb.1; omega) hb.2.2.1) (fun b hb => ⟨hb.1, Nat.lt_of_lt_of_le hb.2.1 h.size, ?_, hb.2.2.2⟩) hp
  rcases h.at_ with e | ⟨g, e, hg⟩
  · rw [e]; exact hb.2.2.1
  · rw [e]; intro e2; injection e2 with e2; have := hb.2.1; omega
theorem PL.sl {w : World} {B : Nat} {K : Nat → Prop} {n : Nat} {v : Value} {d : Nat} {L : List (Int × Nat × Bool)} (h : PL w B K n v d L) : IsSl v := by
  cases n with
  | zero => rw [h.1]; exact ⟨_, _, _, rfl⟩
  | succ n =>
    obtain ⟨ps, h1, _⟩ := h
    obtain ⟨ao, c, e⟩ := own_form h1
    exact ⟨ao, _, c, e⟩
theorem VSe.below {D : DV} {e : Nat} {succ : Int → List Int} {w w' : World} {T : St Int} {sv : Value} (h : VSe D e w T sv) (hD : DOk D succ) (hb : Below w.heap.size w w') : VSe D e w' T sv := by
  have hsz := hb.size
  have h1 := hD.uM
  have h3 := hD.ub
  have hw := h.hw
  obtain ⟨N, K, hN, hm⟩ := h.mm
  exact ⟨h.ok.step hb, by omega, fun b h1 h2 h3 => (hb.block b (by omega)).trans (h.kp b h1 h2 h3), (hb.block _ (by omega)).trans h.mr, ⟨N, K, hN, hm.ok hb⟩, h.st.kept (grown_below hb) (Classical.em _)⟩
end Go.Proofs.Ytaocomjhepgabaa
