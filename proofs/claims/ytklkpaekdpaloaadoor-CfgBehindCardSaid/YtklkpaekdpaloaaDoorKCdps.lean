import Derived.Maps.AppendAt
import Derived.OwnWalk
import Derived.Test.YtklkpaekdpaloaaDoorKCmgood
namespace Go.Proofs.YtklkpaekdpaloaaDoor
section
set_option linter.unusedVariables false
set_option linter.unusedSimpArgs false
open Go.RowKit
def TY (k : Nat) : Nat := [58, 9, 64, 3, 3, 3].getD k 0
def SZ (k : Nat) : Nat := [6, 1, 2, 1, 1, 1].getD k 0
def putAt {α : Type} (f : Nat → α) (k : Nat) (a : α) : Nat → α := fun j => if j = k then a else f j
structure Own6 (w : World) (g B : Nat) (v : Nat → Value) (n : Nat → Nat) (x : Nat → List Value) : Prop where
 gB : g < B
 lt : B ≤ w.heap.size
 own : ∀ k, k < 6 → w.ownsRow B (TY k) (SZ k) (v k) (n k) (x k)
 apart : ∀ j k, j < 6 → k < 6 → j ≠ k → (v j).ownBlock = none ∨ (v j).ownBlock ≠ (v k).ownBlock
 cell : ∀ k, k < 6 → w.cell? ⟨g, k, none⟩ = some (v k)
 warm : ∀ k, w.frozen? ⟨g, k, none⟩ = false
theorem grown_of_below {w w' : World} (h : Below w.heap.size w w') : w.grownBy w' none := ⟨h.os, h.tape, h.output, h.size, fun k hk _ => h.block k hk⟩
theorem Own6.below {w w' : World} {g B : Nat} {v : Nat → Value} {n : Nat → Nat} {x : Nat → List Value} (h : Own6 w g B v n x) (hb : Below w.heap.size w w') : Own6 w' g B v n x := by
 have hg : g < w.heap.size := Nat.lt_of_lt_of_le h.gB h.lt
 refine ⟨h.gB, Nat.le_trans h.lt hb.size, fun k hk => (h.own k hk).kept (grown_of_below hb) ?_, h.apart, fun k hk => (hb.cell (p := ⟨g, k, none⟩) hg).trans (h.cell k hk), fun k => (hb.frozen (p := ⟨g, k, none⟩) hg).trans (h.warm k)⟩
 cases (v k).ownBlock with
 | none => exact .inl rfl
 | some b => exact .inr (by simp)
theorem grown_set (w : World) (g o : Nat) (u : Value) : w.grownBy (w.setCell ⟨g, o, none⟩ u) (some g) :=
 ⟨rfl, rfl, rfl, by simp, fun k _ hk => Below.heap_setCell w ⟨g, o, none⟩ u k (fun e => hk (by rw [e]))⟩
theorem Own6.grow {w w' : World} {g B k m : Nat} {v : Nat → Value} {n : Nat → Nat} {x : Nat → List Value} {u : Value} {y : List Value} (h : Own6 w g B v n x) (hk : k < 6) (hg : w.grownBy w' (v k).ownBlock) (ho : w'.ownsRow B (TY k) (SZ k) u m y)
  (hw : u.ownBlock = (v k).ownBlock ∨ u.ownBlock = some w.heap.size) : Own6 (w'.setCell ⟨g, k, none⟩ u) g B (putAt v k u) (putAt n k m) (putAt x k y) := by
 have hgl : g < w.heap.size := Nat.lt_of_lt_of_le h.gB h.lt
 have hlow : ∀ j, j < 6 → ∀ b, (v j).ownBlock = some b → B ≤ b ∧ b < w.heap.size := fun j hj b e => (h.own j hj).lt b e
 have hub : ∀ b, u.ownBlock = some b → B ≤ b := fun b e => (ho.lt b e).1
 have hgb : w'.heap[g]? = w.heap[g]? := hg.block g hgl (fun e => by have := (hlow k hk g e.symm).1; have := h.gB; omega)
 have hc : ∀ j, w'.cell? ⟨g, j, none⟩ = w.cell? ⟨g, j, none⟩ := fun j => World.cell?_of_block (a := ⟨g, j, none⟩) hgb
 have hfz : ∀ j, w'.frozen? ⟨g, j, none⟩ = w.frozen? ⟨g, j, none⟩ := fun j => World.frozen?_of_block (a := ⟨g, j, none⟩) hgb
 have gB := h.gB
 refine ⟨h.gB, by have := hg.size; have := h.lt; simp; omega, fun j hj => ?_, fun i j hi hj hij => ?_, fun j hj => ?_, fun j => ?_⟩
 ·by_cases e : j = k
  ·subst e
   simp only [putAt, if_true]
   refine ho.kept (grown_set w' g _ u) ?_
   cases hq : u.ownBlock with
   | none => exact .inl rfl
   | some b => exact .inr (by have := hub b hq; simp; omega)
  ·simp only [putAt, if_neg e]
   refine ((h.own j hj).kept hg (h.apart j k hj hk e)).kept (grown_set w' g _ u) ?_
   cases hq : (v j).ownBlock with
   | none => exact .inl rfl
   | some b => exact .inr (by have := (hlow j hj b hq).1; simp; omega)
 ·by_cases e1 : i = k
  ·subst e1
   have e2 : ¬ j = i := fun e => hij e.symm
   simp only [putAt, if_true, if_neg e2]
   rcases hw with hw | hw
   ·rw [hw]; exact h.apart i j hi hj hij
   ·refine .inr (fun e => ?_)
    rw [hw] at e
    have := (hlow j hj _ e.symm).2
    omega
  ·simp only [putAt, if_neg e1]
   by_cases e2 : j = k
   ·subst e2
    simp only [if_true]
    rcases hw with hw | hw
    ·rw [hw]; exact h.apart i j hi hj hij
    ·cases hq : (v i).ownBlock with
     | none => exact .inl rfl
     | some b => exact .inr (fun e => by rw [hw] at e; injection e with e; have := (hlow i hi b hq).2; omega)
   ·simp only [if_neg e2]
    exact h.apart i j hi hj hij
 ·rw [cs w' g k j u (v k) ((hc k).trans (h.cell k hk))]
  by_cases e : j = k
  ·rw [if_pos e]; simp [putAt, e]
  ·rw [if_neg e, hc j, h.cell j hj]; simp [putAt, e]
 ·simp only [World.frozen?_setCell]
  rw [hfz j]
  exact h.warm j
end
section
set_option linter.unusedVariables false
set_option linter.unusedSimpArgs false
open Go.RowKit
theorem results_row_tmp2 {P : Program} {fn : Func} {p t u : Tmp} {ty : TypeId} (h : fn.results = #[.cell p ty, .tmp t, .tmp u]) (tmps : Array Value) (w : World) (g : Nat) (tt : TypeId) (cs : Array Value) (fr : Nat × Nat) (d : TypeDesc)
  (hp : tmps.getD p undef = .pointer (some ⟨g, 0, none⟩)) (hg : w.heap[g]? = some (.cells cs tt fr))
  (hu : P.underlying ty = some d) (hd : (match d with | .struct _ | .array _ _ => true | _ => false) = true) (hi : (P.info? ty).map (·.size) = some cs.size) :
  (results fn tmps).run P w = .ok (.tuple #[.agg cs, tmps.getD t undef, tmps.getD u undef]) w := by
 have hp' : tmps[p]?.getD undef = .pointer (some ⟨g, 0, none⟩) := by simpa using hp
 simp [results, h, hp', asAddr, run_loadVar_row w g tt ty cs fr d hg hu hd hi, Sem.run_bind, Result.andThen]
def ndCells (n : Nd) : List Value := [.int .i64 n.depth, .int .i64 n.kind, .string n.name, .int .i64 n.num, .int .i64 n.op, .int .i64 n.pos]
def xOf (ns : List Nd) (i : Nat) (l : Ls) (k : Nat) : List Value :=
 if k = 0 then (ns.take i).flatMap ndCells else if k = 1 then l.sc.map (fun s => .string s) else if k = 2 then l.ar.flatMap (fun a => [.string a.1, .int .i64 a.2]) else if k = 3 then l.sy.map (fun s => .int .i64 s) else if k = 4 then l.si.map (fun s => .int .i64 s) else l.so.map (fun s => .int .i64 s)
def nOf (i : Nat) (l : Ls) (k : Nat) : Nat := if k = 0 then i else if k = 1 then l.sc.length else if k = 2 then l.ar.length else if k = 3 then l.sy.length else if k = 4 then l.si.length else l.so.length
def ls0 : Ls := ⟨[], [], [], [], []⟩
theorem six_set {w : World} {g : Nat} {t : TypeId} {a0 a1 a2 a3 a4 a5 : Value} (h : w.heap[g]? = some (.cells #[a0, a1, a2, a3, a4, a5] t (0, 0))) (b0 b1 b2 b3 b4 b5 : Value) :
  ((((((w.setCell ⟨g, 0, none⟩ b0).setCell ⟨g, 1, none⟩ b1).setCell ⟨g, 2, none⟩ b2).setCell ⟨g, 3, none⟩ b3).setCell ⟨g, 4, none⟩ b4).setCell ⟨g, 5, none⟩ b5).heap[g]? = some (.cells #[b0, b1, b2, b3, b4, b5] t (0, 0)) := by
 have h0 := heap_setCell_same w g 0 _ t b0 h
 have h1 := heap_setCell_same _ g 1 _ t b1 h0
 have h2 := heap_setCell_same _ g 2 _ t b2 h1
 have h3 := heap_setCell_same _ g 3 _ t b3 h2
 have h4 := heap_setCell_same _ g 4 _ t b4 h3
 have h5 := heap_setCell_same _ g 5 _ t b5 h4
 rw [h5]
 simp
structure Six (w : World) (g : Nat) (a0 a1 a2 a3 a4 a5 : Value) : Prop where
 heap : w.heap[g]? = some (.cells #[a0, a1, a2, a3, a4, a5] 28 (0, 0))
theorem Six.lt {w : World} {g : Nat} {a0 a1 a2 a3 a4 a5 : Value} (h : Six w g a0 a1 a2 a3 a4 a5) : g < w.heap.size := (Array.getElem?_eq_some_iff.1 h.heap).1
theorem Six.pc {w : World} {g : Nat} {a0 a1 a2 a3 a4 a5 : Value} (h : Six w g a0 a1 a2 a3 a4 a5) : PC w g a0 a1 a2 a3 a4 a5 :=
 ⟨h.lt, by simp [World.cell?, h.heap], by simp [World.cell?, h.heap], by simp [World.cell?, h.heap], by simp [World.cell?, h.heap], by simp [World.cell?, h.heap], by simp [World.cell?, h.heap]⟩
theorem Six.warm {w : World} {g : Nat} {a0 a1 a2 a3 a4 a5 : Value} (h : Six w g a0 a1 a2 a3 a4 a5) (k : Nat) : w.frozen? ⟨g, k, none⟩ = false := by simp [World.frozen?, h.heap]
theorem Six.kept {w w' : World} {g : Nat} {a0 a1 a2 a3 a4 a5 : Value} (h : Six w g a0 a1 a2 a3 a4 a5) (hb : w'.heap[g]? = w.heap[g]?) : Six w' g a0 a1 a2 a3 a4 a5 := ⟨hb.trans h.heap⟩
theorem Six.below {w w' : World} {g : Nat} {a0 a1 a2 a3 a4 a5 : Value} (h : Six w g a0 a1 a2 a3 a4 a5) (hb : Below w.heap.size w w') : Six w' g a0 a1 a2 a3 a4 a5 := h.kept (hb.block g h.lt)
theorem Six.new (w : World) (a0 a1 a2 a3 a4 a5 : Value) : Six (w.alloc (.cells #[a0, a1, a2, a3, a4, a5] 28)) w.heap.size a0 a1 a2 a3 a4 a5 := ⟨heap_alloc_new w _⟩
theorem six_below {B : Nat} {w0 w : World} {g : Nat} (h : Below B w0 w) (hg : B ≤ g) (b0 b1 b2 b3 b4 b5 : Value) : Below B w0 ((((((w.setCell ⟨g, 0, none⟩ b0).setCell ⟨g, 1, none⟩ b1).setCell ⟨g, 2, none⟩ b2).setCell ⟨g, 3, none⟩ b3).setCell ⟨g, 4, none⟩ b4).setCell ⟨g, 5, none⟩ b5) :=
 (((((h.setCell (p := ⟨g, 0, none⟩) hg b0).setCell (p := ⟨g, 1, none⟩) hg b1).setCell (p := ⟨g, 2, none⟩) hg b2).setCell (p := ⟨g, 3, none⟩) hg b3).setCell (p := ⟨g, 4, none⟩) hg b4).setCell (p := ⟨g, 5, none⟩) hg b5
structure PS (w W : World) (g q : Nat) (nd : Nd) (v : Nat → Value) (n : Nat → Nat) (x : Nat → List Value) : Prop where
 hb : Below w.heap.size w W
 six : Six W w.heap.size (.slice none 0 0) (.slice none 0 0) (.slice none 0 0) (.slice none 0 0) (.slice none 0 0) (.slice none 0 0)
 own : Own6 W g (g + 1) v n x
 nd : NdC W q nd
 lo : w.heap.size < g
 gq : g < q
 aq : ∀ k, k < 6 → (v k).ownBlock ≠ some q
theorem PS.below {w W W' : World} {g q : Nat} {nd : Nd} {v : Nat → Value} {n : Nat → Nat} {x : Nat → List Value} (h : PS w W g q nd v n x) (hb : Below W.heap.size W W') : PS w W' g q nd v n x :=
 ⟨h.hb.trans (hb.mono h.hb.size), h.six.below hb, h.own.below hb, h.nd.below hb, h.lo, h.gq, h.aq⟩
structure Mid (W : World) (g q : Nat) (nd : Nd) (v : Nat → Value) : Prop where
 glt : g < W.heap.size
 qlt : q < W.heap.size
 gq : ¬ g = q
 qg : ¬ q = g
 c0 : W.cell? ⟨g, 0, none⟩ = some (v 0)
 c1 : W.cell? ⟨g, 1, none⟩ = some (v 1)
 c2 : W.cell? ⟨g, 2, none⟩ = some (v 2)
 c3 : W.cell? ⟨g, 3, none⟩ = some (v 3)
 c4 : W.cell? ⟨g, 4, none⟩ = some (v 4)
 c5 : W.cell? ⟨g, 5, none⟩ = some (v 5)
 warm : ∀ k, W.frozen? ⟨g, k, none⟩ = false
 d0 : W.cell? ⟨q, 0, none⟩ = some (.int .i64 nd.depth)
 d1 : W.cell? ⟨q, 1, none⟩ = some (.int .i64 nd.kind)
 d2 : W.cell? ⟨q, 2, none⟩ = some (.string nd.name)
 d3 : W.cell? ⟨q, 3, none⟩ = some (.int .i64 nd.num)
 d4 : W.cell? ⟨q, 4, none⟩ = some (.int .i64 nd.op)
 d5 : W.cell? ⟨q, 5, none⟩ = some (.int .i64 nd.pos)
theorem PS.mid {w W : World} {g q : Nat} {nd : Nd} {v : Nat → Value} {n : Nat → Nat} {x : Nat → List Value} (h : PS w W g q nd v n x) : Mid W g q nd v := by
 have := h.gq
 exact ⟨Nat.lt_of_lt_of_le h.own.gB h.own.lt, h.nd.lt, by omega, by omega, h.own.cell 0 (by omega), h.own.cell 1 (by omega), h.own.cell 2 (by omega), h.own.cell 3 (by omega), h.own.cell 4 (by omega), h.own.cell 5 (by omega), h.own.warm, h.nd.c0, h.nd.c1, h.nd.c2, h.nd.c3, h.nd.c4, h.nd.c5⟩
theorem PS.app {w W W2 : World} {g q k m : Nat} {nd : Nd} {v : Nat → Value} {n : Nat → Nat} {x : Nat → List Value} {u : Value} {y : List Value} (h : PS w W g q nd v n x) (hk : k < 6) (hg : W.grownBy W2 (v k).ownBlock) (ho : W2.ownsRow (g + 1) (TY k) (SZ k) u m y)
  (hw : u.ownBlock = (v k).ownBlock ∨ u.ownBlock = some W.heap.size) : Mid W2 g q nd v ∧ PS w (W2.setCell ⟨g, k, none⟩ u) g q nd (putAt v k u) (putAt n k m) (putAt x k y) := by
 have hgl : g < W.heap.size := Nat.lt_of_lt_of_le h.own.gB h.own.lt
 have hql := h.nd.lt
 have hz := hg.size
 have hlow : ∀ b, (v k).ownBlock = some b → g + 1 ≤ b := fun b e => ((h.own.own k hk).lt b e).1
 have hbg : W2.heap[g]? = W.heap[g]? := hg.block g hgl (fun e => by have := hlow g e.symm; omega)
 have hbq : W2.heap[q]? = W.heap[q]? := hg.block q hql (fun e => h.aq k hk e.symm)
 have hcg : ∀ j, W2.cell? ⟨g, j, none⟩ = W.cell? ⟨g, j, none⟩ := fun j => World.cell?_of_block (a := ⟨g, j, none⟩) hbg
 have hfg : ∀ j, W2.frozen? ⟨g, j, none⟩ = W.frozen? ⟨g, j, none⟩ := fun j => World.frozen?_of_block (a := ⟨g, j, none⟩) hbg
 have hcq : ∀ j, W2.cell? ⟨q, j, none⟩ = W.cell? ⟨q, j, none⟩ := fun j => World.cell?_of_block (a := ⟨q, j, none⟩) hbq
 have M := h.mid
 have hmid : Mid W2 g q nd v := ⟨by omega, by omega, M.gq, M.qg, (hcg 0).trans M.c0, (hcg 1).trans M.c1, (hcg 2).trans M.c2, (hcg 3).trans M.c3, (hcg 4).trans M.c4, (hcg 5).trans M.c5, fun j => (hfg j).trans (M.warm j), (hcq 0).trans M.d0, (hcq 1).trans M.d1, (hcq 2).trans M.d2, (hcq 3).trans M.d3, (hcq 4).trans M.d4, (hcq 5).trans M.d5⟩
 have hlo := h.lo
 have hgq := h.gq
 have hq2 : (W2.setCell ⟨g, k, none⟩ u).heap[q]? = W2.heap[q]? := Below.heap_setCell W2 ⟨g, k, none⟩ u q M.qg
 have hx2 : (W2.setCell ⟨g, k, none⟩ u).heap[w.heap.size]? = W.heap[w.heap.size]? := (Below.heap_setCell W2 ⟨g, k, none⟩ u _ (show w.heap.size ≠ g by omega)).trans (hg.block _ h.six.lt (fun e => by have := hlow _ e.symm; omega))
 have hcq2 : ∀ j, (W2.setCell ⟨g, k, none⟩ u).cell? ⟨q, j, none⟩ = W.cell? ⟨q, j, none⟩ := fun j => (World.cell?_of_block (a := ⟨q, j, none⟩) hq2).trans (hcq j)
 refine ⟨hmid, ⟨(h.hb.grown hg h.hb.size (fun b e => by have := hlow b e; omega)).setCell (p := ⟨g, k, none⟩) (by show w.heap.size ≤ g; omega) u, h.six.kept hx2, h.own.grow hk hg ho hw, ⟨by simp; omega, (hcq2 0).trans M.d0, (hcq2 1).trans M.d1, (hcq2 2).trans M.d2, (hcq2 3).trans M.d3, (hcq2 4).trans M.d4, (hcq2 5).trans M.d5⟩, h.lo, h.gq, fun j hj => ?_⟩⟩
 by_cases e : j = k
 ·subst e
  simp only [putAt, if_true]
  rcases hw with hw | hw
  ·rw [hw]; exact h.aq j hj
  ·rw [hw]; simp; omega
 ·simp only [putAt, if_neg e]
  exact h.aq j hj
theorem Own6.congr {w : World} {g B : Nat} {v v' : Nat → Value} {n n' : Nat → Nat} {x x' : Nat → List Value} (h : Own6 w g B v n x) (hv : ∀ k, k < 6 → v k = v' k) (hn : ∀ k, k < 6 → n k = n' k) (hx : ∀ k, k < 6 → x k = x' k) : Own6 w g B v' n' x' :=
 ⟨h.gB, h.lt, fun k hk => by rw [← hv k hk, ← hn k hk, ← hx k hk]; exact h.own k hk, fun j k hj hk hjk => by rw [← hv j hj, ← hv k hk]; exact h.apart j k hj hk hjk, fun k hk => by rw [← hv k hk]; exact h.cell k hk, h.warm⟩
end
end Go.Proofs.YtklkpaekdpaloaaDoor
