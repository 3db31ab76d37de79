import Derived.Test.YtjngjanheoeojaaDoorSay
namespace Go.Proofs.YtjngjanheoeojaaDoor
set_option linter.unusedVariables false
set_option linter.unusedSimpArgs false
open Go.RowKit
abbrev ndVal (n : Nd) : Value := .agg #[.int .i64 n.depth, .int .i64 n.kind, .string n.name, .int .i64 n.num, .int .i64 n.op, .int .i64 n.pos]
/-- What stays while print writes: all below bn, and every block but bn, bt and rows of bytes. -/
structure Kp (bn bt : Nat) (w w' : World) : Prop where
  low : Below bn w w'
  others : ∀ k o, w.heap[k]? = some o → k ≠ bn → k ≠ bt → (∀ c fz, o ≠ .cells c 5 fz) → w'.heap[k]? = some o
theorem Kp.refl (bn bt : Nat) (w : World) : Kp bn bt w w := ⟨Below.refl _ _, fun _ _ h _ _ _ => h⟩
theorem Kp.trans {bn bt : Nat} {a b c : World} (h : Kp bn bt a b) (k : Kp bn bt b c) : Kp bn bt a c := ⟨h.low.trans k.low, fun i o hi h1 h2 h3 => k.others i o (h.others i o hi h1 h2 h3) h1 h2 h3⟩
theorem Kp.of {bn bt : Nat} {w w' : World} (h : Below w.heap.size w w') (hb : bn ≤ w.heap.size) : Kp bn bt w w' :=
  ⟨h.mono hb, fun k _ hk _ _ _ => (h.block k (Array.getElem?_eq_some_iff.1 hk).1).trans hk⟩
theorem Kp.bld {bn bt : Nat} {w w' : World} (h : Below bt w w') (ho : Lib.OthersKept 5 (some bt) w w') (hb : bn ≤ bt) : Kp bn bt w w' :=
  ⟨h.mono hb, fun k o hk _ h2 h3 => ho k o hk (by simpa using h2) h3⟩
theorem Kp.box {bn bt e : Nat} {w w' : World} {v : Value} {T : TypeId} (h : Kp bn bt w w') (hk : w.heap[e]? = some (.cells #[v] T (0, 0))) (h1 : bt < e) (h0 : bn < bt) (hT : T ≠ 5) : w'.heap[e]? = some (.cells #[v] T (0, 0)) :=
  h.others e _ hk (by omega) (by omega) (fun c fz hc => by injection hc with _ h2 _; exact hT h2)
theorem NodesAt.low {w w1 : World} {b o B : Nat} {ns : List Nd} (h : NodesAt w b o ns) (hb : Below B w w1) (hB : b < B) : NodesAt w1 b o ns := by
  have hc : ∀ o, w1.cell? ⟨b, o, none⟩ = w.cell? ⟨b, o, none⟩ := fun o => hb.cell (p := ⟨b, o, none⟩) hB
  have hz := hb.size
  have := h.lt
  exact ⟨by omega, fun i hi => by rw [hc]; exact h.c0 i hi, fun i hi => by rw [hc]; exact h.c1 i hi, fun i hi => by rw [hc]; exact h.c2 i hi, fun i hi => by rw [hc]; exact h.c3 i hi, fun i hi => by rw [hc]; exact h.c4 i hi, fun i hi => by rw [hc]; exact h.c5 i hi⟩
theorem NodesAt.tail {w : World} {b o : Nat} {n : Nd} {ns : List Nd} (h : NodesAt w b o (n :: ns)) : NodesAt w b (o + 6) ns := by
  have e : ∀ i k : Nat, o + (i + 1) * 6 + k = o + 6 + i * 6 + k := fun i k => by omega
  have e0 : ∀ i : Nat, o + (i + 1) * 6 = o + 6 + i * 6 := fun i => by omega
  exact ⟨h.lt, fun i hi => by rw [← e0]; exact h.c0 (i + 1) (by simpa using hi), fun i hi => by rw [← e]; exact h.c1 (i + 1) (by simpa using hi), fun i hi => by rw [← e]; exact h.c2 (i + 1) (by simpa using hi), fun i hi => by rw [← e]; exact h.c3 (i + 1) (by simpa using hi), fun i hi => by rw [← e]; exact h.c4 (i + 1) (by simpa using hi), fun i hi => by rw [← e]; exact h.c5 (i + 1) (by simpa using hi)⟩
theorem NodesAt.none {w : World} {b o : Nat} (h : b < w.heap.size) : NodesAt w b o [] :=
  ⟨h, fun i hi => by simp at hi, fun i hi => by simp at hi, fun i hi => by simp at hi, fun i hi => by simp at hi, fun i hi => by simp at hi, fun i hi => by simp at hi⟩
/-- Where print stands: the nodes that are left, the text so far. -/
structure Pr (bn bt b : Nat) (rest : List Nd) (txt : List UInt8) (w : World) : Prop where
  ns : ∃ o cap, w.heap[bn]? = some (.cells #[.slice (some ⟨b, o, none⟩) rest.length cap] 22 (0, 0)) ∧ rest.length ≤ cap ∧ NodesAt w b o rest
  bld : Lib.IsBuilderF 53 5 bt bt (Lib.byteCells txt) w
  lo : b < bn
  mid : bn < bt
theorem Pr.hi {bn bt b : Nat} {rest : List Nd} {txt : List UInt8} {w : World} (h : Pr bn bt b rest txt w) : bt < w.heap.size := bld_lt h.bld
/-- New blocks alone. -/
theorem Pr.below {bn bt b : Nat} {rest : List Nd} {txt : List UInt8} {w w' : World} (h : Pr bn bt b rest txt w) (hb : Below w.heap.size w w') : Pr bn bt b rest txt w' := by
  obtain ⟨o, cap, h1, h2, h3⟩ := h.ns
  have hhi := h.hi
  have := h.mid
  exact ⟨⟨o, cap, by rw [hb.block bn (by omega)]; exact h1, h2, h3.below hb⟩, bld_same h.bld (fun k _ hk => hb.block k hk), h.lo, h.mid⟩
/-- The text grows. -/
theorem Pr.wrote {bn bt b : Nat} {rest : List Nd} {txt t : List UInt8} {w w' : World} (h : Pr bn bt b rest txt w) (hI : Lib.IsBuilderF 53 5 bt bt (Lib.byteCells (txt ++ t)) w') (hb : Below bt w w') : Pr bn bt b rest (txt ++ t) w' := by
  obtain ⟨o, cap, h1, h2, h3⟩ := h.ns
  have := h.mid
  have := h.lo
  exact ⟨⟨o, cap, by rw [hb.block bn h.mid]; exact h1, h2, h3.low hb (by omega)⟩, hI, h.lo, h.mid⟩
theorem heap_set {w : World} {b : Nat} {v u : Value} {T : TypeId} (h : w.heap[b]? = some (.cells #[u] T (0, 0))) : (w.setCell ⟨b, 0, none⟩ v).heap[b]? = some (.cells #[v] T (0, 0)) := by
  simp [World.setCell, Array.getElem?_modify, h]
theorem Tryd.info31 : (Tryd.prog.info? 31).map (·.size) = some 6 := by kernel_rfl
set_option maxHeartbeats 1000000 in
theorem take_any (bn bt b : Nat) (n : Nd) (rest : List Nd) (txt : List UInt8) (w : World) (h : Pr bn bt b (n :: rest) txt w) :
    Calls Tryd.prog 21 #[.pointer (some ⟨bn, 0, none⟩)] w fun e w' => e = .returned (ndVal n) ∧ Pr bn bt b rest txt w' ∧ Kp bn bt w w' := by
  obtain ⟨o, cap, h1, h2, h3⟩ := h.ns
  have hhi := h.hi
  have hmid := h.mid
  have hlo := h.lo
  have hc : w.cell? ⟨bn, 0, none⟩ = some (.slice (some ⟨b, o, none⟩) (rest.length + 1) cap) := by rw [Lib.cell_of_heap h1]; rfl
  have hf : w.frozen? ⟨bn, 0, none⟩ = false := Lib.frozen_of_heap h1 0
  have c0 : w.cell? ⟨b, o, none⟩ = some (.int .i64 n.depth) := h3.c0 0 (by simp)
  have c1 : w.cell? ⟨b, o + 1, none⟩ = some (.int .i64 n.kind) := h3.c1 0 (by simp)
  have c2 : w.cell? ⟨b, o + 2, none⟩ = some (.string n.name) := h3.c2 0 (by simp)
  have c3 : w.cell? ⟨b, o + 3, none⟩ = some (.int .i64 n.num) := h3.c3 0 (by simp)
  have c4 : w.cell? ⟨b, o + 4, none⟩ = some (.int .i64 n.op) := h3.c4 0 (by simp)
  have c5 : w.cell? ⟨b, o + 5, none⟩ = some (.int .i64 n.pos) := h3.c5 0 (by simp)
  have hcap : rest.length + 1 ≤ cap := by simpa using h2
  have hbn : bn < w.heap.size := by omega
  have hb : b < w.heap.size := by omega
  have hne : ¬ bn = w.heap.size := by omega
  have hne2 : ¬ b = w.heap.size := by omega
  have hne3 : ¬ bn = w.heap.size + 1 := by omega
  have hne4 : ¬ b = w.heap.size + 1 := by omega
  have fin : ∀ o' cap' (x y : Obj), rest.length ≤ cap' → NodesAt w b o' rest →
      Pr bn bt b rest txt (((w.setCell ⟨bn, 0, none⟩ (.slice (some ⟨b, o', none⟩) rest.length cap')).alloc x).alloc y) ∧ Kp bn bt w (((w.setCell ⟨bn, 0, none⟩ (.slice (some ⟨b, o', none⟩) rest.length cap')).alloc x).alloc y) := by
    intro o' cap' x y hcp hN
    have hS : Below bn w (w.setCell ⟨bn, 0, none⟩ (.slice (some ⟨b, o', none⟩) rest.length cap')) := (Below.refl bn w).setCell (p := ⟨bn, 0, none⟩) (Nat.le_refl bn) _
    have hq : ∀ k, k ≠ bn → (w.setCell ⟨bn, 0, none⟩ (.slice (some ⟨b, o', none⟩) rest.length cap')).heap[k]? = w.heap[k]? := fun k hk => Below.heap_setCell w ⟨bn, 0, none⟩ _ k hk
    have hz : (w.setCell ⟨bn, 0, none⟩ (.slice (some ⟨b, o', none⟩) rest.length cap')).heap.size = w.heap.size := by simp
    have P1 : Pr bn bt b rest txt (w.setCell ⟨bn, 0, none⟩ (.slice (some ⟨b, o', none⟩) rest.length cap')) :=
      ⟨⟨o', cap', heap_set h1, hcp, hN.low hS hlo⟩, bld_same h.bld (fun k hk _ => hq k (by omega)), hlo, hmid⟩
    have K1 : Kp bn bt w (w.setCell ⟨bn, 0, none⟩ (.slice (some ⟨b, o', none⟩) rest.length cap')) := ⟨hS, fun k _ hk h1 _ _ => (hq k h1).trans hk⟩
    have B2 : Below (w.setCell ⟨bn, 0, none⟩ (.slice (some ⟨b, o', none⟩) rest.length cap')).heap.size (w.setCell ⟨bn, 0, none⟩ (.slice (some ⟨b, o', none⟩) rest.length cap')) (((w.setCell ⟨bn, 0, none⟩ (.slice (some ⟨b, o', none⟩) rest.length cap')).alloc x).alloc y) :=
      ((Below.refl _ _).alloc (Nat.le_refl _) _).alloc (by simp) _
    exact ⟨P1.below B2, K1.trans (Kp.of B2 (by rw [hz]; omega))⟩
  have hres : Hid (∀ (v : Value) (x y : Obj), (((w.setCell ⟨bn, 0, none⟩ v).alloc x).alloc y).heap[w.heap.size]? = some x) := by
    intro v x y
    have h9 := heap_alloc2_old (w.setCell ⟨bn, 0, none⟩ v) x y
    have hz : (w.setCell ⟨bn, 0, none⟩ v).heap.size = w.heap.size := by simp
    rw [hz] at h9
    exact h9
  have HF : Hid _ := fin
  have HN : Hid (NodesAt w b o (n :: rest)) := h3
  clear fin h h1 h2 h3
  unfold ndVal
  go_enter Tryd.func21, Tryd.ntmps21
  go_wp2_with fail
  · have hm : rest = [] := by rw [← List.length_eq_zero_iff]; omega
    try simp only [Exit.inBlock, Exit.then]
    refine bodyPost_ret (results_cell_row rfl _ _ w.heap.size 31 _ (0, 0) _ rfl (hres.out _ _ _) Tryd.underlying31 rfl Tryd.info31) rfl ?_
    refine ⟨rfl, HF.out _ _ _ _ (by omega) ?_⟩
    rw [hm]; exact NodesAt.none (by omega)
  · try simp only [Exit.inBlock, Exit.then]
    refine bodyPost_ret (results_cell_row rfl _ _ w.heap.size 31 _ (0, 0) _ rfl (hres.out _ _ _) Tryd.underlying31 rfl Tryd.info31) rfl ?_
    exact ⟨rfl, HF.out _ _ _ _ (by omega) HN.out.tail⟩
/-- more: is there a node that is deeper? -/
def moreB (d : Int) : List Nd → Bool
  | [] => false
  | n :: _ => decide (d < n.depth)
set_option maxHeartbeats 1000000 in
theorem more_any (bn bt b : Nat) (m : Nd) (rest : List Nd) (txt : List UInt8) (w : World) (h : Pr bn bt b rest txt w) :
    Calls Tryd.prog 22 #[ndVal m, .pointer (some ⟨bn, 0, none⟩)] w fun e w' => e = .returned (.bool (moreB m.depth rest)) ∧ Below w.heap.size w w' := by
  obtain ⟨o, cap, h1, h2, h3⟩ := h.ns
  have hhi := h.hi
  have hmid := h.mid
  have hlo := h.lo
  have hc : w.cell? ⟨bn, 0, none⟩ = some (.slice (some ⟨b, o, none⟩) rest.length cap) := by rw [Lib.cell_of_heap h1]; rfl
  have hbn : bn < w.heap.size := by omega
  have hb : b < w.heap.size := by omega
  have hne : ¬ bn = w.heap.size := by omega
  have hne2 : ¬ b = w.heap.size := by omega
  cases rest with
  | nil =>
    clear h h1 h2 h3
    unfold ndVal
    go_enter Tryd.func22, Tryd.ntmps22
    go_wp2_with fail
    go_quiet (fail)
    go_wp2_with fail
    go_ret
    exact ⟨rfl, below_drewN ((Below.refl _ _).alloc (Nat.le_refl _) _) _⟩
  | cons n rest =>
    have c0 : w.cell? ⟨b, o, none⟩ = some (.int .i64 n.depth) := h3.c0 0 (by simp)
    have hl : 0 < (rest.length : Int) + 1 := by omega
    rw [List.length_cons] at hc
    clear h h1 h2 h3
    unfold ndVal
    go_enter Tryd.func22, Tryd.ntmps22
    go_wp2_with fail
    go_quiet (fail)
    go_wp2_with fail
    go_ret
    exact ⟨rfl, below_drewN ((Below.refl _ _).alloc (Nat.le_refl _) _) _⟩
end Go.Proofs.YtjngjanheoeojaaDoor
