import Derived.Test.YtjngjanheoeojaaDoorBare
import Derived.Deep.RegionHeld3
namespace Go.Proofs.YtjngjanheoeojaaDoor
set_option linter.unusedVariables false
set_option linter.unusedSimpArgs false
open Go.RowKit
/-- What 'bare' does of a node and what it holds. -/
def BareC (e bn bt b : Nat) (l : List Nd) (t : List UInt8) : Prop :=
  ∀ n l', l = n :: l' → ∀ (r : List Nd) (txt : List UInt8) (w : World), Pr bn bt b (l' ++ r) txt w → ExEnv e bn bt w → Gl bn w → txt.length + t.length ≤ 900000 →
    Calls Tryd.prog 54 #[ndVal n, .pointer (some ⟨e + 1, 0, none⟩), .pointer (some ⟨e + 2, 0, none⟩)] w fun x w' => x = .returned (.tuple #[]) ∧ Pr bn bt b r (txt ++ t) w' ∧ Kp bn bt w w'
def ExprC (e bn bt b : Nat) (l : List Nd) (lv : Nat) (t : List UInt8) : Prop :=
  ∀ (want : Nat) (r : List Nd) (txt : List UInt8) (w : World), want ≤ 7 → Pr bn bt b (l ++ r) txt w → ExEnv e bn bt w → Gl bn w → txt.length + (brk want lv t).length ≤ 900000 →
    Calls Tryd.prog 57 #[.int .i64 want, .pointer (some ⟨e, 0, none⟩), .pointer (some ⟨e + 3, 0, none⟩), .pointer (some ⟨e + 1, 0, none⟩)] w fun x w' => x = .returned (.tuple #[]) ∧ Pr bn bt b r (txt ++ brk want lv t) w' ∧ Kp bn bt w w'
theorem Fine.ops {n : Nd} (h : Fine n) : rOp0 n.kind.toNat ≤ n.op ∧ n.op ≤ rOp1 n.kind.toNat ∧ 0 ≤ n.num ∧ n.num ≤ rMost n.kind.toNat := by
  have := h.fit
  unfold fitN fitB at this
  simp only [Bool.and_eq_true, decide_eq_true_eq] at this
  omega
theorem say_pr (bn bt b n cap q : Nat) (rest : List Nd) (txt : List UInt8) (W : World) (hq : q = W.heap.size) (ps : List ByteArray) (vs : Array Value) (hvs : vs = (ps.map Value.string).toArray) (hn : n = ps.length) (h : Pr bn bt b rest txt W) (hlen : txt.length + (cat ps).length ≤ 1000000) (hps : ps.length ≤ 10) :
    Calls Tryd.prog 19 #[.slice (some ⟨q, 0, none⟩) n cap, .pointer (some ⟨bt, 0, none⟩)] (W.alloc (.cells vs 9)) fun x w' => x = .returned (.tuple #[]) ∧ Pr bn bt b rest (txt ++ cat ps) w' ∧ Kp bn bt W w' := by
  subst hvs hn hq
  have hB : Below W.heap.size W (W.alloc (.cells (ps.map Value.string).toArray 9)) := (Below.refl _ _).alloc (Nat.le_refl _) _
  have hhi := h.hi
  have hmid := h.mid
  refine (say_any bt W.heap.size cap ps txt _ (heap_alloc_new W _) (by omega) (h.below hB).bld hlen hps).mono ?_
  rintro x w' ⟨rfl, h1, h2, h3⟩
  exact ⟨rfl, (h.below hB).wrote h1 h2, (Kp.of hB (by omega)).trans (Kp.bld h2 h3 (by omega))⟩
theorem Kp.blk {bn bt k : Nat} {w w' : World} {c : Array Value} {T : TypeId} (h : Kp bn bt w w') (hk : w.heap[k]? = some (.cells c T (0, 0))) (h1 : bt < k) (h0 : bn < bt) (hT : T ≠ 5) : w'.heap[k]? = some (.cells c T (0, 0)) :=
  h.others k _ hk (by omega) (by omega) (fun c fz hc => by injection hc with _ h2 _; exact hT h2)
theorem Kp.drew {bn bt : Nat} {w w' : World} (h : Kp bn bt w.drew w') : Kp bn bt w w' := ⟨⟨h.low.os, h.low.tape, h.low.output, h.low.size, h.low.block⟩, h.others⟩
theorem Pr.drew {bn bt b : Nat} {rest : List Nd} {txt : List UInt8} {w : World} (h : Pr bn bt b rest txt w) : Pr bn bt b rest txt w.drew := h.below (Below.refl _ _).drew
/-- Inside 'bare': the node in block q, its operator in block q + 1. -/
structure In (w0 : World) (e bn bt b q : Nat) (n : Nd) (k : Nat) (rest : List Nd) (txt : List UInt8) (W : World) : Prop where
  kp : Kp bn bt w0 W
  pr : Pr bn bt b rest txt W
  env : ExEnv e bn bt W
  gl : Gl bn W
  nd : W.heap[q]? = some (.cells #[.int .i64 n.depth, .int .i64 n.kind, .string n.name, .int .i64 n.num, .int .i64 n.op, .int .i64 n.pos] 31 (0, 0))
  op : W.heap[q + 1]? = some (.cells #[.string ⟨(sgn k).toArray⟩, .int .i64 (lvl k)] 98 (0, 0))
  lt : bt < q
theorem In.next {e bn bt b q : Nat} {n : Nd} {k : Nat} {rest rest' : List Nd} {txt txt' : List UInt8} {w0 W W' : World} (h : In w0 e bn bt b q n k rest txt W) (hp : Pr bn bt b rest' txt' W') (hk : Kp bn bt W W') : In w0 e bn bt b q n k rest' txt' W' := by
  have hm := h.pr.mid
  have := h.lt
  exact ⟨h.kp.trans hk, hp, h.env.kept hk hm, h.gl.low hk.low, hk.blk h.nd (by omega) hm (by decide), hk.blk h.op (by omega) hm (by decide), h.lt⟩
theorem In.below {e bn bt b q : Nat} {n : Nd} {k : Nat} {rest : List Nd} {txt : List UInt8} {w0 W W' : World} (h : In w0 e bn bt b q n k rest txt W) (hb : Below W.heap.size W W') : In w0 e bn bt b q n k rest txt W' := by
  have := h.pr.hi
  have := h.pr.mid
  exact h.next (h.pr.below hb) (Kp.of hb (by omega))
theorem In.drew {e bn bt b q : Nat} {n : Nd} {k : Nat} {rest : List Nd} {txt : List UInt8} {w0 W : World} (h : In w0 e bn bt b q n k rest txt W) : In w0 e bn bt b q n k rest txt W.drew := h.below (Below.refl _ _).drew
theorem In.csay {e bn bt b q : Nat} {n : Nd} {k : Nat} {rest : List Nd} {txt : List UInt8} {w0 W : World} (h : In w0 e bn bt b q n k rest txt W) : W.cell? ⟨e + 1, 0, none⟩ = some (.func (.func 19) #[] #[.pointer (some ⟨bt, 0, none⟩)]) := by rw [Lib.cell_of_heap h.env.say]; rfl
theorem In.cexp {e bn bt b q : Nat} {n : Nd} {k : Nat} {rest : List Nd} {txt : List UInt8} {w0 W : World} (h : In w0 e bn bt b q n k rest txt W) : W.cell? ⟨e + 2, 0, none⟩ = some (.func (.func 57) #[] #[.pointer (some ⟨e, 0, none⟩), .pointer (some ⟨e + 3, 0, none⟩), .pointer (some ⟨e + 1, 0, none⟩)]) := by rw [Lib.cell_of_heap h.env.expr]; rfl
theorem In.cname {e bn bt b q : Nat} {n : Nd} {k : Nat} {rest : List Nd} {txt : List UInt8} {w0 W : World} (h : In w0 e bn bt b q n k rest txt W) : W.cell? ⟨q, 2, none⟩ = some (.string n.name) := by rw [Lib.cell_of_heap h.nd]; rfl
theorem In.cnum {e bn bt b q : Nat} {n : Nd} {k : Nat} {rest : List Nd} {txt : List UInt8} {w0 W : World} (h : In w0 e bn bt b q n k rest txt W) : W.cell? ⟨q, 3, none⟩ = some (.int .i64 n.num) := by rw [Lib.cell_of_heap h.nd]; rfl
theorem In.csign {e bn bt b q : Nat} {n : Nd} {k : Nat} {rest : List Nd} {txt : List UInt8} {w0 W : World} (h : In w0 e bn bt b q n k rest txt W) : W.cell? ⟨q + 1, 0, none⟩ = some (.string ⟨(sgn k).toArray⟩) := by rw [Lib.cell_of_heap h.op]; rfl
theorem In.clev {e bn bt b q : Nat} {n : Nd} {k : Nat} {rest : List Nd} {txt : List UInt8} {w0 W : World} (h : In w0 e bn bt b q n k rest txt W) : W.cell? ⟨q + 1, 1, none⟩ = some (.int .i64 (lvl k)) := by rw [Lib.cell_of_heap h.op]; rfl
theorem In.sz {e bn bt b q : Nat} {n : Nd} {k : Nat} {rest : List Nd} {txt : List UInt8} {w0 W : World} (h : In w0 e bn bt b q n k rest txt W) : e + 1 < W.heap.size ∧ e + 2 < W.heap.size ∧ q < W.heap.size ∧ q + 1 < W.heap.size ∧ ¬ e + 1 = W.heap.size ∧ ¬ e + 2 = W.heap.size ∧ ¬ q = W.heap.size ∧ ¬ q + 1 = W.heap.size := by
  have h1 := (Array.getElem?_eq_some_iff.1 h.env.say).1
  have h2 := (Array.getElem?_eq_some_iff.1 h.env.expr).1
  have h3 := (Array.getElem?_eq_some_iff.1 h.nd).1
  have h4 := (Array.getElem?_eq_some_iff.1 h.op).1
  omega
theorem lvl_le {k : Nat} (h : 3 ≤ k ∧ k ≤ 15) : lvl k ≤ 5 := by
  have : ∀ j : Fin 16, 3 ≤ (j : Nat) → lvl j ≤ 5 := by decide
  exact this ⟨k, by omega⟩ h.1
def boolT (v : Int) : List UInt8 := if v = 1 then [116, 114, 117, 101] else [102, 97, 108, 115, 101]
theorem truthT_any (v : Int) (w : World) : Calls Tryd.prog 55 #[.int .i64 v] w fun e w' => e = .returned (.string ⟨(boolT v).toArray⟩) ∧ w' = w := truth_any v w
theorem cat1 (l : List UInt8) : cat [⟨l.toArray⟩] = l := by simp [cat]
set_option maxHeartbeats 2000000 in
theorem bare_num (e bn bt b d : Nat) (n : Nd) (hd : n.depth = d) (hf : Fine n) (hk : n.kind = 10) : BareC e bn bt b [n] (Lib.itoa n.num) := by
  rintro n' l' hl r txt w hP hE hG hlen
  injection hl with h1 h2
  subst h1 h2
  have hops := hf.ops
  have hhi := hP.hi
  have hmid := hP.mid
  rw [hk] at hops
  have hop : n.op = 0 := by simp [rOp0, rOp1] at hops; omega
  have hnum : 0 ≤ n.num ∧ n.num ≤ 9223372036854775807 := by simp [rMost] at hops; omega
  have g0 := hG.ops.sign 0 (by omega)
  have g1 := hG.ops.level 0 (by omega)
  have hes : e + 3 < w.heap.size := (Array.getElem?_eq_some_iff.1 hE.bare).1
  have a1 : w.cell? ⟨e + 1, 0, none⟩ = some (.func (.func 19) #[] #[.pointer (some ⟨bt, 0, none⟩)]) := by rw [Lib.cell_of_heap hE.say]; rfl
  have a2 : w.cell? ⟨e + 2, 0, none⟩ = some (.func (.func 57) #[] #[.pointer (some ⟨e, 0, none⟩), .pointer (some ⟨e + 3, 0, none⟩), .pointer (some ⟨e + 1, 0, none⟩)]) := by rw [Lib.cell_of_heap hE.expr]; rfl
  have a3 : e + 2 < w.heap.size := by omega
  have a4 : e + 1 < w.heap.size := by omega
  have a5 : ¬ e = w.heap.size := by omega
  have a8 : e < w.heap.size := by omega
  have a6 : ¬ e + 1 = w.heap.size := by omega
  have a7 : ¬ e + 2 = w.heap.size := by omega
  have hw1 : 1 < w.heap.size := hG.ops.lt
  have hne1 : ¬ 1 = w.heap.size := by omega
  have hB0 : Below w.heap.size w ((w.alloc (.cells #[.int .i64 n.depth, .int .i64 n.kind, .string n.name, .int .i64 n.num, .int .i64 n.op, .int .i64 n.pos] 31)).alloc (.cells #[.string ⟨(sgn 0).toArray⟩, .int .i64 (lvl 0)] 98)) :=
    ((Below.refl _ _).alloc (Nat.le_refl _) _).alloc (by simp) _
  have hI0 : In w e bn bt b w.heap.size n 0 ([] ++ r) txt ((w.alloc (.cells #[.int .i64 n.depth, .int .i64 n.kind, .string n.name, .int .i64 n.num, .int .i64 n.op, .int .i64 n.pos] 31)).alloc (.cells #[.string ⟨(sgn 0).toArray⟩, .int .i64 (lvl 0)] 98)) :=
    ⟨Kp.of hB0 (by omega), hP.below hB0, hE.kept (Kp.of hB0 (by omega)) hmid, hG.low (hB0.mono (by omega)), heap_alloc2_old _ _ _, heap_alloc2_new _ _ _, hhi⟩
  unfold ndVal
  rw [hk, hop] at hI0 ⊢
  obtain ⟨W, hW⟩ : ∃ W, W = ((w.alloc (.cells #[.int .i64 n.depth, .int .i64 10, .string n.name, .int .i64 n.num, .int .i64 0, .int .i64 n.pos] 31)).alloc (.cells #[.string ⟨(sgn 0).toArray⟩, .int .i64 (lvl 0)] 98)) := ⟨_, rfl⟩
  rw [← hW] at hI0
  have HZ : Hid (w.heap.size + 1 + 1 = W.heap.size) := by unfold Hid; rw [hW]; simp
  have HW : Hid _ := hW
  clear hW
  have HI0 : Hid _ := hI0
  have HE0 : Hid _ := hE
  have HG0 : Hid _ := hG
  clear hP hE hG hops hB0 hI0 hd
  go_enter Tryd.func54, Tryd.ntmps54
  go_wp2_with fail
  rw [← HW.out]
  clear g0 g1 a1 a2 a3 a4 a5 a6 a7 a8
  have HL1 : Hid (txt.length + (cat [⟨(Lib.itoa n.num).toArray⟩]).length ≤ 1000000) := by unfold Hid; simp [cat]; omega
  have c0 := HI0.out.csay; have c1 := HI0.out.cnum; obtain ⟨z0, z1, z2, z3, z4, z5, z6, z7⟩ := HI0.out.sz
  go_region_held3 (fun w' => w'.cell? ⟨e + 1, 0, none⟩ = some (.func (.func 19) #[] #[.pointer (some ⟨bt, 0, none⟩)]) ∧ w'.cell? ⟨w.heap.size, 3, none⟩ = some (.int .i64 n.num)) (go_keep)
    (first
    | (go_at_call 41; refine (print_any n.num (by omega) (by omega) _ (HI0.out.drew.gl.tab.here)).mono ?_; rintro x w1 ⟨rfl, hb1⟩; have HI1 : Hid _ := HI0.out.drew.below hb1; have d0 := HI1.out.csay; have d1 := HI1.out.cnum; obtain ⟨y0, y1, y2, y3, y4, y5, y6, y7⟩ := HI1.out.sz)
    | (go_at_call 19; refine (say_pr bn bt b 1 1 _ _ _ _ rfl [⟨(Lib.itoa n.num).toArray⟩] _ rfl rfl HI1.out.pr HL1.out (by simp)).mono ?_; rintro x w2 ⟨rfl, hp2, hk2⟩; have HI2 : Hid _ := HI1.out.next hp2 hk2; have f0 := HI2.out.csay; have f1 := HI2.out.cnum))
  go_wp2_with fail
  go_end0
  exact ⟨rfl, by simpa [cat] using HI2.out.pr, HI2.out.kp⟩
set_option maxHeartbeats 2000000 in
theorem bare_bool (e bn bt b d : Nat) (n : Nd) (hd : n.depth = d) (hf : Fine n) (hk : n.kind = 11) : BareC e bn bt b [n] (boolT n.num) := by
  rintro n' l' hl r txt w hP hE hG hlen
  injection hl with h1 h2
  subst h1 h2
  have hops := hf.ops
  have hhi := hP.hi
  have hmid := hP.mid
  rw [hk] at hops
  have hop : n.op = 0 := by simp [rOp0, rOp1] at hops; omega
  have g0 := hG.ops.sign 0 (by omega)
  have g1 := hG.ops.level 0 (by omega)
  have hes : e + 3 < w.heap.size := (Array.getElem?_eq_some_iff.1 hE.bare).1
  have a1 : w.cell? ⟨e + 1, 0, none⟩ = some (.func (.func 19) #[] #[.pointer (some ⟨bt, 0, none⟩)]) := by rw [Lib.cell_of_heap hE.say]; rfl
  have a2 : w.cell? ⟨e + 2, 0, none⟩ = some (.func (.func 57) #[] #[.pointer (some ⟨e, 0, none⟩), .pointer (some ⟨e + 3, 0, none⟩), .pointer (some ⟨e + 1, 0, none⟩)]) := by rw [Lib.cell_of_heap hE.expr]; rfl
  have a3 : e + 2 < w.heap.size := by omega
  have a4 : e + 1 < w.heap.size := by omega
  have a5 : ¬ e = w.heap.size := by omega
  have a8 : e < w.heap.size := by omega
  have a6 : ¬ e + 1 = w.heap.size := by omega
  have a7 : ¬ e + 2 = w.heap.size := by omega
  have hw1 : 1 < w.heap.size := hG.ops.lt
  have hne1 : ¬ 1 = w.heap.size := by omega
  have hB0 : Below w.heap.size w ((w.alloc (.cells #[.int .i64 n.depth, .int .i64 n.kind, .string n.name, .int .i64 n.num, .int .i64 n.op, .int .i64 n.pos] 31)).alloc (.cells #[.string ⟨(sgn 0).toArray⟩, .int .i64 (lvl 0)] 98)) :=
    ((Below.refl _ _).alloc (Nat.le_refl _) _).alloc (by simp) _
  have hI0 : In w e bn bt b w.heap.size n 0 ([] ++ r) txt ((w.alloc (.cells #[.int .i64 n.depth, .int .i64 n.kind, .string n.name, .int .i64 n.num, .int .i64 n.op, .int .i64 n.pos] 31)).alloc (.cells #[.string ⟨(sgn 0).toArray⟩, .int .i64 (lvl 0)] 98)) :=
    ⟨Kp.of hB0 (by omega), hP.below hB0, hE.kept (Kp.of hB0 (by omega)) hmid, hG.low (hB0.mono (by omega)), heap_alloc2_old _ _ _, heap_alloc2_new _ _ _, hhi⟩
  unfold ndVal
  rw [hk, hop] at hI0 ⊢
  obtain ⟨W, hW⟩ : ∃ W, W = ((w.alloc (.cells #[.int .i64 n.depth, .int .i64 11, .string n.name, .int .i64 n.num, .int .i64 0, .int .i64 n.pos] 31)).alloc (.cells #[.string ⟨(sgn 0).toArray⟩, .int .i64 (lvl 0)] 98)) := ⟨_, rfl⟩
  rw [← hW] at hI0
  have HZ : Hid (w.heap.size + 1 + 1 = W.heap.size) := by unfold Hid; rw [hW]; simp
  have HW : Hid _ := hW
  clear hW
  have HI0 : Hid _ := hI0
  have HE0 : Hid _ := hE
  have HG0 : Hid _ := hG
  clear hP hE hG hops hB0 hI0 hd
  go_enter Tryd.func54, Tryd.ntmps54
  go_wp2_with fail
  rw [← HW.out]
  clear g0 g1 a1 a2 a3 a4 a5 a6 a7 a8
  have HL1 : Hid (txt.length + (cat [⟨(boolT n.num).toArray⟩]).length ≤ 1000000) := by unfold Hid; rw [cat1]; omega
  have c0 := HI0.out.csay; have c1 := HI0.out.cnum; obtain ⟨z0, z1, z2, z3, z4, z5, z6, z7⟩ := HI0.out.sz
  go_region_held3 (fun w' => w'.cell? ⟨e + 1, 0, none⟩ = some (.func (.func 19) #[] #[.pointer (some ⟨bt, 0, none⟩)]) ∧ w'.cell? ⟨w.heap.size, 3, none⟩ = some (.int .i64 n.num)) (go_keep)
    (first
    | (go_at_call 55; refine (truthT_any _ _).mono ?_; rintro x w1 ⟨rfl, hb1⟩; replace hb1 := hb1.symm; subst hb1)
    | (go_at_call 19; refine (say_pr bn bt b 1 1 _ _ _ _ rfl [⟨(boolT n.num).toArray⟩] _ rfl rfl HI0.out.drew.pr HL1.out (by simp)).mono ?_; rintro x w2 ⟨rfl, hp2, hk2⟩; have HI2 : Hid _ := HI0.out.drew.next hp2 hk2; have f0 := HI2.out.csay; have f1 := HI2.out.cnum))
  go_wp2_with fail
  go_end0
  refine ⟨rfl, ?_, HI2.out.kp⟩
  have h9 := HI2.out.pr
  rw [cat1] at h9
  exact h9
set_option maxHeartbeats 2000000 in
theorem bare_read (e bn bt b d : Nat) (n : Nd) (hd : n.depth = d) (hf : Fine n) (hk : n.kind = 12) : BareC e bn bt b [n] n.name.toList := by
  rintro n' l' hl r txt w hP hE hG hlen
  injection hl with h1 h2
  subst h1 h2
  have hops := hf.ops
  have hhi := hP.hi
  have hmid := hP.mid
  rw [hk] at hops
  have hop : n.op = 0 := by simp [rOp0, rOp1] at hops; omega
  have g0 := hG.ops.sign 0 (by omega)
  have g1 := hG.ops.level 0 (by omega)
  have hes : e + 3 < w.heap.size := (Array.getElem?_eq_some_iff.1 hE.bare).1
  have a1 : w.cell? ⟨e + 1, 0, none⟩ = some (.func (.func 19) #[] #[.pointer (some ⟨bt, 0, none⟩)]) := by rw [Lib.cell_of_heap hE.say]; rfl
  have a2 : w.cell? ⟨e + 2, 0, none⟩ = some (.func (.func 57) #[] #[.pointer (some ⟨e, 0, none⟩), .pointer (some ⟨e + 3, 0, none⟩), .pointer (some ⟨e + 1, 0, none⟩)]) := by rw [Lib.cell_of_heap hE.expr]; rfl
  have a3 : e + 2 < w.heap.size := by omega
  have a4 : e + 1 < w.heap.size := by omega
  have a5 : ¬ e = w.heap.size := by omega
  have a8 : e < w.heap.size := by omega
  have a6 : ¬ e + 1 = w.heap.size := by omega
  have a7 : ¬ e + 2 = w.heap.size := by omega
  have hw1 : 1 < w.heap.size := hG.ops.lt
  have hne1 : ¬ 1 = w.heap.size := by omega
  have hB0 : Below w.heap.size w ((w.alloc (.cells #[.int .i64 n.depth, .int .i64 n.kind, .string n.name, .int .i64 n.num, .int .i64 n.op, .int .i64 n.pos] 31)).alloc (.cells #[.string ⟨(sgn 0).toArray⟩, .int .i64 (lvl 0)] 98)) :=
    ((Below.refl _ _).alloc (Nat.le_refl _) _).alloc (by simp) _
  have hI0 : In w e bn bt b w.heap.size n 0 ([] ++ r) txt ((w.alloc (.cells #[.int .i64 n.depth, .int .i64 n.kind, .string n.name, .int .i64 n.num, .int .i64 n.op, .int .i64 n.pos] 31)).alloc (.cells #[.string ⟨(sgn 0).toArray⟩, .int .i64 (lvl 0)] 98)) :=
    ⟨Kp.of hB0 (by omega), hP.below hB0, hE.kept (Kp.of hB0 (by omega)) hmid, hG.low (hB0.mono (by omega)), heap_alloc2_old _ _ _, heap_alloc2_new _ _ _, hhi⟩
  unfold ndVal
  rw [hk, hop] at hI0 ⊢
  obtain ⟨W, hW⟩ : ∃ W, W = ((w.alloc (.cells #[.int .i64 n.depth, .int .i64 12, .string n.name, .int .i64 n.num, .int .i64 0, .int .i64 n.pos] 31)).alloc (.cells #[.string ⟨(sgn 0).toArray⟩, .int .i64 (lvl 0)] 98)) := ⟨_, rfl⟩
  rw [← hW] at hI0
  have HZ : Hid (w.heap.size + 1 + 1 = W.heap.size) := by unfold Hid; rw [hW]; simp
  have HW : Hid _ := hW
  clear hW
  have HI0 : Hid _ := hI0
  have HE0 : Hid _ := hE
  have HG0 : Hid _ := hG
  clear hP hE hG hops hB0 hI0 hd
  go_enter Tryd.func54, Tryd.ntmps54
  go_wp2_with fail
  rw [← HW.out]
  clear g0 g1 a1 a2 a3 a4 a5 a6 a7 a8
  have HL1 : Hid (txt.length + (cat [n.name]).length ≤ 1000000) := by unfold Hid; rw [ByteArray.toList_eq] at hlen; simp [cat] at hlen ⊢; omega
  have c0 := HI0.out.csay; have c1 := HI0.out.cname; obtain ⟨z0, z1, z2, z3, z4, z5, z6, z7⟩ := HI0.out.sz
  go_wp2_with fail
  refine (say_pr bn bt b 1 1 _ _ _ _ HZ.out [n.name] _ rfl rfl HI0.out.pr HL1.out (by simp)).mono ?_
  rintro x w2 ⟨rfl, hp2, hk2⟩
  have HI2 : Hid _ := HI0.out.next hp2 hk2
  clear hp2 hk2
  go_wp2_with fail
  go_end0
  refine ⟨rfl, ?_, HI2.out.kp⟩
  have h9 := HI2.out.pr
  rw [ByteArray.toList_eq]
  simpa [cat] using h9
set_option maxHeartbeats 2000000 in
theorem bare_load (e bn bt b d : Nat) (n : Nd) (hd : n.depth = d) (hf : Fine n) (f : List Nd) (lv : Nat) (t : List UInt8) (hk : n.kind = 13) (IH : ExprC e bn bt b f lv t) : BareC e bn bt b (n :: f) (n.name.toList ++ 91 :: (brk 1 lv t ++ [93])) := by
  rintro n' l' hl r txt w hP hE hG hlen
  injection hl with h1 h2
  subst h1 h2
  have hops := hf.ops
  have hhi := hP.hi
  have hmid := hP.mid
  rw [hk] at hops
  have hop : n.op = 0 := by simp [rOp0, rOp1] at hops; omega
  have g0 := hG.ops.sign 0 (by omega)
  have g1 := hG.ops.level 0 (by omega)
  have hes : e + 3 < w.heap.size := (Array.getElem?_eq_some_iff.1 hE.bare).1
  have a1 : w.cell? ⟨e + 1, 0, none⟩ = some (.func (.func 19) #[] #[.pointer (some ⟨bt, 0, none⟩)]) := by rw [Lib.cell_of_heap hE.say]; rfl
  have a2 : w.cell? ⟨e + 2, 0, none⟩ = some (.func (.func 57) #[] #[.pointer (some ⟨e, 0, none⟩), .pointer (some ⟨e + 3, 0, none⟩), .pointer (some ⟨e + 1, 0, none⟩)]) := by rw [Lib.cell_of_heap hE.expr]; rfl
  have a3 : e + 2 < w.heap.size := by omega
  have a4 : e + 1 < w.heap.size := by omega
  have a5 : ¬ e = w.heap.size := by omega
  have a8 : e < w.heap.size := by omega
  have a6 : ¬ e + 1 = w.heap.size := by omega
  have a7 : ¬ e + 2 = w.heap.size := by omega
  have hw1 : 1 < w.heap.size := hG.ops.lt
  have hne1 : ¬ 1 = w.heap.size := by omega
  have hB0 : Below w.heap.size w ((w.alloc (.cells #[.int .i64 n.depth, .int .i64 n.kind, .string n.name, .int .i64 n.num, .int .i64 n.op, .int .i64 n.pos] 31)).alloc (.cells #[.string ⟨(sgn 0).toArray⟩, .int .i64 (lvl 0)] 98)) :=
    ((Below.refl _ _).alloc (Nat.le_refl _) _).alloc (by simp) _
  have hI0 : In w e bn bt b w.heap.size n 0 (f ++ r) txt ((w.alloc (.cells #[.int .i64 n.depth, .int .i64 n.kind, .string n.name, .int .i64 n.num, .int .i64 n.op, .int .i64 n.pos] 31)).alloc (.cells #[.string ⟨(sgn 0).toArray⟩, .int .i64 (lvl 0)] 98)) :=
    ⟨Kp.of hB0 (by omega), hP.below hB0, hE.kept (Kp.of hB0 (by omega)) hmid, hG.low (hB0.mono (by omega)), heap_alloc2_old _ _ _, heap_alloc2_new _ _ _, hhi⟩
  unfold ndVal
  rw [hk, hop] at hI0 ⊢
  obtain ⟨W, hW⟩ : ∃ W, W = ((w.alloc (.cells #[.int .i64 n.depth, .int .i64 13, .string n.name, .int .i64 n.num, .int .i64 0, .int .i64 n.pos] 31)).alloc (.cells #[.string ⟨(sgn 0).toArray⟩, .int .i64 (lvl 0)] 98)) := ⟨_, rfl⟩
  rw [← hW] at hI0
  have HZ : Hid (w.heap.size + 1 + 1 = W.heap.size) := by unfold Hid; rw [hW]; simp
  have HW : Hid _ := hW
  clear hW
  have HI0 : Hid _ := hI0
  have HE0 : Hid _ := hE
  have HG0 : Hid _ := hG
  clear hP hE hG hops hB0 hI0 hd
  go_enter Tryd.func54, Tryd.ntmps54
  go_wp2_with fail
  rw [← HW.out]
  clear g0 g1 a1 a2 a3 a4 a5 a6 a7 a8
  have HIH : Hid _ := IH
  clear IH
  rw [ByteArray.toList_eq] at hlen
  have HL2 : Hid ((txt ++ cat [n.name, ⟨#[91]⟩]).length + (brk 1 lv t).length ≤ 900000) := by unfold Hid; simp [cat] at hlen ⊢; omega
  have HL3 : Hid ((txt ++ cat [n.name, ⟨#[91]⟩] ++ brk 1 lv t).length + (cat [⟨#[93]⟩]).length ≤ 1000000) := by unfold Hid; simp [cat] at hlen ⊢; omega
  have HL1 : Hid (txt.length + (cat [n.name, ⟨#[91]⟩]).length ≤ 1000000) := by unfold Hid; simp [cat] at hlen ⊢; omega
  have c0 := HI0.out.csay; have c1 := HI0.out.cname; obtain ⟨z0, z1, z2, z3, z4, z5, z6, z7⟩ := HI0.out.sz
  go_wp2_with fail
  refine (say_pr bn bt b 2 2 _ _ _ _ HZ.out [n.name, ⟨#[91]⟩] _ rfl rfl HI0.out.pr HL1.out (by simp)).mono ?_
  rintro x w2 ⟨rfl, hp2, hk2⟩
  have HI2 : Hid _ := HI0.out.next hp2 hk2
  clear hp2 hk2
  have c9 := HI2.out.cexp
  clear c0 c1 z0 z1 z2 z3 z4 z5 z6 z7
  go_wp2_with fail
  refine (HIH.out 1 _ _ _ (by omega) HI2.out.pr HI2.out.env HI2.out.gl HL2.out).mono ?_
  rintro x w3 ⟨rfl, hp2, hk2⟩
  have HI3 : Hid _ := HI2.out.next hp2 hk2
  clear hp2 hk2
  clear c9
  have c9 := HI3.out.csay
  obtain ⟨z0, z1, z2, z3, z4, z5, z6, z7⟩ := HI3.out.sz
  go_wp2_with fail
  refine (say_pr bn bt b 1 1 _ _ _ _ rfl [⟨#[93]⟩] _ rfl rfl HI3.out.pr HL3.out (by simp)).mono ?_
  rintro x w4 ⟨rfl, hp2, hk2⟩
  have HI4 : Hid _ := HI3.out.next hp2 hk2
  clear hp2 hk2
  go_wp2_with fail
  go_end0
  refine ⟨rfl, ?_, HI4.out.kp⟩
  have h9 := HI4.out.pr
  rw [ByteArray.toList_eq]
  simpa [cat] using h9
set_option maxHeartbeats 2000000 in
theorem bare_unary (e bn bt b d : Nat) (n : Nd) (hd : n.depth = d) (hf : Fine n) (f : List Nd) (lv : Nat) (t : List UInt8) (hk : n.kind = 14) (k : Nat) (hop : n.op = k) (hkr : 1 ≤ k ∧ k ≤ 2) (IH : ExprC e bn bt b f lv t) : BareC e bn bt b (n :: f) (sgn k ++ brk 6 lv t) := by
  rintro n' l' hl r txt w hP hE hG hlen
  injection hl with h1 h2
  subst h1 h2
  have hops := hf.ops
  have hhi := hP.hi
  have hmid := hP.mid
  rw [hk] at hops
  have hk1 : k < 16 := by omega
  have hk2' : (k : Int) < 16 := by omega
  have hk3 : 0 ≤ (k : Int) := by omega
  have g0 := hG.ops.sign k (by omega)
  have g1 := hG.ops.level k (by omega)
  have hes : e + 3 < w.heap.size := (Array.getElem?_eq_some_iff.1 hE.bare).1
  have a1 : w.cell? ⟨e + 1, 0, none⟩ = some (.func (.func 19) #[] #[.pointer (some ⟨bt, 0, none⟩)]) := by rw [Lib.cell_of_heap hE.say]; rfl
  have a2 : w.cell? ⟨e + 2, 0, none⟩ = some (.func (.func 57) #[] #[.pointer (some ⟨e, 0, none⟩), .pointer (some ⟨e + 3, 0, none⟩), .pointer (some ⟨e + 1, 0, none⟩)]) := by rw [Lib.cell_of_heap hE.expr]; rfl
  have a3 : e + 2 < w.heap.size := by omega
  have a4 : e + 1 < w.heap.size := by omega
  have a5 : ¬ e = w.heap.size := by omega
  have a8 : e < w.heap.size := by omega
  have a6 : ¬ e + 1 = w.heap.size := by omega
  have a7 : ¬ e + 2 = w.heap.size := by omega
  have hw1 : 1 < w.heap.size := hG.ops.lt
  have hne1 : ¬ 1 = w.heap.size := by omega
  have hB0 : Below w.heap.size w ((w.alloc (.cells #[.int .i64 n.depth, .int .i64 n.kind, .string n.name, .int .i64 n.num, .int .i64 n.op, .int .i64 n.pos] 31)).alloc (.cells #[.string ⟨(sgn k).toArray⟩, .int .i64 (lvl k)] 98)) :=
    ((Below.refl _ _).alloc (Nat.le_refl _) _).alloc (by simp) _
  have hI0 : In w e bn bt b w.heap.size n k (f ++ r) txt ((w.alloc (.cells #[.int .i64 n.depth, .int .i64 n.kind, .string n.name, .int .i64 n.num, .int .i64 n.op, .int .i64 n.pos] 31)).alloc (.cells #[.string ⟨(sgn k).toArray⟩, .int .i64 (lvl k)] 98)) :=
    ⟨Kp.of hB0 (by omega), hP.below hB0, hE.kept (Kp.of hB0 (by omega)) hmid, hG.low (hB0.mono (by omega)), heap_alloc2_old _ _ _, heap_alloc2_new _ _ _, hhi⟩
  unfold ndVal
  rw [hk, hop] at hI0 ⊢
  obtain ⟨W, hW⟩ : ∃ W, W = ((w.alloc (.cells #[.int .i64 n.depth, .int .i64 14, .string n.name, .int .i64 n.num, .int .i64 k, .int .i64 n.pos] 31)).alloc (.cells #[.string ⟨(sgn k).toArray⟩, .int .i64 (lvl k)] 98)) := ⟨_, rfl⟩
  rw [← hW] at hI0
  have HZ : Hid (w.heap.size + 1 + 1 = W.heap.size) := by unfold Hid; rw [hW]; simp
  have HW : Hid _ := hW
  clear hW
  have HI0 : Hid _ := hI0
  have HE0 : Hid _ := hE
  have HG0 : Hid _ := hG
  clear hP hE hG hops hB0 hI0 hd
  go_enter Tryd.func54, Tryd.ntmps54
  go_wp2_with fail
  rw [← HW.out]
  clear g0 g1 a1 a2 a3 a4 a5 a6 a7 a8
  have HIH : Hid _ := IH
  clear IH
  have HL1 : Hid (txt.length + (cat [⟨(sgn k).toArray⟩]).length ≤ 1000000) := by unfold Hid; rw [cat1]; simp at hlen ⊢; omega
  have HL2 : Hid ((txt ++ cat [⟨(sgn k).toArray⟩]).length + (brk 6 lv t).length ≤ 900000) := by unfold Hid; rw [cat1]; simp at hlen ⊢; omega
  have c0 := HI0.out.csay; have c1 := HI0.out.csign; obtain ⟨z0, z1, z2, z3, z4, z5, z6, z7⟩ := HI0.out.sz
  go_wp2_with fail
  refine (say_pr bn bt b 1 1 _ _ _ _ HZ.out [⟨(sgn k).toArray⟩] _ rfl rfl HI0.out.pr HL1.out (by simp)).mono ?_
  rintro x w2 ⟨rfl, hp2, hk2⟩
  have HI2 : Hid _ := HI0.out.next hp2 hk2
  clear hp2 hk2
  have c9 := HI2.out.cexp
  clear c0 c1 z0 z1 z2 z3 z4 z5 z6 z7
  go_wp2_with fail
  refine (HIH.out 6 _ _ _ (by omega) HI2.out.pr HI2.out.env HI2.out.gl HL2.out).mono ?_
  rintro x w3 ⟨rfl, hp2, hk2⟩
  have HI3 : Hid _ := HI2.out.next hp2 hk2
  clear hp2 hk2
  go_wp2_with fail
  go_end0
  refine ⟨rfl, ?_, HI3.out.kp⟩
  have h9 := HI3.out.pr
  rw [cat1, List.append_assoc] at h9
  exact h9
set_option maxHeartbeats 2000000 in
theorem bare_binary (e bn bt b d : Nat) (n : Nd) (hd : n.depth = d) (hf : Fine n) (f f2 : List Nd) (lv lv2 : Nat) (t t2 : List UInt8) (hk : n.kind = 15) (k : Nat) (hop : n.op = k) (hkr : 3 ≤ k ∧ k ≤ 15) (IH : ExprC e bn bt b f lv t) (IH2 : ExprC e bn bt b f2 lv2 t2) : BareC e bn bt b (n :: (f ++ f2)) (brk (leftW (lvl k)) lv t ++ 32 :: (sgn k ++ 32 :: brk (lvl k + 1) lv2 t2)) := by
  rintro n' l' hl r txt w hP hE hG hlen
  injection hl with h1 h2
  subst h1 h2
  have hops := hf.ops
  have hhi := hP.hi
  have hmid := hP.mid
  rw [hk] at hops
  have hk1 : k < 16 := by omega
  have hk2' : (k : Int) < 16 := by omega
  have hk3 : 0 ≤ (k : Int) := by omega
  have g0 := hG.ops.sign k (by omega)
  have g1 := hG.ops.level k (by omega)
  have hes : e + 3 < w.heap.size := (Array.getElem?_eq_some_iff.1 hE.bare).1
  have a1 : w.cell? ⟨e + 1, 0, none⟩ = some (.func (.func 19) #[] #[.pointer (some ⟨bt, 0, none⟩)]) := by rw [Lib.cell_of_heap hE.say]; rfl
  have a2 : w.cell? ⟨e + 2, 0, none⟩ = some (.func (.func 57) #[] #[.pointer (some ⟨e, 0, none⟩), .pointer (some ⟨e + 3, 0, none⟩), .pointer (some ⟨e + 1, 0, none⟩)]) := by rw [Lib.cell_of_heap hE.expr]; rfl
  have a3 : e + 2 < w.heap.size := by omega
  have a4 : e + 1 < w.heap.size := by omega
  have a5 : ¬ e = w.heap.size := by omega
  have a8 : e < w.heap.size := by omega
  have a6 : ¬ e + 1 = w.heap.size := by omega
  have a7 : ¬ e + 2 = w.heap.size := by omega
  have hw1 : 1 < w.heap.size := hG.ops.lt
  have hne1 : ¬ 1 = w.heap.size := by omega
  have hB0 : Below w.heap.size w ((w.alloc (.cells #[.int .i64 n.depth, .int .i64 n.kind, .string n.name, .int .i64 n.num, .int .i64 n.op, .int .i64 n.pos] 31)).alloc (.cells #[.string ⟨(sgn k).toArray⟩, .int .i64 (lvl k)] 98)) :=
    ((Below.refl _ _).alloc (Nat.le_refl _) _).alloc (by simp) _
  have hI0 : In w e bn bt b w.heap.size n k ((f ++ f2) ++ r) txt ((w.alloc (.cells #[.int .i64 n.depth, .int .i64 n.kind, .string n.name, .int .i64 n.num, .int .i64 n.op, .int .i64 n.pos] 31)).alloc (.cells #[.string ⟨(sgn k).toArray⟩, .int .i64 (lvl k)] 98)) :=
    ⟨Kp.of hB0 (by omega), hP.below hB0, hE.kept (Kp.of hB0 (by omega)) hmid, hG.low (hB0.mono (by omega)), heap_alloc2_old _ _ _, heap_alloc2_new _ _ _, hhi⟩
  unfold ndVal
  rw [hk, hop] at hI0 ⊢
  obtain ⟨W, hW⟩ : ∃ W, W = ((w.alloc (.cells #[.int .i64 n.depth, .int .i64 15, .string n.name, .int .i64 n.num, .int .i64 k, .int .i64 n.pos] 31)).alloc (.cells #[.string ⟨(sgn k).toArray⟩, .int .i64 (lvl k)] 98)) := ⟨_, rfl⟩
  rw [← hW] at hI0
  have HZ : Hid (w.heap.size + 1 + 1 = W.heap.size) := by unfold Hid; rw [hW]; simp
  have HW : Hid _ := hW
  clear hW
  have HI0 : Hid _ := hI0
  have HE0 : Hid _ := hE
  have HG0 : Hid _ := hG
  clear hP hE hG hops hB0 hI0 hd
  go_enter Tryd.func54, Tryd.ntmps54
  go_wp2_with fail
  rw [← HW.out]
  clear g0 g1 a1 a2 a3 a4 a5 a6 a7 a8
  have HIH : Hid _ := IH
  have HIH2 : Hid _ := IH2
  clear IH IH2
  have hlv := lvl_le (k := k) (by omega)
  have hlv0 : (lvl k : Int) ≤ 5 := by omega
  have HLW : Hid (leftW (lvl k) ≤ 7) := by unfold Hid leftW; split <;> omega
  have HL1 : Hid (txt.length + (brk (leftW (lvl k)) lv t).length ≤ 900000) := by unfold Hid; simp at hlen ⊢; omega
  have HL2 : Hid ((txt ++ brk (leftW (lvl k)) lv t).length + (cat [⟨#[32]⟩, ⟨(sgn k).toArray⟩, ⟨#[32]⟩]).length ≤ 1000000) := by unfold Hid; simp [cat] at hlen ⊢; omega
  have HL3 : Hid ((txt ++ brk (leftW (lvl k)) lv t ++ cat [⟨#[32]⟩, ⟨(sgn k).toArray⟩, ⟨#[32]⟩]).length + (brk (lvl k + 1) lv2 t2).length ≤ 900000) := by unfold Hid; simp [cat] at hlen ⊢; omega
  have HI1 : Hid (In w e bn bt b w.heap.size n k (f ++ (f2 ++ r)) txt W.drew) := by unfold Hid; rw [← List.append_assoc]; exact HI0.out.drew
  have c0 := HI0.out.cexp; have c1 := HI0.out.clev; obtain ⟨z0, z1, z2, z3, z4, z5, z6, z7⟩ := HI0.out.sz
  go_region_held3 (fun w' => w'.cell? ⟨e + 2, 0, none⟩ = some (.func (.func 57) #[] #[.pointer (some ⟨e, 0, none⟩), .pointer (some ⟨e + 3, 0, none⟩), .pointer (some ⟨e + 1, 0, none⟩)]) ∧ w'.cell? ⟨w.heap.size + 1, 1, none⟩ = some (.int .i64 (lvl k))) (go_keep)
    (first
    | (go_at_call 56; refine (leftWants_any (lvl k) _).mono ?_; rintro x w1 ⟨rfl, hb1⟩; replace hb1 := hb1.symm; subst hb1)
    | (go_at_call 57; refine (HIH.out (leftW (lvl k)) _ _ _ HLW.out HI1.out.pr HI1.out.env HI1.out.gl HL1.out).mono ?_; rintro x w2 ⟨rfl, hp2, hk2⟩; have HI2 : Hid _ := HI1.out.next hp2 hk2; have f0 := HI2.out.cexp; have f1 := HI2.out.clev))
  clear c0 c1 f0 f1 z0 z1 z2 z3 z4 z5 z6 z7 hp2 hk2
  have c0 := HI2.out.csay; have c1 := HI2.out.csign; obtain ⟨z0, z1, z2, z3, z4, z5, z6, z7⟩ := HI2.out.sz
  go_wp2_with fail
  refine (say_pr bn bt b 3 3 _ _ _ _ rfl [⟨#[32]⟩, ⟨(sgn k).toArray⟩, ⟨#[32]⟩] _ rfl rfl HI2.out.pr HL2.out (by simp)).mono ?_
  rintro x w3 ⟨rfl, hp2, hk2⟩
  have HI3 : Hid _ := HI2.out.next hp2 hk2
  clear hp2 hk2
  clear c0 c1 z0 z1 z2 z3 z4 z5 z6 z7
  have c0 := HI3.out.cexp; have c1 := HI3.out.clev; obtain ⟨z0, z1, z2, z3, z4, z5, z6, z7⟩ := HI3.out.sz
  go_wp2_with fail
  rw [show ((lvl k : Nat) : Int) + 1 = ((lvl k + 1 : Nat) : Int) by omega]
  refine (HIH2.out (lvl k + 1) _ _ _ (by omega) HI3.out.pr HI3.out.env HI3.out.gl HL3.out).mono ?_
  rintro x w4 ⟨rfl, hp2, hk2⟩
  have HI4 : Hid _ := HI3.out.next hp2 hk2
  clear hp2 hk2
  go_wp2_with fail
  go_end0
  refine ⟨rfl, ?_, HI4.out.kp⟩
  have h9 := HI4.out.pr
  simpa [cat] using h9
end Go.Proofs.YtjngjanheoeojaaDoor
