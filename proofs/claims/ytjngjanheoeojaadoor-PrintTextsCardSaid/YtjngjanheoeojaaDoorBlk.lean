import Derived.Test.YtjngjanheoeojaaDoorExpr
namespace Go.Proofs.YtjngjanheoeojaaDoor
set_option linter.unusedVariables false
set_option linter.unusedSimpArgs false
open Go.RowKit
structure LnEnv (e L x v ln bl bn bt : Nat) (w : World) : Prop where
  ex : ExEnv e bn bt w
  take : w.heap[L]? = some (.cells #[.func (.func 21) #[] #[.pointer (some ⟨bn, 0, none⟩)]] 59 (0, 0))
  more : w.heap[L + 1]? = some (.cells #[.func (.func 22) #[] #[.pointer (some ⟨bn, 0, none⟩)]] 48 (0, 0))
  say : w.heap[L + 2]? = some (.cells #[.func (.func 19) #[] #[.pointer (some ⟨bt, 0, none⟩)]] 58 (0, 0))
  expr : w.heap[x]? = some (.cells #[.func (.func 57) #[] #[.pointer (some ⟨e, 0, none⟩), .pointer (some ⟨e + 3, 0, none⟩), .pointer (some ⟨e + 1, 0, none⟩)]] 81 (0, 0))
  value : w.heap[v]? = some (.cells #[.func (.func 37) #[] #[.pointer (some ⟨x, 0, none⟩)]] 1 (0, 0))
  line : w.heap[ln]? = some (.cells #[.func (.func 40) #[] #[.pointer (some ⟨L, 0, none⟩), .pointer (some ⟨L + 2, 0, none⟩), .pointer (some ⟨v, 0, none⟩), .pointer (some ⟨bl, 0, none⟩)]] 1 (0, 0))
  blocks : w.heap[bl]? = some (.cells #[.func (.func 38) #[] #[.pointer (some ⟨L + 1, 0, none⟩), .pointer (some ⟨L + 2, 0, none⟩), .pointer (some ⟨L, 0, none⟩), .pointer (some ⟨ln, 0, none⟩)]] 84 (0, 0))
  lt : bt < L ∧ bt < x ∧ bt < v ∧ bt < ln ∧ bt < bl
theorem LnEnv.kept {e L x v ln bl bn bt : Nat} {w w' : World} (h : LnEnv e L x v ln bl bn bt w) (hk : Kp bn bt w w') (hm : bn < bt) : LnEnv e L x v ln bl bn bt w' := by
  have := h.lt
  exact ⟨h.ex.kept hk hm, hk.box h.take (by omega) hm (by decide), hk.box h.more (by omega) hm (by decide), hk.box h.say (by omega) hm (by decide), hk.box h.expr (by omega) hm (by decide), hk.box h.value (by omega) hm (by decide), hk.box h.line (by omega) hm (by decide), hk.box h.blocks (by omega) hm (by decide), h.lt⟩
theorem LnEnv.ctake {e L x v ln bl bn bt : Nat} {W : World} (h : LnEnv e L x v ln bl bn bt W) : W.cell? ⟨L, 0, none⟩ = some (.func (.func 21) #[] #[.pointer (some ⟨bn, 0, none⟩)]) := by rw [Lib.cell_of_heap h.take]; rfl
theorem LnEnv.cmore {e L x v ln bl bn bt : Nat} {W : World} (h : LnEnv e L x v ln bl bn bt W) : W.cell? ⟨L + 1, 0, none⟩ = some (.func (.func 22) #[] #[.pointer (some ⟨bn, 0, none⟩)]) := by rw [Lib.cell_of_heap h.more]; rfl
theorem LnEnv.csay {e L x v ln bl bn bt : Nat} {W : World} (h : LnEnv e L x v ln bl bn bt W) : W.cell? ⟨L + 2, 0, none⟩ = some (.func (.func 19) #[] #[.pointer (some ⟨bt, 0, none⟩)]) := by rw [Lib.cell_of_heap h.say]; rfl
theorem LnEnv.cexpr {e L x v ln bl bn bt : Nat} {W : World} (h : LnEnv e L x v ln bl bn bt W) : W.cell? ⟨x, 0, none⟩ = some (.func (.func 57) #[] #[.pointer (some ⟨e, 0, none⟩), .pointer (some ⟨e + 3, 0, none⟩), .pointer (some ⟨e + 1, 0, none⟩)]) := by rw [Lib.cell_of_heap h.expr]; rfl
theorem LnEnv.cvalue {e L x v ln bl bn bt : Nat} {W : World} (h : LnEnv e L x v ln bl bn bt W) : W.cell? ⟨v, 0, none⟩ = some (.func (.func 37) #[] #[.pointer (some ⟨x, 0, none⟩)]) := by rw [Lib.cell_of_heap h.value]; rfl
theorem LnEnv.cline {e L x v ln bl bn bt : Nat} {W : World} (h : LnEnv e L x v ln bl bn bt W) : W.cell? ⟨ln, 0, none⟩ = some (.func (.func 40) #[] #[.pointer (some ⟨L, 0, none⟩), .pointer (some ⟨L + 2, 0, none⟩), .pointer (some ⟨v, 0, none⟩), .pointer (some ⟨bl, 0, none⟩)]) := by rw [Lib.cell_of_heap h.line]; rfl
theorem LnEnv.cblocks {e L x v ln bl bn bt : Nat} {W : World} (h : LnEnv e L x v ln bl bn bt W) : W.cell? ⟨bl, 0, none⟩ = some (.func (.func 38) #[] #[.pointer (some ⟨L + 1, 0, none⟩), .pointer (some ⟨L + 2, 0, none⟩), .pointer (some ⟨L, 0, none⟩), .pointer (some ⟨ln, 0, none⟩)]) := by rw [Lib.cell_of_heap h.blocks]; rfl
theorem LnEnv.sz {e L x v ln bl bn bt : Nat} {W : World} (h : LnEnv e L x v ln bl bn bt W) : L + 2 < W.heap.size ∧ v < W.heap.size ∧ ln < W.heap.size ∧ bl < W.heap.size := by
  have h1 := (Array.getElem?_eq_some_iff.1 h.say).1
  have h2 := (Array.getElem?_eq_some_iff.1 h.value).1
  have h3 := (Array.getElem?_eq_some_iff.1 h.line).1
  have h4 := (Array.getElem?_eq_some_iff.1 h.blocks).1
  omega
/-- All that stands while lines are written. -/
structure Ls (w0 : World) (e L x v ln bl bn bt b : Nat) (rest : List Nd) (txt : List UInt8) (W : World) : Prop where
  kp : Kp bn bt w0 W
  pr : Pr bn bt b rest txt W
  env : LnEnv e L x v ln bl bn bt W
  gl : Gl bn W
theorem Ls.next {w0 W W' : World} {e L x v ln bl bn bt b : Nat} {rest rest' : List Nd} {txt txt' : List UInt8} (h : Ls w0 e L x v ln bl bn bt b rest txt W) (hp : Pr bn bt b rest' txt' W') (hk : Kp bn bt W W') : Ls w0 e L x v ln bl bn bt b rest' txt' W' :=
  ⟨h.kp.trans hk, hp, h.env.kept hk h.pr.mid, h.gl.low hk.low⟩
theorem Ls.below {w0 W W' : World} {e L x v ln bl bn bt b : Nat} {rest : List Nd} {txt : List UInt8} (h : Ls w0 e L x v ln bl bn bt b rest txt W) (hb : Below W.heap.size W W') : Ls w0 e L x v ln bl bn bt b rest txt W' := by
  have := h.pr.hi
  have := h.pr.mid
  exact h.next (h.pr.below hb) (Kp.of hb (by omega))
theorem Ls.drew {w0 W : World} {e L x v ln bl bn bt b : Nat} {rest : List Nd} {txt : List UInt8} (h : Ls w0 e L x v ln bl bn bt b rest txt W) : Ls w0 e L x v ln bl bn bt b rest txt W.drew := h.below (Below.refl _ _).drew
set_option maxHeartbeats 1000000 in
theorem value_any {w0 w : World} {e L x v ln bl bn bt b d : Nat} {l r : List Nd} {lv : Nat} {t txt : List UInt8} (hx : Ex d l lv t) (h : Ls w0 e L x v ln bl bn bt b (l ++ r) txt w) (hlen : txt.length + (brk 1 lv t).length ≤ 900000) :
    Calls Tryd.prog 37 #[.pointer (some ⟨x, 0, none⟩)] w fun y w' => y = .returned (.tuple #[]) ∧ Ls w0 e L x v ln bl bn bt b r (txt ++ brk 1 lv t) w' ∧ Kp bn bt w w' := by
  have c1 := h.env.cexpr
  have HX : Hid (ExprC e bn bt b l lv t) := expr_any hx
  have HH : Hid _ := h
  clear h hx
  go_enter Tryd.func37, Tryd.ntmps37
  go_wp2_with fail
  refine (HX.out 1 r txt w (by omega) HH.out.pr HH.out.env.ex HH.out.gl hlen).mono ?_
  rintro y w2 ⟨rfl, hp2, hk2⟩
  have H2 : Hid _ := HH.out.next hp2 hk2
  have HK : Hid _ := hk2
  clear hp2 hk2
  go_wp2_with fail
  go_end0
  exact ⟨rfl, H2.out, HK.out⟩
def nsLen (bn : Nat) (w : World) : Nat :=
  match w.cell? ⟨bn, 0, none⟩ with
  | some (.slice _ n _) => n
  | _ => 0
theorem Pr.nsLen {bn bt b : Nat} {rest : List Nd} {txt : List UInt8} {w : World} (h : Pr bn bt b rest txt w) : nsLen bn w = rest.length := by
  obtain ⟨o, cap, h1, _, _⟩ := h.ns
  unfold YtjngjanheoeojaaDoor.nsLen
  rw [Lib.cell_of_heap h1]
  rfl
/-- Blocks: their nodes, and the text behind the condition. -/
abbrev Blks := List (Nd × Parts)
def blkN : Blks → List Nd
  | [] => []
  | (c, P) :: B => c :: (nodesOf P ++ blkN B)
def opn (f : Bool) : List UInt8 := if f then [32, 123, 10] else [32, 101, 108, 115, 101, 32, 123, 10]
def blkT (q : Nat) : Bool → Blks → List UInt8
  | _, [] => [10]
  | f, (_, P) :: B => opn f ++ (flatL (linesOf P) ++ (ind q ++ 125 :: blkT q false B))
def Ends (m : Int) (r : List Nd) : Prop := ∀ n t, r = n :: t → n.depth ≤ m
def LineC (e L x v ln bl bn bt b : Nat) (q : Nat) (l : List Nd) (M : List (List UInt8)) : Prop :=
  ∀ (w0 : World) (r : List Nd) (txt : List UInt8) (w : World), Ls w0 e L x v ln bl bn bt b (l ++ r) txt w → Ends (2 * q + 1) r → txt.length + (flatL M).length ≤ 800000 →
    Calls Tryd.prog 40 #[.pointer (some ⟨L, 0, none⟩), .pointer (some ⟨L + 2, 0, none⟩), .pointer (some ⟨v, 0, none⟩), .pointer (some ⟨bl, 0, none⟩)] w fun y w' => y = .returned (.tuple #[]) ∧ Ls w0 e L x v ln bl bn bt b r (txt ++ flatL M) w' ∧ Kp bn bt w w'
def NdAt (w : World) (g : Nat) (n : Nd) : Prop := w.heap[g]? = some (.cells #[.int .i64 n.depth, .int .i64 n.kind, .string n.name, .int .i64 n.num, .int .i64 n.op, .int .i64 n.pos] 31 (0, 0))
theorem NdAt.cells {w : World} {g : Nat} {n : Nd} (h : NdAt w g n) : w.cell? ⟨g, 0, none⟩ = some (.int .i64 n.depth) ∧ w.cell? ⟨g, 1, none⟩ = some (.int .i64 n.kind) ∧ w.cell? ⟨g, 2, none⟩ = some (.string n.name) ∧ w.cell? ⟨g, 3, none⟩ = some (.int .i64 n.num) ∧ w.cell? ⟨g, 4, none⟩ = some (.int .i64 n.op) ∧ w.cell? ⟨g, 5, none⟩ = some (.int .i64 n.pos) := by
  unfold NdAt at h
  refine ⟨?_, ?_, ?_, ?_, ?_, ?_⟩ <;> (rw [Lib.cell_of_heap h]; rfl)
theorem NdAt.lt {w : World} {g : Nat} {n : Nd} (h : NdAt w g n) : g < w.heap.size := (Array.getElem?_eq_some_iff.1 h).1
theorem NdAt.kept {bn bt g : Nat} {w w' : World} {n : Nd} (h : NdAt w g n) (hk : Kp bn bt w w') (h1 : bt < g) (h0 : bn < bt) : NdAt w' g n := hk.blk h h1 h0 (by decide)
theorem NdAt.below {g : Nat} {w w' : World} {n : Nd} (h : NdAt w g n) (hb : Below w.heap.size w w') : NdAt w' g n := (hb.block g h.lt).trans h
theorem St.head {q : Nat} {l : List Nd} {M : List (List UInt8)} (h : St q l M) : ∃ n l', l = n :: l' ∧ n.depth = 2 * q + 1 := by
  cases h using St.cas <;> exact ⟨_, _, rfl, by assumption⟩
theorem ends_blk {q : Nat} {B : Blks} {r : List Nd} (hB : ∀ p ∈ B, p.1.depth = 2 * q + 2) (hr : Ends (2 * q + 1) r) : Ends (2 * q + 2) (blkN B ++ r) := by
  intro n t h
  cases B with
  | nil => have := hr n t h; omega
  | cons p B =>
    obtain ⟨c, P⟩ := p
    rw [blkN, List.cons_append] at h
    injection h with h1 _
    have := hB (c, P) List.mem_cons_self
    rw [← h1]; show c.depth ≤ _; simp at this; omega
theorem ends_parts {q : Nat} {P : Parts} {r : List Nd} (hP : ∀ s ∈ P, St (q + 1) s.1 s.2) (hr : Ends (2 * q + 2) r) : Ends (2 * ((q + 1 : Nat) : Int) + 1) (nodesOf P ++ r) := by
  intro n t h
  cases P with
  | nil => have := hr n t h; omega
  | cons s P =>
    obtain ⟨l, M⟩ := s
    obtain ⟨m, l', hl, hm⟩ := (hP (l, M) List.mem_cons_self).head
    simp only at hl
    rw [nodesOf_cons, hl, List.cons_append, List.cons_append] at h
    injection h with h1 _
    rw [← h1, hm]; omega
theorem more_no {m : Int} {r : List Nd} (h : Ends m r) {d : Int} (hd : m ≤ d) : moreB d r = false := by
  cases r with
  | nil => rfl
  | cons n t => have := h n t rfl; show decide (d < n.depth) = false; exact decide_eq_false (by omega)
theorem more_yes {d : Int} {n : Nd} {t : List Nd} (h : d < n.depth) : moreB d (n :: t) = true := by exact decide_eq_true h
theorem margin_ind (n : Nd) (q : Nat) (hd : n.depth = 2 * q + 1) (h2 : n.depth ≤ 24) (w : World) :
    Calls Tryd.prog 39 #[ndVal n] w fun e w' => e = .returned (.string ⟨(ind q).toArray⟩) ∧ Below w.heap.size w w' := by
  have e1 : (n.depth - 1).toNat = 2 * q := by omega
  have := margin_any n w (by omega) h2
  rw [e1] at this
  exact this
theorem linesOf_snoc (P : Parts) (s : List Nd × List (List UInt8)) : linesOf (P ++ [s]) = linesOf P ++ s.2 := by unfold linesOf; rw [List.map_append, List.flatten_append]; simp
theorem linesOf_app (P Q : Parts) : linesOf (P ++ Q) = linesOf P ++ linesOf Q := by unfold linesOf; rw [List.map_append, List.flatten_append]
set_option maxHeartbeats 4000000 in
theorem blocks_any (e L x v ln bl bn bt b q : Nat) (n : Nd) (hd : n.depth = 2 * q + 1) (hd2 : n.depth ≤ 24) (B : Blks) (hB : ∀ p ∈ B, p.1.depth = 2 * q + 2 ∧ ∀ s ∈ p.2, St (q + 1) s.1 s.2 ∧ LineC e L x v ln bl bn bt b (q + 1) s.1 s.2)
    (w0 : World) (r : List Nd) (txt : List UInt8) (w : World) (h : Ls w0 e L x v ln bl bn bt b (blkN B ++ r) txt w) (hr : Ends (2 * q + 1) r) (hlen : txt.length + (blkT q true B).length ≤ 800000) :
    Calls Tryd.prog 38 #[ndVal n, .pointer (some ⟨L + 1, 0, none⟩), .pointer (some ⟨L + 2, 0, none⟩), .pointer (some ⟨L, 0, none⟩), .pointer (some ⟨ln, 0, none⟩)] w fun y w' => y = .returned (.tuple #[]) ∧ Ls w0 e L x v ln bl bn bt b r (txt ++ blkT q true B) w' ∧ Kp bn bt w w' := by
  have hhi := h.pr.hi
  have hmid := h.pr.mid
  have hB0 : Below w.heap.size w (w.alloc (.cells #[.int .i64 n.depth, .int .i64 n.kind, .string n.name, .int .i64 n.num, .int .i64 n.op, .int .i64 n.pos] 31)) := (Below.refl _ _).alloc (Nat.le_refl _) _
  have HS0 : Hid _ := h.below hB0
  have HN0 : Hid (NdAt (w.alloc (.cells #[.int .i64 n.depth, .int .i64 n.kind, .string n.name, .int .i64 n.num, .int .i64 n.op, .int .i64 n.pos] 31)) w.heap.size n) := heap_alloc_new _ _
  have HK0 : Hid (Kp bn bt w (w.alloc (.cells #[.int .i64 n.depth, .int .i64 n.kind, .string n.name, .int .i64 n.num, .int .i64 n.op, .int .i64 n.pos] 31))) := Kp.of hB0 (by omega)
  have HD : Hid _ := hd
  have HMG : Hid _ := margin_ind n q hd hd2
  have HB : Hid _ := hB
  have HR : Hid _ := hr
  have HL : Hid _ := hlen
  clear h hB0 hd hd2 hB hr hlen
  unfold ndVal at HMG
  unfold ndVal
  go_enter Tryd.func38, Tryd.ntmps38
  go_wp2_with fail
  go_loopw [6, 7] (fun s _ wr => ∃ (f : Bool) (B' : Blks) (tx : List UInt8), s = .string ⟨(opn f).toArray⟩ ∧ Hid (∀ p ∈ B', p.1.depth = 2 * q + 2 ∧ ∀ s ∈ p.2, St (q + 1) s.1 s.2 ∧ LineC e L x v ln bl bn bt b (q + 1) s.1 s.2) ∧ Hid (Ls w0 e L x v ln bl bn bt b (blkN B' ++ r) tx wr) ∧ Hid (tx ++ blkT q f B' = txt ++ blkT q true B) ∧ Hid (NdAt wr w.heap.size n) ∧ Hid (Kp bn bt w wr)) (fun _ _ wr => nsLen bn wr)
  case atStart => exact ⟨true, B, txt, rfl, HB, HS0, rfl, HN0, HK0⟩
  case round =>
    obtain ⟨f, B', tx, rfl, HB', HS, HT, HN, HK⟩ := hrel
    obtain ⟨d0, d1, d2, d3, d4, d5⟩ := HN.out.cells
    have m1 := HS.out.env.cmore
    have hzn := HN.out.lt
    cases B' with
    | nil =>
      have HM : Hid (moreB n.depth (blkN [] ++ r) = false) := more_no HR.out (by rw [HD.out]; omega)
      go_wp2_with fail
      refine (more_any bn bt b n _ tx wr HS.out.pr).mono ?_
      rintro y w1 ⟨rfl, hb1⟩
      rw [HM.out]
      have HS1 : Hid _ := HS.out.below hb1
      have HK1 : Hid (Kp bn bt w w1) := HK.out.trans (Kp.of hb1 (by have := HS.out.pr.hi; omega))
      clear d0 d1 d2 d3 d4 d5 m1 hb1
      have s1 := HS1.out.env.csay
      have hlt1 : (tx ++ [10]).length ≤ 800000 := by
        have := congrArg List.length HT.out
        rw [blkT] at this
        have h9 := HL.out
        simp only [List.length_append] at this h9 ⊢
        omega
      have HL1 : Hid (tx.length + (cat [⟨#[10]⟩]).length ≤ 1000000) := by unfold Hid; simp [cat] at hlt1 ⊢; omega
      clear hlt1
      go_wp2_with fail
      refine (say_pr bn bt b 1 1 _ _ _ w1 rfl [⟨#[10]⟩] _ rfl rfl HS1.out.pr HL1.out (by simp)).mono ?_
      rintro y w2 ⟨rfl, hp2, hk2⟩
      have HS2 : Hid _ := HS1.out.next hp2 hk2
      have HK2 : Hid (Kp bn bt w w2) := HK1.out.trans hk2
      clear hp2 hk2 s1
      go_wp2_with fail
      go_end0
      refine ⟨rfl, ?_, HK2.out⟩
      rw [← HT.out]
      exact HS2.out
    | cons p B'' =>
      obtain ⟨c, P⟩ := p
      have HCD : Hid (c.depth = 2 * q + 2) := (HB'.out (c, P) List.mem_cons_self).1
      have HPs : Hid (∀ s ∈ P, St (q + 1) s.1 s.2 ∧ LineC e L x v ln bl bn bt b (q + 1) s.1 s.2) := (HB'.out (c, P) List.mem_cons_self).2
      have HB2 : Hid (∀ p ∈ B'', p.1.depth = 2 * q + 2 ∧ ∀ s ∈ p.2, St (q + 1) s.1 s.2 ∧ LineC e L x v ln bl bn bt b (q + 1) s.1 s.2) := fun p hp => HB'.out p (List.mem_cons_of_mem _ hp)
      have HM : Hid (moreB n.depth (blkN ((c, P) :: B'') ++ r) = true) := more_yes (by rw [HD.out, HCD.out]; omega)
      have HE2 : Hid (Ends (2 * q + 2) (blkN B'' ++ r)) := ends_blk (fun p hp => (HB2.out p hp).1) HR.out
      have HLEN : Hid (nsLen bn wr = (blkN ((c, P) :: B'') ++ r).length) := HS.out.pr.nsLen
      have hall : tx.length + (opn f).length + (flatL (linesOf P)).length + (ind q).length + 1 ≤ 800000 := by
        have := congrArg List.length HT.out
        rw [blkT] at this
        have h9 := HL.out
        simp only [List.length_append, List.length_cons] at this h9 ⊢
        omega
      have HL1 : Hid (tx.length + (cat [⟨(opn f).toArray⟩]).length ≤ 1000000) := by unfold Hid; rw [cat1]; omega
      have HALL : Hid _ := hall
      clear hall
      go_wp2_with fail
      refine (more_any bn bt b n _ tx wr HS.out.pr).mono ?_
      rintro y w1 ⟨rfl, hb1⟩
      rw [HM.out]
      have HS1 : Hid _ := HS.out.below hb1
      have HK1 : Hid (Kp bn bt w w1) := HK.out.trans (Kp.of hb1 (by have := HS.out.pr.hi; omega))
      have HN1 : Hid (NdAt w1 w.heap.size n) := HN.out.below hb1
      clear d0 d1 d2 d3 d4 d5 m1 hb1
      have s1 := HS1.out.env.csay
      go_wp2_with fail
      refine (say_pr bn bt b 1 1 _ _ _ w1 rfl [⟨(opn f).toArray⟩] _ rfl rfl HS1.out.pr HL1.out (by simp)).mono ?_
      rintro y w2 ⟨rfl, hp2, hk2⟩
      rw [cat1] at hp2
      have HS2 : Hid (Ls w0 e L x v ln bl bn bt b (c :: (nodesOf P ++ (blkN B'' ++ r))) (tx ++ opn f) w2) := by
        have h9 := HS1.out.next hp2 hk2
        rw [blkN, List.cons_append, List.append_assoc] at h9
        exact h9
      have HK2 : Hid (Kp bn bt w w2) := HK1.out.trans hk2
      have HN2 : Hid (NdAt w2 w.heap.size n) := HN1.out.kept hk2 hhi hmid
      clear hp2 hk2 s1
      have s2 := HS2.out.env.ctake
      go_wp2_with fail
      refine (take_any bn bt b c _ _ w2 HS2.out.pr).mono ?_
      rintro y w3 ⟨rfl, hp3, hk3⟩
      have HS3 : Hid _ := HS2.out.next hp3 hk3
      have HK3 : Hid (Kp bn bt w w3) := HK2.out.trans hk3
      have HN3 : Hid (NdAt w3 w.heap.size n) := HN2.out.kept hk3 hhi hmid
      clear hp3 hk3 s2
      have hz3 : bt < w3.heap.size := HS3.out.pr.hi
      have hB4 : Below w3.heap.size w3 (w3.alloc (.cells #[.int .i64 c.depth, .int .i64 c.kind, .string c.name, .int .i64 c.num, .int .i64 c.op, .int .i64 c.pos] 31)) := (Below.refl _ _).alloc (Nat.le_refl _) _
      have HS4 : Hid _ := HS3.out.below hB4
      have HK4 : Hid _ := HK3.out.trans (Kp.of hB4 (by omega))
      have HN4 : Hid (NdAt _ w.heap.size n) := HN3.out.below hB4
      have HC4 : Hid (NdAt (w3.alloc (.cells #[.int .i64 c.depth, .int .i64 c.kind, .string c.name, .int .i64 c.num, .int .i64 c.op, .int .i64 c.pos] 31)) w3.heap.size c) := heap_alloc_new _ _
      clear hB4
      unfold ndVal
      obtain ⟨W, hW⟩ : ∃ W, W = wr := ⟨_, rfl⟩
      subst hW
      go_wp2_with fail
      go_loopw [7] (fun u wr => ∃ (g : Nat) (P1 P2 : Parts), u = .pointer (some ⟨g, 0, none⟩) ∧ bt < g ∧ Hid (P = P1 ++ P2) ∧ Hid (NdAt wr g c) ∧ Hid (Ls w0 e L x v ln bl bn bt b (nodesOf P2 ++ (blkN B'' ++ r)) (tx ++ opn f ++ flatL (linesOf P1)) wr) ∧ Hid (NdAt wr w.heap.size n) ∧ Hid (Kp bn bt w wr)) (fun _ wr => nsLen bn wr)
      case atStart => exact ⟨w3.heap.size, [], P, rfl, hz3, rfl, HC4, by rw [show flatL (linesOf []) = [] from rfl, List.append_nil]; exact HS4, HN4, HK4⟩
      case round =>
        obtain ⟨g, P1, P2, rfl, hg, HPP, HC, HT5, HN5, HK5⟩ := hrel
        obtain ⟨k0, k1, k2, k3, k4, k5⟩ := HC.out.cells
        have m5 := HT5.out.env.cmore
        have hzg := HC.out.lt
        cases P2 with
        | nil =>
          have HM5 : Hid (moreB c.depth (nodesOf [] ++ (blkN B'' ++ r)) = false) := more_no HE2.out (by rw [HCD.out]; omega)
          go_wp2_with fail
          refine (more_any bn bt b c _ _ wr HT5.out.pr).mono ?_
          rintro y w6 ⟨rfl, hb6⟩
          rw [HM5.out]
          have HS6 : Hid _ := HT5.out.below hb6
          have HK6 : Hid (Kp bn bt w w6) := HK5.out.trans (Kp.of hb6 (by have := HT5.out.pr.hi; omega))
          have HN6 : Hid (NdAt w6 w.heap.size n) := HN5.out.below hb6
          clear k0 k1 k2 k3 k4 k5 m5 hb6
          have HP1 : Hid (P = P1) := by unfold Hid; rw [HPP.out, List.append_nil]
          have HL6 : Hid ((tx ++ opn f ++ flatL (linesOf P1)).length + (cat [⟨(ind q).toArray⟩, ⟨#[125]⟩]).length ≤ 1000000) := by
            unfold Hid
            have h9 := HALL.out
            rw [HP1.out] at h9
            simp [cat] at h9 ⊢
            omega
          go_wp2_with fail
          obtain ⟨d0, d1, d2, d3, d4, d5⟩ := HN6.out.cells
          have s6 := HS6.out.env.csay
          have z6 := HS6.out.env.sz
          have zn6 := HN6.out.lt
          have e1 : L + 2 < w6.heap.size := z6.1
          have e2 : ¬ L + 2 = w6.heap.size := by omega
          have e3 : ¬ w.heap.size = w6.heap.size := by omega
          clear z6
          go_region_held3 (fun w' => w'.cell? ⟨L + 2, 0, none⟩ = some (.func (.func 19) #[] #[.pointer (some ⟨bt, 0, none⟩)]) ∧ w'.cell? ⟨w.heap.size, 0, none⟩ = some (.int .i64 n.depth) ∧ w'.cell? ⟨w.heap.size, 1, none⟩ = some (.int .i64 n.kind) ∧ w'.cell? ⟨w.heap.size, 2, none⟩ = some (.string n.name) ∧ w'.cell? ⟨w.heap.size, 3, none⟩ = some (.int .i64 n.num) ∧ w'.cell? ⟨w.heap.size, 4, none⟩ = some (.int .i64 n.op) ∧ w'.cell? ⟨w.heap.size, 5, none⟩ = some (.int .i64 n.pos)) (go_keep)
            (first
            | (go_at_call 39; refine (HMG.out _).mono ?_; rintro y w7 ⟨rfl, hb7⟩; have HS7 : Hid _ := HS6.out.drew.below hb7; have HN7 : Hid (NdAt w7 w.heap.size n) := (HN6.out.below (Below.refl _ _).drew).below hb7; obtain ⟨p0, p1, p2, p3, p4, p5⟩ := HN7.out.cells; have s7 := HS7.out.env.csay; have z7 := HS7.out.env.sz; have zn7 := HN7.out.lt; have o1 : L + 2 < w7.heap.size := z7.1; have o2 : ¬ L + 2 = w7.heap.size := (by omega); have o3 : ¬ w.heap.size = w7.heap.size := (by omega); clear z7)
            | (go_at_call 19; refine (say_pr bn bt b 2 2 _ _ _ _ rfl [⟨(ind q).toArray⟩, ⟨#[125]⟩] _ rfl rfl HS7.out.pr HL6.out (by simp)).mono ?_; rintro y w8 ⟨rfl, hp8, hk8⟩; have HS8 : Hid _ := HS7.out.next hp8 hk8; have HN8 : Hid (NdAt w8 w.heap.size n) := HN7.out.kept hk8 hhi hmid; have HK8 : Hid (Kp bn bt w w8) := (HK6.out.trans (Kp.of (Below.refl _ _).drew (by omega))).trans ((Kp.of hb7 (by have := HS6.out.drew.pr.hi; omega)).trans hk8); obtain ⟨r0, r1, r2, r3, r4, r5⟩ := HN8.out.cells; have s8 := HS8.out.env.csay))
          clear d0 d1 d2 d3 d4 d5 s6 p0 p1 p2 p3 p4 p5 s7 r0 r1 r2 r3 r4 r5 s8 hp8 hk8 hb7
          go_wp2_with fail
          go_roundw
          case rel =>
            refine ⟨false, B'', _, rfl, HB2, HS8, ?_, HN8, HK8⟩
            unfold Hid
            rw [← HT.out, blkT, ← HP1.out]
            simp [cat]
          case measure =>
            rw [HS8.out.pr.nsLen, HLEN.out]
            simp [nodesOf, blkN]
            omega
        | cons s P3 =>
          obtain ⟨sl, sM⟩ := s
          have hmem : (sl, sM) ∈ P := by rw [HPP.out]; simp
          have HLC : Hid (LineC e L x v ln bl bn bt b (q + 1) sl sM) := (HPs.out _ hmem).2
          obtain ⟨m, l', hl, hm⟩ := (HPs.out _ hmem).1.head
          have HM5 : Hid (moreB c.depth (nodesOf ((sl, sM) :: P3) ++ (blkN B'' ++ r)) = true) := by
            unfold Hid
            simp only at hl
            rw [nodesOf_cons, hl]
            exact more_yes (by rw [HCD.out, hm]; omega)
          have HE5 : Hid (Ends (2 * ((q + 1 : Nat) : Int) + 1) (nodesOf P3 ++ (blkN B'' ++ r))) := ends_parts (fun s hs => (HPs.out s (by rw [HPP.out]; simp [hs])).1) HE2.out
          have HSL : Hid (0 < sl.length) := by unfold Hid; simp only at hl; rw [hl]; simp
          clear hmem hl hm
          have HL5 : Hid ((tx ++ opn f ++ flatL (linesOf P1)).length + (flatL sM).length ≤ 800000) := by
            unfold Hid
            have h9 := HALL.out
            rw [HPP.out, linesOf_app, linesOf_cons, flat_app, flat_app] at h9
            simp only [List.length_append] at h9 ⊢
            omega
          go_wp2_with fail
          refine (more_any bn bt b c _ _ wr HT5.out.pr).mono ?_
          rintro y w6 ⟨rfl, hb6⟩
          rw [HM5.out]
          have HS6 : Hid (Ls w0 e L x v ln bl bn bt b (sl ++ (nodesOf P3 ++ (blkN B'' ++ r))) (tx ++ opn f ++ flatL (linesOf P1)) w6) := by
            have h9 := HT5.out.below hb6
            rw [nodesOf_cons, List.append_assoc] at h9
            exact h9
          have HK6 : Hid (Kp bn bt w w6) := HK5.out.trans (Kp.of hb6 (by have := HT5.out.pr.hi; omega))
          have HN6 : Hid (NdAt w6 w.heap.size n) := HN5.out.below hb6
          have HC6 : Hid (NdAt w6 g c) := HC.out.below hb6
          clear k0 k1 k2 k3 k4 k5 m5 hb6
          have l6 := HS6.out.env.cline
          go_wp2_with fail
          refine (HLC.out w0 _ _ w6 HS6.out HE5.out HL5.out).mono ?_
          rintro y w7 ⟨rfl, hs7, hk7⟩
          have HS7 : Hid _ := hs7
          have HK7 : Hid (Kp bn bt w w7) := HK6.out.trans hk7
          have HN7 : Hid (NdAt w7 w.heap.size n) := HN6.out.kept hk7 hhi hmid
          have HC7 : Hid (NdAt w7 g c) := HC6.out.kept hk7 hg hmid
          clear hs7 hk7 l6
          obtain ⟨k0, k1, k2, k3, k4, k5⟩ := HC7.out.cells
          have hz7 : bt < w7.heap.size := HS7.out.pr.hi
          have hB8 : Below w7.heap.size w7 (w7.alloc (.cells #[.int .i64 c.depth, .int .i64 c.kind, .string c.name, .int .i64 c.num, .int .i64 c.op, .int .i64 c.pos] 31)) := (Below.refl _ _).alloc (Nat.le_refl _) _
          have HS8 : Hid _ := HS7.out.below hB8
          have HK8 : Hid _ := HK7.out.trans (Kp.of hB8 (by omega))
          have HN8 : Hid (NdAt _ w.heap.size n) := HN7.out.below hB8
          have HC8 : Hid (NdAt (w7.alloc (.cells #[.int .i64 c.depth, .int .i64 c.kind, .string c.name, .int .i64 c.num, .int .i64 c.op, .int .i64 c.pos] 31)) w7.heap.size c) := heap_alloc_new _ _
          clear hB8
          go_wp2_with fail
          go_roundw
          case rel =>
            refine ⟨w7.heap.size, P1 ++ [(sl, sM)], P3, rfl, hz7, ?_, HC8, ?_, HN8, HK8⟩
            · unfold Hid; rw [HPP.out]; simp
            · unfold Hid
              rw [linesOf_snoc, flat_app]
              have h9 := HS8.out
              rw [List.append_assoc (tx ++ opn f)] at h9
              exact h9
          case measure =>
            rw [HS8.out.pr.nsLen, HT5.out.pr.nsLen, nodesOf_cons]
            have h9 := HSL.out
            simp only [List.length_append]
            omega
end Go.Proofs.YtjngjanheoeojaaDoor
