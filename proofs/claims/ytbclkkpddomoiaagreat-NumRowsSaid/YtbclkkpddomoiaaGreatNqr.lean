import Derived.Test.YtbclkkpddomoiaaGreatNset
import Derived.Test.YtbclkkpddomoiaaGreatChd
import Derived.Test.YtbclkkpddomoiaaGreatNfm
import Derived.Test.YtbclkkpddomoiaaGreatNao
import Derived.Test.YtbclkkpddomoiaaGreatIwid
import Derived.Test.YtbclkkpddomoiaaGreatCdvm
import Derived.Test.YtbclkkpddomoiaaGreatNm2
import Derived.Test.YtbclkkpddomoiaaGreatJb
import Derived.Test.YtbclkkpddomoiaaGreatNl
import Derived.Deep.LoopGhost
set_option linter.unusedVariables false
set_option linter.unusedSimpArgs false
set_option linter.unnecessarySimpa false
/- Several texts, laid together. -/
namespace Go.Proofs.YtbclkkpddomoiaaGreat
section
open Go.RowKit
theorem hull_in {S : Int → Prop} {l h : Int} (H : Hull S l h) (hS : ∀ v, S v → In64 v) : In64 l ∧ In64 h := by
  rcases H with ⟨rfl, rfl, _⟩ | ⟨a, b, _⟩
  · unfold In64; omega
  · exact ⟨hS _ a, hS _ b⟩
def negN (a : Int × Int × Nat × Nat × Bool) : Int × Int × Nat × Nat × Bool :=
  makeN (negI a.1 a.2.1).1 (negI a.1 a.2.1).2.1 (negC a.2.2.1 a.2.2.2.1 (negI a.1 a.2.1).2.2).1 (negC a.2.2.1 a.2.2.2.1 (negI a.1 a.2.1).2.2).2
def addN (a b : Int × Int × Nat × Nat × Bool) : Int × Int × Nat × Nat × Bool :=
  makeN (addI a.1 a.2.1 b.1 b.2.1).1 (addI a.1 a.2.1 b.1 b.2.1).2.1 (addC a.2.2.1 a.2.2.2.1 b.2.2.1 b.2.2.2.1 (addI a.1 a.2.1 b.1 b.2.1).2.2).1 (addC a.2.2.1 a.2.2.2.1 b.2.2.1 b.2.2.2.1 (addI a.1 a.2.1 b.1 b.2.1).2.2).2
def subN (a b : Int × Int × Nat × Nat × Bool) : Int × Int × Nat × Nat × Bool :=
  makeN (subI a.1 a.2.1 b.1 b.2.1).1 (subI a.1 a.2.1 b.1 b.2.1).2.1 (subC a.2.2.1 a.2.2.2.1 b.2.2.1 b.2.2.2.1 (subI a.1 a.2.1 b.1 b.2.1).2.2).1 (subC a.2.2.1 a.2.2.2.1 b.2.2.1 b.2.2.2.1 (subI a.1 a.2.1 b.1 b.2.1).2.2).2
theorem negN_mem {a : Int × Int × Nat × Nat × Bool} {x : Int} (hx : In64 x) (ha : MemN a x) : MemN (negN a) (wrap64 (-x)) := by
  have H := neg_hull a.1 a.2.1
  have i := hull_in H (fun v ⟨_, _, e⟩ => by rw [e]; exact wrap64_in _)
  unfold negN
  rw [make_mem i.1 i.2 (wrap64_in _)]
  have m := H.mem ⟨x, ⟨ha.2.1, ha.2.2.1⟩, rfl⟩
  refine ⟨m.1, m.2, neg_memC ha.2.2.2 hx ?_⟩
  cases e : (negI a.1 a.2.1).2.2
  · exact Or.inr ⟨rfl, rfl⟩
  · have n := (neg_exact a.1 a.2.1).1 e x ⟨ha.2.1, ha.2.2.1⟩
    exact Or.inl ⟨wrap64_id n, wrap64_in _⟩
theorem addN_mem {a b : Int × Int × Nat × Nat × Bool} {x y : Int} (ha : MemN a x) (hb : MemN b y) : MemN (addN a b) (wrap64 (x + y)) := by
  have H := add_hull a.1 a.2.1 b.1 b.2.1
  have i := hull_in H (fun v ⟨_, _, _, _, e⟩ => by rw [e]; exact wrap64_in _)
  unfold addN
  rw [make_mem i.1 i.2 (wrap64_in _)]
  have m := H.mem ⟨x, y, ⟨ha.2.1, ha.2.2.1⟩, ⟨hb.2.1, hb.2.2.1⟩, rfl⟩
  refine ⟨m.1, m.2, add_memC ha.2.2.2 hb.2.2.2 ?_⟩
  cases e : (addI a.1 a.2.1 b.1 b.2.1).2.2
  · exact Or.inr ⟨rfl, rfl⟩
  · have n := (add_exact a.1 a.2.1 b.1 b.2.1).1 e x y ⟨ha.2.1, ha.2.2.1⟩ ⟨hb.2.1, hb.2.2.1⟩
    exact Or.inl ⟨wrap64_id n, wrap64_in _⟩
theorem subN_mem {a b : Int × Int × Nat × Nat × Bool} {x y : Int} (ha : MemN a x) (hb : MemN b y) : MemN (subN a b) (wrap64 (x - y)) := by
  have H := sub_hull a.1 a.2.1 b.1 b.2.1
  have i := hull_in H (fun v ⟨_, _, _, _, e⟩ => by rw [e]; exact wrap64_in _)
  unfold subN
  rw [make_mem i.1 i.2 (wrap64_in _)]
  have m := H.mem ⟨x, y, ⟨ha.2.1, ha.2.2.1⟩, ⟨hb.2.1, hb.2.2.1⟩, rfl⟩
  refine ⟨m.1, m.2, sub_memC ha.2.2.2 hb.2.2.2 ?_⟩
  cases e : (subI a.1 a.2.1 b.1 b.2.1).2.2
  · exact Or.inr ⟨rfl, rfl⟩
  · have n := (sub_exact a.1 a.2.1 b.1 b.2.1).1 e x y ⟨ha.2.1, ha.2.2.1⟩ ⟨hb.2.1, hb.2.2.1⟩
    exact Or.inl ⟨wrap64_id n, wrap64_in _⟩
/-- Two single numbers: the result alone. -/
theorem make_one {lo hi : Int} {M R : Nat} {z : Int} (hz : In64 z) (hl : In64 lo) (hh : In64 hi) (h : ∀ v, In64 v → ((lo ≤ v ∧ v ≤ hi ∧ MemC M R v) ↔ v = z)) : makeN lo hi M R = constN z :=
  norm_ext (make_norm hl hh) (const_norm hz) (fun v hv => by rw [make_mem hl hh hv, const_mem hz]; exact h v hv)
end
section
open Go.RowKit
theorem nbyG_u64 (g : Nat) (e : Bool) : U64 (byG g e) := by
  unfold byG
  split
  · rename_i h; exact h.2
  · exact twoN_u64 g
theorem ncls_u64 {f : Nat} {s : Bool} {g : Nat} (h : 0 < g) (e : Bool) : U64 (byG g e) ∧ U64 (restN f s (byG g e)) := by
  have a := nbyG_u64 g e
  have b := restN_lt (f := f) (s := s) (byG_pos h e)
  refine ⟨a, ?_⟩
  unfold U64 at *; omega
theorem ngcd_pos2 {a b : Nat} (h : ¬ (a = 0 ∧ b = 0)) : 0 < Nat.gcd a b := by
  by_cases hc : a = 0
  · rw [hc, Nat.gcd_zero_left]; omega
  · exact Nat.gcd_pos_of_pos_left _ (by omega)
theorem nadd_u64 {cM cR dM dR : Nat} {e : Bool} (h1 : U64 cM) (h2 : U64 cR) (h3 : U64 dM) (h4 : U64 dR) : U64 (addC cM cR dM dR e).1 ∧ U64 (addC cM cR dM dR e).2 := by
  unfold addC
  split
  · exact ⟨show 0 < 18446744073709551616 by omega, bitsN_u64 _⟩
  · rename_i h; exact ncls_u64 (ngcd_pos2 h) e
theorem nadd_in (al ah bl bh : Int) : In64 (addI al ah bl bh).1 ∧ In64 (addI al ah bl bh).2.1 := hull_in (add_hull al ah bl bh) (fun v ⟨_, _, _, _, e⟩ => by rw [e]; exact wrap64_in _)
def ap2 (f : (Int × Int × Nat × Nat × Bool) → (Int × Int × Nat × Nat × Bool) → (Int × Int × Nat × Nat × Bool)) (x y : Int × Int × Nat × Nat × Bool) : Int × Int × Nat × Nat × Bool := if x.2.2.2.2 = true ∨ y.2.2.2.2 = true then botN else f x y
theorem ap2_left {f : (Int × Int × Nat × Nat × Bool) → (Int × Int × Nat × Nat × Bool) → (Int × Int × Nat × Nat × Bool)} {x y : Int × Int × Nat × Nat × Bool} (h : x.2.2.2.2 = true) : ap2 f x y = botN := by unfold ap2; rw [if_pos (Or.inl h)]
theorem ap2_right {f : (Int × Int × Nat × Nat × Bool) → (Int × Int × Nat × Nat × Bool) → (Int × Int × Nat × Nat × Bool)} {x y : Int × Int × Nat × Nat × Bool} (h : y.2.2.2.2 = true) : ap2 f x y = botN := by unfold ap2; rw [if_pos (Or.inr h)]
theorem ap2_some {f : (Int × Int × Nat × Nat × Bool) → (Int × Int × Nat × Nat × Bool) → (Int × Int × Nat × Nat × Bool)} {x y : Int × Int × Nat × Nat × Bool} (h : x.2.2.2.2 = false) (h' : y.2.2.2.2 = false) : ap2 f x y = f x y := by unfold ap2; rw [if_neg (by rw [h, h']; simp)]
theorem addN_raw {a b : Int × Int × Nat × Nat × Bool} (ra : RawN a) (rb : RawN b) : RawN (addN a b) := by
  have i := (show In64 (addI a.1 a.2.1 b.1 b.2.1).1 ∧ In64 (addI a.1 a.2.1 b.1 b.2.1).2.1 from nadd_in _ _ _ _)
  have u := (show U64 (addC a.2.2.1 a.2.2.2.1 b.2.2.1 b.2.2.2.1 (addI a.1 a.2.1 b.1 b.2.1).2.2).1 ∧ U64 (addC a.2.2.1 a.2.2.2.1 b.2.2.1 b.2.2.2.1 (addI a.1 a.2.1 b.1 b.2.1).2.2).2 from nadd_u64 ra.2.2.1 ra.2.2.2 rb.2.2.1 rb.2.2.2)
  unfold addN
  exact make_raw i.1 i.2 u.1 u.2
theorem addN_norm {a b : Int × Int × Nat × Nat × Bool} (ra : RawN a) (rb : RawN b) : NormN (addN a b) := by
  have i := (show In64 (addI a.1 a.2.1 b.1 b.2.1).1 ∧ In64 (addI a.1 a.2.1 b.1 b.2.1).2.1 from nadd_in _ _ _ _)
  unfold addN
  exact make_norm i.1 i.2
theorem bot_norm : NormN botN := by have h := normN_norm (a := botN) bot_raw; exact h
theorem ap2_raw {f : (Int × Int × Nat × Nat × Bool) → (Int × Int × Nat × Nat × Bool) → (Int × Int × Nat × Nat × Bool)} {x y : Int × Int × Nat × Nat × Bool} (h : RawN (f x y)) : RawN (ap2 f x y) := by
  unfold ap2; split
  · exact bot_raw
  · exact h
theorem ap2_norm {f : (Int × Int × Nat × Nat × Bool) → (Int × Int × Nat × Nat × Bool) → (Int × Int × Nat × Nat × Bool)} {x y : Int × Int × Nat × Nat × Bool} (h : NormN (f x y)) : NormN (ap2 f x y) := by
  unfold ap2; split
  · exact bot_norm
  · exact h
end
section
open Go.RowKit
attribute [local go_sem] run_store_fun

set_option maxRecDepth 100000 in
set_option maxHeartbeats 2000000 in
theorem napply_add (a b : Int × Int × Nat × Nat × Bool) (ha : RawN a) (hb : RawN b) (w0 w : World) (hok : Ok w0 w) :
    Calls Tryz.prog 19 #[.int .i64 3, nv a, nv b] w fun e w' => e = .returned (.tuple #[nv (ap2 addN (normN a) (normN b)), .int .i64 0]) ∧ Ok w0 w' := by
  have hle := hok.le
  have HU : Hid _ := And.intro ha hb
  obtain ⟨x, hx⟩ : ∃ x, x = normN a := ⟨_, rfl⟩
  obtain ⟨y, hy⟩ : ∃ y, y = normN b := ⟨_, rfl⟩
  have RX : Hid (RawN x ∧ RawN y) := by rw [hx, hy]; exact ⟨normN_raw ha, normN_raw hb⟩
  have HX : Hid _ := hx
  have HY : Hid _ := hy
  rw [← hx, ← hy]
  clear hx hy ha hb
  unfold nv
  go_enter Tryz.func19, Tryz.ntmps19
  go_wp2_with fail
  obtain ⟨W, hW⟩ : ∃ W, W = (((w).alloc (.cells #[.bool a.2.2.2.2, .int .i64 a.1, .int .i64 a.2.1, .int .u64 (a.2.2.1 : Int), .int .u64 (a.2.2.2.1 : Int)] 28)).alloc (.cells #[.bool b.2.2.2.2, .int .i64 b.1, .int .i64 b.2.1, .int .u64 (b.2.2.1 : Int), .int .u64 (b.2.2.2.1 : Int)] 28)).alloc (.cells #[.bool false, .int .i64 0, .int .i64 0, .int .u64 0, .int .u64 0] 28) := ⟨_, rfl⟩
  have ra : Hid (W.heap[w.heap.size]? = some (.cells #[.bool a.2.2.2.2, .int .i64 a.1, .int .i64 a.2.1, .int .u64 (a.2.2.1 : Int), .int .u64 (a.2.2.2.1 : Int)] 28)) := by unfold Hid; rw [hW]; exact (by repeat (first | (refine heap_at _ _ _ ?hx; case hx => (first | (simp; done) | (simp; omega))) | (refine heap_past _ _ _ ?hy ?_; case hy => (first | (simp; done) | (simp; omega))) | fail))
  have rb : Hid (W.heap[w.heap.size + 1]? = some (.cells #[.bool b.2.2.2.2, .int .i64 b.1, .int .i64 b.2.1, .int .u64 (b.2.2.1 : Int), .int .u64 (b.2.2.2.1 : Int)] 28)) := by unfold Hid; rw [hW]; exact (by repeat (first | (refine heap_at _ _ _ ?hx; case hx => (first | (simp; done) | (simp; omega))) | (refine heap_past _ _ _ ?hy ?_; case hy => (first | (simp; done) | (simp; omega))) | fail))
  have rz : Hid (W.heap[w.heap.size + 1 + 1]? = some (.cells #[.bool false, .int .i64 0, .int .i64 0, .int .u64 0, .int .u64 0] 28)) := by unfold Hid; rw [hW]; exact (by repeat (first | (refine heap_at _ _ _ ?hx; case hx => (first | (simp; done) | (simp; omega))) | (refine heap_past _ _ _ ?hy ?_; case hy => (first | (simp; done) | (simp; omega))) | fail))
  have HW : Hid (Ok w0 W) := by unfold Hid; rw [hW]; exact (by repeat (first | exact hok | refine Ok.alloc ?_ _ | refine Ok.draws ?_ _ | fail))
  rw [← hW]
  clear hW
  obtain ⟨gz, egz⟩ : ∃ g, g = w.heap.size + 1 + 1 := ⟨_, rfl⟩
  rw [← egz] at rz ⊢
  obtain ⟨gb, egb⟩ : ∃ g, g = w.heap.size + 1 := ⟨_, rfl⟩
  rw [← egb] at rb ⊢
  obtain ⟨ga, ega⟩ : ∃ g, g = w.heap.size := ⟨_, rfl⟩
  rw [← ega] at ra ⊢
  have lga : w0.heap.size ≤ ga := by omega
  have ngagb : ¬ ga = gb := by omega
  have ngagz : ¬ ga = gz := by omega
  have lgb : w0.heap.size ≤ gb := by omega
  have ngbga : ¬ gb = ga := by omega
  have ngbgz : ¬ gb = gz := by omega
  have lgz : w0.heap.size ≤ gz := by omega
  have ngzga : ¬ gz = ga := by omega
  have ngzgb : ¬ gz = gb := by omega
  clear ega egb egz
  refine (find_add W _ (Ok.refl _)).mono ?_
  rintro e w1 ⟨rfl, hb⟩
  replace ra : Hid _ := Ok.row' hb ra.out
  replace rb : Hid _ := Ok.row' hb rb.out
  replace rz : Hid _ := Ok.row' hb rz.out
  have Hw1 : Hid (Ok w0 w1) := HW.out.step hb
  clear hb
  obtain ⟨a0, a1, a2, a3, a4, a5, a6, a7, a8, a9⟩ := row5_facts ra.out
  obtain ⟨b0, b1, b2, b3, b4, b5, b6, b7, b8, b9⟩ := row5_facts rb.out
  obtain ⟨k0, k1, k2, k3, k4, k5, k6, k7, k8, k9⟩ := row5_facts rz.out
  have s1 := lt_row ra.out
  have s2 := lt_row rb.out
  have s3 := lt_row rz.out
  have mga1 : ¬ w1.heap.size = ga := by omega
  have mgb1 : ¬ w1.heap.size = gb := by omega
  have mgz1 : ¬ w1.heap.size = gz := by omega
  have mga2 : ¬ ga = w1.heap.size := by omega
  have mgb2 : ¬ gb = w1.heap.size := by omega
  have mgz2 : ¬ gz = w1.heap.size := by omega
  go_wp2_with fail
  obtain ⟨W1, hW1⟩ : ∃ W, W = w1.alloc (.cells #[.int .i64 3, .bool false, .bool false, .func (.func 99) #[] #[], .func (.func 100) #[] #[]] 72) := ⟨_, rfl⟩
  have OY : Ok w1 W1 := by rw [hW1]; exact (Ok.refl _).alloc _
  have rr : Hid (W1.heap[w1.heap.size]? = some (.cells #[.int .i64 3, .bool false, .bool false, .func (.func 99) #[] #[], .func (.func 100) #[] #[]] 72)) := by unfold Hid; rw [hW1]; exact heap_new0 _ _
  rw [← hW1]
  have HW1 : Hid (Ok w0 W1) := Hw1.out.step OY
  replace ra : Hid _ := Ok.row' OY ra.out
  replace rb : Hid _ := Ok.row' OY rb.out
  replace rz : Hid _ := Ok.row' OY rz.out
  have lgr : w0.heap.size ≤ w1.heap.size := Hw1.out.le
  obtain ⟨gr, egr⟩ : ∃ g, g = w1.heap.size := ⟨_, rfl⟩
  rw [← egr] at rr mga1 mgb1 mgz1 mga2 mgb2 mgz2 lgr ⊢
  clear hW1 OY egr s1 s2 s3 a0 a1 a2 a3 a4 a5 a6 a7 a8 a9 b0 b1 b2 b3 b4 b5 b6 b7 b8 b9 k0 k1 k2 k3 k4 k5 k6 k7 k8 k9
  refine (opnd_two 3 a b HU.out.1 HU.out.2 W1 _ (Ok.refl _)).mono ?_
  rintro e w2 ⟨rfl, hb⟩
  replace ra : Hid _ := Ok.row' hb ra.out
  replace rb : Hid _ := Ok.row' hb rb.out
  replace rz : Hid _ := Ok.row' hb rz.out
  replace rr : Hid _ := Ok.row' hb rr.out
  have Hw2 : Hid (Ok w0 w2) := HW1.out.step hb
  clear hb
  rw [← HX.out, ← HY.out]
  unfold nv
  obtain ⟨a0, a1, a2, a3, a4, a5, a6, a7, a8, a9⟩ := row5_facts ra.out
  obtain ⟨b0, b1, b2, b3, b4, b5, b6, b7, b8, b9⟩ := row5_facts rb.out
  obtain ⟨k0, k1, k2, k3, k4, k5, k6, k7, k8, k9⟩ := row5_facts rz.out
  obtain ⟨p0, p1, p2, p3, p4, p5, p6, p7, p8, p9⟩ := row5_facts rr.out
  cases hxb : x.2.2.2.2
  · cases hyb : y.2.2.2.2
    · have HA : Hid (ap2 addN x y = addN x y) := ap2_some hxb hyb
      obtain ⟨q, hq⟩ : ∃ q, q = addI x.1 x.2.1 y.1 y.2.1 := ⟨_, rfl⟩
      obtain ⟨m, hm⟩ : ∃ m, m = addC x.2.2.1 x.2.2.2.1 y.2.2.1 y.2.2.2.1 q.2.2 := ⟨_, rfl⟩
      have IQ : Hid (In64 q.1 ∧ In64 q.2.1) := by rw [hq]; exact nadd_in _ _ _ _
      have IM : Hid (U64 m.1 ∧ U64 m.2) := by rw [hm]; exact nadd_u64 RX.out.1.2.2.1 RX.out.1.2.2.2 RX.out.2.2.2.1 RX.out.2.2.2.2
      have HF : Hid (addN x y = makeN q.1 q.2.1 m.1 m.2) := by unfold Hid; rw [hm, hq]; rfl
      have HQ : Hid _ := hq
      have HM : Hid _ := hm
      clear hq hm
      go_wp2_with fail
      obtain ⟨Z, hZ⟩ : ∃ Z, Z = ((((((((((w2.setCell ⟨ga, 0, none⟩ (.bool false)).setCell ⟨ga, 1, none⟩ (.int .i64 x.1)).setCell ⟨ga, 2, none⟩ (.int .i64 x.2.1)).setCell ⟨ga, 3, none⟩ (.int .u64 (x.2.2.1 : Int))).setCell ⟨ga, 4, none⟩ (.int .u64 (x.2.2.2.1 : Int))).setCell ⟨gb, 0, none⟩ (.bool false)).setCell ⟨gb, 1, none⟩ (.int .i64 y.1)).setCell ⟨gb, 2, none⟩ (.int .i64 y.2.1)).setCell ⟨gb, 3, none⟩ (.int .u64 (y.2.2.1 : Int))).setCell ⟨gb, 4, none⟩ (.int .u64 (y.2.2.2.1 : Int))) := ⟨_, rfl⟩
      obtain ⟨HZ, raz, rbz, keep⟩ := (rows_put2 (g := ga) (k := gb) (by omega) ra.out rb.out (Ok.refl w2) Hw2.out (by omega) (by omega) (.bool false) (.int .i64 x.1) (.int .i64 x.2.1) (.int .u64 (x.2.2.1 : Int)) (.int .u64 (x.2.2.2.1 : Int)) (.bool false) (.int .i64 y.1) (.int .i64 y.2.1) (.int .u64 (y.2.2.1 : Int)) (.int .u64 (y.2.2.2.1 : Int))).out
      rw [← hZ] at HZ raz rbz keep
      replace HZ : Hid (Ok w0 Z) := HZ
      replace raz : Hid _ := raz
      replace rbz : Hid _ := rbz
      replace rz : Hid _ := keep _ _ (by omega) (by omega) rz.out
      replace rr : Hid _ := keep _ _ (by omega) (by omega) rr.out
      rw [← hZ]
      clear hZ keep ra rb
      clear a0 a1 a2 a3 a4 a5 a6 a7 a8 a9 b0 b1 b2 b3 b4 b5 b6 b7 b8 b9 k0 k1 k2 k3 k4 k5 k6 k7 k8 k9 p0 p1 p2 p3 p4 p5 p6 p7 p8 p9
      refine (Jpadd_any _ _ _ _ Z _ (Ok.refl _) RX.out.1.1 RX.out.1.2.1 RX.out.2.1 RX.out.2.2.1).mono ?_
      rintro e w3 ⟨rfl, hb⟩
      rw [← HQ.out]
      replace raz : Hid _ := Ok.row' hb raz.out
      replace rbz : Hid _ := Ok.row' hb rbz.out
      replace rz : Hid _ := Ok.row' hb rz.out
      replace rr : Hid _ := Ok.row' hb rr.out
      have Hw3 : Hid (Ok w0 w3) := HZ.out.step hb
      clear hb
      obtain ⟨a0, a1, a2, a3, a4, a5, a6, a7, a8, a9⟩ := row5_facts raz.out
      obtain ⟨b0, b1, b2, b3, b4, b5, b6, b7, b8, b9⟩ := row5_facts rbz.out
      obtain ⟨k0, k1, k2, k3, k4, k5, k6, k7, k8, k9⟩ := row5_facts rz.out
      obtain ⟨p0, p1, p2, p3, p4, p5, p6, p7, p8, p9⟩ := row5_facts rr.out
      have s1 := lt_row raz.out
      have s2 := lt_row rbz.out
      have s3 := lt_row rz.out
      have s4 := lt_row rr.out
      have vga1 : ¬ w3.heap.size = ga := by omega
      have vgb1 : ¬ w3.heap.size = gb := by omega
      have vgz1 : ¬ w3.heap.size = gz := by omega
      have vgr1 : ¬ w3.heap.size = gr := by omega
      have vga2 : ¬ ga = w3.heap.size := by omega
      have vgb2 : ¬ gb = w3.heap.size := by omega
      have vgz2 : ¬ gz = w3.heap.size := by omega
      have vgr2 : ¬ gr = w3.heap.size := by omega
      go_wp2_with fail
      obtain ⟨Y0, hY0⟩ : ∃ W, W = w3.alloc (.cells #[.int .i64 q.1, .int .i64 q.2.1] 23) := ⟨_, rfl⟩
      have OY : Ok w3 Y0 := by rw [hY0]; exact (Ok.refl _).alloc _
      have rc : Hid (Y0.heap[w3.heap.size]? = some (.cells #[.int .i64 q.1, .int .i64 q.2.1] 23)) := by unfold Hid; rw [hY0]; exact heap_new0 _ _
      rw [← hY0]
      have HY0 : Hid (Ok w0 Y0) := Hw3.out.step OY
      replace raz : Hid _ := Ok.row' OY raz.out
      replace rbz : Hid _ := Ok.row' OY rbz.out
      replace rz : Hid _ := Ok.row' OY rz.out
      replace rr : Hid _ := Ok.row' OY rr.out
      obtain ⟨gc, egc⟩ : ∃ g, g = w3.heap.size := ⟨_, rfl⟩
      rw [← egc] at rc vga1 vgb1 vgz1 vgr1 vga2 vgb2 vgz2 vgr2 ⊢
      clear hY0 OY egc s1 s2 s3 s4
      clear a0 a1 a2 a3 a4 a5 a6 a7 a8 a9 b0 b1 b2 b3 b4 b5 b6 b7 b8 b9 k0 k1 k2 k3 k4 k5 k6 k7 k8 k9 p0 p1 p2 p3 p4 p5 p6 p7 p8 p9
      obtain ⟨a0, a1, a2, a3, a4, a5, a6, a7, a8, a9⟩ := row5_facts raz.out
      obtain ⟨b0, b1, b2, b3, b4, b5, b6, b7, b8, b9⟩ := row5_facts rbz.out
      obtain ⟨k0, k1, k2, k3, k4, k5, k6, k7, k8, k9⟩ := row5_facts rz.out
      obtain ⟨c0, c1, c2, c3⟩ := row_facts rc.out
      obtain ⟨p0, p1, p2, p3, p4, p5, p6, p7, p8, p9⟩ := row5_facts rr.out
      have za := lt_row raz.out
      have zb := lt_row rbz.out
      have zc := lt_row rc.out
      have zr := lt_row rr.out
      have bz : Ok Y0 Y0 := Ok.refl _
      go_region_held3 (fun w' => w'.cell? ⟨ga, 3, none⟩ = some (.int .u64 (x.2.2.1 : Int)) ∧ w'.cell? ⟨ga, 4, none⟩ = some (.int .u64 (x.2.2.2.1 : Int)) ∧ w'.cell? ⟨gb, 3, none⟩ = some (.int .u64 (y.2.2.1 : Int)) ∧ w'.cell? ⟨gb, 4, none⟩ = some (.int .u64 (y.2.2.2.1 : Int)) ∧ w'.cell? ⟨gc, 0, none⟩ = some (.int .i64 q.1) ∧ w'.cell? ⟨gc, 1, none⟩ = some (.int .i64 q.2.1) ∧ w'.cell? ⟨gr, 4, none⟩ = some (.func (.func 100) #[] #[])) (go_keep)
        (first
        | (go_at_call 100; refine (padd_any _ _ _ _ _ RX.out.1.2.2.1 RX.out.1.2.2.2 RX.out.2.2.2.1 RX.out.2.2.2.2 Y0 _ (by repeat (first | assumption | refine Ok.alloc ?_ _ | refine Below.drew ?_))).mono ?_; rintro e w' ⟨rfl, hb⟩; rw [← HM.out]; unfold cv; have q0 := Ok.cell hb za a3; have q1 := Ok.cell hb za a4; have q2 := Ok.cell hb zb b3; have q3 := Ok.cell hb zb b4; have q4 := Ok.cell hb zc c0; have q5 := Ok.cell hb zc c1; have q6 := Ok.cell hb zr p4; obtain ⟨k0, k1, k2, k3, k4, k5, k6, k7, k8, k9⟩ := row5_facts (Ok.row' hb rz.out))
        | (go_at_call 26; refine (nmake_any _ _ _ _ IQ.out.1 IQ.out.2 IM.out.1 IM.out.2 Y0 _ (by repeat (first | assumption | refine Ok.alloc ?_ _ | refine Below.drew ?_))).mono ?_; rintro e w' ⟨rfl, hb⟩; rw [← HF.out, ← HA.out]; unfold nv; have q0 := Ok.cell hb za a3; have q1 := Ok.cell hb za a4; have q2 := Ok.cell hb zb b3; have q3 := Ok.cell hb zb b4; have q4 := Ok.cell hb zc c0; have q5 := Ok.cell hb zc c1; have q6 := Ok.cell hb zr p4; obtain ⟨k0, k1, k2, k3, k4, k5, k6, k7, k8, k9⟩ := row5_facts (Ok.row' hb rz.out))
        | fail)
      go_wp2_with fail
      have hr : Hid _ := Ok.row' hb rz.out
      (try simp only [Exit.inBlock, Exit.then]); refine bodyPost_ret (results_iv rfl _ _ (gz) 28 #[_, _, _, _, _] (0, 0) _ rfl (row_set5 hr.out _ _ _ _ _) Tryz.underlying28 rfl infoN) rfl ?_
      exact ⟨rfl, Ok.set (Ok.set (Ok.set (Ok.set (Ok.set (HY0.out.step hb) (show w0.heap.size ≤ gz by omega) _) (show w0.heap.size ≤ gz by omega) _) (show w0.heap.size ≤ gz by omega) _) (show w0.heap.size ≤ gz by omega) _) (show w0.heap.size ≤ gz by omega) _⟩
    · have HA : Hid (ap2 addN x y = botN) := ap2_right hyb
      go_wp2_with fail
      obtain ⟨Z, hZ⟩ : ∃ Z, Z = ((((((((((w2.setCell ⟨ga, 0, none⟩ (.bool false)).setCell ⟨ga, 1, none⟩ (.int .i64 x.1)).setCell ⟨ga, 2, none⟩ (.int .i64 x.2.1)).setCell ⟨ga, 3, none⟩ (.int .u64 (x.2.2.1 : Int))).setCell ⟨ga, 4, none⟩ (.int .u64 (x.2.2.2.1 : Int))).setCell ⟨gb, 0, none⟩ (.bool true)).setCell ⟨gb, 1, none⟩ (.int .i64 y.1)).setCell ⟨gb, 2, none⟩ (.int .i64 y.2.1)).setCell ⟨gb, 3, none⟩ (.int .u64 (y.2.2.1 : Int))).setCell ⟨gb, 4, none⟩ (.int .u64 (y.2.2.2.1 : Int))) := ⟨_, rfl⟩
      obtain ⟨HZ, raz, rbz, keep⟩ := (rows_put2 (g := ga) (k := gb) (by omega) ra.out rb.out (Ok.refl w2) Hw2.out (by omega) (by omega) (.bool false) (.int .i64 x.1) (.int .i64 x.2.1) (.int .u64 (x.2.2.1 : Int)) (.int .u64 (x.2.2.2.1 : Int)) (.bool true) (.int .i64 y.1) (.int .i64 y.2.1) (.int .u64 (y.2.2.1 : Int)) (.int .u64 (y.2.2.2.1 : Int))).out
      rw [← hZ] at HZ raz rbz keep
      replace HZ : Hid (Ok w0 Z) := HZ
      replace raz : Hid _ := raz
      replace rbz : Hid _ := rbz
      replace rz : Hid _ := keep _ _ (by omega) (by omega) rz.out
      replace rr : Hid _ := keep _ _ (by omega) (by omega) rr.out
      rw [← hZ]
      clear hZ keep ra rb
      clear a0 a1 a2 a3 a4 a5 a6 a7 a8 a9 b0 b1 b2 b3 b4 b5 b6 b7 b8 b9 k0 k1 k2 k3 k4 k5 k6 k7 k8 k9 p0 p1 p2 p3 p4 p5 p6 p7 p8 p9
      refine (nbot_any Z _ (Ok.refl _)).mono ?_
      rintro e w3 ⟨rfl, hb⟩
      unfold nv botN
      replace rz : Hid _ := Ok.row' hb rz.out
      have Hw3 : Hid (Ok w0 w3) := HZ.out.step hb
      clear hb
      obtain ⟨k0, k1, k2, k3, k4, k5, k6, k7, k8, k9⟩ := row5_facts rz.out
      have hr : Hid _ := rz
      go_wp2_with fail
      (try simp only [Exit.inBlock, Exit.then]); refine bodyPost_ret (results_iv rfl _ _ (gz) 28 #[_, _, _, _, _] (0, 0) _ rfl (row_set5 hr.out _ _ _ _ _) Tryz.underlying28 rfl infoN) rfl ?_
      exact ⟨by rw [HA.out]; rfl, Ok.set (Ok.set (Ok.set (Ok.set (Ok.set (Hw3.out) (show w0.heap.size ≤ gz by omega) _) (show w0.heap.size ≤ gz by omega) _) (show w0.heap.size ≤ gz by omega) _) (show w0.heap.size ≤ gz by omega) _) (show w0.heap.size ≤ gz by omega) _⟩
  · have HA : Hid (ap2 addN x y = botN) := ap2_left hxb
    go_wp2_with fail
    obtain ⟨Z, hZ⟩ : ∃ Z, Z = ((((((((((w2.setCell ⟨ga, 0, none⟩ (.bool true)).setCell ⟨ga, 1, none⟩ (.int .i64 x.1)).setCell ⟨ga, 2, none⟩ (.int .i64 x.2.1)).setCell ⟨ga, 3, none⟩ (.int .u64 (x.2.2.1 : Int))).setCell ⟨ga, 4, none⟩ (.int .u64 (x.2.2.2.1 : Int))).setCell ⟨gb, 0, none⟩ (.bool y.2.2.2.2)).setCell ⟨gb, 1, none⟩ (.int .i64 y.1)).setCell ⟨gb, 2, none⟩ (.int .i64 y.2.1)).setCell ⟨gb, 3, none⟩ (.int .u64 (y.2.2.1 : Int))).setCell ⟨gb, 4, none⟩ (.int .u64 (y.2.2.2.1 : Int))) := ⟨_, rfl⟩
    obtain ⟨HZ, raz, rbz, keep⟩ := (rows_put2 (g := ga) (k := gb) (by omega) ra.out rb.out (Ok.refl w2) Hw2.out (by omega) (by omega) (.bool true) (.int .i64 x.1) (.int .i64 x.2.1) (.int .u64 (x.2.2.1 : Int)) (.int .u64 (x.2.2.2.1 : Int)) (.bool y.2.2.2.2) (.int .i64 y.1) (.int .i64 y.2.1) (.int .u64 (y.2.2.1 : Int)) (.int .u64 (y.2.2.2.1 : Int))).out
    rw [← hZ] at HZ raz rbz keep
    replace HZ : Hid (Ok w0 Z) := HZ
    replace raz : Hid _ := raz
    replace rbz : Hid _ := rbz
    replace rz : Hid _ := keep _ _ (by omega) (by omega) rz.out
    replace rr : Hid _ := keep _ _ (by omega) (by omega) rr.out
    rw [← hZ]
    clear hZ keep ra rb
    clear a0 a1 a2 a3 a4 a5 a6 a7 a8 a9 b0 b1 b2 b3 b4 b5 b6 b7 b8 b9 k0 k1 k2 k3 k4 k5 k6 k7 k8 k9 p0 p1 p2 p3 p4 p5 p6 p7 p8 p9
    refine (nbot_any Z _ (Ok.refl _)).mono ?_
    rintro e w3 ⟨rfl, hb⟩
    unfold nv botN
    replace rz : Hid _ := Ok.row' hb rz.out
    have Hw3 : Hid (Ok w0 w3) := HZ.out.step hb
    clear hb
    obtain ⟨k0, k1, k2, k3, k4, k5, k6, k7, k8, k9⟩ := row5_facts rz.out
    have hr : Hid _ := rz
    go_wp2_with fail
    (try simp only [Exit.inBlock, Exit.then]); refine bodyPost_ret (results_iv rfl _ _ (gz) 28 #[_, _, _, _, _] (0, 0) _ rfl (row_set5 hr.out _ _ _ _ _) Tryz.underlying28 rfl infoN) rfl ?_
    exact ⟨by rw [HA.out]; rfl, Ok.set (Ok.set (Ok.set (Ok.set (Ok.set (Hw3.out) (show w0.heap.size ≤ gz by omega) _) (show w0.heap.size ≤ gz by omega) _) (show w0.heap.size ≤ gz by omega) _) (show w0.heap.size ≤ gz by omega) _) (show w0.heap.size ≤ gz by omega) _⟩
end
section
open Go.RowKit
theorem nfld (w : World) : (Instr.field 28 (.agg #[.bool true, .int .i64 0, .int .i64 0, .int .u64 0, .int .u64 0]) 0).run Tryz.prog w = .ok (.bool true) w := by kernel_rfl
attribute [local go_sem] nfld
theorem k13_make : makeN 1 10 4 3 = (3, 7, 4, 3, false) := by kernel_rfl
theorem k13_add : ap2 addN (normN (3, 7, 4, 3, false)) (normN (constN 1)) = (4, 8, 4, 0, false) := by kernel_rfl
theorem k13_has : insN (3, 7, 4, 3, false) 7 = true := by kernel_rfl
theorem k13_leq : lqN (constN 3) (3, 7, 4, 3, false) = true := by kernel_rfl
theorem k13_join : joinN (constN 3) (constN 7) = (3, 7, 4, 3, false) := by kernel_rfl
theorem k13_meet : meetN (3, 7, 4, 3, false) botN = botN := by kernel_rfl
theorem k13_nz : nonZeroN (constN 0) = botN := by kernel_rfl
theorem k13_raw : RawN (3, 7, 4, 3, false) := by unfold RawN In64 U64; decide
theorem k13_in0 : In64 0 := by decide
theorem k13_in1 : In64 1 := by decide
theorem k13_in3 : In64 3 := by decide
theorem k13_in7 : In64 7 := by decide
theorem k13_c {n : Int} (h : In64 n) : nv (constN n) = .agg #[.bool false, .int .i64 n, .int .i64 n, .int .u64 0, .int .u64 (bitsN n : Int)] := rfl
set_option maxRecDepth 100000 in
set_option maxHeartbeats 2000000 in
theorem works13 (w0 w : World) (hok : Ok w0 w) :
    Calls Tryz.prog 8 #[] w fun e w' => e = .returned (.bool true) ∧ Ok w0 w' := by
  have hle := hok.le
  have HK : Hid (Ok w0 w) := hok
  clear hok
  go_enter Tryz.func8, Tryz.ntmps8
  go_wp2_with fail
  refine (nmake_any 1 10 4 3 (by decide) (by decide) (by unfold U64; decide) (by unfold U64; decide) w _ (Ok.refl _)).mono ?_
  rintro e w1 ⟨rfl, hb⟩
  rw [k13_make]
  unfold nv
  have Hw1 : Hid (Ok w0 w1) := HK.out.step hb
  clear hb
  go_wp2_with fail
  obtain ⟨W, hW⟩ : ∃ W, W = w1.alloc (.cells #[.bool false, .int .i64 3, .int .i64 7, .int .u64 4, .int .u64 3] 28) := ⟨_, rfl⟩
  have ra : Hid (W.heap[w1.heap.size]? = some (.cells #[.bool false, .int .i64 3, .int .i64 7, .int .u64 4, .int .u64 3] 28)) := by unfold Hid; rw [hW]; exact heap_new0 _ _
  have HW : Hid (Ok w0 W) := by unfold Hid; rw [hW]; exact Hw1.out.alloc _
  rw [← hW]
  obtain ⟨ga, ega⟩ : ∃ g, g = w1.heap.size := ⟨_, rfl⟩
  have lga : w0.heap.size ≤ ga := by rw [ega]; exact Hw1.out.le
  rw [← ega] at ra ⊢
  clear hW ega Hw1
  refine wp_region_inv (by kernel_rfl) (by kernel_rfl) (fun F l a w => ∃ (b0 b1 b2 b3 b4 b5 b6 b7 b8 : Bool) (s8 s9 s10 s7 s11 s12 s2 s3 : Value) (g6 : Nat), l = #[b0, b1, b2, b3, b4, b5, b6, b7, b8] ∧ a = ((((((((F.put (some 8) s8).put (some 9) s9).put (some 10) s10).put (some 7) s7).put (some 11) s11).put (some 12) s12).put (some 2) s2).put (some 3) s3) ∧ Ok W w ∧ (b0 = true → s8 = nv (3, 7, 4, 3, false)) ∧ (b1 = true → s9 = nv (constN 1)) ∧ (b2 = true → s10 = .tuple #[nv (4, 8, 4, 0, false), .int .i64 0]) ∧ (b3 = true → s7 = .tuple #[nv (4, 8, 4, 0, false), .int .i64 0]) ∧ (b4 = true → s11 = nv (4, 8, 4, 0, false)) ∧ (b5 = true → s12 = .int .i64 0) ∧ (b8 = true → s3 = .int .i64 0) ∧ (b6 = true → s2 = .pointer (some ⟨g6, 0, none⟩)) ∧ (b6 = true → W.heap.size ≤ g6) ∧ (b6 = true → b7 = false → w.heap[g6]? = some (.cells #[.bool false, .int .i64 0, .int .i64 0, .int .u64 0, .int .u64 0] 28 (0, 0))) ∧ (b7 = true → w.heap[g6]? = some (.cells #[.bool false, .int .i64 4, .int .i64 8, .int .u64 4, .int .u64 0] 28 (0, 0))) ∧ (b7 = true → b6 = true)) ?start ?step ?fin
  case start => exact ⟨false, false, false, false, false, false, false, false, false, undef, undef, undef, undef, undef, undef, undef, undef, 0, rfl, (by (try simp only [Act.put, List.setIfInBounds_toArray, List.set_cons_zero, List.set_cons_succ]); try rfl), Ok.draws (Ok.refl _) 1, (fun h => by cases h), (fun h => by cases h), (fun h => by cases h), (fun h => by cases h), (fun h => by cases h), (fun h => by cases h), (fun h => by cases h), (fun h => by cases h), (fun h => by cases h), (fun h => by cases h), (fun h => by cases h), (fun h => by cases h)⟩
  case step =>
    intro l a w i o hI hi0 ho hd K hK
    obtain ⟨b0, b1, b2, b3, b4, b5, b6, b7, b8, s8, s9, s10, s7, s11, s12, s2, s3, g6, rfl, rfl, hO, q0, q1, q2, q3, q4, q5, q8, p6, l6, q6, q7, m7⟩ := hI
    have hlt : i < 9 := (Array.getElem?_eq_some_iff.1 ho).1
    rcases (show i = 0 ∨ i = 1 ∨ i = 2 ∨ i = 3 ∨ i = 4 ∨ i = 5 ∨ i = 6 ∨ i = 7 ∨ i = 8 by omega) with rfl | rfl | rfl | rfl | rfl | rfl | rfl | rfl | rfl
    · have ho2 := Option.some.inj ho
      subst ho2
      have f0 : b0 = false := hi0
      clear ho hlt hd hi0
      have zz := row5_facts (Ok.row' hO ra.out)
      have a0 := zz.1
      have a1 := zz.2.1
      have a2 := zz.2.2.1
      have a3 := zz.2.2.2.1
      have a4 := zz.2.2.2.2.1
      have a5 := zz.2.2.2.2.2.1
      have a6 := zz.2.2.2.2.2.2.1
      have a7 := zz.2.2.2.2.2.2.2.1
      have a8 := zz.2.2.2.2.2.2.2.2.1
      have a9 := zz.2.2.2.2.2.2.2.2.2
      clear zz
      (try simp only [Act.put, List.getElem_toArray, List.getElem_cons_succ, List.getElem_cons_zero, List.setIfInBounds_toArray, List.set_cons_zero, List.set_cons_succ])
      go_simp
      refine hK.out _ _ ?_
      exact ⟨true, b1, b2, b3, b4, b5, b6, b7, b8, nv (3, 7, 4, 3, false), s9, s10, s7, s11, s12, s2, s3, g6, rfl, (by (try simp only [Act.put, List.setIfInBounds_toArray, List.set_cons_zero, List.set_cons_succ]); try rfl), hO, (fun _ => rfl), q1, q2, q3, q4, q5, q8, p6, l6, q6, q7, m7⟩
    · have ho2 := Option.some.inj ho
      subst ho2
      have f1 : b1 = false := hi0
      clear ho hlt hd hi0
      (try simp only [Act.put, List.getElem_toArray, List.getElem_cons_succ, List.getElem_cons_zero, List.setIfInBounds_toArray, List.set_cons_zero, List.set_cons_succ])
      go_simp
      refine (nconst_any 1 w _ (Ok.refl _)).mono ?_
      rintro e w' ⟨rfl, hb⟩
      dsimp only
      refine hK.out _ _ ?_
      exact ⟨b0, true, b2, b3, b4, b5, b6, b7, b8, s8, nv (constN 1), s10, s7, s11, s12, s2, s3, g6, rfl, (by (try simp only [Act.put, List.setIfInBounds_toArray, List.set_cons_zero, List.set_cons_succ]); try rfl), hO.step hb, q0, (fun _ => rfl), q2, q3, q4, q5, q8, p6, l6, (fun h1 h2 => Ok.row' hb (q6 h1 h2)), (fun h1 => Ok.row' hb (q7 h1)), m7⟩
    · have ho2 := Option.some.inj ho
      subst ho2
      have f2 : b2 = false := hi0
      have t0 : b0 = true := hd ⟨0, .data⟩ (by simp) rfl
      have t1 : b1 = true := hd ⟨1, .data⟩ (by simp) rfl
      clear ho hlt hd hi0
      have e0 := q0 t0
      subst e0
      have e1 := q1 t1
      subst e1
      (try simp only [Act.put, List.getElem_toArray, List.getElem_cons_succ, List.getElem_cons_zero, List.setIfInBounds_toArray, List.set_cons_zero, List.set_cons_succ])
      go_simp
      refine (napply_add (3, 7, 4, 3, false) (constN 1) k13_raw (const_raw k13_in1) w _ (Ok.refl _)).mono ?_
      rintro e w' ⟨rfl, hb⟩
      rw [k13_add]
      dsimp only
      refine hK.out _ _ ?_
      exact ⟨b0, b1, true, b3, b4, b5, b6, b7, b8, nv (3, 7, 4, 3, false), nv (constN 1), .tuple #[nv (4, 8, 4, 0, false), .int .i64 0], s7, s11, s12, s2, s3, g6, rfl, (by (try simp only [Act.put, List.setIfInBounds_toArray, List.set_cons_zero, List.set_cons_succ]); try rfl), hO.step hb, q0, q1, (fun _ => rfl), q3, q4, q5, q8, p6, l6, (fun h1 h2 => Ok.row' hb (q6 h1 h2)), (fun h1 => Ok.row' hb (q7 h1)), m7⟩
    · have ho2 := Option.some.inj ho
      subst ho2
      have f3 : b3 = false := hi0
      have t2 : b2 = true := hd ⟨2, .data⟩ (by simp) rfl
      clear ho hlt hd hi0
      have e2 := q2 t2
      subst e2
      (try simp only [Act.put, List.getElem_toArray, List.getElem_cons_succ, List.getElem_cons_zero, List.setIfInBounds_toArray, List.set_cons_zero, List.set_cons_succ])
      go_simp
      refine hK.out _ _ ?_
      exact ⟨b0, b1, b2, true, b4, b5, b6, b7, b8, s8, s9, .tuple #[nv (4, 8, 4, 0, false), .int .i64 0], .tuple #[nv (4, 8, 4, 0, false), .int .i64 0], s11, s12, s2, s3, g6, rfl, (by (try simp only [Act.put, List.setIfInBounds_toArray, List.set_cons_zero, List.set_cons_succ]); try rfl), hO, q0, q1, q2, (fun _ => rfl), q4, q5, q8, p6, l6, q6, q7, m7⟩
    · have ho2 := Option.some.inj ho
      subst ho2
      have f4 : b4 = false := hi0
      have t3 : b3 = true := hd ⟨3, .data⟩ (by simp) rfl
      clear ho hlt hd hi0
      have e3 := q3 t3
      subst e3
      (try simp only [Act.put, List.getElem_toArray, List.getElem_cons_succ, List.getElem_cons_zero, List.setIfInBounds_toArray, List.set_cons_zero, List.set_cons_succ])
      go_simp
      refine hK.out _ _ ?_
      exact ⟨b0, b1, b2, b3, true, b5, b6, b7, b8, s8, s9, s10, .tuple #[nv (4, 8, 4, 0, false), .int .i64 0], nv (4, 8, 4, 0, false), s12, s2, s3, g6, rfl, (by (try simp only [Act.put, List.setIfInBounds_toArray, List.set_cons_zero, List.set_cons_succ]); try rfl), hO, q0, q1, q2, q3, (fun _ => rfl), q5, q8, p6, l6, q6, q7, m7⟩
    · have ho2 := Option.some.inj ho
      subst ho2
      have f5 : b5 = false := hi0
      have t3 : b3 = true := hd ⟨3, .data⟩ (by simp) rfl
      clear ho hlt hd hi0
      have e3 := q3 t3
      subst e3
      (try simp only [Act.put, List.getElem_toArray, List.getElem_cons_succ, List.getElem_cons_zero, List.setIfInBounds_toArray, List.set_cons_zero, List.set_cons_succ])
      go_simp
      refine hK.out _ _ ?_
      exact ⟨b0, b1, b2, b3, b4, true, b6, b7, b8, s8, s9, s10, .tuple #[nv (4, 8, 4, 0, false), .int .i64 0], s11, .int .i64 0, s2, s3, g6, rfl, (by (try simp only [Act.put, List.setIfInBounds_toArray, List.set_cons_zero, List.set_cons_succ]); try rfl), hO, q0, q1, q2, q3, q4, (fun _ => rfl), q8, p6, l6, q6, q7, m7⟩
    · have ho2 := Option.some.inj ho
      subst ho2
      have f6 : b6 = false := hi0
      clear ho hlt hd hi0
      (try simp only [Act.put, List.getElem_toArray, List.getElem_cons_succ, List.getElem_cons_zero, List.setIfInBounds_toArray, List.set_cons_zero, List.set_cons_succ])
      go_simp
      refine hK.out _ _ ?_
      exact ⟨b0, b1, b2, b3, b4, b5, true, b7, b8, s8, s9, s10, s7, s11, s12, .pointer (some ⟨w.heap.size, 0, none⟩), s3, w.heap.size, rfl, (by (try simp only [Act.put, List.setIfInBounds_toArray, List.set_cons_zero, List.set_cons_succ]); try rfl), hO.alloc _, q0, q1, q2, q3, q4, q5, q8, (fun _ => rfl), (fun _ => hO.le), (fun _ _ => heap_new0 _ _), (fun h => by rw [m7 h] at f6; cases f6), (fun _ => rfl)⟩
    · have ho2 := Option.some.inj ho
      subst ho2
      have f7 : b7 = false := hi0
      have t4 : b4 = true := hd ⟨4, .data⟩ (by simp) rfl
      have t6 : b6 = true := hd ⟨6, .data⟩ (by simp) rfl
      clear ho hlt hd hi0
      have e4 := q4 t4
      subst e4
      have e6 := p6 t6
      subst e6
      have rg := q6 t6 f7
      (try unfold nv)
      have zz := row5_facts (rg)
      have y0 := zz.1
      have y1 := zz.2.1
      have y2 := zz.2.2.1
      have y3 := zz.2.2.2.1
      have y4 := zz.2.2.2.2.1
      have y5 := zz.2.2.2.2.2.1
      have y6 := zz.2.2.2.2.2.2.1
      have y7 := zz.2.2.2.2.2.2.2.1
      have y8 := zz.2.2.2.2.2.2.2.2.1
      have y9 := zz.2.2.2.2.2.2.2.2.2
      clear zz
      (try simp only [Act.put, List.getElem_toArray, List.getElem_cons_succ, List.getElem_cons_zero, List.setIfInBounds_toArray, List.set_cons_zero, List.set_cons_succ])
      go_simp
      have hrp := rows_put1 (Z := (((((w.setCell ⟨g6, 0, none⟩ (.bool false)).setCell ⟨g6, 1, none⟩ (.int .i64 4)).setCell ⟨g6, 2, none⟩ (.int .i64 8)).setCell ⟨g6, 3, none⟩ (.int .u64 4)).setCell ⟨g6, 4, none⟩ (.int .u64 0))) rg hO (l6 t6) _ _ _ _ _ rfl
      refine hK.out _ _ ?_
      exact ⟨b0, b1, b2, b3, b4, b5, b6, true, b8, s8, s9, s10, s7, nv (4, 8, 4, 0, false), s12, .pointer (some ⟨g6, 0, none⟩), s3, g6, rfl, (by (try simp only [Act.put, List.setIfInBounds_toArray, List.set_cons_zero, List.set_cons_succ]); try rfl), hrp.out.1, q0, q1, q2, q3, q4, q5, q8, (fun _ => rfl), l6, (fun _ h => by cases h), (fun _ => hrp.out.2.1), (fun _ => t6)⟩
    · have ho2 := Option.some.inj ho
      subst ho2
      have f8 : b8 = false := hi0
      have t5 : b5 = true := hd ⟨5, .data⟩ (by simp) rfl
      clear ho hlt hd hi0
      have e5 := q5 t5
      subst e5
      (try simp only [Act.put, List.getElem_toArray, List.getElem_cons_succ, List.getElem_cons_zero, List.setIfInBounds_toArray, List.set_cons_zero, List.set_cons_succ])
      go_simp
      refine hK.out _ _ ?_
      exact ⟨b0, b1, b2, b3, b4, b5, b6, b7, true, s8, s9, s10, s7, s11, .int .i64 0, s2, .int .i64 0, g6, rfl, (by (try simp only [Act.put, List.setIfInBounds_toArray, List.set_cons_zero, List.set_cons_succ]); try rfl), hO, q0, q1, q2, q3, q4, q5, (fun _ => rfl), p6, l6, q6, q7, m7⟩
  case fin =>
    intro l a V hI hr
    obtain ⟨b0, b1, b2, b3, b4, b5, b6, b7, b8, s8, s9, s10, s7, s11, s12, s2, s3, g6, rfl, rfl, hO, q0, q1, q2, q3, q4, q5, q8, p6, l6, q6, q7, m7⟩ := hI
    have hall := all_listed (by kernel_rfl) rfl hr
    clear hr
    have t0 : b0 = true := hall 0 (by decide)
    have t1 : b1 = true := hall 1 (by decide)
    have t2 : b2 = true := hall 2 (by decide)
    have t3 : b3 = true := hall 3 (by decide)
    have t4 : b4 = true := hall 4 (by decide)
    have t5 : b5 = true := hall 5 (by decide)
    have t6 : b6 = true := hall 6 (by decide)
    have t7 : b7 = true := hall 7 (by decide)
    have t8 : b8 = true := hall 8 (by decide)
    have e0 := q0 t0
    subst e0
    have e1 := q1 t1
    subst e1
    have e2 := q2 t2
    subst e2
    have e3 := q3 t3
    subst e3
    have e4 := q4 t4
    subst e4
    have e5 := q5 t5
    subst e5
    have e8 := q8 t8
    subst e8
    have e6 := p6 t6
    subst e6
    have r6 := q7 t7
    replace l6 := l6 t6
    clear hall t0 t1 t2 t3 t4 t5 t6 t7 t8 q0 q1 q2 q3 q4 q5 q8 p6 q6 q7 m7
    (try simp only [Act.put, List.getElem_toArray, List.getElem_cons_succ, List.getElem_cons_zero, List.setIfInBounds_toArray, List.set_cons_zero, List.set_cons_succ])
    have ra2 : Hid _ := Ok.row' hO ra.out
    have rs : Hid _ := r6
    have HV : Hid (Ok w0 V) := HW.out.step hO
    have ng : ¬ g6 = ga := by have := lt_row ra.out; omega
    have ng2 : ¬ ga = g6 := by have := lt_row ra.out; omega
    clear hO r6 l6 ra HW
    go_wp2_with fail
    obtain ⟨a0, a1, a2, a3, a4, a5, a6, a7, a8, a9⟩ := row5_facts ra2.out
    obtain ⟨s0, s1, s2, s3, s4, s5, s6, s7, s8, s9⟩ := row5_facts rs.out
    have za := lt_row ra2.out
    have zs := lt_row rs.out
    have bz : Ok V V := Ok.refl _
    go_region_held3 (fun w' => w'.cell? ⟨ga, 0, none⟩ = some (.bool false) ∧ w'.cell? ⟨ga, 1, none⟩ = some (.int .i64 3) ∧ w'.cell? ⟨ga, 2, none⟩ = some (.int .i64 7) ∧ w'.cell? ⟨ga, 3, none⟩ = some (.int .u64 4) ∧ w'.cell? ⟨ga, 4, none⟩ = some (.int .u64 3) ∧ w'.cell? ⟨g6, 0, none⟩ = some (.bool false) ∧ w'.cell? ⟨g6, 1, none⟩ = some (.int .i64 4) ∧ w'.cell? ⟨g6, 2, none⟩ = some (.int .i64 8) ∧ w'.cell? ⟨g6, 3, none⟩ = some (.int .u64 4) ∧ w'.cell? ⟨g6, 4, none⟩ = some (.int .u64 0)) (go_keep)
      (first
      | (go_at_call 14; refine (nhas_any (3, 7, 4, 3, false) 7 k13_raw V _ (by repeat (first | assumption | refine Ok.alloc ?_ _ | refine Below.drew ?_))).mono ?_; rintro e w' ⟨rfl, hb⟩; rw [k13_has]; have q0 := Ok.cell hb za a0; have q1 := Ok.cell hb za a1; have q2 := Ok.cell hb za a2; have q3 := Ok.cell hb za a3; have q4 := Ok.cell hb za a4; have q5 := Ok.cell hb zs s0; have q6 := Ok.cell hb zs s1; have q7 := Ok.cell hb zs s2; have q8 := Ok.cell hb zs s3; have q9 := Ok.cell hb zs s4)
      | (go_at_call 21; refine (nconst_any _ V _ (by repeat (first | assumption | refine Ok.alloc ?_ _ | refine Below.drew ?_))).mono ?_; rintro e w' ⟨rfl, hb⟩; have q0 := Ok.cell hb za a0; have q1 := Ok.cell hb za a1; have q2 := Ok.cell hb za a2; have q3 := Ok.cell hb za a3; have q4 := Ok.cell hb za a4; have q5 := Ok.cell hb zs s0; have q6 := Ok.cell hb zs s1; have q7 := Ok.cell hb zs s2; have q8 := Ok.cell hb zs s3; have q9 := Ok.cell hb zs s4)
      | (go_at_call 18; refine (nleq_any (constN 3) (3, 7, 4, 3, false) (const_raw k13_in3) k13_raw V _ (by repeat (first | assumption | refine Ok.alloc ?_ _ | refine Below.drew ?_))).mono ?_; rintro e w' ⟨rfl, hb⟩; rw [k13_leq]; have q0 := Ok.cell hb za a0; have q1 := Ok.cell hb za a1; have q2 := Ok.cell hb za a2; have q3 := Ok.cell hb za a3; have q4 := Ok.cell hb za a4; have q5 := Ok.cell hb zs s0; have q6 := Ok.cell hb zs s1; have q7 := Ok.cell hb zs s2; have q8 := Ok.cell hb zs s3; have q9 := Ok.cell hb zs s4)
      | (go_at_call 10; refine (njoin_any (constN 3) (constN 7) (const_raw k13_in3) (const_raw k13_in7) V _ (by repeat (first | assumption | refine Ok.alloc ?_ _ | refine Below.drew ?_))).mono ?_; rintro e w' ⟨rfl, hb⟩; rw [k13_join]; unfold nv; have q0 := Ok.cell hb za a0; have q1 := Ok.cell hb za a1; have q2 := Ok.cell hb za a2; have q3 := Ok.cell hb za a3; have q4 := Ok.cell hb za a4; have q5 := Ok.cell hb zs s0; have q6 := Ok.cell hb zs s1; have q7 := Ok.cell hb zs s2; have q8 := Ok.cell hb zs s3; have q9 := Ok.cell hb zs s4)
      | (go_at_call 24; refine (nbot_any V _ (by repeat (first | assumption | refine Ok.alloc ?_ _ | refine Below.drew ?_))).mono ?_; rintro e w' ⟨rfl, hb⟩; have q0 := Ok.cell hb za a0; have q1 := Ok.cell hb za a1; have q2 := Ok.cell hb za a2; have q3 := Ok.cell hb za a3; have q4 := Ok.cell hb za a4; have q5 := Ok.cell hb zs s0; have q6 := Ok.cell hb zs s1; have q7 := Ok.cell hb zs s2; have q8 := Ok.cell hb zs s3; have q9 := Ok.cell hb zs s4)
      | (go_at_call 11; refine (nmeet_any (3, 7, 4, 3, false) botN k13_raw bot_raw V _ (by repeat (first | assumption | refine Ok.alloc ?_ _ | refine Below.drew ?_))).mono ?_; rintro e w' ⟨rfl, hb⟩; rw [k13_meet]; unfold nv botN; have q0 := Ok.cell hb za a0; have q1 := Ok.cell hb za a1; have q2 := Ok.cell hb za a2; have q3 := Ok.cell hb za a3; have q4 := Ok.cell hb za a4; have q5 := Ok.cell hb zs s0; have q6 := Ok.cell hb zs s1; have q7 := Ok.cell hb zs s2; have q8 := Ok.cell hb zs s3; have q9 := Ok.cell hb zs s4)
      | (go_at_call 12; refine (nnz_any (constN 0) (const_raw k13_in0) V _ (by repeat (first | assumption | refine Ok.alloc ?_ _ | refine Below.drew ?_))).mono ?_; rintro e w' ⟨rfl, hb⟩; rw [k13_nz]; unfold nv botN; have q0 := Ok.cell hb za a0; have q1 := Ok.cell hb za a1; have q2 := Ok.cell hb za a2; have q3 := Ok.cell hb za a3; have q4 := Ok.cell hb za a4; have q5 := Ok.cell hb zs s0; have q6 := Ok.cell hb zs s1; have q7 := Ok.cell hb zs s2; have q8 := Ok.cell hb zs s3; have q9 := Ok.cell hb zs s4)
      | fail)
    go_wp2_with fail
    go_ret
    exact ⟨rfl, HV.out.step hb⟩
end
section
open Go.RowKit
theorem foldLo (bl : Int) (ts : List Int) : ∀ m, ts.foldl (stLo bl) m = m ∨ (ts.foldl (stLo bl) m ∈ ts ∧ ts.foldl (stLo bl) m ≤ bl) := by
  induction ts with
  | nil => intro m; exact Or.inl rfl
  | cons t ts ih =>
    intro m
    rw [List.foldl_cons]
    rcases ih (stLo bl m t) with h | ⟨h1, h2⟩
    · rw [h]
      unfold stLo
      by_cases c : t ≤ bl ∧ m < t
      · rw [if_pos c]; exact Or.inr ⟨List.mem_cons_self, c.1⟩
      · rw [if_neg c]; exact Or.inl rfl
    · exact Or.inr ⟨List.mem_cons_of_mem _ h1, h2⟩
theorem foldHi (bh : Int) (ts : List Int) : ∀ m, ts.foldl (stHi bh) m = m ∨ (ts.foldl (stHi bh) m ∈ ts ∧ bh ≤ ts.foldl (stHi bh) m) := by
  induction ts with
  | nil => intro m; exact Or.inl rfl
  | cons t ts ih =>
    intro m
    rw [List.foldl_cons]
    rcases ih (stHi bh m t) with h | ⟨h1, h2⟩
    · rw [h]
      unfold stHi
      by_cases c : bh ≤ t ∧ t < m
      · rw [if_pos c]; exact Or.inr ⟨List.mem_cons_self, c.1⟩
      · rw [if_neg c]; exact Or.inl rfl
    · exact Or.inr ⟨List.mem_cons_of_mem _ h1, h2⟩
/-- How often an end may still go on. -/
def cLo (ts : List Int) (l : Int) : Nat := ts.countP (fun t => decide (t < l)) + (if -9223372036854775808 < l then 1 else 0)
def cHi (ts : List Int) (h : Int) : Nat := ts.countP (fun t => decide (h < t)) + (if h < 9223372036854775807 then 1 else 0)
theorem cLo_le (ts : List Int) (l : Int) : cLo ts l ≤ ts.length + 1 := by
  unfold cLo
  have := List.countP_le_length (p := fun t => decide (t < l)) (l := ts)
  split <;> omega
theorem cHi_le (ts : List Int) (l : Int) : cHi ts l ≤ ts.length + 1 := by
  unfold cHi
  have := List.countP_le_length (p := fun t => decide (l < t)) (l := ts)
  split <;> omega
theorem count_mono {p q : Int → Bool} (h : ∀ x, p x = true → q x = true) (ts : List Int) : ts.countP p ≤ ts.countP q := List.countP_mono_left (fun x _ => h x)
theorem count_lt {p q : Int → Bool} (h : ∀ x, p x = true → q x = true) {z : Int} (hp : p z = false) (hq : q z = true) {ts : List Int} (hz : z ∈ ts) : ts.countP p < ts.countP q := by
  induction ts with
  | nil => exact absurd hz List.not_mem_nil
  | cons t ts ih =>
    have hm := count_mono h ts
    rw [List.countP_cons, List.countP_cons]
    rcases List.mem_cons.1 hz with rfl | hz
    · rw [hp, hq, if_neg (by simp), if_pos rfl]; omega
    · have := ih hz
      by_cases c : p t = true
      · rw [c, h t c, if_pos rfl]; omega
      · simp only [Bool.not_eq_true] at c
        rw [c, if_neg (by simp)]; split <;> omega
theorem cLo_lt {ts : List Int} {l m : Int} (h : m < l) (hm : m = -9223372036854775808 ∨ m ∈ ts) : cLo ts m < cLo ts l := by
  have mono : ∀ x : Int, decide (x < m) = true → decide (x < l) = true := fun x hx => by simp at hx ⊢; omega
  have c := count_mono mono ts
  rcases hm with e | e
  · unfold cLo
    rw [if_neg (show ¬ -9223372036854775808 < m by omega), if_pos (show -9223372036854775808 < l by omega)]
    omega
  · have d := count_lt mono (z := m) (by simp) (by simp; omega) e
    unfold cLo
    by_cases p : -9223372036854775808 < m
    · rw [if_pos p, if_pos (show -9223372036854775808 < l by omega)]; omega
    · rw [if_neg p]; split <;> omega
theorem cHi_lt {ts : List Int} {l m : Int} (h : l < m) (hm : m = 9223372036854775807 ∨ m ∈ ts) : cHi ts m < cHi ts l := by
  have mono : ∀ x : Int, decide (m < x) = true → decide (l < x) = true := fun x hx => by simp at hx ⊢; omega
  have c := count_mono mono ts
  rcases hm with e | e
  · unfold cHi
    rw [if_neg (show ¬ m < 9223372036854775807 by omega), if_pos (show l < 9223372036854775807 by omega)]
    omega
  · have d := count_lt mono (z := m) (by simp) (by simp; omega) e
    unfold cHi
    by_cases p : m < 9223372036854775807
    · rw [if_pos p, if_pos (show l < 9223372036854775807 by omega)]; omega
    · rw [if_neg p]; split <;> omega
theorem wLo_le {bl : Int} (h : In64 bl) (ts : List Int) : wLo bl ts ≤ bl := by
  unfold In64 at h
  rcases foldLo bl ts (-9223372036854775808) with e | ⟨_, e⟩
  · unfold wLo; omega
  · exact e
theorem wHi_ge {bh : Int} (h : In64 bh) (ts : List Int) : bh ≤ wHi bh ts := by
  unfold In64 at h
  rcases foldHi bh ts 9223372036854775807 with e | ⟨_, e⟩
  · unfold wHi; omega
  · exact e
/-- Widen holds both. -/
theorem widen_leq {al ah bl bh : Int} (hl : In64 bl) (hh : In64 bh) (ts : List Int) :
    leqI al ah (widenI al ah bl bh ts).1 (widenI al ah bl bh ts).2 = true ∧ leqI bl bh (widenI al ah bl bh ts).1 (widenI al ah bl bh ts).2 = true := by
  have a := wLo_le hl ts
  have b := wHi_ge hh ts
  unfold widenI normI leqI
  by_cases c : ah < al
  · rw [if_pos c]; by_cases d : bh < bl
    · rw [if_pos d]; simp [c, d]
    · rw [if_neg d]; simp [c]
  · rw [if_neg c]; by_cases d : bh < bl
    · rw [if_pos d]; simp [d]
    · rw [if_neg d]
      simp only [Bool.or_eq_true, Bool.and_eq_true, decide_eq_true_eq]
      refine ⟨Or.inr ⟨?_, ?_⟩, Or.inr ⟨?_, ?_⟩⟩ <;> split <;> omega
/-- What the row of widenings keeps: how often each end has gone on, and may. -/
def WInv (ts : List Int) (nl nh : Int) (L H : Nat) : Prop := (nh < nl ∧ L = 0 ∧ H = 0) ∨ (nl ≤ nh ∧ L + cLo ts nl ≤ ts.length + 1 ∧ H + cHi ts nh ≤ ts.length + 1)
theorem WInv.start (ts : List Int) (nl nh : Int) : WInv ts nl nh 0 0 := by
  have := cLo_le ts nl; have := cHi_le ts nh
  by_cases c : nh < nl
  · exact Or.inl ⟨c, rfl, rfl⟩
  · exact Or.inr ⟨by omega, by omega, by omega⟩
theorem WInv.end' {ts : List Int} {nl nh : Int} {L H : Nat} (h : WInv ts nl nh L H) : L ≤ ts.length + 1 ∧ H ≤ ts.length + 1 := by
  rcases h with h | h <;> omega
theorem WInv.none {ts : List Int} {nl nh bl bh : Int} {L H : Nat} (h : WInv ts nl nh L H) (c : nh < nl) : WInv ts (widenI nl nh bl bh ts).1 (widenI nl nh bl bh ts).2 L H := by
  rcases h with ⟨_, rfl, rfl⟩ | h
  · exact WInv.start ..
  · omega
theorem WInv.some {ts : List Int} {nl nh bl bh : Int} {L H : Nat} (hl : In64 bl) (hh : In64 bh) (h : WInv ts nl nh L H) (c : nl ≤ nh) :
    WInv ts (widenI nl nh bl bh ts).1 (widenI nl nh bl bh ts).2 (if (widenI nl nh bl bh ts).1 = nl then L else L + 1) (if (widenI nl nh bl bh ts).2 = nh then H else H + 1) := by
  have a := wLo_le hl ts
  have b := wHi_ge hh ts
  rcases h with h | ⟨_, h1, h2⟩
  · omega
  · unfold widenI
    rw [if_neg (show ¬ nh < nl by omega)]
    by_cases d : bh < bl
    · rw [if_pos d]; simp only [if_true]; exact Or.inr ⟨c, h1, h2⟩
    · rw [if_neg d]
      simp only
      refine Or.inr ⟨?_, ?_, ?_⟩
      · split <;> split <;> omega
      · by_cases e : bl < nl
        · rw [if_pos e, if_neg (show ¬ wLo bl ts = nl by omega)]
          have := cLo_lt (ts := ts) (l := nl) (m := wLo bl ts) (by omega) (by rcases foldLo bl ts (-9223372036854775808) with p | p; exact Or.inl p; exact Or.inr p.1)
          omega
        · rw [if_neg e, if_pos rfl]; exact h1
      · by_cases e : nh < bh
        · rw [if_pos e, if_neg (show ¬ wHi bh ts = nh by omega)]
          have := cHi_lt (ts := ts) (l := nh) (m := wHi bh ts) (by omega) (by rcases foldHi bh ts 9223372036854775807 with p | p; exact Or.inl p; exact Or.inr p.1)
          omega
        · rw [if_neg e, if_pos rfl]; exact h2
end
section
open Go.RowKit
def keepC (aM aR bM bR : Nat) : Nat × Nat := if leqC bM bR aM aR = true then (aM, aR) else (1, 0)
def widRaw (a b : Int × Int × Nat × Nat × Bool) (ts : List Int) : Int × Int × Nat × Nat × Bool :=
  if a.2.2.2.2 = true then b else if b.2.2.2.2 = true then a
  else makeN (widenI a.1 a.2.1 b.1 b.2.1 ts).1 (widenI a.1 a.2.1 b.1 b.2.1 ts).2 (keepC a.2.2.1 a.2.2.2.1 b.2.2.1 b.2.2.2.1).1 (keepC a.2.2.1 a.2.2.2.1 b.2.2.1 b.2.2.2.1).2
def widenN (a b : Int × Int × Nat × Nat × Bool) (ts : List Int) : Int × Int × Nat × Nat × Bool := widRaw (normN a) (normN b) ts
theorem wLo_ge (bl : Int) (ts : List Int) : -9223372036854775808 ≤ wLo bl ts := by
  unfold wLo
  have key : ∀ (ts : List Int) (m : Int), m ≤ ts.foldl (stLo bl) m := by
    intro ts
    induction ts with
    | nil => intro m; exact Int.le_refl _
    | cons t ts ih =>
      intro m
      rw [List.foldl_cons]
      have := ih (stLo bl m t)
      have : m ≤ stLo bl m t := by unfold stLo; split <;> omega
      omega
  exact key ts _
theorem wHi_le (bh : Int) (ts : List Int) : wHi bh ts ≤ 9223372036854775807 := by
  unfold wHi
  have key : ∀ (ts : List Int) (m : Int), ts.foldl (stHi bh) m ≤ m := by
    intro ts
    induction ts with
    | nil => intro m; exact Int.le_refl _
    | cons t ts ih =>
      intro m
      rw [List.foldl_cons]
      have := ih (stHi bh m t)
      have : stHi bh m t ≤ m := by unfold stHi; split <;> omega
      omega
  exact key ts _
/-- No threshold lies between what was chosen and what it was chosen for. -/
theorem wLo_most (bl : Int) (ts : List Int) : ∀ t ∈ ts, t ≤ bl → t ≤ wLo bl ts := by
  unfold wLo
  have mono : ∀ (ts : List Int) (m : Int), m ≤ ts.foldl (stLo bl) m := by
    intro ts
    induction ts with
    | nil => intro m; exact Int.le_refl _
    | cons t ts ih =>
      intro m
      rw [List.foldl_cons]
      have := ih (stLo bl m t)
      have : m ≤ stLo bl m t := by unfold stLo; split <;> omega
      omega
  have key : ∀ (ts : List Int) (m : Int), ∀ t ∈ ts, t ≤ bl → t ≤ ts.foldl (stLo bl) m := by
    intro ts
    induction ts with
    | nil => intro m t h; exact absurd h List.not_mem_nil
    | cons s ts ih =>
      intro m t h hb
      rw [List.foldl_cons]
      rcases List.mem_cons.1 h with e | h
      · have a := mono ts (stLo bl m s)
        have : t ≤ stLo bl m s := by unfold stLo; subst e; split <;> omega
        omega
      · exact ih _ t h hb
  exact key ts _
theorem wHi_most (bh : Int) (ts : List Int) : ∀ t ∈ ts, bh ≤ t → wHi bh ts ≤ t := by
  unfold wHi
  have mono : ∀ (ts : List Int) (m : Int), ts.foldl (stHi bh) m ≤ m := by
    intro ts
    induction ts with
    | nil => intro m; exact Int.le_refl _
    | cons t ts ih =>
      intro m
      rw [List.foldl_cons]
      have := ih (stHi bh m t)
      have : stHi bh m t ≤ m := by unfold stHi; split <;> omega
      omega
  have key : ∀ (ts : List Int) (m : Int), ∀ t ∈ ts, bh ≤ t → ts.foldl (stHi bh) m ≤ t := by
    intro ts
    induction ts with
    | nil => intro m t h; exact absurd h List.not_mem_nil
    | cons s ts ih =>
      intro m t h hb
      rw [List.foldl_cons]
      rcases List.mem_cons.1 h with e | h
      · have a := mono ts (stHi bh m s)
        have : stHi bh m s ≤ t := by unfold stHi; subst e; split <;> omega
        omega
      · exact ih _ t h hb
  exact key ts _
/-- All thresholds of the lower end, of the upper one. -/
def tL (ts : List Int) : List Int := -9223372036854775808 :: ts
def tH (ts : List Int) : List Int := 9223372036854775807 :: ts
theorem wLo_in (bl : Int) (ts : List Int) : wLo bl ts ∈ tL ts := by
  unfold tL
  rcases foldLo bl ts (-9223372036854775808) with e | ⟨e, _⟩
  · rw [show wLo bl ts = -9223372036854775808 from e]; exact List.mem_cons_self
  · exact List.mem_cons_of_mem _ e
theorem wHi_in (bh : Int) (ts : List Int) : wHi bh ts ∈ tH ts := by
  unfold tH
  rcases foldHi bh ts 9223372036854775807 with e | ⟨e, _⟩
  · rw [show wHi bh ts = 9223372036854775807 from e]; exact List.mem_cons_self
  · exact List.mem_cons_of_mem _ e
def ltL (ts : List Int) (l : Int) : Nat := (tL ts).countP (fun t => decide (t < l))
def leL (ts : List Int) (l : Int) : Nat := (tL ts).countP (fun t => decide (t ≤ l))
def ltH (ts : List Int) (h : Int) : Nat := (tH ts).countP (fun t => decide (h < t))
def leH (ts : List Int) (h : Int) : Nat := (tH ts).countP (fun t => decide (h ≤ t))
theorem leL_top (ts : List Int) (l : Int) : leL ts l ≤ ts.length + 1 := by
  unfold leL; exact Nat.le_trans List.countP_le_length (by unfold tL; simp)
theorem leH_top (ts : List Int) (l : Int) : leH ts l ≤ ts.length + 1 := by
  unfold leH; exact Nat.le_trans List.countP_le_length (by unfold tH; simp)
theorem ltL_lt {ts : List Int} {w l : Int} (hw : w ∈ tL ts) (h : w < l) : ltL ts w < ltL ts l := by
  unfold ltL; exact count_lt (fun x hx => by simp at hx ⊢; omega) (z := w) (by simp) (by simp; omega) hw
theorem ltL_le {ts : List Int} {w : Int} (hw : w ∈ tL ts) : ltL ts w < leL ts w := by
  unfold ltL leL; exact count_lt (fun x hx => by simp at hx ⊢; omega) (z := w) (by simp) (by simp) hw
theorem leL_mono {ts : List Int} {w l : Int} (h : w ≤ l) : leL ts w ≤ leL ts l := by
  unfold leL; exact count_mono (fun x hx => by simp at hx ⊢; omega) _
theorem leL_lt {ts : List Int} {w r : Int} (hr : r ∈ tL ts) (h : w < r) : leL ts w < leL ts r := by
  unfold leL; exact count_lt (fun x hx => by simp at hx ⊢; omega) (z := r) (by simp; omega) (by simp) hr
theorem ltH_lt {ts : List Int} {w l : Int} (hw : w ∈ tH ts) (h : l < w) : ltH ts w < ltH ts l := by
  unfold ltH; exact count_lt (fun x hx => by simp at hx ⊢; omega) (z := w) (by simp) (by simp; omega) hw
theorem ltH_le {ts : List Int} {w : Int} (hw : w ∈ tH ts) : ltH ts w < leH ts w := by
  unfold ltH leH; exact count_lt (fun x hx => by simp at hx ⊢; omega) (z := w) (by simp) (by simp) hw
theorem leH_mono {ts : List Int} {w l : Int} (h : l ≤ w) : leH ts w ≤ leH ts l := by
  unfold leH; exact count_mono (fun x hx => by simp at hx ⊢; omega) _
theorem leH_lt {ts : List Int} {w r : Int} (hr : r ∈ tH ts) (h : r < w) : leH ts w < leH ts r := by
  unfold leH; exact count_lt (fun x hx => by simp at hx ⊢; omega) (z := r) (by simp; omega) (by simp) hr
theorem ltL_of {ts : List Int} {r l : Int} (h : ∀ t ∈ tL ts, t < l → t ≤ r) : ltL ts l ≤ leL ts r := by
  unfold ltL leL
  exact List.countP_mono_left (fun x hx p => by simp at p ⊢; exact h x hx p)
theorem ltH_of {ts : List Int} {r l : Int} (h : ∀ t ∈ tH ts, l < t → r ≤ t) : ltH ts l ≤ leH ts r := by
  unfold ltH leH
  exact List.countP_mono_left (fun x hx p => by simp at p ⊢; exact h x hx p)
/-- The lower end, as long as the class M, R stands: n moves so far. -/
def EL (ts : List Int) (M R n : Nat) (l : Int) : Prop :=
  n = 0 ∨ ∃ r, r ∈ tL ts ∧ r ≤ l ∧ (∀ x, MemC M R x → r ≤ x → l ≤ x) ∧ (∀ t ∈ tL ts, t < l → t ≤ r) ∧ n + leL ts r ≤ ts.length + 2
def EH (ts : List Int) (M R n : Nat) (h : Int) : Prop :=
  n = 0 ∨ ∃ r, r ∈ tH ts ∧ h ≤ r ∧ (∀ x, MemC M R x → x ≤ r → x ≤ h) ∧ (∀ t ∈ tH ts, h < t → r ≤ t) ∧ n + leH ts r ≤ ts.length + 2
theorem EL.move {ts : List Int} {M R n : Nat} {l l' b w : Int} (e : EL ts M R n l) (hw : w ∈ tL ts) (hm : ∀ t ∈ tL ts, t ≤ b → t ≤ w) (h1 : w ≤ l') (h2 : l' ≤ b) (hb : b < l) (c : MemC M R l') (hl : ∀ x, MemC M R x → w ≤ x → l' ≤ x) : EL ts M R (n + 1) l' := by
  refine Or.inr ⟨w, hw, h1, hl, fun t ht hlt => hm t ht (by omega), ?_⟩
  rcases e with rfl | ⟨r, hr, _, hx, _, hn⟩
  · have := leL_top ts w; omega
  · have : w < r := by
      apply Int.lt_of_not_ge
      intro k
      have := hx l' c (by omega)
      omega
    have := leL_lt hr this
    omega
theorem EH.move {ts : List Int} {M R n : Nat} {l l' b w : Int} (e : EH ts M R n l) (hw : w ∈ tH ts) (hm : ∀ t ∈ tH ts, b ≤ t → w ≤ t) (h1 : l' ≤ w) (h2 : b ≤ l') (hb : l < b) (c : MemC M R l') (hl : ∀ x, MemC M R x → x ≤ w → x ≤ l') : EH ts M R (n + 1) l' := by
  refine Or.inr ⟨w, hw, h1, hl, fun t ht hlt => hm t ht (by omega), ?_⟩
  rcases e with rfl | ⟨r, hr, _, hx, _, hn⟩
  · have := leH_top ts w; omega
  · have : r < w := by
      apply Int.lt_of_not_ge
      intro k
      have := hx l' c (by omega)
      omega
    have := leH_lt hr this
    omega
/-- The class falls: the end stays, or moves at once. -/
theorem EL.fall {ts : List Int} {M R n : Nat} {l : Int} (e : EL ts M R n l) : n + ltL ts l ≤ ts.length + 2 := by
  rcases e with rfl | ⟨r, hr, _, _, hx, hn⟩
  · have : ltL ts l ≤ leL ts l := by unfold ltL leL; exact count_mono (fun x hx => by simp at hx ⊢; omega) _
    have := leL_top ts l; omega
  · have := ltL_of hx; omega
theorem EH.fall {ts : List Int} {M R n : Nat} {l : Int} (e : EH ts M R n l) : n + ltH ts l ≤ ts.length + 2 := by
  rcases e with rfl | ⟨r, hr, _, _, hx, hn⟩
  · have : ltH ts l ≤ leH ts l := by unfold ltH leH; exact count_mono (fun x hx => by simp at hx ⊢; omega) _
    have := leH_top ts l; omega
  · have := ltH_of hx; omega
theorem EL.top {ts : List Int} {M R n : Nat} {l : Int} (e : EL ts M R n l) : n ≤ ts.length + 2 := by have := e.fall; omega
theorem EH.top {ts : List Int} {M R n : Nat} {l : Int} (e : EH ts M R n l) : n ≤ ts.length + 2 := by have := e.fall; omega
/-- What a row of widenings keeps: moves of both ends, the class's fall, the first that isn't Bot. -/
def RInv (ts : List Int) (a : Int × Int × Nat × Nat × Bool) (ch : Nat) : Prop :=
  (a = botN ∧ ch = 0) ∨ (a.2.2.2.2 = false ∧ ∃ p q : Nat,
    (ch ≤ p + q + 1 ∧ EL ts a.2.2.1 a.2.2.2.1 p a.1 ∧ EH ts a.2.2.1 a.2.2.2.1 q a.2.1) ∨
    (ch ≤ p + q + 2 ∧ a.2.2.1 = 1 ∧ a.2.2.2.1 = 0 ∧ p + ltL ts a.1 ≤ ts.length + 2 ∧ q + ltH ts a.2.1 ≤ ts.length + 2))
theorem RInv.end' {ts : List Int} {a : Int × Int × Nat × Nat × Bool} {ch : Nat} (h : RInv ts a ch) : ch ≤ 2 * (ts.length + 3) := by
  rcases h with ⟨_, h⟩ | ⟨_, p, q, ⟨h1, h2, h3⟩ | ⟨h1, _, _, h2, h3⟩⟩
  · omega
  · have := h2.top; have := h3.top; omega
  · omega
theorem RInv.start {ts : List Int} {a : Int × Int × Nat × Nat × Bool} (n : NormN a) : RInv ts a 0 := by
  rcases n with n | n
  · exact Or.inl ⟨n, rfl⟩
  · exact Or.inr ⟨n.1, 0, 0, Or.inl ⟨by omega, Or.inl rfl, Or.inl rfl⟩⟩
theorem widenI_some {al ah bl bh : Int} (ha : al ≤ ah) (hb : bl ≤ bh) (ts : List Int) : widenI al ah bl bh ts = (if bl < al then wLo bl ts else al, if ah < bh then wHi bh ts else ah) := by
  unfold widenI; rw [if_neg (by omega), if_neg (by omega)]
theorem widenI_in {al ah bl bh : Int} (ha1 : In64 al) (ha2 : In64 ah) (hb1 : In64 bl) (hb2 : In64 bh) (ha : al ≤ ah) (hb : bl ≤ bh) (ts : List Int) : In64 (widenI al ah bl bh ts).1 ∧ In64 (widenI al ah bl bh ts).2 := by
  rw [widenI_some ha hb]
  have a := wLo_le hb1 ts; have b := wLo_ge bl ts; have c := wHi_ge hb2 ts; have d := wHi_le bh ts
  unfold In64 at *
  simp only
  constructor
  · split <;> omega
  · split <;> omega
/-- The ends of a Make that has a number. -/
theorem make_ends {lo hi : Int} {M R : Nat} (hl : In64 lo) (hh : In64 hi) {z : Int} (hz : In64 z) (h1 : lo ≤ z) (h2 : z ≤ hi) (h3 : MemC M R z) :
    (makeN lo hi M R).2.2.2.2 = false ∧ lo ≤ (makeN lo hi M R).1 ∧ (makeN lo hi M R).2.1 ≤ hi ∧ (makeN lo hi M R).1 ≤ z ∧ z ≤ (makeN lo hi M R).2.1 ∧ MemC M R (makeN lo hi M R).1 ∧ MemC M R (makeN lo hi M R).2.1 ∧ (∀ x, MemC M R x → lo ≤ x → (makeN lo hi M R).1 ≤ x) ∧ (∀ x, MemC M R x → x ≤ hi → x ≤ (makeN lo hi M R).2.1) := by
  have n := make_norm (M := M) (R := R) hl hh
  have m := fun {v : Int} (hv : In64 v) => make_mem (M := M) (R := R) hl hh hv
  have zz := (m hz).2 ⟨h1, h2, h3⟩
  generalize makeN lo hi M R = a at *
  rcases n with rfl | n
  · exact absurd zz (memN_bot _)
  have e := norm_ends n
  have p := (m n.2.1).1 e.1
  have q := (m n.2.2.1).1 e.2
  refine ⟨n.1, p.1, q.2.1, zz.2.1, zz.2.2.1, p.2.2, q.2.2, fun x hx hlo => ?_, fun x hx hhi => ?_⟩
  · apply Int.le_of_not_gt
    intro c
    have := (m (v := x) (by have := n.2.1; unfold In64 at *; omega)).2 ⟨hlo, by omega, hx⟩
    have := this.2.1
    omega
  · apply Int.le_of_not_gt
    intro c
    have := (m (v := x) (by have := n.2.2.1; unfold In64 at *; omega)).2 ⟨by omega, hhi, hx⟩
    have := this.2.2.1
    omega
theorem make_class {lo hi : Int} {M R : Nat} (h : (makeN lo hi M R).1 < (makeN lo hi M R).2.1) : (makeN lo hi M R).2.2.1 = (normC M R).1 ∧ (makeN lo hi M R).2.2.2.1 = (normC M R).2 := by
  unfold makeN at h ⊢
  by_cases h0 : hi < lo
  · rw [if_pos h0] at h; unfold botN at h; simp at h
  rw [if_neg h0] at h ⊢
  by_cases h1 : (upC M R lo).2 = false ∨ (downC M R hi).2 = false ∨ (downC M R hi).1 < (upC M R lo).1
  · rw [if_pos h1] at h; unfold botN at h; simp at h
  rw [if_neg h1] at h ⊢
  by_cases h2 : (upC M R lo).1 = (downC M R hi).1
  · rw [if_pos h2] at h; unfold constN at h; simp at h
  · rw [if_neg h2]; exact ⟨rfl, rfl⟩
end
section
open Go.RowKit
theorem keep_left {aM aR bM bR : Nat} {v : Int} (h : MemC aM aR v) : MemC (keepC aM aR bM bR).1 (keepC aM aR bM bR).2 v := by
  unfold keepC; split
  · exact h
  · exact all_mem v
theorem keep_right {aM aR bM bR : Nat} (ha : U64 aR) (hb : U64 bR) {v : Int} (h : MemC bM bR v) : MemC (keepC aM aR bM bR).1 (keepC aM aR bM bR).2 v := by
  unfold keepC; split
  · rename_i c; exact (leqC_iff hb ha).1 c v h
  · exact all_mem v
theorem keep_u64 {aM aR bM bR : Nat} (h1 : U64 aM) (h2 : U64 aR) : U64 (keepC aM aR bM bR).1 ∧ U64 (keepC aM aR bM bR).2 := by
  unfold keepC; split
  · exact ⟨h1, h2⟩
  · exact ⟨show (1 : Nat) < 18446744073709551616 by omega, show (0 : Nat) < 18446744073709551616 by omega⟩
theorem widRaw_norm {a b : Int × Int × Nat × Nat × Bool} (ra : RawN a) (na : NormN a) (rb : RawN b) (nb : NormN b) (ts : List Int) : NormN (widRaw a b ts) := by
  unfold widRaw
  split
  · exact nb
  · split
    · exact na
    · rename_i x y
      have sa := norm_some na (by simpa using x)
      have sb := norm_some nb (by simpa using y)
      have i := widenI_in ra.1 ra.2.1 rb.1 rb.2.1 sa sb ts
      exact make_norm i.1 i.2
theorem widRaw_raw {a b : Int × Int × Nat × Nat × Bool} (ra : RawN a) (na : NormN a) (rb : RawN b) (nb : NormN b) (ts : List Int) : RawN (widRaw a b ts) := by
  unfold widRaw
  split
  · exact rb
  · split
    · exact ra
    · rename_i x y
      have sa := norm_some na (by simpa using x)
      have sb := norm_some nb (by simpa using y)
      have i := widenI_in ra.1 ra.2.1 rb.1 rb.2.1 sa sb ts
      have k := keep_u64 (aM := a.2.2.1) (aR := a.2.2.2.1) (bM := b.2.2.1) (bR := b.2.2.2.1) ra.2.2.1 ra.2.2.2
      exact make_raw i.1 i.2 k.1 k.2
theorem widRaw_mem {a b : Int × Int × Nat × Nat × Bool} (ra : RawN a) (na : NormN a) (rb : RawN b) (nb : NormN b) (ts : List Int) {v : Int} (hv : In64 v) (h : MemN a v ∨ MemN b v) : MemN (widRaw a b ts) v := by
  unfold widRaw
  by_cases x : a.2.2.2.2 = true
  · rw [if_pos x]
    rcases h with h | h
    · have := h.1; rw [x] at this; cases this
    · exact h
  rw [if_neg x]
  by_cases y : b.2.2.2.2 = true
  · rw [if_pos y]
    rcases h with h | h
    · exact h
    · have := h.1; rw [y] at this; cases this
  rw [if_neg y]
  have sa := norm_some na (by simpa using x)
  have sb := norm_some nb (by simpa using y)
  have i := widenI_in ra.1 ra.2.1 rb.1 rb.2.1 sa sb ts
  rw [make_mem i.1 i.2 hv]
  have l := wLo_le rb.1 ts
  have u := wHi_ge rb.2.1 ts
  rw [widenI_some sa sb]
  simp only
  rcases h with h | h
  · have p := h.2.1; have q := h.2.2.1
    exact ⟨by split <;> omega, by split <;> omega, keep_left h.2.2.2⟩
  · have p := h.2.1; have q := h.2.2.1
    exact ⟨by split <;> omega, by split <;> omega, keep_right ra.2.2.2 rb.2.2.2 h.2.2.2⟩
theorem tL_most (bl : Int) (ts : List Int) : ∀ t ∈ tL ts, t ≤ bl → t ≤ wLo bl ts := by
  intro t ht hb
  rcases List.mem_cons.1 ht with e | e
  · rw [e]; exact wLo_ge bl ts
  · exact wLo_most bl ts t e hb
theorem tH_most (bh : Int) (ts : List Int) : ∀ t ∈ tH ts, bh ≤ t → wHi bh ts ≤ t := by
  intro t ht hb
  rcases List.mem_cons.1 ht with e | e
  · rw [e]; exact wHi_le bh ts
  · exact wHi_most bh ts t e hb
theorem EL.step {ts : List Int} {M R p : Nat} {al bl x : Int} (e : EL ts M R p al) (mv : bl < al → wLo bl ts ≤ x ∧ x ≤ bl ∧ MemC M R x ∧ (∀ z, MemC M R z → wLo bl ts ≤ z → x ≤ z)) (st : ¬ bl < al → x = al) : EL ts M R (p + (if bl < al then 1 else 0)) x := by
  by_cases c : bl < al
  · rw [if_pos c]
    obtain ⟨m1, m2, m3, m4⟩ := mv c
    exact e.move (wLo_in bl ts) (tL_most bl ts) m1 m2 c m3 m4
  · rw [if_neg c, st c]; exact e
theorem EH.step {ts : List Int} {M R p : Nat} {ah bh x : Int} (e : EH ts M R p ah) (mv : ah < bh → x ≤ wHi bh ts ∧ bh ≤ x ∧ MemC M R x ∧ (∀ z, MemC M R z → z ≤ wHi bh ts → z ≤ x)) (st : ¬ ah < bh → x = ah) : EH ts M R (p + (if ah < bh then 1 else 0)) x := by
  by_cases c : ah < bh
  · rw [if_pos c]
    obtain ⟨m1, m2, m3, m4⟩ := mv c
    exact e.move (wHi_in bh ts) (tH_most bh ts) m1 m2 c m3 m4
  · rw [if_neg c, st c]; exact e
theorem FL.step {ts : List Int} {p : Nat} {al bl x : Int} (hb : In64 bl) (e : p + ltL ts al ≤ ts.length + 2) (hx : x = if bl < al then wLo bl ts else al) : p + (if bl < al then 1 else 0) + ltL ts x ≤ ts.length + 2 := by
  have wl := wLo_le hb ts
  by_cases c : bl < al
  · rw [if_pos c] at hx ⊢
    have d := ltL_lt (ts := ts) (l := al) (wLo_in bl ts) (by omega)
    rw [hx]; omega
  · rw [if_neg c] at hx ⊢
    rw [hx]; exact e
theorem FH.step {ts : List Int} {p : Nat} {ah bh x : Int} (hb : In64 bh) (e : p + ltH ts ah ≤ ts.length + 2) (hx : x = if ah < bh then wHi bh ts else ah) : p + (if ah < bh then 1 else 0) + ltH ts x ≤ ts.length + 2 := by
  have wl := wHi_ge hb ts
  by_cases c : ah < bh
  · rw [if_pos c] at hx ⊢
    have d := ltH_lt (ts := ts) (l := ah) (wHi_in bh ts) (by omega)
    rw [hx]; omega
  · rw [if_neg c] at hx ⊢
    rw [hx]; exact e
theorem cnt_step {P Q S : Prop} [Decidable P] [Decidable Q] [Decidable S] {ch p q d : Nat} (h : ¬ P → ¬ Q → S) (hc : ch ≤ p + q + d) : (if S then ch else ch + 1) ≤ (p + (if P then 1 else 0)) + (q + (if Q then 1 else 0)) + d := by
  by_cases c : P
  · rw [if_pos c]; split <;> split <;> omega
  · by_cases d' : Q
    · rw [if_neg c, if_pos d']; split <;> omega
    · rw [if_neg c, if_neg d', if_pos (h c d')]; exact hc
theorem cnt_more {S : Prop} [Decidable S] {ch p q a b : Nat} (hc : ch ≤ p + q + 1) : (if S then ch else ch + 1) ≤ (p + a) + (q + b) + 2 := by
  split <;> omega
/-- Where the class stands. -/
theorem wid_keep {ts : List Int} {a b : Int × Int × Nat × Nat × Bool} (ra : RawN a) (na : NormN a) (rb : RawN b) (nb : NormN b) (xa : a.2.2.2.2 = false) (yb : b.2.2.2.2 = false) (lq : leqC b.2.2.1 b.2.2.2.1 a.2.2.1 a.2.2.2.1 = true) (lt : a.1 < a.2.1) :
    (widRaw a b ts).2.2.2.2 = false ∧ (widRaw a b ts).2.2.1 = a.2.2.1 ∧ (widRaw a b ts).2.2.2.1 = a.2.2.2.1 ∧
    (b.1 < a.1 → wLo b.1 ts ≤ (widRaw a b ts).1 ∧ (widRaw a b ts).1 ≤ b.1 ∧ MemC a.2.2.1 a.2.2.2.1 (widRaw a b ts).1 ∧ (∀ z, MemC a.2.2.1 a.2.2.2.1 z → wLo b.1 ts ≤ z → (widRaw a b ts).1 ≤ z)) ∧ (¬ b.1 < a.1 → (widRaw a b ts).1 = a.1) ∧
    (a.2.1 < b.2.1 → (widRaw a b ts).2.1 ≤ wHi b.2.1 ts ∧ b.2.1 ≤ (widRaw a b ts).2.1 ∧ MemC a.2.2.1 a.2.2.2.1 (widRaw a b ts).2.1 ∧ (∀ z, MemC a.2.2.1 a.2.2.2.1 z → z ≤ wHi b.2.1 ts → z ≤ (widRaw a b ts).2.1)) ∧ (¬ a.2.1 < b.2.1 → (widRaw a b ts).2.1 = a.2.1) := by
  have sa := norm_some na xa
  have sb := norm_some nb yb
  have i := widenI_in ra.1 ra.2.1 rb.1 rb.2.1 sa sb ts
  rcases na with na | na
  · rw [na] at xa; cases xa
  rcases nb with nb | nb
  · rw [nb] at yb; cases yb
  have ea := norm_ends na
  have eb := norm_ends nb
  have wl := wLo_le rb.1 ts
  have wh := wHi_ge rb.2.1 ts
  have nrm := na.2.2.2.2.2.2.2 lt
  have lq' := (leqC_iff rb.2.2.2 ra.2.2.2).1 lq
  have e : widRaw a b ts = makeN (if b.1 < a.1 then wLo b.1 ts else a.1) (if a.2.1 < b.2.1 then wHi b.2.1 ts else a.2.1) a.2.2.1 a.2.2.2.1 := by
    unfold widRaw keepC
    rw [if_neg (by rw [xa]; simp), if_neg (by rw [yb]; simp), if_pos lq, widenI_some sa sb]
  rw [widenI_some sa sb] at i
  simp only at i
  obtain ⟨lo, hlo⟩ : ∃ z, z = if b.1 < a.1 then wLo b.1 ts else a.1 := ⟨_, rfl⟩
  obtain ⟨hi, hhi⟩ : ∃ z, z = if a.2.1 < b.2.1 then wHi b.2.1 ts else a.2.1 := ⟨_, rfl⟩
  rw [← hlo, ← hhi] at e i
  have l1 : lo ≤ a.1 := by clear lq' nrm na nb; rw [hlo]; split <;> omega
  have l2 : a.2.1 ≤ hi := by clear lq' nrm na nb; rw [hhi]; split <;> omega
  have b1 : lo ≤ b.1 := by clear lq' nrm na nb; rw [hlo]; split <;> omega
  have b2 : b.2.1 ≤ hi := by clear lq' nrm na nb; rw [hhi]; split <;> omega
  have K := make_ends (M := a.2.2.1) (R := a.2.2.2.1) i.1 i.2 (z := a.1) na.2.1 l1 (by omega) ea.1.2.2.2
  have G := make_class (lo := lo) (hi := hi) (M := a.2.2.1) (R := a.2.2.2.1)
  rw [← e] at K G
  rw [normC_id (Or.inr nrm.2)] at G
  obtain ⟨k1, k2, k3, k4, k5, k6, k7, k8, k9⟩ := K
  have g2 : a.2.1 ≤ (widRaw a b ts).2.1 := k9 _ ea.2.2.2.2 l2
  have cl := G (Int.lt_of_le_of_lt k4 (Int.lt_of_lt_of_le lt g2))
  have m1 := k8 _ (lq' _ eb.1.2.2.2) b1
  have m2 := k9 _ (lq' _ eb.2.2.2.2) b2
  refine ⟨k1, cl.1, cl.2, fun c => ?_, fun c => ?_, fun c => ?_, fun c => ?_⟩
  · rw [if_pos c] at hlo; rw [← hlo]; exact ⟨k2, m1, k6, k8⟩
  · rw [if_neg c] at hlo; rw [hlo] at k2; exact Int.le_antisymm k4 k2
  · rw [if_pos c] at hhi; rw [← hhi]; exact ⟨k3, m2, k7, k9⟩
  · rw [if_neg c] at hhi; rw [hhi] at k3; exact Int.le_antisymm k3 g2
/-- Where it falls. -/
theorem wid_fall {ts : List Int} {a b : Int × Int × Nat × Nat × Bool} (ra : RawN a) (na : NormN a) (rb : RawN b) (nb : NormN b) (xa : a.2.2.2.2 = false) (yb : b.2.2.2.2 = false) (lq : ¬ leqC b.2.2.1 b.2.2.2.1 a.2.2.1 a.2.2.2.1 = true) :
    (widRaw a b ts).2.2.2.2 = false ∧ (widRaw a b ts).2.2.1 = 1 ∧ (widRaw a b ts).2.2.2.1 = 0 ∧ (widRaw a b ts).1 = (if b.1 < a.1 then wLo b.1 ts else a.1) ∧ (widRaw a b ts).2.1 = (if a.2.1 < b.2.1 then wHi b.2.1 ts else a.2.1) := by
  have sa := norm_some na xa
  have sb := norm_some nb yb
  have i := widenI_in ra.1 ra.2.1 rb.1 rb.2.1 sa sb ts
  rcases na with na | na
  · rw [na] at xa; cases xa
  rcases nb with nb | nb
  · rw [nb] at yb; cases yb
  have ea := norm_ends na
  have eb := norm_ends nb
  have wl := wLo_le rb.1 ts
  have wh := wHi_ge rb.2.1 ts
  have e : widRaw a b ts = makeN (if b.1 < a.1 then wLo b.1 ts else a.1) (if a.2.1 < b.2.1 then wHi b.2.1 ts else a.2.1) 1 0 := by
    unfold widRaw keepC
    rw [if_neg (by rw [xa]; simp), if_neg (by rw [yb]; simp), if_neg lq, widenI_some sa sb]
  rw [widenI_some sa sb] at i
  simp only at i
  obtain ⟨lo, hlo⟩ : ∃ z, z = if b.1 < a.1 then wLo b.1 ts else a.1 := ⟨_, rfl⟩
  obtain ⟨hi, hhi⟩ : ∃ z, z = if a.2.1 < b.2.1 then wHi b.2.1 ts else a.2.1 := ⟨_, rfl⟩
  rw [← hlo, ← hhi] at e i ⊢
  have l1 : lo ≤ a.1 := by clear na nb; rw [hlo]; split <;> omega
  have l2 : a.2.1 ≤ hi := by clear na nb; rw [hhi]; split <;> omega
  have b1 : lo ≤ b.1 := by clear na nb; rw [hlo]; split <;> omega
  have b2 : b.2.1 ≤ hi := by clear na nb; rw [hhi]; split <;> omega
  have K := make_ends (M := 1) (R := 0) i.1 i.2 (z := a.1) na.2.1 l1 (by clear na nb; omega) (all_mem _)
  have G := make_class (lo := lo) (hi := hi) (M := 1) (R := 0)
  rw [← e] at K G
  rw [normC_id (Or.inr (show (0 : Nat) < 1 by omega))] at G
  obtain ⟨k1, k2, k3, k4, k5, k6, k7, k8, k9⟩ := K
  have elo := Int.le_antisymm (k8 _ (all_mem _) (Int.le_refl _)) k2
  have ehi := Int.le_antisymm k3 (k9 _ (all_mem _) (Int.le_refl _))
  have lt : lo < hi := by
    apply Int.lt_of_not_ge
    intro c
    apply lq
    rw [leqC_iff rb.2.2.2 ra.2.2.2]
    have eq1 : a.1 = b.1 := by clear na nb G; omega
    have one : b.1 = b.2.1 := by clear na nb G; omega
    have z := nb.2.2.2.2.2.2.1 one
    intro v hv
    rw [z.1, z.2, memC_zero, wrap_bits nb.2.1] at hv
    rw [hv, ← eq1]; exact ea.1.2.2.2
  have cl := G (by rw [elo, ehi]; exact lt)
  exact ⟨k1, cl.1, cl.2, elo, ehi⟩
/-- A single number that keeps its class stays. -/
theorem wid_one {ts : List Int} {a b : Int × Int × Nat × Nat × Bool} (ra : RawN a) (na : NormN a) (rb : RawN b) (nb : NormN b) (xa : a.2.2.2.2 = false) (yb : b.2.2.2.2 = false) (lq : leqC b.2.2.1 b.2.2.2.1 a.2.2.1 a.2.2.2.1 = true) (one : a.1 = a.2.1) : widRaw a b ts = a := by
  have sa := norm_some na xa
  have sb := norm_some nb yb
  have na0 := na
  have i := widenI_in ra.1 ra.2.1 rb.1 rb.2.1 sa sb ts
  rcases na with na | na
  · rw [na] at xa; cases xa
  rcases nb with nb | nb
  · rw [nb] at yb; cases yb
  have ea := norm_ends na
  have eb := norm_ends nb
  have lq' := (leqC_iff rb.2.2.2 ra.2.2.2).1 lq
  have z := na.2.2.2.2.2.2.1 one
  have cb1 := lq' _ eb.1.2.2.2
  have cb2 := lq' _ eb.2.2.2.2
  have ca := ea.1.2.2.2
  rw [z.1, memC_zero] at cb1 cb2 ca
  have n1 : ¬ b.1 < a.1 := by clear na nb z; omega
  have n2 : ¬ a.2.1 < b.2.1 := by clear na nb z; omega
  have e : widRaw a b ts = makeN a.1 a.2.1 a.2.2.1 a.2.2.2.1 := by
    unfold widRaw keepC
    rw [if_neg (by rw [xa]; simp), if_neg (by rw [yb]; simp), if_pos lq, widenI_some sa sb, if_neg n1, if_neg n2]
  rw [e]
  refine norm_ext (make_norm ra.1 ra.2.1) na0 (fun v hv => ?_)
  rw [make_mem ra.1 ra.2.1 hv]
  exact ⟨fun m => ⟨xa, m⟩, fun m => m.2⟩
theorem RInv.step {ts : List Int} {a b : Int × Int × Nat × Nat × Bool} {ch : Nat} (ra : RawN a) (na : NormN a) (rb : RawN b) (nb : NormN b) (h : RInv ts a ch) :
    RInv ts (widRaw a b ts) (if widRaw a b ts = a then ch else ch + 1) := by
  by_cases x : a.2.2.2.2 = true
  · have e : widRaw a b ts = b := by unfold widRaw; rw [if_pos x]
    rw [e]
    rcases h with ⟨h1, h2⟩ | ⟨h1, _⟩
    · rcases nb with nb | nb
      · rw [nb, h1, if_pos rfl]; exact Or.inl ⟨rfl, h2⟩
      · subst h2
        refine Or.inr ⟨nb.1, 0, 0, Or.inl ⟨?_, Or.inl rfl, Or.inl rfl⟩⟩
        clear nb
        split <;> omega
    · rw [h1] at x; cases x
  by_cases y : b.2.2.2.2 = true
  · have e : widRaw a b ts = a := by unfold widRaw; rw [if_neg x, if_pos y]
    rw [e, if_pos rfl]; exact h
  have xa : a.2.2.2.2 = false := by simpa using x
  have yb : b.2.2.2.2 = false := by simpa using y
  by_cases lq : leqC b.2.2.1 b.2.2.2.1 a.2.2.1 a.2.2.2.1 = true
  · by_cases one : a.1 = a.2.1
    · have e := wid_one (ts := ts) ra na rb nb xa yb lq one
      rw [e, if_pos rfl]; exact h
    · have lt : a.1 < a.2.1 := by have := norm_some na xa; omega
      obtain ⟨k1, c1, c2, m1, m2, m3, m4⟩ := wid_keep (ts := ts) ra na rb nb xa yb lq lt
      have stay : ¬ b.1 < a.1 → ¬ a.2.1 < b.2.1 → widRaw a b ts = a := fun p q => Prod.ext (m2 p) (Prod.ext (m4 q) (Prod.ext c1 (Prod.ext c2 (k1.trans xa.symm))))
      rcases h with ⟨hb, _⟩ | ⟨_, p, q, ⟨hc, hp, hq⟩ | ⟨hc, hM, hR, hp, hq⟩⟩
      · rw [hb] at xa; cases xa
      · refine Or.inr ⟨k1, p + (if b.1 < a.1 then 1 else 0), q + (if a.2.1 < b.2.1 then 1 else 0), Or.inl ⟨cnt_step stay hc, ?_, ?_⟩⟩
        · rw [c1, c2]; exact hp.step m1 m2
        · rw [c1, c2]; exact hq.step m3 m4
      · have all : ∀ v, MemC a.2.2.1 a.2.2.2.1 v := fun v => by rw [hM, hR]; exact all_mem v
        refine Or.inr ⟨k1, p + (if b.1 < a.1 then 1 else 0), q + (if a.2.1 < b.2.1 then 1 else 0), Or.inr ⟨cnt_step stay hc, c1.trans hM, c2.trans hR, FL.step rb.1 hp ?_, FH.step rb.2.1 hq ?_⟩⟩
        · by_cases c : b.1 < a.1
          · rw [if_pos c]; exact Int.le_antisymm ((m1 c).2.2.2 _ (all _) (Int.le_refl _)) (m1 c).1
          · rw [if_neg c]; exact m2 c
        · by_cases c : a.2.1 < b.2.1
          · rw [if_pos c]; exact Int.le_antisymm (m3 c).1 ((m3 c).2.2.2 _ (all _) (Int.le_refl _))
          · rw [if_neg c]; exact m4 c
  · obtain ⟨k1, c1, c2, e1, e2⟩ := wid_fall (ts := ts) ra na rb nb xa yb lq
    rcases h with ⟨hb, _⟩ | ⟨_, p, q, ⟨hc, hp, hq⟩ | ⟨hc, hM, hR, hp, hq⟩⟩
    · rw [hb] at xa; cases xa
    · exact Or.inr ⟨k1, p + (if b.1 < a.1 then 1 else 0), q + (if a.2.1 < b.2.1 then 1 else 0), Or.inr ⟨cnt_more hc, c1, c2, FL.step rb.1 hp.fall e1, FH.step rb.2.1 hq.fall e2⟩⟩
    · exfalso
      apply lq
      rw [leqC_iff rb.2.2.2 ra.2.2.2]
      intro v _
      rw [hM, hR]; exact all_mem v
end
section
open Go.RowKit

theorem rows_putC {w0 w1 Z : World} {g : Nat} {p0 p1 : Value} {t : TypeId} (ra : w1.heap[g]? = some (.cells #[p0, p1] t (0, 0))) (h0 : Ok w0 w1) (hg : w0.heap.size ≤ g) (x0 x1 : Value) (hZ : Z = ((w1.setCell ⟨g, 0, none⟩ x0).setCell ⟨g, 1, none⟩ x1)) :
    Hid (Ok w0 Z ∧ Z.heap[g]? = some (.cells #[x0, x1] t (0, 0)) ∧ (∀ (h : Nat) (o : Obj), h ≠ g → w1.heap[h]? = some o → Z.heap[h]? = some o)) := by
  subst hZ
  refine ⟨Ok.set (Ok.set h0 hg _) hg _, row_set2 ra x0 x1, ?_⟩
  intro h o h1 ho
  rw [heap_setCell_other _ _ _ _ h1, heap_setCell_other _ _ _ _ h1]
  exact ho
set_option maxRecDepth 100000 in
set_option maxHeartbeats 4000000 in
theorem widen1_any (xl xh : Int) (xM xR : Nat) (yl yh : Int) (yM yR : Nat) (gt : Nat) (ao : Option Addr) (n cap : Nat) (ts : List Int) (hx : RawN (xl, xh, xM, xR, false)) (hy : RawN (yl, yh, yM, yR, false)) (lx : xl ≤ xh) (ly : yl ≤ yh) (w : World) (hr : w.heap[gt]? = some (.cells #[.slice ao n cap] 36)) (hT : SInts w (.slice ao n cap) ts) :
    Calls Tryz.prog 53 #[.agg #[.bool false, .int .i64 xl, .int .i64 xh, .int .u64 (xM : Int), .int .u64 (xR : Int)], .agg #[.bool false, .int .i64 yl, .int .i64 yh, .int .u64 (yM : Int), .int .u64 (yR : Int)], .pointer (some ⟨gt, 0, none⟩)] w fun e w' => e = .returned (nv (makeN (widenI xl xh yl yh ts).1 (widenI xl xh yl yh ts).2 (keepC xM xR yM yR).1 (keepC xM xR yM yR).2)) ∧ Ok w w' := by
  have hok : Ok w w := Ok.refl _
  have HU : Hid (RawN (xl, xh, xM, xR, false) ∧ RawN (yl, yh, yM, yR, false)) := ⟨hx, hy⟩
  have HT : Hid (SInts w (.slice ao n cap) ts) := hT
  have rt : Hid _ := hr
  obtain ⟨q, hq⟩ : ∃ q, q = widenI xl xh yl yh ts := ⟨_, rfl⟩
  have IQ : Hid (In64 q.1 ∧ In64 q.2) := by rw [hq]; exact widenI_in hx.1 hx.2.1 hy.1 hy.2.1 lx ly ts
  have HQ : Hid _ := hq
  obtain ⟨K, hK⟩ : ∃ K, K = keepC xM xR yM yR := ⟨_, rfl⟩
  have IK : Hid (U64 K.1 ∧ U64 K.2) := by rw [hK]; exact keep_u64 hx.2.2.1 hx.2.2.2
  have HKK : Hid _ := hK
  rw [← hq, ← hK]
  have sgt := lt_row hr
  clear hx hy lx ly hT hr hq hK
  go_enter Tryz.func53, Tryz.ntmps53
  go_wp2_with fail
  obtain ⟨W, hW⟩ : ∃ W, W = (((w).alloc (.cells #[.bool false, .int .i64 xl, .int .i64 xh, .int .u64 (xM : Int), .int .u64 (xR : Int)] 28)).alloc (.cells #[.bool false, .int .i64 yl, .int .i64 yh, .int .u64 (yM : Int), .int .u64 (yR : Int)] 28)).alloc (.cells #[.bool false, .int .i64 0, .int .i64 0, .int .u64 0, .int .u64 0] 28) := ⟨_, rfl⟩
  have ra : Hid (W.heap[w.heap.size]? = some (.cells #[.bool false, .int .i64 xl, .int .i64 xh, .int .u64 (xM : Int), .int .u64 (xR : Int)] 28)) := by unfold Hid; rw [hW]; exact (by repeat (first | (refine heap_at _ _ _ ?hx; case hx => (first | (simp; done) | (simp; omega))) | (refine heap_past _ _ _ ?hy ?_; case hy => (first | (simp; done) | (simp; omega))) | fail))
  have rb : Hid (W.heap[w.heap.size + 1]? = some (.cells #[.bool false, .int .i64 yl, .int .i64 yh, .int .u64 (yM : Int), .int .u64 (yR : Int)] 28)) := by unfold Hid; rw [hW]; exact (by repeat (first | (refine heap_at _ _ _ ?hx; case hx => (first | (simp; done) | (simp; omega))) | (refine heap_past _ _ _ ?hy ?_; case hy => (first | (simp; done) | (simp; omega))) | fail))
  have rz : Hid (W.heap[w.heap.size + 1 + 1]? = some (.cells #[.bool false, .int .i64 0, .int .i64 0, .int .u64 0, .int .u64 0] 28)) := by unfold Hid; rw [hW]; exact (by repeat (first | (refine heap_at _ _ _ ?hx; case hx => (first | (simp; done) | (simp; omega))) | (refine heap_past _ _ _ ?hy ?_; case hy => (first | (simp; done) | (simp; omega))) | fail))
  have HW : Hid (Ok w W) := by unfold Hid; rw [hW]; exact (by repeat (first | exact hok | refine Ok.alloc ?_ _ | refine Ok.draws ?_ _ | fail))
  rw [← hW]
  clear hW
  obtain ⟨gz, egz⟩ : ∃ g, g = w.heap.size + 1 + 1 := ⟨_, rfl⟩
  rw [← egz] at rz ⊢
  obtain ⟨gb, egb⟩ : ∃ g, g = w.heap.size + 1 := ⟨_, rfl⟩
  rw [← egb] at rb ⊢
  obtain ⟨ga, ega⟩ : ∃ g, g = w.heap.size := ⟨_, rfl⟩
  rw [← ega] at ra ⊢
  have lga : w.heap.size ≤ ga := by omega
  have ngagb : ¬ ga = gb := by omega
  have ngagz : ¬ ga = gz := by omega
  have lgb : w.heap.size ≤ gb := by omega
  have ngbga : ¬ gb = ga := by omega
  have ngbgz : ¬ gb = gz := by omega
  have lgz : w.heap.size ≤ gz := by omega
  have ngzga : ¬ gz = ga := by omega
  have ngzgb : ¬ gz = gb := by omega
  clear ega egb egz
  have ngtga : ¬ gt = ga := by omega
  have ngtgb : ¬ gt = gb := by omega
  have ngtgz : ¬ gt = gz := by omega
  have mgtga : ¬ ga = gt := by omega
  have mgtgb : ¬ gb = gt := by omega
  have mgtgz : ¬ gz = gt := by omega
  refine (every_any W _ (Ok.refl _)).mono ?_
  rintro e w1 ⟨rfl, hb⟩
  replace ra : Hid _ := Ok.row' hb ra.out
  replace rb : Hid _ := Ok.row' hb rb.out
  replace rz : Hid _ := Ok.row' hb rz.out
  have Hw1 : Hid (Ok w w1) := HW.out.step hb
  clear hb HW hok
  unfold cv
  obtain ⟨a0, a1, a2, a3, a4, a5, a6, a7, a8, a9⟩ := row5_facts ra.out
  obtain ⟨b0, b1, b2, b3, b4, b5, b6, b7, b8, b9⟩ := row5_facts rb.out
  have s1 := lt_row ra.out
  have s2 := lt_row rb.out
  have s3 := lt_row rz.out
  have s4 := Hw1.out.le
  have vga1 : ¬ w1.heap.size = ga := by omega
  have vgb1 : ¬ w1.heap.size = gb := by omega
  have vgz1 : ¬ w1.heap.size = gz := by omega
  have vgt1 : ¬ w1.heap.size = gt := by omega
  have vga2 : ¬ ga = w1.heap.size := by omega
  have vgb2 : ¬ gb = w1.heap.size := by omega
  have vgz2 : ¬ gz = w1.heap.size := by omega
  have vgt2 : ¬ gt = w1.heap.size := by omega
  go_wp2_with fail
  obtain ⟨Y0, hY0⟩ : ∃ W, W = w1.alloc (.cells #[.int .u64 1, .int .u64 0] 26) := ⟨_, rfl⟩
  have OY : Ok w1 Y0 := by rw [hY0]; exact (Ok.refl _).alloc _
  have rc : Hid (Y0.heap[w1.heap.size]? = some (.cells #[.int .u64 1, .int .u64 0] 26)) := by unfold Hid; rw [hY0]; exact heap_new0 _ _
  rw [← hY0]
  have HY0 : Hid (Ok w Y0) := Hw1.out.step OY
  replace ra : Hid _ := Ok.row' OY ra.out
  replace rb : Hid _ := Ok.row' OY rb.out
  replace rz : Hid _ := Ok.row' OY rz.out
  obtain ⟨gc, egc⟩ : ∃ g, g = w1.heap.size := ⟨_, rfl⟩
  rw [← egc] at rc vga1 vgb1 vgz1 vgt1 vga2 vgb2 vgz2 vgt2 s4 ⊢
  clear hY0 OY egc s1 s2 s3 Hw1 a0 b0 a1 b1 a2 b2 a3 b3 a4 b4 a5 b5 a6 b6 a7 b7 a8 b8 a9 b9
  refine (pleq_any yM yR xM xR HU.out.2.2.2.1 HU.out.2.2.2.2 HU.out.1.2.2.1 HU.out.1.2.2.2 Y0 _ (Ok.refl _)).mono ?_
  rintro e w2 ⟨rfl, hb⟩
  replace ra : Hid _ := Ok.row' hb ra.out
  replace rb : Hid _ := Ok.row' hb rb.out
  replace rz : Hid _ := Ok.row' hb rz.out
  replace rc : Hid _ := Ok.row' hb rc.out
  have Hw2 : Hid (Ok w w2) := HY0.out.step hb
  clear hb HY0
  obtain ⟨a0, a1, a2, a3, a4, a5, a6, a7, a8, a9⟩ := row5_facts ra.out
  obtain ⟨b0, b1, b2, b3, b4, b5, b6, b7, b8, b9⟩ := row5_facts rb.out
  obtain ⟨k0, k1, k2, k3, k4, k5, k6, k7, k8, k9⟩ := row5_facts rz.out
  obtain ⟨c0, c1, c2, c3⟩ := row_facts rc.out
  cases hL : leqC yM yR xM xR
  · have HK1 : Hid (K.1 = 1) := by unfold Hid; rw [HKK.out]; unfold keepC; rw [if_neg (by rw [hL]; simp)]
    have HK2 : Hid (K.2 = 0) := by unfold Hid; rw [HKK.out]; unfold keepC; rw [if_neg (by rw [hL]; simp)]
    go_wp2_with fail
    clear a0 b0 k0 a1 b1 k1 a2 b2 k2 a3 b3 k3 a4 b4 k4 a5 b5 k5 a6 b6 k6 a7 b7 k7 a8 b8 k8 a9 b9 k9 c0 c1 c2 c3
    have HMK : Hid (makeN q.1 q.2 1 0 = makeN q.1 q.2 K.1 K.2) := by unfold Hid; rw [HK1.out, HK2.out]
    have rt2 : Hid _ := Ok.row' Hw2.out rt.out
    have HTz : Hid (SInts w2 (.slice ao n cap) ts) := SInts.ok HT.out Hw2.out
    obtain ⟨a0, a1, a2, a3, a4, a5, a6, a7, a8, a9⟩ := row5_facts ra.out
    obtain ⟨b0, b1, b2, b3, b4, b5, b6, b7, b8, b9⟩ := row5_facts rb.out
    obtain ⟨k0, k1, k2, k3, k4, k5, k6, k7, k8, k9⟩ := row5_facts rz.out
    obtain ⟨c0, c1, c2, c3⟩ := row_facts rc.out
    have t0 := row1_cell rt2.out
    have za := lt_row ra.out
    have zb := lt_row rb.out
    have zc := lt_row rc.out
    have zt := lt_row rt2.out
    have bz : Ok w2 w2 := Ok.refl _
    go_region_held3 (fun w' => w'.cell? ⟨ga, 1, none⟩ = some (.int .i64 xl) ∧ w'.cell? ⟨ga, 2, none⟩ = some (.int .i64 xh) ∧ w'.cell? ⟨gb, 1, none⟩ = some (.int .i64 yl) ∧ w'.cell? ⟨gb, 2, none⟩ = some (.int .i64 yh) ∧ w'.cell? ⟨gc, 0, none⟩ = some (.int .u64 (1 : Int)) ∧ w'.cell? ⟨gc, 1, none⟩ = some (.int .u64 (0 : Int)) ∧ w'.cell? ⟨gt, 0, none⟩ = some (.slice ao n cap)) (go_keep)
      (first
      | (go_at_call 55; refine (pwiden_any _ _ _ _ (.slice ao n cap) ts w2 _ (by repeat (first | assumption | refine Ok.alloc ?_ _ | refine Below.drew ?_)) (by first | exact HTz.out | exact SInts.ok HTz.out (by assumption) | exact SInts.ok HTz.out (Below.drew (Ok.refl _)) | exact SInts.ok HTz.out (Below.drew (by assumption)))).mono ?_; rintro e w' ⟨rfl, hb⟩; rw [← HQ.out]; have q0 := Ok.cell hb za a1; have q1 := Ok.cell hb za a2; have q2 := Ok.cell hb zb b1; have q3 := Ok.cell hb zb b2; have q4 := Ok.cell hb zc c0; have q5 := Ok.cell hb zc c1; have q6 := Ok.cell hb zt t0; obtain ⟨k0, k1, k2, k3, k4, k5, k6, k7, k8, k9⟩ := row5_facts (Ok.row' hb rz.out))
      | (go_at_call 26; refine (nmake_any _ _ 1 0 IQ.out.1 IQ.out.2 (by rw [← HK1.out]; exact IK.out.1) (by rw [← HK2.out]; exact IK.out.2) w2 _ (by repeat (first | assumption | refine Ok.alloc ?_ _ | refine Below.drew ?_))).mono ?_; rintro e w' ⟨rfl, hb⟩; rw [HMK.out]; unfold nv; have q0 := Ok.cell hb za a1; have q1 := Ok.cell hb za a2; have q2 := Ok.cell hb zb b1; have q3 := Ok.cell hb zb b2; have q4 := Ok.cell hb zc c0; have q5 := Ok.cell hb zc c1; have q6 := Ok.cell hb zt t0; obtain ⟨k0, k1, k2, k3, k4, k5, k6, k7, k8, k9⟩ := row5_facts (Ok.row' hb rz.out))
      | fail)
    go_wp2_with fail
    have hr : Hid _ := Ok.row' hb rz.out
    (try simp only [Exit.inBlock, Exit.then]); refine bodyPost_ret (results_cell_row rfl _ _ (gz) 28 #[_, _, _, _, _] (0, 0) _ rfl (row_set5 hr.out _ _ _ _ _) Tryz.underlying28 rfl infoN) rfl ?_
    exact ⟨rfl, Ok.set (Ok.set (Ok.set (Ok.set (Ok.set (Hw2.out.step hb) (show w.heap.size ≤ gz by omega) _) (show w.heap.size ≤ gz by omega) _) (show w.heap.size ≤ gz by omega) _) (show w.heap.size ≤ gz by omega) _) (show w.heap.size ≤ gz by omega) _⟩
  · have HK1 : Hid (K.1 = xM) := by unfold Hid; rw [HKK.out]; unfold keepC; rw [if_pos hL]
    have HK2 : Hid (K.2 = xR) := by unfold Hid; rw [HKK.out]; unfold keepC; rw [if_pos hL]
    go_wp2_with fail
    obtain ⟨Z, hZ⟩ : ∃ Z, Z = ((w2.setCell ⟨gc, 0, none⟩ (.int .u64 (xM : Int))).setCell ⟨gc, 1, none⟩ (.int .u64 (xR : Int))) := ⟨_, rfl⟩
    obtain ⟨HZ, rcz, keep⟩ := (rows_putC rc.out Hw2.out (by omega) _ _ hZ).out
    replace HZ : Hid (Ok w Z) := HZ
    rw [← hZ]
    replace ra : Hid _ := keep _ _ (by omega) ra.out
    replace rb : Hid _ := keep _ _ (by omega) rb.out
    replace rz : Hid _ := keep _ _ (by omega) rz.out
    replace rc : Hid _ := rcz
    clear keep rcz hZ
    clear a0 b0 k0 a1 b1 k1 a2 b2 k2 a3 b3 k3 a4 b4 k4 a5 b5 k5 a6 b6 k6 a7 b7 k7 a8 b8 k8 a9 b9 k9 c0 c1 c2 c3
    have HMK : Hid (makeN q.1 q.2 xM xR = makeN q.1 q.2 K.1 K.2) := by unfold Hid; rw [HK1.out, HK2.out]
    have rt2 : Hid _ := Ok.row' HZ.out rt.out
    have HTz : Hid (SInts Z (.slice ao n cap) ts) := SInts.ok HT.out HZ.out
    obtain ⟨a0, a1, a2, a3, a4, a5, a6, a7, a8, a9⟩ := row5_facts ra.out
    obtain ⟨b0, b1, b2, b3, b4, b5, b6, b7, b8, b9⟩ := row5_facts rb.out
    obtain ⟨k0, k1, k2, k3, k4, k5, k6, k7, k8, k9⟩ := row5_facts rz.out
    obtain ⟨c0, c1, c2, c3⟩ := row_facts rc.out
    have t0 := row1_cell rt2.out
    have za := lt_row ra.out
    have zb := lt_row rb.out
    have zc := lt_row rc.out
    have zt := lt_row rt2.out
    have bz : Ok Z Z := Ok.refl _
    go_region_held3 (fun w' => w'.cell? ⟨ga, 1, none⟩ = some (.int .i64 xl) ∧ w'.cell? ⟨ga, 2, none⟩ = some (.int .i64 xh) ∧ w'.cell? ⟨gb, 1, none⟩ = some (.int .i64 yl) ∧ w'.cell? ⟨gb, 2, none⟩ = some (.int .i64 yh) ∧ w'.cell? ⟨gc, 0, none⟩ = some (.int .u64 (xM : Int)) ∧ w'.cell? ⟨gc, 1, none⟩ = some (.int .u64 (xR : Int)) ∧ w'.cell? ⟨gt, 0, none⟩ = some (.slice ao n cap)) (go_keep)
      (first
      | (go_at_call 55; refine (pwiden_any _ _ _ _ (.slice ao n cap) ts Z _ (by repeat (first | assumption | refine Ok.alloc ?_ _ | refine Below.drew ?_)) (by first | exact HTz.out | exact SInts.ok HTz.out (by assumption) | exact SInts.ok HTz.out (Below.drew (Ok.refl _)) | exact SInts.ok HTz.out (Below.drew (by assumption)))).mono ?_; rintro e w' ⟨rfl, hb⟩; rw [← HQ.out]; have q0 := Ok.cell hb za a1; have q1 := Ok.cell hb za a2; have q2 := Ok.cell hb zb b1; have q3 := Ok.cell hb zb b2; have q4 := Ok.cell hb zc c0; have q5 := Ok.cell hb zc c1; have q6 := Ok.cell hb zt t0; obtain ⟨k0, k1, k2, k3, k4, k5, k6, k7, k8, k9⟩ := row5_facts (Ok.row' hb rz.out))
      | (go_at_call 26; refine (nmake_any _ _ xM xR IQ.out.1 IQ.out.2 (by rw [← HK1.out]; exact IK.out.1) (by rw [← HK2.out]; exact IK.out.2) Z _ (by repeat (first | assumption | refine Ok.alloc ?_ _ | refine Below.drew ?_))).mono ?_; rintro e w' ⟨rfl, hb⟩; rw [HMK.out]; unfold nv; have q0 := Ok.cell hb za a1; have q1 := Ok.cell hb za a2; have q2 := Ok.cell hb zb b1; have q3 := Ok.cell hb zb b2; have q4 := Ok.cell hb zc c0; have q5 := Ok.cell hb zc c1; have q6 := Ok.cell hb zt t0; obtain ⟨k0, k1, k2, k3, k4, k5, k6, k7, k8, k9⟩ := row5_facts (Ok.row' hb rz.out))
      | fail)
    go_wp2_with fail
    have hr : Hid _ := Ok.row' hb rz.out
    (try simp only [Exit.inBlock, Exit.then]); refine bodyPost_ret (results_cell_row rfl _ _ (gz) 28 #[_, _, _, _, _] (0, 0) _ rfl (row_set5 hr.out _ _ _ _ _) Tryz.underlying28 rfl infoN) rfl ?_
    exact ⟨rfl, Ok.set (Ok.set (Ok.set (Ok.set (Ok.set (HZ.out.step hb) (show w.heap.size ≤ gz by omega) _) (show w.heap.size ≤ gz by omega) _) (show w.heap.size ≤ gz by omega) _) (show w.heap.size ≤ gz by omega) _) (show w.heap.size ≤ gz by omega) _⟩
set_option maxRecDepth 100000 in
set_option maxHeartbeats 4000000 in
theorem ntog_widen (a b : Int × Int × Nat × Nat × Bool) (gt : Nat) (ao : Option Addr) (n cap : Nat) (ts : List Int) (ha : RawN a) (hb : RawN b) (w : World) (hr : w.heap[gt]? = some (.cells #[.slice ao n cap] 36)) (hT : SInts w (.slice ao n cap) ts) :
    Calls Tryz.prog 39 #[nv a, nv b, .func (.func 53) #[] #[.pointer (some ⟨gt, 0, none⟩)]] w fun e w' => e = .returned (nv (widenN a b ts)) ∧ Ok w w' := by
  have hok : Ok w w := Ok.refl w
  have hle := hok.le
  have HU : Hid _ := And.intro ha hb
  clear ha hb
  obtain ⟨x, hx⟩ : ∃ x, x = normN a := ⟨_, rfl⟩
  obtain ⟨y, hy⟩ : ∃ x, x = normN b := ⟨_, rfl⟩
  have HS : Hid (widenN a b ts = widRaw x y ts) := by unfold Hid; rw [hx, hy]; rfl
  have RX : Hid (RawN x ∧ RawN y) := by rw [hx, hy]; exact ⟨normN_raw HU.out.1, normN_raw HU.out.2⟩
  have NX : Hid (NormN x ∧ NormN y) := by rw [hx, hy]; exact ⟨normN_norm HU.out.1, normN_norm HU.out.2⟩
  have HX : Hid _ := hx
  have HY : Hid _ := hy
  clear hx hy
  have HT : Hid (SInts w (.slice ao n cap) ts) := hT
  have HR : Hid _ := hr
  clear hr hT
  unfold nv
  go_enter Tryz.func39, Tryz.ntmps39
  go_wp2_with fail
  obtain ⟨W, hW⟩ : ∃ W, W = (((w).alloc (.cells #[.bool a.2.2.2.2, .int .i64 a.1, .int .i64 a.2.1, .int .u64 (a.2.2.1 : Int), .int .u64 (a.2.2.2.1 : Int)] 28)).alloc (.cells #[.bool b.2.2.2.2, .int .i64 b.1, .int .i64 b.2.1, .int .u64 (b.2.2.1 : Int), .int .u64 (b.2.2.2.1 : Int)] 28)).alloc (.cells #[.bool false, .int .i64 0, .int .i64 0, .int .u64 0, .int .u64 0] 28) := ⟨_, rfl⟩
  have ra : Hid (W.heap[w.heap.size]? = some (.cells #[.bool a.2.2.2.2, .int .i64 a.1, .int .i64 a.2.1, .int .u64 (a.2.2.1 : Int), .int .u64 (a.2.2.2.1 : Int)] 28)) := by unfold Hid; rw [hW]; exact (by repeat (first | (refine heap_at _ _ _ ?hx; case hx => (first | (simp; done) | (simp; omega))) | (refine heap_past _ _ _ ?hy ?_; case hy => (first | (simp; done) | (simp; omega))) | fail))
  have rb : Hid (W.heap[w.heap.size + 1]? = some (.cells #[.bool b.2.2.2.2, .int .i64 b.1, .int .i64 b.2.1, .int .u64 (b.2.2.1 : Int), .int .u64 (b.2.2.2.1 : Int)] 28)) := by unfold Hid; rw [hW]; exact (by repeat (first | (refine heap_at _ _ _ ?hx; case hx => (first | (simp; done) | (simp; omega))) | (refine heap_past _ _ _ ?hy ?_; case hy => (first | (simp; done) | (simp; omega))) | fail))
  have rz : Hid (W.heap[w.heap.size + 1 + 1]? = some (.cells #[.bool false, .int .i64 0, .int .i64 0, .int .u64 0, .int .u64 0] 28)) := by unfold Hid; rw [hW]; exact (by repeat (first | (refine heap_at _ _ _ ?hx; case hx => (first | (simp; done) | (simp; omega))) | (refine heap_past _ _ _ ?hy ?_; case hy => (first | (simp; done) | (simp; omega))) | fail))
  have HW : Hid (Ok w W) := by unfold Hid; rw [hW]; exact (by repeat (first | exact hok | refine Ok.alloc ?_ _ | refine Ok.draws ?_ _ | fail))
  rw [← hW]
  clear hW
  obtain ⟨gz, egz⟩ : ∃ g, g = w.heap.size + 1 + 1 := ⟨_, rfl⟩
  rw [← egz] at rz ⊢
  obtain ⟨gb, egb⟩ : ∃ g, g = w.heap.size + 1 := ⟨_, rfl⟩
  rw [← egb] at rb ⊢
  obtain ⟨ga, ega⟩ : ∃ g, g = w.heap.size := ⟨_, rfl⟩
  rw [← ega] at ra ⊢
  have lga : w.heap.size ≤ ga := by omega
  have ngagb : ¬ ga = gb := by omega
  have ngagz : ¬ ga = gz := by omega
  have lgb : w.heap.size ≤ gb := by omega
  have ngbga : ¬ gb = ga := by omega
  have ngbgz : ¬ gb = gz := by omega
  have lgz : w.heap.size ≤ gz := by omega
  have ngzga : ¬ gz = ga := by omega
  have ngzgb : ¬ gz = gb := by omega
  clear ega egb egz
  apply wp_cutN (fun w1 => Hid (Ok w w1 ∧ w1.heap[ga]? = some (.cells #[.bool x.2.2.2.2, .int .i64 x.1, .int .i64 x.2.1, .int .u64 (x.2.2.1 : Int), .int .u64 (x.2.2.2.1 : Int)] 28) ∧ w1.heap[gb]? = some (.cells #[.bool y.2.2.2.2, .int .i64 y.1, .int .i64 y.2.1, .int .u64 (y.2.2.1 : Int), .int .u64 (y.2.2.2.1 : Int)] 28) ∧ (∀ (h : Nat) (o : Obj), h ≠ ga → h ≠ gb → W.heap[h]? = some o → w1.heap[h]? = some o)))
  case h1 =>
    obtain ⟨a0, a1, a2, a3, a4, a5, a6, a7, a8, a9⟩ := row5_facts ra.out
    obtain ⟨b0, b1, b2, b3, b4, b5, b6, b7, b8, b9⟩ := row5_facts rb.out
    have bz : Ok W W := Ok.refl _
    go_region_with (go_at_call 9; refine (nnorm_any _ (by first | exact HU.out.1 | exact HU.out.2) W _ (by first | assumption | exact Below.drew (by assumption))).mono ?_; rintro e w1 ⟨rfl, hb⟩; (first | rw [← HX.out] | rw [← HY.out]); unfold nv; obtain ⟨a0, a1, a2, a3, a4, a5, a6, a7, a8, a9⟩ := row5_facts (Ok.row' hb ra.out); obtain ⟨b0, b1, b2, b3, b4, b5, b6, b7, b8, b9⟩ := row5_facts (Ok.row' hb rb.out))
    all_goals exact ⟨rfl, rows_put2 (by omega) ra.out rb.out hb HW.out (by omega) (by omega) _ _ _ _ _ _ _ _ _ _⟩
  case h2 =>
    rintro Z H
    obtain ⟨HZ, raz, rbz, keep⟩ := H.out
    replace HZ : Hid (Ok w Z) := HZ
    replace raz : Hid _ := raz
    replace rbz : Hid _ := rbz
    replace rz : Hid _ := keep _ _ (by omega) (by omega) rz.out
    clear H ra rb keep
    have OZ : Hid (Ok w Z) := HZ
    have rtz : Hid _ := Ok.row' OZ.out HR.out
    obtain ⟨a0, a1, a2, a3, a4, a5, a6, a7, a8, a9⟩ := row5_facts raz.out
    obtain ⟨b0, b1, b2, b3, b4, b5, b6, b7, b8, b9⟩ := row5_facts rbz.out
    obtain ⟨k0, k1, k2, k3, k4, k5, k6, k7, k8, k9⟩ := row5_facts rz.out
    cases hxb : x.2.2.2.2
    · rw [hxb] at a0
      cases hyb : y.2.2.2.2
      · rw [hyb] at b0
        have HA : Hid (widRaw x y ts = makeN (widenI x.1 x.2.1 y.1 y.2.1 ts).1 (widenI x.1 x.2.1 y.1 y.2.1 ts).2 (keepC x.2.2.1 x.2.2.2.1 y.2.2.1 y.2.2.2.1).1 (keepC x.2.2.1 x.2.2.2.1 y.2.2.1 y.2.2.2.1).2) := by unfold Hid widRaw; rw [if_neg (by rw [hxb]; simp), if_neg (by rw [hyb]; simp)]
        have LX : Hid (x.1 ≤ x.2.1 ∧ y.1 ≤ y.2.1) := ⟨norm_some NX.out.1 hxb, norm_some NX.out.2 hyb⟩
        go_wp2_with fail
        refine (widen1_any x.1 x.2.1 x.2.2.1 x.2.2.2.1 y.1 y.2.1 y.2.2.1 y.2.2.2.1 gt ao n cap ts RX.out.1 RX.out.2 LX.out.1 LX.out.2 Z (rtz.out) (SInts.ok HT.out OZ.out)).mono ?_
        rintro e z1 ⟨rfl, hb⟩
        rw [← HA.out]
        have hr : Hid _ := Ok.row' hb rz.out
        obtain ⟨k0, k1, k2, k3, k4, k5, k6, k7, k8, k9⟩ := row5_facts hr.out
        unfold nv
        go_wp2_with fail
        (try simp only [Exit.inBlock, Exit.then]); refine bodyPost_ret (results_cell_row rfl _ _ (gz) 28 #[_, _, _, _, _] (0, 0) _ rfl (row_set5 hr.out _ _ _ _ _) Tryz.underlying28 rfl infoN) rfl ?_
        exact ⟨(by rw [HS.out]), Ok.set (Ok.set (Ok.set (Ok.set (Ok.set (HZ.out.step hb) (show w.heap.size ≤ gz by omega) _) (show w.heap.size ≤ gz by omega) _) (show w.heap.size ≤ gz by omega) _) (show w.heap.size ≤ gz by omega) _) (show w.heap.size ≤ gz by omega) _⟩
      · rw [hyb] at b0
        have HA : Hid (widRaw x y ts = x) := by unfold Hid widRaw; rw [if_neg (by rw [hxb]; simp), if_pos hyb]
        have hr : Hid _ := rz
        go_wp2_with fail
        have HB : Hid _ := hxb
        (try simp only [Exit.inBlock, Exit.then]); refine bodyPost_ret (results_cell_row rfl _ _ (gz) 28 #[_, _, _, _, _] (0, 0) _ rfl (row_set5 hr.out _ _ _ _ _) Tryz.underlying28 rfl infoN) rfl ?_
        exact ⟨(by rw [HS.out, HA.out, HB.out]), Ok.set (Ok.set (Ok.set (Ok.set (Ok.set (HZ.out) (show w.heap.size ≤ gz by omega) _) (show w.heap.size ≤ gz by omega) _) (show w.heap.size ≤ gz by omega) _) (show w.heap.size ≤ gz by omega) _) (show w.heap.size ≤ gz by omega) _⟩
    · rw [hxb] at a0
      have HA : Hid (widRaw x y ts = y) := by unfold Hid widRaw; rw [if_pos hxb]
      have hr : Hid _ := rz
      go_wp2_with fail
      (try simp only [Exit.inBlock, Exit.then]); refine bodyPost_ret (results_cell_row rfl _ _ (gz) 28 #[_, _, _, _, _] (0, 0) _ rfl (row_set5 hr.out _ _ _ _ _) Tryz.underlying28 rfl infoN) rfl ?_
      exact ⟨(by rw [HS.out, HA.out]), Ok.set (Ok.set (Ok.set (Ok.set (Ok.set (HZ.out) (show w.heap.size ≤ gz by omega) _) (show w.heap.size ≤ gz by omega) _) (show w.heap.size ≤ gz by omega) _) (show w.heap.size ≤ gz by omega) _) (show w.heap.size ≤ gz by omega) _⟩
set_option maxRecDepth 100000 in
set_option maxHeartbeats 4000000 in
theorem nwiden_any (a b : Int × Int × Nat × Nat × Bool) (v : Value) (ts : List Int) (ha : RawN a) (hb : RawN b) (w0 w : World) (hok : Ok w0 w) (hT : SInts w v ts) :
    Calls Tryz.prog 22 #[nv a, nv b, v] w fun e w' => e = .returned (nv (widenN a b ts)) ∧ Ok w0 w' := by
  have hle := hok.le
  have HU : Hid _ := And.intro ha hb
  obtain ⟨ao, n, cap, rfl⟩ := SInts.form hT
  have HT : Hid (SInts w (.slice ao n cap) ts) := hT
  clear ha hb hT
  unfold nv
  go_enter Tryz.func22, Tryz.ntmps22
  go_wp2_with fail
  obtain ⟨W, hW⟩ : ∃ W, W = ((((w).alloc (.cells #[.bool a.2.2.2.2, .int .i64 a.1, .int .i64 a.2.1, .int .u64 (a.2.2.1 : Int), .int .u64 (a.2.2.2.1 : Int)] 28)).alloc (.cells #[.bool b.2.2.2.2, .int .i64 b.1, .int .i64 b.2.1, .int .u64 (b.2.2.1 : Int), .int .u64 (b.2.2.2.1 : Int)] 28)).alloc (.cells #[.slice ao n cap] 36)).alloc (.cells #[.bool false, .int .i64 0, .int .i64 0, .int .u64 0, .int .u64 0] 28) := ⟨_, rfl⟩
  have rt : Hid (W.heap[w.heap.size + 1 + 1]? = some (.cells #[.slice ao n cap] 36)) := by unfold Hid; rw [hW]; exact (by repeat (first | (refine heap_at _ _ _ ?hx; case hx => (first | (simp; done) | (simp; omega))) | (refine heap_past _ _ _ ?hy ?_; case hy => (first | (simp; done) | (simp; omega))) | fail))
  have rz : Hid (W.heap[w.heap.size + 1 + 1 + 1]? = some (.cells #[.bool false, .int .i64 0, .int .i64 0, .int .u64 0, .int .u64 0] 28)) := by unfold Hid; rw [hW]; exact (by repeat (first | (refine heap_at _ _ _ ?hx; case hx => (first | (simp; done) | (simp; omega))) | (refine heap_past _ _ _ ?hy ?_; case hy => (first | (simp; done) | (simp; omega))) | fail))
  have HW : Hid (Ok w0 W) := by unfold Hid; rw [hW]; exact (by repeat (first | exact hok | refine Ok.alloc ?_ _ | refine Ok.draws ?_ _ | fail))
  rw [← hW]
  have OW : Ok w W := by rw [hW]; exact ((((Ok.refl w).alloc _).alloc _).alloc _).alloc _
  clear hW
  obtain ⟨gz, ez⟩ : ∃ g, g = w.heap.size + 1 + 1 + 1 := ⟨_, rfl⟩
  rw [← ez] at rz ⊢
  obtain ⟨gt, et⟩ : ∃ g, g = w.heap.size + 1 + 1 := ⟨_, rfl⟩
  rw [← et] at rt ⊢
  have lgz : w0.heap.size ≤ gz := by omega
  clear ez et
  refine (ntog_widen a b gt ao n cap ts HU.out.1 HU.out.2 W rt.out (SInts.ok HT.out OW)).mono ?_
  rintro e z1 ⟨rfl, hb⟩
  have hr : Hid _ := Ok.row' hb rz.out
  obtain ⟨k0, k1, k2, k3, k4, k5, k6, k7, k8, k9⟩ := row5_facts hr.out
  unfold nv
  go_wp2_with fail
  (try simp only [Exit.inBlock, Exit.then]); refine bodyPost_ret (results_cell_row rfl _ _ (gz) 28 #[_, _, _, _, _] (0, 0) _ rfl (row_set5 hr.out _ _ _ _ _) Tryz.underlying28 rfl infoN) rfl ?_
  exact ⟨rfl, Ok.set (Ok.set (Ok.set (Ok.set (Ok.set (HW.out.step hb) (show w0.heap.size ≤ gz by omega) _) (show w0.heap.size ≤ gz by omega) _) (show w0.heap.size ≤ gz by omega) _) (show w0.heap.size ≤ gz by omega) _) (show w0.heap.size ≤ gz by omega) _⟩
end
section
open Go.RowKit
theorem wemod_of {v r m k : Int} (h : v = r + m * k) (h0 : 0 ≤ r) (h1 : r < m) : v % m = r := by
  rw [h, Int.add_mul_emod_self_left, Int.emod_eq_of_lt h0 h1]
theorem wrest_below {v : Int} {m : Int} (hm : 0 < m) : m - 1 - (-(v + 1)) % m = v % m := by
  have a := Int.emod_nonneg (-(v + 1)) (show m ≠ 0 by omega)
  have b := Int.emod_lt_of_pos (-(v + 1)) hm
  have c := Int.mul_ediv_add_emod (-(v + 1)) m
  refine (wemod_of (k := -((-(v + 1)) / m) - 1) ?_ (by omega) (by omega)).symm
  rw [Int.mul_sub, Int.mul_neg]
  omega
def wrestN (v : Int) (m : Nat) : Nat := (v % (m : Int)).toNat
theorem wrest_val {v : Int} {m : Nat} (hm : 0 < m) : (wrestN v m : Int) = v % (m : Int) := by
  unfold wrestN
  have := Int.emod_nonneg v (show (m : Int) ≠ 0 by omega)
  omega
set_option maxHeartbeats 400000 in
theorem wrest_any (v : Int) (m : Nat) (hv : In64 v) (hm : U64 m) (hm0 : 0 < m) (w : World) :
    Calls Tryz.prog 47 #[.int .i64 v, .int .u64 (m : Int)] w fun e w' => e = .returned (.int .u64 (wrestN v m : Int)) ∧ w' = w := by
  have HV : Hid _ := And.intro hv (And.intro hm hm0)
  have g1 : ((m : Int) == 0) = false := by simp; omega
  have g2 : ¬ (m : Int) = 0 := by omega
  have g3 : (m == 0) = false := by simp; omega
  have g4 : ¬ m = 0 := by omega
  by_cases h : 0 ≤ v
  · clear hv hm hm0
    go_enter Tryz.func47, Tryz.ntmps47
    go_wp2
    go_ret
    refine ⟨retu ?_, rfl⟩
    have := HV.out; unfold In64 at this; rw [wrest_val this.2.2]; simp only [u64w]
    first | (rw [Int.emod_eq_of_lt (a := v) (by omega) (by omega)]; done) | (rw [Int.tmod_eq_emod_of_nonneg (by omega), Int.emod_eq_of_lt (a := v) (by omega) (by omega)]; done) | omega
  · clear hv hm hm0
    go_enter Tryz.func47, Tryz.ntmps47
    go_wp2
    go_ret
    refine ⟨retu ?_, rfl⟩
    have := HV.out
    rw [wrest_val this.2.2, ← wrest_below (show (0 : Int) < (m : Int) by omega)]
    unfold In64 U64 at this
    have e1 : wrap64 (v + 1) = v + 1 := by unfold wrap64; omega
    have e2 : wrap64 (-(v + 1)) = -(v + 1) := by unfold wrap64; omega
    rw [e1, e2]
    have e3 : IntKind.u64.wrap (-(v + 1)) = -(v + 1) := by rw [u64w]; omega
    have e4 : IntKind.u64.wrap ((m : Int) - 1) = (m : Int) - 1 := by rw [u64w]; omega
    rw [e3, e4, Int.tmod_eq_emod_of_nonneg (by omega), u64w]
    have a := Int.emod_nonneg (-(v + 1)) (show (m : Int) ≠ 0 by omega)
    have b := Int.emod_lt_of_pos (-(v + 1)) (show (0 : Int) < (m : Int) by omega)
    generalize -(v + 1) % (m : Int) = z at *
    omega
theorem insw_bot {l h v : Int} {M R : Nat} : insN (l, h, M, R, true) v = false := rfl
theorem insw_lo {l h v : Int} {M R : Nat} (c : v < l) : insN (l, h, M, R, false) v = false := by
  unfold insN hasI; simp; omega
theorem insw_hi {l h v : Int} {M R : Nat} (c : h < v) : insN (l, h, M, R, false) v = false := by
  unfold insN hasI; simp; omega
theorem insw_zero {l h v : Int} {R : Nat} (c : ¬ v < l) (d : ¬ h < v) (hR : U64 R) (hv : In64 v) : insN (l, h, 0, R, false) v = (IntKind.u64.wrap v == (R : Int)) := by
  apply bool_ext
  unfold insN hasI hasC leqC
  unfold U64 at hR; unfold In64 at hv
  rw [beq_iff_eq, u64w]
  simp only [Bool.not_false, Bool.true_and, if_true, decide_true, Bool.and_eq_true, decide_eq_true_eq]
  unfold bitsN
  omega
theorem insw_pos {l h v : Int} {M R : Nat} (c : ¬ v < l) (d : ¬ h < v) (hM : 0 < M) (hR : U64 R) (hv : In64 v) : insN (l, h, M, R, false) v = ((wrestN v M : Int) == ((R : Int).tmod (M : Int))) := by
  apply bool_ext
  rw [beq_iff_eq, wrest_val hM, Int.tmod_eq_emod_of_nonneg (by omega)]
  unfold insN
  have e := hasC_iff (M := M) (R := R) (v := v) hR hv
  rw [memC_pos hM] at e
  rw [Int.natCast_emod] at e
  simp only [Bool.not_false, Bool.true_and, Bool.and_eq_true, e]
  unfold hasI
  simp
  omega
set_option maxRecDepth 100000 in
set_option maxHeartbeats 2000000 in
theorem win5 (l h : Int) (M R : Nat) (B : Bool) (v : Int) (hM : U64 M) (hR : U64 R) (hv : In64 v) (w0 w : World) (hok : Ok w0 w) :
    Calls Tryz.prog 15 #[.agg #[.bool B, .int .i64 l, .int .i64 h, .int .u64 (M : Int), .int .u64 (R : Int)], .int .i64 v] w fun e w' => e = .returned (.bool (insN (l, h, M, R, B) v)) ∧ Ok w0 w' := by
  have hle := hok.le
  have HU : Hid _ := And.intro hM (And.intro hR hv)
  cases B
  · by_cases c : v < l
    · have HA : Hid _ := insw_lo (h := h) (M := M) (R := R) c
      clear hM hR hv
      go_enter Tryz.func15, Tryz.ntmps15
      go_wp2_with fail
      go_ret
      exact ⟨by rw [HA.out]; rfl, (by repeat (first | exact hok | refine Ok.alloc ?_ _ | refine Ok.draws ?_ _ | fail))⟩
    · by_cases d : h < v
      · have HA : Hid _ := insw_hi (l := l) (M := M) (R := R) d
        clear hM hR hv
        go_enter Tryz.func15, Tryz.ntmps15
        go_wp2_with fail
        go_ret
        exact ⟨by rw [HA.out]; rfl, (by repeat (first | exact hok | refine Ok.alloc ?_ _ | refine Ok.draws ?_ _ | fail))⟩
      · by_cases z : M = 0
        · subst z
          have HA : Hid _ := insw_zero c d hR hv
          clear hM hR hv
          go_enter Tryz.func15, Tryz.ntmps15
          go_wp2_with fail
          go_ret
          exact ⟨by rw [HA.out]; rfl, (by repeat (first | exact hok | refine Ok.alloc ?_ _ | refine Ok.draws ?_ _ | fail))⟩
        · have HM : Hid (0 < M) := by unfold Hid; omega
          have HA : Hid _ := insw_pos c d HM.out hR hv
          have g1 : ((M : Int) == 0) = false := by simp; omega
          have g2 : ¬ (M : Int) = 0 := by omega
          have g3 : (M == 0) = false := by simp; omega
          obtain ⟨T, hT⟩ : ∃ T, T = wrestN v M := ⟨_, rfl⟩
          have HT : Hid _ := hT
          clear hT hM hR hv
          go_enter Tryz.func15, Tryz.ntmps15
          go_wp2_with fail
          obtain ⟨W, hW⟩ : ∃ W, W = (w).alloc (.cells #[.bool false, .int .i64 l, .int .i64 h, .int .u64 (M : Int), .int .u64 (R : Int)] 28) := ⟨_, rfl⟩
          have ra : Hid (W.heap[w.heap.size]? = some (.cells #[.bool false, .int .i64 l, .int .i64 h, .int .u64 (M : Int), .int .u64 (R : Int)] 28)) := by unfold Hid; rw [hW]; exact (by repeat (first | (refine heap_at _ _ _ ?hx; case hx => (first | (simp; done) | (simp; omega))) | (refine heap_past _ _ _ ?hy ?_; case hy => (first | (simp; done) | (simp; omega))) | fail))
          have HW : Hid (Ok w0 W) := by unfold Hid; rw [hW]; exact (by repeat (first | exact hok | refine Ok.alloc ?_ _ | refine Ok.draws ?_ _ | fail))
          rw [← hW]
          clear hW
          clear hok
          obtain ⟨f0, f1, f2, f3, f4, f5, f6, f7, f8, f9⟩ := row5_facts ra.out
          go_region_held3 (fun w' => w'.cell? ⟨w.heap.size, 3, none⟩ = some (.int .u64 (M : Int)) ∧ w'.cell? ⟨w.heap.size, 4, none⟩ = some (.int .u64 (R : Int))) (go_keep)
            (first
            | (go_at_call 47; refine (wrest_any v M HU.out.2.2 HU.out.1 HM.out _).mono ?_; rintro e w' ⟨rfl, rfl⟩; rw [← HT.out])
            | fail)
          go_wp2_with fail
          go_ret
          refine ⟨by rw [HA.out, ← HT.out]; rfl, by repeat (first | exact HW.out | refine Below.drew ?_)⟩
  · have HA : Hid _ := insw_bot (l := l) (h := h) (M := M) (R := R) (v := v)
    clear hM hR hv
    go_enter Tryz.func15, Tryz.ntmps15
    go_wp2_with fail
    go_ret
    exact ⟨by rw [HA.out]; rfl, (by repeat (first | exact hok | refine Ok.alloc ?_ _ | refine Ok.draws ?_ _ | fail))⟩
theorem win_any (a : Int × Int × Nat × Nat × Bool) (v : Int) (ha : RawN a) (hv : In64 v) (w0 w : World) (hok : Ok w0 w) :
    Calls Tryz.prog 15 #[nv a, .int .i64 v] w fun e w' => e = .returned (.bool (insN a v)) ∧ Ok w0 w' := win5 a.1 a.2.1 a.2.2.1 a.2.2.2.1 a.2.2.2.2 v ha.2.2.1 ha.2.2.2 hv w0 w hok
set_option maxRecDepth 100000 in
set_option maxHeartbeats 2000000 in
theorem wnormal_any (a : Int × Int × Nat × Nat × Bool) (ha : RawN a) (nx : NormN a) (w0 w : World) (hok : Ok w0 w) :
    Calls Tryz.prog 13 #[nv a] w fun e w' => e = .returned (.bool true) ∧ Ok w0 w' := by
  have hle := hok.le
  have HU : Hid _ := And.intro ha nx
  rcases nx with nx | nx
  · subst nx
    unfold nv botN
    clear ha
    go_enter Tryz.func13, Tryz.ntmps13
    go_wp2_with fail
    go_ret
    exact ⟨rfl, (by repeat (first | exact hok | refine Ok.alloc ?_ _ | refine Ok.draws ?_ _ | fail))⟩
  · obtain ⟨l, h, M, R, B⟩ := a
    simp only at nx
    obtain ⟨rfl, nl, nh, nle, n1, n2, n3, n4⟩ := nx
    have I1 : Hid (insN (l, h, M, R, false) l = true) := (insN_iff ha nl).2 ⟨rfl, Int.le_refl _, nle, n1⟩
    have I2 : Hid (insN (l, h, M, R, false) h = true) := (insN_iff ha nh).2 ⟨rfl, nle, Int.le_refl _, n2⟩
    have HN : Hid _ := And.intro nl nh
    unfold nv
    simp only
    by_cases q : l = h
    · have HQ : Hid _ := And.intro q (n3 q)
      have q1 : (l == h) = true := by simp; exact q
      have q2 : ¬ h < l := by omega
      clear q nle
      clear ha nl nh n1 n2 n3 n4
      go_enter Tryz.func13, Tryz.ntmps13
      go_wp2_with fail
      obtain ⟨W, hW⟩ : ∃ W, W = (w).alloc (.cells #[.bool false, .int .i64 l, .int .i64 h, .int .u64 (M : Int), .int .u64 (R : Int)] 28) := ⟨_, rfl⟩
      have ra : Hid (W.heap[w.heap.size]? = some (.cells #[.bool false, .int .i64 l, .int .i64 h, .int .u64 (M : Int), .int .u64 (R : Int)] 28)) := by unfold Hid; rw [hW]; exact (by repeat (first | (refine heap_at _ _ _ ?hx; case hx => (first | (simp; done) | (simp; omega))) | (refine heap_past _ _ _ ?hy ?_; case hy => (first | (simp; done) | (simp; omega))) | fail))
      have HW : Hid (Ok w0 W) := by unfold Hid; rw [hW]; exact (by repeat (first | exact hok | refine Ok.alloc ?_ _ | refine Ok.draws ?_ _ | fail))
      rw [← hW]
      clear hW
      clear hok
      refine (win5 l h M R false l HU.out.1.2.2.1 HU.out.1.2.2.2 HN.out.1 W _ (Ok.refl _)).mono ?_
      rintro e w1 ⟨rfl, hb⟩
      rw [I1.out]
      replace ra : Hid _ := Ok.row' hb ra.out
      have Hw1 : Hid (Ok w0 w1) := HW.out.step hb
      clear hb
      obtain ⟨f0, f1, f2, f3, f4, f5, f6, f7, f8, f9⟩ := row5_facts ra.out
      go_wp2_with fail
      refine (win5 l h M R false h HU.out.1.2.2.1 HU.out.1.2.2.2 HN.out.2 w1 _ (Ok.refl _)).mono ?_
      rintro e w2 ⟨rfl, hb⟩
      rw [I2.out]
      replace ra : Hid _ := Ok.row' hb ra.out
      have Hw2 : Hid (Ok w0 w2) := Hw1.out.step hb
      clear hb f0 f1 f2 f3 f4 f5 f6 f7 f8 f9
      obtain ⟨f0, f1, f2, f3, f4, f5, f6, f7, f8, f9⟩ := row5_facts ra.out
      have HE : Hid ((M : Int) = 0 ∧ (R : Int) = IntKind.u64.wrap l) := by have z := HQ.out.2; rw [← bits_val, z.1, z.2]; exact ⟨rfl, rfl⟩
      obtain ⟨HE1, HE2⟩ := HE.out
      go_wp2_with fail
      go_ret
      refine ⟨?_, ?_⟩
      · first | rfl | simp
      · exact Hw2.out
    · have q2 : l < h := by omega
      have q3 : (l == h) = false := by simp; exact q
      have q4 : ¬ h < l := by omega
      obtain ⟨m0, r0⟩ := n4 q2
      have m1 : (0 : Int) < (M : Int) := by omega
      have r1 : (R : Int) < (M : Int) := by omega
      clear ha nl nh n1 n2 n3 n4
      go_enter Tryz.func13, Tryz.ntmps13
      go_wp2_with fail
      obtain ⟨W, hW⟩ : ∃ W, W = (w).alloc (.cells #[.bool false, .int .i64 l, .int .i64 h, .int .u64 (M : Int), .int .u64 (R : Int)] 28) := ⟨_, rfl⟩
      have ra : Hid (W.heap[w.heap.size]? = some (.cells #[.bool false, .int .i64 l, .int .i64 h, .int .u64 (M : Int), .int .u64 (R : Int)] 28)) := by unfold Hid; rw [hW]; exact (by repeat (first | (refine heap_at _ _ _ ?hx; case hx => (first | (simp; done) | (simp; omega))) | (refine heap_past _ _ _ ?hy ?_; case hy => (first | (simp; done) | (simp; omega))) | fail))
      have HW : Hid (Ok w0 W) := by unfold Hid; rw [hW]; exact (by repeat (first | exact hok | refine Ok.alloc ?_ _ | refine Ok.draws ?_ _ | fail))
      rw [← hW]
      clear hW
      clear hok
      refine (win5 l h M R false l HU.out.1.2.2.1 HU.out.1.2.2.2 HN.out.1 W _ (Ok.refl _)).mono ?_
      rintro e w1 ⟨rfl, hb⟩
      rw [I1.out]
      replace ra : Hid _ := Ok.row' hb ra.out
      have Hw1 : Hid (Ok w0 w1) := HW.out.step hb
      clear hb
      obtain ⟨f0, f1, f2, f3, f4, f5, f6, f7, f8, f9⟩ := row5_facts ra.out
      go_wp2_with fail
      refine (win5 l h M R false h HU.out.1.2.2.1 HU.out.1.2.2.2 HN.out.2 w1 _ (Ok.refl _)).mono ?_
      rintro e w2 ⟨rfl, hb⟩
      rw [I2.out]
      replace ra : Hid _ := Ok.row' hb ra.out
      have Hw2 : Hid (Ok w0 w2) := Hw1.out.step hb
      clear hb f0 f1 f2 f3 f4 f5 f6 f7 f8 f9
      obtain ⟨f0, f1, f2, f3, f4, f5, f6, f7, f8, f9⟩ := row5_facts ra.out
      go_wp2_with fail
      go_ret
      refine ⟨?_, ?_⟩
      · first | rfl | simp
      · exact Hw2.out
theorem wsome_zero {l h v : Int} {R : Nat} {B : Bool} : someN (l, h, 0, R, B) v = l := rfl
theorem wsome_n {l h : Int} {M : Nat} (hl : In64 l) (hh : In64 h) (hle : l ≤ h) (hM : U64 M) (h0 : 0 < M) : IntKind.u64.wrap (IntKind.u64.wrap ((IntKind.u64.wrap (IntKind.u64.wrap h - IntKind.u64.wrap l)).tdiv (M : Int)) + 1) = ((((h - l).toNat / M + 1) % 18446744073709551616 : Nat) : Int) := by
  have e : IntKind.u64.wrap (IntKind.u64.wrap h - IntKind.u64.wrap l) = ((h - l).toNat : Int) := by
    simp only [u64w]; unfold In64 at *; omega
  rw [e, Int.tdiv_eq_ediv_of_nonneg (by omega), u64w, u64w, ← Int.natCast_ediv]
  omega
theorem wsome_ret {a b : Int} (h : In64 b) (e : a % 18446744073709551616 = b % 18446744073709551616) : Ending.returned (.int .i64 (IntKind.i64.wrap a)) = .returned (.int .i64 b) := by
  rw [show IntKind.i64.wrap a = b by rw [IntKind.wrap_i64]; unfold In64 at h; omega]
set_option maxRecDepth 100000 in
set_option maxHeartbeats 2000000 in
theorem wsome_any (a : Int × Int × Nat × Nat × Bool) (v : Int) (ha : RawN a) (na : NormN a) (hv : In64 v) (w0 w : World) (hok : Ok w0 w) :
    Calls Tryz.prog 17 #[nv a, .int .i64 v] w fun e w' => e = .returned (.int .i64 (someN a v)) ∧ Ok w0 w' := by
  have hle := hok.le
  obtain ⟨l, h, M, R, B⟩ := a
  unfold nv
  simp only
  have le : l ≤ h := by rcases na with na | na; (· have q := congrArg (fun x => (x.1, x.2.1)) na; simp only [botN, Prod.mk.injEq] at q; omega); exact na.2.2.2.1
  by_cases z : M = 0
  · subst z
    have HA : Hid (someN (l, h, 0, R, B) v = l) := rfl
    clear ha na hv le
    go_enter Tryz.func17, Tryz.ntmps17
    go_wp2_with fail
    go_ret
    exact ⟨by rw [HA.out]; rfl, (by repeat (first | exact hok | refine Ok.alloc ?_ _ | refine Ok.draws ?_ _ | fail))⟩
  · have HM : Hid (0 < M) := by unfold Hid; omega
    have g1 : ((M : Int) == 0) = false := by simp; omega
    have g2 : ¬ (M : Int) = 0 := by omega
    have g3 : (M == 0) = false := by simp; omega
    obtain ⟨n, hn⟩ : ∃ n, n = ((h - l).toNat / M + 1) % 18446744073709551616 := ⟨_, rfl⟩
    have kn : IntKind.u64.wrap (IntKind.u64.wrap ((IntKind.u64.wrap (IntKind.u64.wrap h - IntKind.u64.wrap l)).tdiv (M : Int)) + 1) = (n : Int) := by rw [hn]; exact wsome_n ha.1 ha.2.1 le ha.2.2.1 HM.out
    obtain ⟨D, hD⟩ : ∃ D, D = IntKind.u64.wrap (IntKind.u64.wrap h - IntKind.u64.wrap l) := ⟨_, rfl⟩
    have HL : Hid _ := And.intro ha (And.intro na (And.intro hv le))
    have HN : Hid _ := hn
    have Hz : Hid _ := z
    clear hD D
    by_cases y : n = 0
    · have HA : Hid (someN (l, h, M, R, B) v = v) := by unfold Hid someN; simp only; rw [if_neg z, if_pos (by rw [← hn]; exact y)]
      clear ha na hv le hn z
      subst y
      go_enter Tryz.func17, Tryz.ntmps17
      go_wp2_with fail
      go_ret
      exact ⟨by rw [HA.out]; rfl, (by repeat (first | exact hok | refine Ok.alloc ?_ _ | refine Ok.draws ?_ _ | fail))⟩
    · have HA : Hid (someN (l, h, M, R, B) v = l + ((bitsN v % n * M : Nat) : Int)) := by unfold Hid someN; simp only; rw [if_neg z, if_neg (by rw [← hn]; exact y), ← hn]
      have HI : Hid (In64 (l + ((bitsN v % n * M : Nat) : Int))) := by have q := someN_in (a := (l, h, M, R, B)) ha na hv; rw [HA.out] at q; exact q
      have y1 : ((n : Int) == 0) = false := by simp; omega
      have y2 : ¬ (n : Int) = 0 := by omega
      have y3 : (n == 0) = false := by simp; omega
      clear ha na hv le hn z
      go_enter Tryz.func17, Tryz.ntmps17
      go_wp2_with fail
      obtain ⟨W, hW⟩ : ∃ W, W = (w).alloc (.cells #[.bool B, .int .i64 l, .int .i64 h, .int .u64 (M : Int), .int .u64 (R : Int)] 28) := ⟨_, rfl⟩
      have ra : Hid (W.heap[w.heap.size]? = some (.cells #[.bool B, .int .i64 l, .int .i64 h, .int .u64 (M : Int), .int .u64 (R : Int)] 28)) := by unfold Hid; rw [hW]; exact (by repeat (first | (refine heap_at _ _ _ ?hx; case hx => (first | (simp; done) | (simp; omega))) | (refine heap_past _ _ _ ?hy ?_; case hy => (first | (simp; done) | (simp; omega))) | fail))
      have HW : Hid (Ok w0 W) := by unfold Hid; rw [hW]; exact (by repeat (first | exact hok | refine Ok.alloc ?_ _ | refine Ok.draws ?_ _ | fail))
      rw [← hW]
      clear hW
      clear hok
      obtain ⟨f0, f1, f2, f3, f4, f5, f6, f7, f8, f9⟩ := row5_facts ra.out
      go_region_held3 (fun w' => w'.cell? ⟨w.heap.size, 1, none⟩ = some (.int .i64 l) ∧ w'.cell? ⟨w.heap.size, 3, none⟩ = some (.int .u64 (M : Int))) (go_keep)
        (fail)
      go_wp2_with fail
      go_ret
      refine ⟨?_, by repeat (first | exact HW.out | refine Below.drew ?_)⟩
      rw [HA.out]
      have e1 := HI.out
      have e2 : (IntKind.u64.wrap v).tmod (n : Int) = ((bitsN v % n : Nat) : Int) := by rw [← bits_val, Int.tmod_eq_emod_of_nonneg (by omega), Int.natCast_emod]
      rw [e2]
      refine wsome_ret e1 ?_
      simp only [u64w]
      rw [← Int.natCast_mul]
      omega
end
section
open Go.RowKit
/-- A slice of Nums; an empty one may have any address. -/
def SNs (w : World) (ro : Option Addr) (rs : List (Int × Int × Nat × Nat × Bool)) : Prop :=
  rs ≠ [] → ∃ tb o, ro = some ⟨tb, o, none⟩ ∧ tb < w.heap.size ∧ ∀ i (h : i < rs.length), w.cell? ⟨tb, o + i * 5, none⟩ = some (.bool rs[i].2.2.2.2) ∧ w.cell? ⟨tb, o + i * 5 + 1, none⟩ = some (.int .i64 rs[i].1) ∧ w.cell? ⟨tb, o + i * 5 + 2, none⟩ = some (.int .i64 rs[i].2.1) ∧ w.cell? ⟨tb, o + i * 5 + 3, none⟩ = some (.int .u64 (rs[i].2.2.1 : Int)) ∧ w.cell? ⟨tb, o + i * 5 + 4, none⟩ = some (.int .u64 (rs[i].2.2.2.1 : Int))
theorem SNs.at {w w1 : World} {ro : Option Addr} {rs : List (Int × Int × Nat × Nat × Bool)} (h : SNs w ro rs) (hb : Ok w w1) {k : Nat} (hk : k < rs.length) :
    ∃ tb o, ro = some ⟨tb, o, none⟩ ∧ tb < w.heap.size ∧ w1.cell? ⟨tb, o + k * 5, none⟩ = some (.bool rs[k].2.2.2.2) ∧ w1.cell? ⟨tb, o + k * 5 + 1, none⟩ = some (.int .i64 rs[k].1) ∧ w1.cell? ⟨tb, o + k * 5 + 2, none⟩ = some (.int .i64 rs[k].2.1) ∧ w1.cell? ⟨tb, o + k * 5 + 3, none⟩ = some (.int .u64 (rs[k].2.2.1 : Int)) ∧ w1.cell? ⟨tb, o + k * 5 + 4, none⟩ = some (.int .u64 (rs[k].2.2.2.1 : Int)) := by
  obtain ⟨tb, o, e, hlt, hc⟩ := h (fun c => by rw [c] at hk; simp at hk)
  have q := hc k hk
  exact ⟨tb, o, e, hlt, (Below.cell hb hlt).trans q.1, (Below.cell hb hlt).trans q.2.1, (Below.cell hb hlt).trans q.2.2.1, (Below.cell hb hlt).trans q.2.2.2.1, (Below.cell hb hlt).trans q.2.2.2.2⟩
theorem rows_lq {c p : Int × Int × Nat × Nat × Bool} {ts : List Int} (rc : RawN c) (nc : NormN c) (rp : RawN p) : widenN c p ts = widRaw c (normN p) ts ∧ RawN (widenN c p ts) ∧ NormN (widenN c p ts) ∧ lqN c (widenN c p ts) = true ∧ lqN p (widenN c p ts) = true := by
  have e : widenN c p ts = widRaw c (normN p) ts := by unfold widenN; rw [normN_id rc nc]
  have r := widRaw_raw rc nc (normN_raw rp) (normN_norm rp) ts
  have n := widRaw_norm rc nc (normN_raw rp) (normN_norm rp) ts
  rw [e]
  refine ⟨rfl, r, n, (lqN_iff rc r).2 (fun v hv h => widRaw_mem rc nc (normN_raw rp) (normN_norm rp) ts hv (Or.inl h)), (lqN_iff rp r).2 (fun v hv h => widRaw_mem rc nc (normN_raw rp) (normN_norm rp) ts hv (Or.inr ((normN_mem rp hv).2 h)))⟩

theorem tite {α : Type} {P1 P2 P3 P4 P5 : Prop} [Decidable P1] [Decidable P2] [Decidable P3] [Decidable P4] [Decidable P5] {T F : α} : (if P1 then if P2 then if P3 then if P4 then if P5 then T else F else F else F else F else F) = if (P1 ∧ P2 ∧ P3 ∧ P4 ∧ P5) then T else F := by
  by_cases h1 : P1 <;> by_cases h2 : P2 <;> by_cases h3 : P3 <;> by_cases h4 : P4 <;> by_cases h5 : P5 <;> simp [h1, h2, h3, h4, h5]
theorem tqn_ne {x y : Int × Int × Nat × Nat × Bool} (h : x ≠ y) {α : Type} (T F : α) : (if x.2.2.2.2 = y.2.2.2.2 then if x.1 = y.1 then if x.2.1 = y.2.1 then if (x.2.2.1 : Int) = (y.2.2.1 : Int) then if (x.2.2.2.1 : Int) = (y.2.2.2.1 : Int) then T else F else F else F else F else F) = F := by
  rw [tite]
  obtain ⟨a, b, c, d, e⟩ := x
  obtain ⟨a', b', c', d', e'⟩ := y
  exact if_neg (fun k => h (by simp only [Prod.mk.injEq]; have k3 := k.2.2.2.1; have k4 := k.2.2.2.2; simp only at k3 k4; exact ⟨k.2.1, k.2.2.1, by omega, by omega, k.1⟩))
set_option maxRecDepth 100000 in
set_option maxHeartbeats 8000000 in
theorem nrows_any (a : Int × Int × Nat × Nat × Bool) (ro : Option Addr) (rcap : Nat) (rs : List (Int × Int × Nat × Nat × Bool)) (ao : Option Addr) (cap : Nat) (ts : List Int) (ha : RawN a) (hrs : ∀ p ∈ rs, RawN p) (hn : ts.length ≤ 140737488355328) (hm : rs.length ≤ 140737488355328) (w : World) (hT : SInts w (.slice ao ts.length cap) ts) (hR : SNs w ro rs) :
    Calls Tryz.prog 5 #[nv a, .slice ro rs.length rcap, .slice ao ts.length cap] w fun e w' => e = .returned (.bool true) ∧ Ok w w' := by
  obtain ⟨n, hnn⟩ : ∃ n, n = ts.length := ⟨_, rfl⟩
  obtain ⟨m, hmm⟩ : ∃ m, m = rs.length := ⟨_, rfl⟩
  have HT : Hid (SInts w (.slice ao n cap) ts) := by unfold Hid; rw [hnn]; exact hT
  have HR : Hid (SNs w ro rs ∧ ∀ p ∈ rs, RawN p) := ⟨hR, hrs⟩
  rw [← hnn] at hn
  rw [← hmm] at hm
  rw [← hnn, ← hmm]
  have HNM : Hid (n = ts.length ∧ m = rs.length) := ⟨hnn, hmm⟩
  have HA : Hid _ := ha
  clear hT hR hrs hnn hmm ha
  obtain ⟨c0, hc0⟩ : ∃ c, c = normN a := ⟨_, rfl⟩
  have HC0 : Hid _ := hc0
  have RC0 : Hid (RawN c0 ∧ NormN c0) := by rw [hc0]; exact ⟨normN_raw HA.out, normN_norm HA.out⟩
  clear hc0
  have hok : Ok w w := Ok.refl w
  have HB : Hid (n ≤ 4611686018427387904 ∧ m ≤ 4611686018427387904) := by unfold Hid; omega
  unfold nv
  go_enter Tryz.func5, Tryz.ntmps5
  go_wp2_with fail
  obtain ⟨W, hW⟩ : ∃ W, W = (w).alloc (.cells #[.bool a.2.2.2.2, .int .i64 a.1, .int .i64 a.2.1, .int .u64 (a.2.2.1 : Int), .int .u64 (a.2.2.2.1 : Int)] 28) := ⟨_, rfl⟩
  have ra : Hid (W.heap[w.heap.size]? = some (.cells #[.bool a.2.2.2.2, .int .i64 a.1, .int .i64 a.2.1, .int .u64 (a.2.2.1 : Int), .int .u64 (a.2.2.2.1 : Int)] 28)) := by unfold Hid; rw [hW]; exact (by repeat (first | (refine heap_at _ _ _ ?hx; case hx => (first | (simp; done) | (simp; omega))) | (refine heap_past _ _ _ ?hy ?_; case hy => (first | (simp; done) | (simp; omega))) | fail))
  have HW : Hid (Ok w W) := by unfold Hid; rw [hW]; exact (by repeat (first | exact hok | refine Ok.alloc ?_ _ | refine Ok.draws ?_ _ | fail))
  rw [← hW]
  clear hW
  obtain ⟨ga, ega⟩ : ∃ g, g = w.heap.size := ⟨_, rfl⟩
  rw [← ega] at ra ⊢
  clear ega hok
  refine (works13 W _ (Ok.refl _)).mono ?_
  rintro e w1 ⟨rfl, hb⟩
  replace ra : Hid _ := Ok.row' hb ra.out
  have Hw1 : Hid (Ok w w1) := HW.out.step hb
  clear hb HW
  have zz := row5_facts (ra.out)
  have aa0 := zz.1
  have aa1 := zz.2.1
  have aa2 := zz.2.2.1
  have aa3 := zz.2.2.2.1
  have aa4 := zz.2.2.2.2.1
  have aa5 := zz.2.2.2.2.2.1
  have aa6 := zz.2.2.2.2.2.2.1
  have aa7 := zz.2.2.2.2.2.2.2.1
  have aa8 := zz.2.2.2.2.2.2.2.2.1
  have aa9 := zz.2.2.2.2.2.2.2.2.2
  clear zz
  go_wp2_with fail
  clear aa0 aa1 aa2 aa3 aa4 aa5 aa6 aa7 aa8 aa9
  refine (nnorm_any a HA.out w1 _ (Ok.refl _)).mono ?_
  rintro e w2 ⟨rfl, hb⟩
  rw [← HC0.out]
  have Hw2 : Hid (Ok w w2) := Hw1.out.step hb
  clear hb Hw1 ra
  unfold nv
  go_wp2_with fail
  obtain ⟨V, hV⟩ : ∃ W, W = w2.alloc (.cells #[.bool c0.2.2.2.2, .int .i64 c0.1, .int .i64 c0.2.1, .int .u64 (c0.2.2.1 : Int), .int .u64 (c0.2.2.2.1 : Int)] 28) := ⟨_, rfl⟩
  have rn : Hid (V.heap[w2.heap.size]? = some (.cells #[.bool c0.2.2.2.2, .int .i64 c0.1, .int .i64 c0.2.1, .int .u64 (c0.2.2.1 : Int), .int .u64 (c0.2.2.2.1 : Int)] 28)) := by unfold Hid; rw [hV]; exact heap_new0 _ _
  have HV : Hid (Ok w V) := by unfold Hid; rw [hV]; exact Hw2.out.alloc _
  rw [← hV]
  have lgn := Hw2.out.le
  obtain ⟨gn, egn⟩ : ∃ g, g = w2.heap.size := ⟨_, rfl⟩
  rw [← egn] at rn lgn ⊢
  clear hV egn Hw2
  go_loopw [8, 18] (fun s8 s18 wr => ∃ (k ch : Nat) (c : Int × Int × Nat × Nat × Bool), k ≤ m ∧ s18 = .int .i64 (k : Int) ∧ s8 = .int .i64 (ch : Int) ∧ Hid (RInv ts c ch ∧ RawN c ∧ NormN c ∧ ch ≤ k) ∧ Hid (wr.heap[gn]? = some (.cells #[.bool c.2.2.2.2, .int .i64 c.1, .int .i64 c.2.1, .int .u64 (c.2.2.1 : Int), .int .u64 (c.2.2.2.1 : Int)] 28)) ∧ Hid (Ok w wr)) (fun _ s18 _ => m - (intOf s18).toNat)
  case atStart => exact ⟨0, 0, c0, by omega, rfl, rfl, ⟨RInv.start RC0.out.2, RC0.out.1, RC0.out.2, by omega⟩, rn.out, HV.out⟩
  case round =>
    obtain ⟨k, ch, c, hk, rfl, rfl, HI, rc, HK⟩ := hrel
    clear rn HV
    by_cases k3 : k < m
    · have k3i : (k : Int) < (m : Int) := by omega
      have k0i : (0 : Int) ≤ (k : Int) := by omega
      obtain ⟨tb, o, ero, htb, p0, p1, p2, p3, p4⟩ := SNs.at HR.out.1 HK.out (k := k) (by rw [← HNM.out.2]; exact k3)
      have HP : Hid (RawN (rs[k]'(by rw [← HNM.out.2]; exact k3))) := HR.out.2 _ (List.getElem_mem _)
      subst ero
      generalize (rs[k]'(by rw [← HNM.out.2]; exact k3)) = p at p0 p1 p2 p3 p4 HP
      have s0 := HK.out.le
      have s1 := lt_row rc.out
      have s2 : tb < wr.heap.size := by omega
      have n1 : ¬ wr.heap.size = gn := by omega
      have n2 : ¬ gn = wr.heap.size := by omega
      have n3 : ¬ tb = gn := by omega
      have n4 : ¬ gn = tb := by omega
      have n5 : ¬ tb = wr.heap.size := by omega
      have n6 : ¬ wr.heap.size = tb := by omega
      have zz := row5_facts (rc.out)
      have cc0 := zz.1
      have cc1 := zz.2.1
      have cc2 := zz.2.2.1
      have cc3 := zz.2.2.2.1
      have cc4 := zz.2.2.2.2.1
      have cc5 := zz.2.2.2.2.2.1
      have cc6 := zz.2.2.2.2.2.2.1
      have cc7 := zz.2.2.2.2.2.2.2.1
      have cc8 := zz.2.2.2.2.2.2.2.2.1
      have cc9 := zz.2.2.2.2.2.2.2.2.2
      clear zz
      go_wp2_with fail
      obtain ⟨W3, hW3⟩ : ∃ W, W = wr.alloc (.cells #[.bool p.2.2.2.2, .int .i64 p.1, .int .i64 p.2.1, .int .u64 (p.2.2.1 : Int), .int .u64 (p.2.2.2.1 : Int)] 28) := ⟨_, rfl⟩
      have O3 : Ok wr W3 := by rw [hW3]; exact (Ok.refl _).alloc _
      have rp : Hid (W3.heap[wr.heap.size]? = some (.cells #[.bool p.2.2.2.2, .int .i64 p.1, .int .i64 p.2.1, .int .u64 (p.2.2.1 : Int), .int .u64 (p.2.2.2.1 : Int)] 28)) := by unfold Hid; rw [hW3]; exact heap_new0 _ _
      rw [← hW3]
      have HW3 : Hid (Ok w W3) := HK.out.step O3
      replace rc : Hid _ := Ok.row' O3 rc.out
      have lgp := HK.out.le
      obtain ⟨gp, egp⟩ : ∃ g, g = wr.heap.size := ⟨_, rfl⟩
      rw [← egp] at rp n1 n2 lgp ⊢
      clear hW3 O3 egp n3 n4 n5 n6 p0 p1 p2 p3 p4 s0 s1 s2 cc0 cc1 cc2 cc3 cc4 cc5 cc6 cc7 cc8 cc9
      obtain ⟨x, hx⟩ : ∃ x, x = widenN c p ts := ⟨_, rfl⟩
      have HX : Hid _ := hx
      have FX : Hid (widenN c p ts = widRaw c (normN p) ts ∧ RawN x ∧ NormN x ∧ lqN c x = true ∧ lqN p x = true) := by rw [hx]; exact rows_lq HI.out.2.1 HI.out.2.2.1 HP.out
      have FI : Hid (RInv ts x (if x = c then ch else ch + 1)) := by unfold Hid; rw [hx, FX.out.1]; exact RInv.step HI.out.2.1 HI.out.2.2.1 (normN_raw HP.out) (normN_norm HP.out) HI.out.1
      clear hx
      refine (nwiden_any c p (.slice ao n cap) ts HI.out.2.1 HP.out W3 _ (Ok.refl _) (SInts.ok HT.out HW3.out)).mono ?_
      rintro e w4 ⟨rfl, hb⟩
      rw [← HX.out]
      replace rc : Hid _ := Ok.row' hb rc.out
      replace rp : Hid _ := Ok.row' hb rp.out
      have Hw4 : Hid (Ok w w4) := HW3.out.step hb
      clear hb HW3
      unfold nv
      have s1 := lt_row rc.out
      have s2 := lt_row rp.out
      have q1 : ¬ w4.heap.size = gn := by omega
      have q2 : ¬ gn = w4.heap.size := by omega
      have q3 : ¬ w4.heap.size = gp := by omega
      have q4 : ¬ gp = w4.heap.size := by omega
      go_wp2_with fail
      obtain ⟨W5, hW5⟩ : ∃ W, W = w4.alloc (.cells #[.bool x.2.2.2.2, .int .i64 x.1, .int .i64 x.2.1, .int .u64 (x.2.2.1 : Int), .int .u64 (x.2.2.2.1 : Int)] 28) := ⟨_, rfl⟩
      have O5 : Ok w4 W5 := by rw [hW5]; exact (Ok.refl _).alloc _
      have rx : Hid (W5.heap[w4.heap.size]? = some (.cells #[.bool x.2.2.2.2, .int .i64 x.1, .int .i64 x.2.1, .int .u64 (x.2.2.1 : Int), .int .u64 (x.2.2.2.1 : Int)] 28)) := by unfold Hid; rw [hW5]; exact heap_new0 _ _
      rw [← hW5]
      have HW5 : Hid (Ok w W5) := Hw4.out.step O5
      replace rc : Hid _ := Ok.row' O5 rc.out
      replace rp : Hid _ := Ok.row' O5 rp.out
      have lgx := Hw4.out.le
      obtain ⟨gx, egx⟩ : ∃ g, g = w4.heap.size := ⟨_, rfl⟩
      rw [← egx] at rx q1 q2 q3 q4 lgx ⊢
      clear hW5 O5 egx s1 s2 Hw4
      refine (wnormal_any x FX.out.2.1 FX.out.2.2.1 W5 _ (Ok.refl _)).mono ?_
      rintro e w6 ⟨rfl, hb⟩
      replace rc : Hid _ := Ok.row' hb rc.out
      replace rp : Hid _ := Ok.row' hb rp.out
      replace rx : Hid _ := Ok.row' hb rx.out
      have Hw6 : Hid (Ok w w6) := HW5.out.step hb
      clear hb HW5
      have zz := row5_facts (rc.out)
      have cc0 := zz.1
      have cc1 := zz.2.1
      have cc2 := zz.2.2.1
      have cc3 := zz.2.2.2.1
      have cc4 := zz.2.2.2.2.1
      have cc5 := zz.2.2.2.2.2.1
      have cc6 := zz.2.2.2.2.2.2.1
      have cc7 := zz.2.2.2.2.2.2.2.1
      have cc8 := zz.2.2.2.2.2.2.2.2.1
      have cc9 := zz.2.2.2.2.2.2.2.2.2
      clear zz
      have zz := row5_facts (rx.out)
      have xx0 := zz.1
      have xx1 := zz.2.1
      have xx2 := zz.2.2.1
      have xx3 := zz.2.2.2.1
      have xx4 := zz.2.2.2.2.1
      have xx5 := zz.2.2.2.2.2.1
      have xx6 := zz.2.2.2.2.2.2.1
      have xx7 := zz.2.2.2.2.2.2.2.1
      have xx8 := zz.2.2.2.2.2.2.2.2.1
      have xx9 := zz.2.2.2.2.2.2.2.2.2
      clear zz
      go_wp2_with fail
      clear cc0 cc1 cc2 cc3 cc4 cc5 cc6 cc7 cc8 cc9 xx0 xx1 xx2 xx3 xx4 xx5 xx6 xx7 xx8 xx9
      refine (nleq_any c x HI.out.2.1 FX.out.2.1 w6 _ (Ok.refl _)).mono ?_
      rintro e w7 ⟨rfl, hb⟩
      rw [FX.out.2.2.2.1]
      replace rc : Hid _ := Ok.row' hb rc.out
      replace rp : Hid _ := Ok.row' hb rp.out
      replace rx : Hid _ := Ok.row' hb rx.out
      have Hw7 : Hid (Ok w w7) := Hw6.out.step hb
      clear hb Hw6
      have zz := row5_facts (rp.out)
      have pp0 := zz.1
      have pp1 := zz.2.1
      have pp2 := zz.2.2.1
      have pp3 := zz.2.2.2.1
      have pp4 := zz.2.2.2.2.1
      have pp5 := zz.2.2.2.2.2.1
      have pp6 := zz.2.2.2.2.2.2.1
      have pp7 := zz.2.2.2.2.2.2.2.1
      have pp8 := zz.2.2.2.2.2.2.2.2.1
      have pp9 := zz.2.2.2.2.2.2.2.2.2
      clear zz
      have zz := row5_facts (rx.out)
      have xx0 := zz.1
      have xx1 := zz.2.1
      have xx2 := zz.2.2.1
      have xx3 := zz.2.2.2.1
      have xx4 := zz.2.2.2.2.1
      have xx5 := zz.2.2.2.2.2.1
      have xx6 := zz.2.2.2.2.2.2.1
      have xx7 := zz.2.2.2.2.2.2.2.1
      have xx8 := zz.2.2.2.2.2.2.2.2.1
      have xx9 := zz.2.2.2.2.2.2.2.2.2
      clear zz
      go_wp2_with fail
      clear pp0 pp1 pp2 pp3 pp4 pp5 pp6 pp7 pp8 pp9 xx0 xx1 xx2 xx3 xx4 xx5 xx6 xx7 xx8 xx9
      refine (nleq_any p x HP.out FX.out.2.1 w7 _ (Ok.refl _)).mono ?_
      rintro e w8 ⟨rfl, hb⟩
      rw [FX.out.2.2.2.2]
      replace rc : Hid _ := Ok.row' hb rc.out
      replace rp : Hid _ := Ok.row' hb rp.out
      replace rx : Hid _ := Ok.row' hb rx.out
      have Hw8 : Hid (Ok w w8) := Hw7.out.step hb
      clear hb Hw7
      by_cases xc : x = c
      · have FI2 : Hid (RInv ts x ch) := by have f := FI.out; rw [if_pos xc] at f; exact f
        clear FI HX
        subst xc
        have zz := row5_facts (rc.out)
        have cc0 := zz.1
        have cc1 := zz.2.1
        have cc2 := zz.2.2.1
        have cc3 := zz.2.2.2.1
        have cc4 := zz.2.2.2.2.1
        have cc5 := zz.2.2.2.2.2.1
        have cc6 := zz.2.2.2.2.2.2.1
        have cc7 := zz.2.2.2.2.2.2.2.1
        have cc8 := zz.2.2.2.2.2.2.2.2.1
        have cc9 := zz.2.2.2.2.2.2.2.2.2
        clear zz
        have zz := row5_facts (rx.out)
        have xx0 := zz.1
        have xx1 := zz.2.1
        have xx2 := zz.2.2.1
        have xx3 := zz.2.2.2.1
        have xx4 := zz.2.2.2.2.1
        have xx5 := zz.2.2.2.2.2.1
        have xx6 := zz.2.2.2.2.2.2.1
        have xx7 := zz.2.2.2.2.2.2.2.1
        have xx8 := zz.2.2.2.2.2.2.2.2.1
        have xx9 := zz.2.2.2.2.2.2.2.2.2
        clear zz
        go_wp2_with fail
        obtain ⟨Z, hZ⟩ : ∃ Z, Z = (((((w8.setCell ⟨gn, 0, none⟩ (.bool x.2.2.2.2)).setCell ⟨gn, 1, none⟩ (.int .i64 x.1)).setCell ⟨gn, 2, none⟩ (.int .i64 x.2.1)).setCell ⟨gn, 3, none⟩ (.int .u64 (x.2.2.1 : Int))).setCell ⟨gn, 4, none⟩ (.int .u64 (x.2.2.2.1 : Int))) := ⟨_, rfl⟩
        have hrp := rows_put1 rc.out Hw8.out (by omega) _ _ _ _ _ hZ
        rw [← hZ]
        go_roundw
        case rel => exact ⟨k + 1, ch, x, by omega, by simp, (by first | (simp; done) | (simp; exact kch)), ⟨FI2.out, FX.out.2.1, FX.out.2.2.1, by have := HI.out.2.2.2; omega⟩, hrp.out.2.1, hrp.out.1⟩
        case measure => simp [intOf]; omega
      · have FI2 : Hid (RInv ts x (ch + 1)) := by have f := FI.out; rw [if_neg xc] at f; exact f
        have hne : ∀ (α : Type) (T F : α), (if x.2.2.2.2 = c.2.2.2.2 then if x.1 = c.1 then if x.2.1 = c.2.1 then if (x.2.2.1 : Int) = (c.2.2.1 : Int) then if (x.2.2.2.1 : Int) = (c.2.2.2.1 : Int) then T else F else F else F else F else F) = F := fun _ _ _ => tqn_ne xc _ _
        have kch : wrap64 ((ch : Int) + 1) = (ch : Int) + 1 := by have := HI.out.2.2.2; have := HB.out; unfold wrap64; omega
        clear FI xc
        have zz := row5_facts (rc.out)
        have cc0 := zz.1
        have cc1 := zz.2.1
        have cc2 := zz.2.2.1
        have cc3 := zz.2.2.2.1
        have cc4 := zz.2.2.2.2.1
        have cc5 := zz.2.2.2.2.2.1
        have cc6 := zz.2.2.2.2.2.2.1
        have cc7 := zz.2.2.2.2.2.2.2.1
        have cc8 := zz.2.2.2.2.2.2.2.2.1
        have cc9 := zz.2.2.2.2.2.2.2.2.2
        clear zz
        have zz := row5_facts (rx.out)
        have xx0 := zz.1
        have xx1 := zz.2.1
        have xx2 := zz.2.2.1
        have xx3 := zz.2.2.2.1
        have xx4 := zz.2.2.2.2.1
        have xx5 := zz.2.2.2.2.2.1
        have xx6 := zz.2.2.2.2.2.2.1
        have xx7 := zz.2.2.2.2.2.2.2.1
        have xx8 := zz.2.2.2.2.2.2.2.2.1
        have xx9 := zz.2.2.2.2.2.2.2.2.2
        clear zz
        go_wp2_with fail
        obtain ⟨Z, hZ⟩ : ∃ Z, Z = (((((w8.setCell ⟨gn, 0, none⟩ (.bool x.2.2.2.2)).setCell ⟨gn, 1, none⟩ (.int .i64 x.1)).setCell ⟨gn, 2, none⟩ (.int .i64 x.2.1)).setCell ⟨gn, 3, none⟩ (.int .u64 (x.2.2.1 : Int))).setCell ⟨gn, 4, none⟩ (.int .u64 (x.2.2.2.1 : Int))) := ⟨_, rfl⟩
        have hrp := rows_put1 rc.out Hw8.out (by omega) _ _ _ _ _ hZ
        rw [← hZ]
        go_roundw
        case rel => exact ⟨k + 1, ch + 1, x, by omega, by simp, (by first | (simp; done) | (simp; exact kch)), ⟨FI2.out, FX.out.2.1, FX.out.2.2.1, by have := HI.out.2.2.2; omega⟩, hrp.out.2.1, hrp.out.1⟩
        case measure => simp [intOf]; omega
    · have k3e : k = m := by omega
      subst k3e
      have ke : Hid (ch ≤ 2 * (n + 3)) := by have := RInv.end' HI.out.1; rw [← HNM.out.1] at this; exact this
      go_wp2_with fail
      go_ret
      refine ⟨?_, HK.out⟩
      have ke2 := ke.out
      show Ending.returned (.bool (decide ((ch : Int) ≤ 2 * ((n : Int) + 3)))) = _
      rw [decide_eq_true (by omega)]
end
end Go.Proofs.YtbclkkpddomoiaaGreat
