import Derived.Deep.CutRange
import Derived.Test.YtklkpaekdpaloaaGreatDoorMSb
import Derived.Test.YtklkpaekdpaloaaGreatDoorMTm
import Derived.Test.YtklkpaekdpaloaaGreatDoorMTp
import Derived.Test.YtklkpaekdpaloaaGreatDoorMTp0
set_option linter.unusedVariables false
set_option linter.unusedSimpArgs false
set_option linter.unnecessarySimpa false
namespace Go.Proofs.YtklkpaekdpaloaaGreatDoor
section
open Go.RowKit
theorem kw_bndB {k : Nat} (hk : k < 1000000000000000) : IntKind.i64.wrap ((k : Int) + 1) = ((k + 1 : Nat) : Int) := wrap_nat (by omega) (by omega)
set_option maxRecDepth 100000 in
set_option maxHeartbeats 8000000 in
theorem whole_ok (v0 v1 v2 v3 v4 v5 : Value) (ns : List Nd) (l : Ls) (g d : Nat → Nat) (w : World) (hc : CpIs w 0 g d ns l) (h : ProgIs w v0 v1 v2 v3 v4 v5 ns l) (hok : ∀ n ∈ ns, n.Ok) (hb : ns.length * 56 ≤ 140737488351232 ∧ l.sc.length * 16 ≤ 140737488351232 ∧ l.ar.length * 24 ≤ 140737488351232 ∧ l.sy.length * 8 ≤ 140737488351232 ∧ l.si.length * 8 ≤ 140737488351232 ∧ l.so.length * 8 ≤ 140737488351232) :
  Calls Tryz.prog 14 #[.agg #[cpV ns l g d 0, cpV ns l g d 1, cpV ns l g d 2, cpV ns l g d 3, cpV ns l g d 4, cpV ns l g d 5], .agg #[v0, v1, v2, v3, v4, v5]] w fun e w' => e = .returned (.bool true) ∧ Ok w w' := by
 have HP : Hid (ProgIs w v0 v1 v2 v3 v4 v5 ns l) := h
 have HQ : Hid (ProgIs w (cpV ns l g d 0) (cpV ns l g d 1) (cpV ns l g d 2) (cpV ns l g d 3) (cpV ns l g d 4) (cpV ns l g d 5) ns l) := hc.pr.prog hok
 have HCW : Hid (∀ W, Ok w W → ∀ k, k < 6 → ∀ j u, (xOf ns ns.length l k ++ mkOf k)[j]? = some u → W.cell? ⟨g k, j, none⟩ = some u) := fun W hW k hk j u hj => by
  have := (own_ok (hc.row k hk) hW).cells (g := g k) rfl j u hj
  rw [add_off, Nat.zero_add] at this
  exact this
 have HRM : Hid (∀ k, k < 6 → nOf ns.length l k + 1 ≤ d k ∧ d k ≤ maxLen) := fun k hk => own_room (hc.row k hk)
 have HLT : Hid (∀ W, Ok w W → ∀ k, k < 6 → g k < W.heap.size) := fun W hW k hk => Nat.lt_of_lt_of_le ((hc.row k hk).lt (g k) rfl).2 hW.le
 have HXL : Hid (∀ k, k < 6 → (xOf ns ns.length l k).length = nOf ns.length l k * SZ k) := fun k hk => xOf_len ns l k hk
 obtain ⟨_, x0, y0, rfl, _⟩ := h.nodes
 obtain ⟨_, _, x1, y1, rfl, _⟩ := h.lists.sc.sl
 obtain ⟨_, _, x2, y2, rfl, _⟩ := h.lists.ar.sl
 obtain ⟨_, _, x3, y3, rfl, _⟩ := h.lists.sy.sl
 obtain ⟨_, _, x4, y4, rfl, _⟩ := h.lists.si.sl
 obtain ⟨_, _, x5, y5, rfl, _⟩ := h.lists.so.sl
 unfold cpV at HQ ⊢
 have hn0 : nOf ns.length l 0 = ns.length := rfl
 have hn1 : nOf ns.length l 1 = l.sc.length := rfl
 have hn2 : nOf ns.length l 2 = l.ar.length := rfl
 have hn3 : nOf ns.length l 3 = l.sy.length := rfl
 have hn4 : nOf ns.length l 4 = l.si.length := rfl
 have hn5 : nOf ns.length l 5 = l.so.length := rfl
 rw [hn0, hn1, hn2, hn3, hn4, hn5] at HQ ⊢
 obtain ⟨n0, hm0⟩ : ∃ x, x = ns.length := ⟨_, rfl⟩
 obtain ⟨g0, hg0⟩ : ∃ x, x = g 0 := ⟨_, rfl⟩
 obtain ⟨d0, hd0⟩ : ∃ x, x = d 0 := ⟨_, rfl⟩
 obtain ⟨n1, hm1⟩ : ∃ x, x = l.sc.length := ⟨_, rfl⟩
 obtain ⟨g1, hg1⟩ : ∃ x, x = g 1 := ⟨_, rfl⟩
 obtain ⟨d1, hd1⟩ : ∃ x, x = d 1 := ⟨_, rfl⟩
 obtain ⟨n2, hm2⟩ : ∃ x, x = l.ar.length := ⟨_, rfl⟩
 obtain ⟨g2, hg2⟩ : ∃ x, x = g 2 := ⟨_, rfl⟩
 obtain ⟨d2, hd2⟩ : ∃ x, x = d 2 := ⟨_, rfl⟩
 obtain ⟨n3, hm3⟩ : ∃ x, x = l.sy.length := ⟨_, rfl⟩
 obtain ⟨g3, hg3⟩ : ∃ x, x = g 3 := ⟨_, rfl⟩
 obtain ⟨d3, hd3⟩ : ∃ x, x = d 3 := ⟨_, rfl⟩
 obtain ⟨n4, hm4⟩ : ∃ x, x = l.si.length := ⟨_, rfl⟩
 obtain ⟨g4, hg4⟩ : ∃ x, x = g 4 := ⟨_, rfl⟩
 obtain ⟨d4, hd4⟩ : ∃ x, x = d 4 := ⟨_, rfl⟩
 obtain ⟨n5, hm5⟩ : ∃ x, x = l.so.length := ⟨_, rfl⟩
 obtain ⟨g5, hg5⟩ : ∃ x, x = g 5 := ⟨_, rfl⟩
 obtain ⟨d5, hd5⟩ : ∃ x, x = d 5 := ⟨_, rfl⟩
 have HNB : Hid (n0 * 56 ≤ 140737488351232 ∧ n1 * 16 ≤ 140737488351232 ∧ n2 * 24 ≤ 140737488351232 ∧ n3 * 8 ≤ 140737488351232 ∧ n4 * 8 ≤ 140737488351232 ∧ n5 * 8 ≤ 140737488351232) := by unfold Hid; omega
 have hr0 : n0 + 1 ≤ d0 := by have := (HRM.out 0 (by decide)).1; rw [hn0] at this; omega
 have hr1 : n1 + 1 ≤ d1 := by have := (HRM.out 1 (by decide)).1; rw [hn1] at this; omega
 have hr2 : n2 + 1 ≤ d2 := by have := (HRM.out 2 (by decide)).1; rw [hn2] at this; omega
 have hr3 : n3 + 1 ≤ d3 := by have := (HRM.out 3 (by decide)).1; rw [hn3] at this; omega
 have hr4 : n4 + 1 ≤ d4 := by have := (HRM.out 4 (by decide)).1; rw [hn4] at this; omega
 have hr5 : n5 + 1 ≤ d5 := by have := (HRM.out 5 (by decide)).1; rw [hn5] at this; omega
 have HCC : Hid (∀ W, Ok w W → W.cell? ⟨g0, n0 * 6, none⟩ = some (.int .i64 (-7)) ∧ W.cell? ⟨g1, n1, none⟩ = some (.string ⟨#[114, 111, 111, 109]⟩) ∧ W.cell? ⟨g2, n2 * 2 + 1, none⟩ = some (.int .i64 (-7)) ∧ W.cell? ⟨g3, n3, none⟩ = some (.int .i64 (-7)) ∧ W.cell? ⟨g4, n4, none⟩ = some (.int .i64 (-7)) ∧ W.cell? ⟨g5, n5, none⟩ = some (.int .i64 (-7)) ∧ g0 < W.heap.size ∧ g1 < W.heap.size ∧ g2 < W.heap.size ∧ g3 < W.heap.size ∧ g4 < W.heap.size ∧ g5 < W.heap.size) := fun W hW => by
  refine ⟨?_, ?_, ?_, ?_, ?_, ?_, by rw [hg0]; exact HLT.out W hW 0 (by decide), by rw [hg1]; exact HLT.out W hW 1 (by decide), by rw [hg2]; exact HLT.out W hW 2 (by decide), by rw [hg3]; exact HLT.out W hW 3 (by decide), by rw [hg4]; exact HLT.out W hW 4 (by decide), by rw [hg5]; exact HLT.out W hW 5 (by decide)⟩
  ·have hx := HXL.out 0 (by decide)
   rw [hg0]
   refine HCW.out W hW 0 (by decide) _ _ ?_
   rw [List.getElem?_append_right (by rw [hx, hn0]; simp [SZ]; omega), hx, hn0, ← hm0]
   simp [SZ, mkOf]
  ·have hx := HXL.out 1 (by decide)
   rw [hg1]
   refine HCW.out W hW 1 (by decide) _ _ ?_
   rw [List.getElem?_append_right (by rw [hx, hn1]; simp [SZ]; omega), hx, hn1, ← hm1]
   simp [SZ, mkOf]
  ·have hx := HXL.out 2 (by decide)
   rw [hg2]
   refine HCW.out W hW 2 (by decide) _ _ ?_
   rw [List.getElem?_append_right (by rw [hx, hn2]; simp [SZ]; omega), hx, hn2, ← hm2]
   simp [SZ, mkOf]
  ·have hx := HXL.out 3 (by decide)
   rw [hg3]
   refine HCW.out W hW 3 (by decide) _ _ ?_
   rw [List.getElem?_append_right (by rw [hx, hn3]; simp [SZ]; omega), hx, hn3, ← hm3]
   simp [SZ, mkOf]
  ·have hx := HXL.out 4 (by decide)
   rw [hg4]
   refine HCW.out W hW 4 (by decide) _ _ ?_
   rw [List.getElem?_append_right (by rw [hx, hn4]; simp [SZ]; omega), hx, hn4, ← hm4]
   simp [SZ, mkOf]
  ·have hx := HXL.out 5 (by decide)
   rw [hg5]
   refine HCW.out W hW 5 (by decide) _ _ ?_
   rw [List.getElem?_append_right (by rw [hx, hn5]; simp [SZ]; omega), hx, hn5, ← hm5]
   simp [SZ, mkOf]
 rw [← hm0, ← hm1, ← hm2, ← hm3, ← hm4, ← hm5] at HP HQ ⊢
 rw [← hg0, ← hg1, ← hg2, ← hg3, ← hg4, ← hg5, ← hd0, ← hd1, ← hd2, ← hd3, ← hd4, ← hd5] at HQ ⊢
 clear hn0 hn1 hn2 hn3 hn4 hn5 hm0 hm1 hm2 hm3 hm4 hm5 hg0 hg1 hg2 hg3 hg4 hg5 hd0 hd1 hd2 hd3 hd4 hd5 hc h hb hok HCW HRM HLT HXL
 have hw0 : IntKind.i64.wrap ((n0 : Int) + 1) = ((n0 + 1 : Nat) : Int) := kw_bndB (by have := HNB.out; omega)
 have hi0 : (n0 : Int) + 1 ≤ (d0 : Int) := by omega
 have hj0 : (n0 : Int) < (n0 : Int) + 1 := by omega
 have hw1 : IntKind.i64.wrap ((n1 : Int) + 1) = ((n1 + 1 : Nat) : Int) := kw_bndB (by have := HNB.out; omega)
 have hi1 : (n1 : Int) + 1 ≤ (d1 : Int) := by omega
 have hj1 : (n1 : Int) < (n1 : Int) + 1 := by omega
 have hw2 : IntKind.i64.wrap ((n2 : Int) + 1) = ((n2 + 1 : Nat) : Int) := kw_bndB (by have := HNB.out; omega)
 have hi2 : (n2 : Int) + 1 ≤ (d2 : Int) := by omega
 have hj2 : (n2 : Int) < (n2 : Int) + 1 := by omega
 have hw3 : IntKind.i64.wrap ((n3 : Int) + 1) = ((n3 + 1 : Nat) : Int) := kw_bndB (by have := HNB.out; omega)
 have hi3 : (n3 : Int) + 1 ≤ (d3 : Int) := by omega
 have hj3 : (n3 : Int) < (n3 : Int) + 1 := by omega
 have hw4 : IntKind.i64.wrap ((n4 : Int) + 1) = ((n4 + 1 : Nat) : Int) := kw_bndB (by have := HNB.out; omega)
 have hi4 : (n4 : Int) + 1 ≤ (d4 : Int) := by omega
 have hj4 : (n4 : Int) < (n4 : Int) + 1 := by omega
 have hw5 : IntKind.i64.wrap ((n5 : Int) + 1) = ((n5 + 1 : Nat) : Int) := kw_bndB (by have := HNB.out; omega)
 have hi5 : (n5 : Int) + 1 ≤ (d5 : Int) := by omega
 have hj5 : (n5 : Int) < (n5 : Int) + 1 := by omega
 go_enter Tryz.func14, Tryz.ntmps14
 go_wp2_with fail
 obtain ⟨w0, hw0⟩ : ∃ x, x = (w.alloc (Obj.cells #[Value.slice (some ⟨g0, 0, none⟩) n0 d0, Value.slice (some ⟨g1, 0, none⟩) n1 d1, Value.slice (some ⟨g2, 0, none⟩) n2 d2, Value.slice (some ⟨g3, 0, none⟩) n3 d3, Value.slice (some ⟨g4, 0, none⟩) n4 d4, Value.slice (some ⟨g5, 0, none⟩) n5 d5] 27)).alloc (Obj.cells #[Value.slice x0 n0 y0, Value.slice x1 n1 y1, Value.slice x2 n2 y2, Value.slice x3 n3 y3, Value.slice x4 n4 y4, Value.slice x5 n5 y5] 27) := ⟨_, rfl⟩
 obtain ⟨b1, hb1⟩ : ∃ x, x = w.heap.size + 1 := ⟨_, rfl⟩
 obtain ⟨b0, hb0⟩ : ∃ x, x = w.heap.size := ⟨_, rfl⟩
 rw [← hw0, ← hb1, ← hb0]
 have HK0 : Hid (Ok w w0) := by unfold Hid; rw [hw0]; exact ((Ok.refl w).alloc _).alloc _
 have HX0 : Hid (Six w0 b0 (.slice (some ⟨g0, 0, none⟩) n0 d0) (.slice (some ⟨g1, 0, none⟩) n1 d1) (.slice (some ⟨g2, 0, none⟩) n2 d2) (.slice (some ⟨g3, 0, none⟩) n3 d3) (.slice (some ⟨g4, 0, none⟩) n4 d4) (.slice (some ⟨g5, 0, none⟩) n5 d5)) := by unfold Hid; rw [hw0, hb0]; exact (Six.new w _ _ _ _ _ _).below ((Ok.refl _).alloc _)
 clear hw0 hb1 hb0
 refine (rsame_any _ _ _ _ _ _ _ _ _ _ _ _ ns l l w0 (HQ.out.below HK0.out) (HP.out.below HK0.out)).mono ?_
 rintro e w1 ⟨rfl, hk1⟩
 rw [sameLs_refl]
 have HK1 : Hid (Ok w w1) := HK0.out.step hk1
 have HX1 : Hid (Six w1 b0 (.slice (some ⟨g0, 0, none⟩) n0 d0) (.slice (some ⟨g1, 0, none⟩) n1 d1) (.slice (some ⟨g2, 0, none⟩) n2 d2) (.slice (some ⟨g3, 0, none⟩) n3 d3) (.slice (some ⟨g4, 0, none⟩) n4 d4) (.slice (some ⟨g5, 0, none⟩) n5 d5)) := HX0.out.below hk1
 clear hk1
 obtain ⟨z1, c0, c1, c2, c3, c4, c5⟩ := HX1.out.pc
 obtain ⟨e0, e1, e2, e3, e4, e5, l0, l1, l2, l3, l4, l5⟩ := HCC.out w1 HK1.out
 go_wp2_with fail
 go_quiet (fail)
 go_wp2_with fail
 go_ret
 exact ⟨rfl, HK1.out.draws _⟩
end
section
open Go.RowKit
def setNd (w : World) (b j : Nat) (n : Nd) : World := ((((((w.setCell ⟨b, j * 6, none⟩ (.int .i64 n.depth)).setCell ⟨b, j * 6 + 1, none⟩ (.int .i64 n.kind)).setCell ⟨b, j * 6 + 2, none⟩ (.string n.name)).setCell ⟨b, j * 6 + 3, none⟩ (.int .i64 n.num)).setCell ⟨b, j * 6 + 4, none⟩ (.int .i64 n.op)).setCell ⟨b, j * 6 + 5, none⟩ (.int .i64 n.pos))
theorem ndL_set : ∀ (ns : List Nd) (p : Nat) (n : Nd), p < ns.length → ((((((ndL ns).set (p * 6) (.int .i64 n.depth)).set (p * 6 + 1) (.int .i64 n.kind)).set (p * 6 + 2) (.string n.name)).set (p * 6 + 3) (.int .i64 n.num)).set (p * 6 + 4) (.int .i64 n.op)).set (p * 6 + 5) (.int .i64 n.pos) = ndL (ns.set p n)
 | [], p, n, h => by cases h
 | x :: xs, 0, n, _ => by
  rw [List.set_cons_zero, ndL_cons, ndL_cons]
  rfl
 | x :: xs, p + 1, n, h => by
  have ih := ndL_set xs p n (Nat.lt_of_succ_lt_succ h)
  rw [List.set_cons_succ, ndL_cons, ndL_cons, ← ih, show (p + 1) * 6 = p * 6 + 1 + 1 + 1 + 1 + 1 + 1 by omega]
  rfl
theorem ndL_set_app (ns : List Nd) (p : Nat) (n : Nd) (ys : List Value) (h : p < ns.length) : ((((((ndL ns ++ ys).set (p * 6) (.int .i64 n.depth)).set (p * 6 + 1) (.int .i64 n.kind)).set (p * 6 + 2) (.string n.name)).set (p * 6 + 3) (.int .i64 n.num)).set (p * 6 + 4) (.int .i64 n.op)).set (p * 6 + 5) (.int .i64 n.pos) = ndL (ns.set p n) ++ ys := by
 have hl := ndL_len ns
 rw [List.set_append_left _ _ (by omega), List.set_append_left _ _ (by simp only [List.length_set]; omega), List.set_append_left _ _ (by simp only [List.length_set]; omega), List.set_append_left _ _ (by simp only [List.length_set]; omega), List.set_append_left _ _ (by simp only [List.length_set]; omega), List.set_append_left _ _ (by simp only [List.length_set]; omega), ndL_set ns p n h]
theorem setNd_heap (w : World) (b j : Nat) (n : Nd) {k : Nat} (h : k ≠ b) : (setNd w b j n).heap[k]? = w.heap[k]? := by
 unfold setNd
 rw [Below.heap_setCell _ _ _ _ h, Below.heap_setCell _ _ _ _ h, Below.heap_setCell _ _ _ _ h, Below.heap_setCell _ _ _ _ h, Below.heap_setCell _ _ _ _ h, Below.heap_setCell _ _ _ _ h]
theorem setNd_size (w : World) (b j : Nat) (n : Nd) : (setNd w b j n).heap.size = w.heap.size := by simp [setNd]
theorem setNd_ok {w0 w : World} {b : Nat} (h : Ok w0 w) (hb : w0.heap.size ≤ b) (j : Nat) (n : Nd) : Ok w0 (setNd w b j n) := by
 unfold setNd
 exact (((((h.set (p := ⟨b, _, none⟩) hb _).set (p := ⟨b, _, none⟩) hb _).set (p := ⟨b, _, none⟩) hb _).set (p := ⟨b, _, none⟩) hb _).set (p := ⟨b, _, none⟩) hb _).set (p := ⟨b, _, none⟩) hb _
theorem CRows.put {w : World} {B : Nat} {g d : Nat → Nat} {ns : List Nd} {m : Ls} {p : Nat} (h : CRows w B g d ns m) (up : ∀ j k, j < k → k < 6 → g j < g k) (hp : p < ns.length) (n : Nd) : CRows (setNd w (g 0) p n) B g d (ns.set p n) m := by
 have keep : ∀ k, k < 6 → k ≠ 0 → (setNd w (g 0) p n).ownsRow B (TY k) (SZ k) (.slice (some ⟨g k, 0, none⟩) (nOf ns.length m k + 1) (d k)) (nOf ns.length m k + 1) (xOf ns ns.length m k ++ mkOf k) := fun k hk hne => own_same (h k hk) fun b hb => setNd_heap _ _ _ _ (by
  have e : g k = b := Option.some.inj hb
  have := up 0 k (by omega) hk
  omega)
 refine six_cases ?_ (keep 1 (by decide) (by decide)) (keep 2 (by decide) (by decide)) (keep 3 (by decide) (by decide)) (keep 4 (by decide) (by decide)) (keep 5 (by decide) (by decide))
 have h0 := h 0 (by decide)
 rw [xOf_zero] at h0
 rw [xOf_zero, ← ndL_set_app ns p n (mkOf 0) hp, show nOf (ns.set p n).length m 0 = nOf ns.length m 0 by show (ns.set p n).length = ns.length; simp]
 exact (World.ownsRow.stored (World.ownsRow.stored (World.ownsRow.stored (World.ownsRow.stored (World.ownsRow.stored (World.ownsRow.stored h0 _ _).1 _ _).1 _ _).1 _ _).1 _ _).1 _ _).1
theorem CRows.past {w : World} {B b j : Nat} {g d : Nat → Nat} {ns : List Nd} {m : Ls} (h : CRows w B g d ns m) (hb : ∀ k, k < 6 → g k ≠ b) (n : Nd) : CRows (setNd w b j n) B g d ns m := fun k hk => own_same (h k hk) fun c hc => setNd_heap _ _ _ _ (by
  have e : g k = c := Option.some.inj hc
  rw [← e]; exact hb k hk)
theorem CRows.cp {w : World} {B : Nat} {g d : Nat → Nat} {ns : List Nd} {m : Ls} (h : CRows w B g d ns m) (hB : 2 ≤ B) (up : ∀ j k, j < k → k < 6 → g j < g k) : CpIs w 0 g d ns m := ⟨fun k hk => own_base (h k hk) hB, up⟩
theorem asked_cp (v0 v1 v2 v3 v4 v5 : Value) (ns : List Nd) (l : Ls) (g d : Nat → Nat) (B : Nat) (w : World) (hR : RulesIs w) (hS : StepsIs w) (hc : CRows w B g d ns l) (hB : 2 ≤ B) (up : ∀ j k, j < k → k < 6 → g j < g k) (hp : ProgIs w v0 v1 v2 v3 v4 v5 ns l)
  (hb : ns.length * 56 ≤ 140737488351232 ∧ l.sc.length * 16 ≤ 140737488351232 ∧ l.ar.length * 24 ≤ 140737488351232 ∧ l.sy.length * 8 ≤ 140737488351232 ∧ l.si.length * 8 ≤ 140737488351232 ∧ l.so.length * 8 ≤ 140737488351232) :
  Calls Tryz.prog 7 #[.agg #[cpV ns l g d 0, cpV ns l g d 1, cpV ns l g d 2, cpV ns l g d 3, cpV ns l g d 4, cpV ns l g d 5], .agg #[v0, v1, v2, v3, v4, v5]] w fun e w' => e = .returned (.bool true) ∧ Ok w w' :=
 asked_ok _ _ _ _ _ _ _ _ _ _ _ _ ns l w hR hS (hc.pr.prog hp.nodes.1) hp hp.nodes.1 fun W hW => whole_ok _ _ _ _ _ _ ns l g d W ((hc.ok hW).cp hB up) (hp.below hW) hp.nodes.1 hb
theorem CRows.cells {w : World} {B p : Nat} {g d : Nat → Nat} {ns : List Nd} {m : Ls} {n : Nd} (h : CRows w B g d ns m) (hp : ns[p]? = some n) : w.cell? ⟨g 0, p * 6, none⟩ = some (.int .i64 n.depth) ∧ w.cell? ⟨g 0, p * 6 + 1, none⟩ = some (.int .i64 n.kind) ∧ w.cell? ⟨g 0, p * 6 + 2, none⟩ = some (.string n.name) ∧ w.cell? ⟨g 0, p * 6 + 3, none⟩ = some (.int .i64 n.num) ∧ w.cell? ⟨g 0, p * 6 + 4, none⟩ = some (.int .i64 n.op) ∧ w.cell? ⟨g 0, p * 6 + 5, none⟩ = some (.int .i64 n.pos) ∧ ∀ k, w.frozen? ⟨g 0, k, none⟩ = false := by
 have h0 := h 0 (by decide)
 rw [xOf_zero] at h0
 obtain ⟨k0, k1, k2, k3, k4, k5⟩ := ndL_get hp
 have hc : ∀ j u, (ndL ns)[j]? = some u → w.cell? ⟨g 0, j, none⟩ = some u := fun j u hj => by
  have := h0.cells (g := g 0) rfl j u (by rw [List.getElem?_append_left (List.getElem?_eq_some_iff.1 hj).1]; exact hj)
  rw [add_off, Nat.zero_add] at this
  exact this
 refine ⟨hc _ _ k0, hc _ _ k1, hc _ _ k2, hc _ _ k3, hc _ _ k4, hc _ _ k5, fun k => ?_⟩
 rcases h0.2 with ⟨e1, _⟩ | ⟨g', cap', cur, e1, h1, h2, _⟩
 ·cases e1
 ·injection e1 with e1
  injection e1 with e1
  injection e1 with e1
  subst e1
  exact frozen_of_row _ _ _ _ _ h2
end
section
open Go.RowKit
set_option maxRecDepth 100000 in
set_option maxHeartbeats 8000000 in
theorem lowers_any (v0 v1 v2 v3 v4 v5 : Value) (ns : List Nd) (l : Ls) (at0 : Int) (nd : Nd) (w : World) (hR : RulesIs w) (hS : StepsIs w) (hp : ProgIs w v0 v1 v2 v3 v4 v5 ns l) (hb : ns.length * 56 ≤ 140737488351232 ∧ l.sc.length * 16 ≤ 140737488351232 ∧ l.ar.length * 24 ≤ 140737488351232 ∧ l.sy.length * 8 ≤ 140737488351232 ∧ l.si.length * 8 ≤ 140737488351232 ∧ l.so.length * 8 ≤ 140737488351232) (ha : -9223372036854775808 ≤ at0 ∧ at0 ≤ 9223372036854775807) (hnd : nd.Ok) :
  Calls Tryz.prog 3 #[.agg #[v0, v1, v2, v3, v4, v5], .int .i64 at0, .agg #[Value.int .i64 nd.depth, Value.int .i64 nd.kind, Value.string nd.name, Value.int .i64 nd.num, Value.int .i64 nd.op, Value.int .i64 nd.pos]] w fun e w' => e = .returned (.bool true) ∧ Ok w w' := by
 have HR : Hid (RulesIs w) := hR
 have HS : Hid (StepsIs w) := hS
 have HP : Hid (ProgIs w v0 v1 v2 v3 v4 v5 ns l) := hp
 have HBN : Hid (ns.length * 56 ≤ 140737488351232 ∧ l.sc.length * 16 ≤ 140737488351232 ∧ l.ar.length * 24 ≤ 140737488351232 ∧ l.sy.length * 8 ≤ 140737488351232 ∧ l.si.length * 8 ≤ 140737488351232 ∧ l.so.length * 8 ≤ 140737488351232) := hb
 have HOK : Hid (∀ n ∈ ns, n.Ok) := hp.nodes.1
 have HND : Hid nd.Ok := hnd
 have HA : Hid (-9223372036854775808 ≤ at0 ∧ at0 ≤ 9223372036854775807) := ha
 obtain ⟨_, o0, p0, rfl, _⟩ := hp.nodes
 obtain ⟨_, _, o1, p1, rfl, _⟩ := hp.lists.sc.sl
 obtain ⟨_, _, o2, p2, rfl, _⟩ := hp.lists.ar.sl
 obtain ⟨_, _, o3, p3, rfl, _⟩ := hp.lists.sy.sl
 obtain ⟨_, _, o4, p4, rfl, _⟩ := hp.lists.si.sl
 obtain ⟨_, _, o5, p5, rfl, _⟩ := hp.lists.so.sl
 obtain ⟨n0, hn0⟩ : ∃ x, x = ns.length := ⟨_, rfl⟩
 obtain ⟨n1, hn1⟩ : ∃ x, x = l.sc.length := ⟨_, rfl⟩
 obtain ⟨n2, hn2⟩ : ∃ x, x = l.ar.length := ⟨_, rfl⟩
 obtain ⟨n3, hn3⟩ : ∃ x, x = l.sy.length := ⟨_, rfl⟩
 obtain ⟨n4, hn4⟩ : ∃ x, x = l.si.length := ⟨_, rfl⟩
 obtain ⟨n5, hn5⟩ : ∃ x, x = l.so.length := ⟨_, rfl⟩
 rw [← hn0, ← hn1, ← hn2, ← hn3, ← hn4, ← hn5] at HP ⊢
 have HN : Hid (n0 = ns.length ∧ n1 = l.sc.length ∧ n2 = l.ar.length ∧ n3 = l.sy.length ∧ n4 = l.si.length ∧ n5 = l.so.length) := ⟨hn0, hn1, hn2, hn3, hn4, hn5⟩
 have HN0 : Hid (n0 * 56 ≤ 140737488351232) := by unfold Hid; rw [hn0]; exact hb.1
 clear hR hS hp hb ha hnd hn0 hn1 hn2 hn3 hn4 hn5
 go_enter Tryz.func3, Tryz.ntmps3
 go_wp2_with fail
 obtain ⟨w0, hw0⟩ : ∃ x, x = (w.alloc (Obj.cells #[Value.slice o0 n0 p0, Value.slice o1 n1 p1, Value.slice o2 n2 p2, Value.slice o3 n3 p3, Value.slice o4 n4 p4, Value.slice o5 n5 p5] 27)).alloc (Obj.cells #[Value.int .i64 nd.depth, Value.int .i64 nd.kind, Value.string nd.name, Value.int .i64 nd.num, Value.int .i64 nd.op, Value.int .i64 nd.pos] 31) := ⟨_, rfl⟩
 obtain ⟨gn, hgn⟩ : ∃ x, x = w.heap.size + 1 := ⟨_, rfl⟩
 obtain ⟨gp, hgp⟩ : ∃ x, x = w.heap.size := ⟨_, rfl⟩
 rw [← hw0, ← hgn, ← hgp]
 have HK0 : Hid (Ok w w0) := by unfold Hid; rw [hw0]; exact ((Ok.refl w).alloc _).alloc _
 have HX0 : Hid (Six w0 gp (.slice o0 n0 p0) (.slice o1 n1 p1) (.slice o2 n2 p2) (.slice o3 n3 p3) (.slice o4 n4 p4) (.slice o5 n5 p5)) := by unfold Hid; rw [hw0, hgp]; exact (Six.new w _ _ _ _ _ _).below ((Ok.refl _).alloc _)
 have HY0 : Hid (w0.heap[gn]? = some (.cells #[Value.int .i64 nd.depth, Value.int .i64 nd.kind, Value.string nd.name, Value.int .i64 nd.num, Value.int .i64 nd.op, Value.int .i64 nd.pos] 31 (0, 0))) := by unfold Hid; rw [hw0, hgn]; exact heap_at _ _ _ (by simp)
 have HGP : Hid (gp = w.heap.size ∧ gn = w.heap.size + 1) := ⟨hgp, hgn⟩
 clear hw0 hgn hgp
 refine (fixed_any w0 (HR.out.below HK0.out) (HS.out.below HK0.out)).mono ?_
 rintro e w1 ⟨rfl, hk1⟩
 have HK1 : Hid (Ok w w1) := HK0.out.step hk1
 have HX1 : Hid (Six w1 gp (.slice o0 n0 p0) (.slice o1 n1 p1) (.slice o2 n2 p2) (.slice o3 n3 p3) (.slice o4 n4 p4) (.slice o5 n5 p5)) := HX0.out.below hk1
 have HY1 : Hid (w1.heap[gn]? = some (.cells #[Value.int .i64 nd.depth, Value.int .i64 nd.kind, Value.string nd.name, Value.int .i64 nd.num, Value.int .i64 nd.op, Value.int .i64 nd.pos] 31 (0, 0))) := Ok.row' hk1 HY0.out
 clear hk1 HX0 HY0
 obtain ⟨z1, c0, c1, c2, c3, c4, c5⟩ := HX1.out.pc
 go_wp2_with fail
 clear z1 c0 c1 c2 c3 c4 c5
 refine (copied_any _ _ _ _ _ _ ns l w1 (HP.out.below HK1.out) HBN.out).mono ?_
 rintro e w2 ⟨gq, dq, rfl, hcp, hk2⟩
 have HK2 : Hid (Ok w w2) := HK1.out.step hk2
 have HX2 : Hid (Six w2 gp (.slice o0 n0 p0) (.slice o1 n1 p1) (.slice o2 n2 p2) (.slice o3 n3 p3) (.slice o4 n4 p4) (.slice o5 n5 p5)) := HX1.out.below hk2
 have HY2 : Hid (w2.heap[gn]? = some (.cells #[Value.int .i64 nd.depth, Value.int .i64 nd.kind, Value.string nd.name, Value.int .i64 nd.num, Value.int .i64 nd.op, Value.int .i64 nd.pos] 31 (0, 0))) := Ok.row' hk2 HY1.out
 have HC2 : Hid (CRows w2 (w1.heap.size + 2) gq dq ns l) := hcp.row
 have HUP : Hid (∀ j k, j < k → k < 6 → gq j < gq k) := hcp.up
 have HW1 : Hid (w.heap.size + 2 ≤ w1.heap.size) := by have h1 := HK0.out.le; have h2 := lt_row HY1.out; have h3 := HGP.out; unfold Hid; omega
 obtain ⟨a0, ha0⟩ : ∃ x, x = gq 0 := ⟨_, rfl⟩
 obtain ⟨q0, hq0⟩ : ∃ x, x = dq 0 := ⟨_, rfl⟩
 obtain ⟨a1, ha1⟩ : ∃ x, x = gq 1 := ⟨_, rfl⟩
 obtain ⟨q1, hq1⟩ : ∃ x, x = dq 1 := ⟨_, rfl⟩
 obtain ⟨a2, ha2⟩ : ∃ x, x = gq 2 := ⟨_, rfl⟩
 obtain ⟨q2, hq2⟩ : ∃ x, x = dq 2 := ⟨_, rfl⟩
 obtain ⟨a3, ha3⟩ : ∃ x, x = gq 3 := ⟨_, rfl⟩
 obtain ⟨q3, hq3⟩ : ∃ x, x = dq 3 := ⟨_, rfl⟩
 obtain ⟨a4, ha4⟩ : ∃ x, x = gq 4 := ⟨_, rfl⟩
 obtain ⟨q4, hq4⟩ : ∃ x, x = dq 4 := ⟨_, rfl⟩
 obtain ⟨a5, ha5⟩ : ∃ x, x = gq 5 := ⟨_, rfl⟩
 obtain ⟨q5, hq5⟩ : ∃ x, x = dq 5 := ⟨_, rfl⟩
 have HCV : Hid (cpV ns l gq dq 0 = .slice (some ⟨a0, 0, none⟩) n0 q0 ∧ cpV ns l gq dq 1 = .slice (some ⟨a1, 0, none⟩) n1 q1 ∧ cpV ns l gq dq 2 = .slice (some ⟨a2, 0, none⟩) n2 q2 ∧ cpV ns l gq dq 3 = .slice (some ⟨a3, 0, none⟩) n3 q3 ∧ cpV ns l gq dq 4 = .slice (some ⟨a4, 0, none⟩) n4 q4 ∧ cpV ns l gq dq 5 = .slice (some ⟨a5, 0, none⟩) n5 q5) := by
  obtain ⟨k0, k1, k2, k3, k4, k5⟩ := HN.out
  rw [k0, ha0, hq0, k1, ha1, hq1, k2, ha2, hq2, k3, ha3, hq3, k4, ha4, hq4, k5, ha5, hq5]
  exact ⟨rfl, rfl, rfl, rfl, rfl, rfl⟩
 have HQ0 : Hid (a0 = gq 0 ∧ n0 + 1 ≤ q0) := ⟨ha0, by have := (HC2.out.room 0 (by decide)).1; rw [hq0, HN.out.1]; exact this⟩
 rw [HCV.out.1, HCV.out.2.1, HCV.out.2.2.1, HCV.out.2.2.2.1, HCV.out.2.2.2.2.1, HCV.out.2.2.2.2.2]
 have HAS1 : Hid (∀ W, Ok w2 W → Calls Tryz.prog 7 #[.agg #[Value.slice (some ⟨a0, 0, none⟩) n0 q0, Value.slice (some ⟨a1, 0, none⟩) n1 q1, Value.slice (some ⟨a2, 0, none⟩) n2 q2, Value.slice (some ⟨a3, 0, none⟩) n3 q3, Value.slice (some ⟨a4, 0, none⟩) n4 q4, Value.slice (some ⟨a5, 0, none⟩) n5 q5], .agg #[Value.slice o0 n0 p0, Value.slice o1 n1 p1, Value.slice o2 n2 p2, Value.slice o3 n3 p3, Value.slice o4 n4 p4, Value.slice o5 n5 p5]] W fun e w' => e = .returned (.bool true) ∧ Ok W w') := fun W hW => by
  have := asked_cp _ _ _ _ _ _ ns l gq dq (w1.heap.size + 2) W (HR.out.below (HK2.out.step hW)) (HS.out.below (HK2.out.step hW)) (HC2.out.ok hW) (by omega) HUP.out (HP.out.below (HK2.out.step hW)) HBN.out
  rw [HCV.out.1, HCV.out.2.1, HCV.out.2.2.1, HCV.out.2.2.2.1, HCV.out.2.2.2.2.1, HCV.out.2.2.2.2.2] at this
  exact this
 clear hk2 hcp ha0 hq0 ha1 hq1 ha2 hq2 ha3 hq3 ha4 hq4 ha5 hq5 HX1 HY1
 obtain ⟨z1, c0, c1, c2, c3, c4, c5⟩ := HX2.out.pc
 go_wp2_with fail
 obtain ⟨w3, hw3⟩ : ∃ x, x = w2.alloc (Obj.cells #[Value.slice (some ⟨a0, 0, none⟩) n0 q0, Value.slice (some ⟨a1, 0, none⟩) n1 q1, Value.slice (some ⟨a2, 0, none⟩) n2 q2, Value.slice (some ⟨a3, 0, none⟩) n3 q3, Value.slice (some ⟨a4, 0, none⟩) n4 q4, Value.slice (some ⟨a5, 0, none⟩) n5 q5] 27) := ⟨_, rfl⟩
 obtain ⟨gb, hgb⟩ : ∃ x, x = w2.heap.size := ⟨_, rfl⟩
 rw [← hw3, ← hgb]
 have hk3 : Ok w2 w3 := by rw [hw3]; exact (Ok.refl _).alloc _
 have HB3 : Hid (Six w3 gb (.slice (some ⟨a0, 0, none⟩) n0 q0) (.slice (some ⟨a1, 0, none⟩) n1 q1) (.slice (some ⟨a2, 0, none⟩) n2 q2) (.slice (some ⟨a3, 0, none⟩) n3 q3) (.slice (some ⟨a4, 0, none⟩) n4 q4) (.slice (some ⟨a5, 0, none⟩) n5 q5)) := by unfold Hid; rw [hw3, hgb]; exact Six.new _ _ _ _ _ _ _
 have HK3 : Hid (Ok w2 w3) := hk3
 have HGB : Hid (w2.heap.size ≤ gb) := by unfold Hid; omega
 clear hw3 hgb hk3 z1 c0 c1 c2 c3 c4 c5
 refine (HAS1.out _ HK3.out).mono ?_
 rintro e w4 ⟨rfl, hk4⟩
 have HK4 : Hid (Ok w2 w4) := HK3.out.step hk4
 have HB4 : Hid (Six w4 gb (.slice (some ⟨a0, 0, none⟩) n0 q0) (.slice (some ⟨a1, 0, none⟩) n1 q1) (.slice (some ⟨a2, 0, none⟩) n2 q2) (.slice (some ⟨a3, 0, none⟩) n3 q3) (.slice (some ⟨a4, 0, none⟩) n4 q4) (.slice (some ⟨a5, 0, none⟩) n5 q5)) := HB3.out.below hk4
 have HX4 : Hid (Six w4 gp (.slice o0 n0 p0) (.slice o1 n1 p1) (.slice o2 n2 p2) (.slice o3 n3 p3) (.slice o4 n4 p4) (.slice o5 n5 p5)) := HX2.out.below HK4.out
 have HY4 : Hid (w4.heap[gn]? = some (.cells #[Value.int .i64 nd.depth, Value.int .i64 nd.kind, Value.string nd.name, Value.int .i64 nd.num, Value.int .i64 nd.op, Value.int .i64 nd.pos] 31 (0, 0))) := Ok.row' HK4.out HY2.out
 clear hk4 HB3 HX2 HY2 HAS1
 obtain ⟨z1, c0, c1, c2, c3, c4, c5⟩ := HX4.out.pc
 by_cases h00 : n0 = 0
 ·subst h00
  go_wp2_with fail
  go_ret
  exact ⟨rfl, HK2.out.step HK4.out⟩
 have h00' : ((n0 : Int) == 0) = false := by rw [beq_eq_false_iff_ne]; omega
 have HPOS : Hid (0 < n0) := by unfold Hid; omega
 have h00i : ¬ (n0 : Int) = 0 := by omega
 obtain ⟨pi, hpi⟩ : ∃ p : Nat, p < n0 ∧ ((at0.tmod (n0 : Int) < 0 ∧ at0.tmod (n0 : Int) + n0 = (p : Int)) ∨ (¬ at0.tmod (n0 : Int) < 0 ∧ at0.tmod (n0 : Int) = (p : Int))) := by
  have hp := HPOS.out
  have h1 := Int.tmod_lt_of_pos at0 (show (0 : Int) < (n0 : Int) by omega)
  have h2 := Int.lt_tmod_of_pos at0 (show (0 : Int) < (n0 : Int) by omega)
  by_cases c : at0.tmod (n0 : Int) < 0
  ·exact ⟨(at0.tmod (n0 : Int) + n0).toNat, by omega, .inl ⟨c, by omega⟩⟩
  ·exact ⟨(at0.tmod (n0 : Int)).toNat, by omega, .inr ⟨c, by omega⟩⟩
 have HPI : Hid (pi < n0) := hpi.1
 go_upto_if 28 with (fail)
 go_cut [8, 28] from 29 to 33 (fun s8 s28 u => Hid (s8 = .int .i64 (pi : Nat) ∧ u = w4))
 case first =>
  rcases hpi.2 with ⟨h1, h2⟩ | ⟨h1, h2⟩
  ·have h2w : wrap64 (at0.tmod (n0 : Int) + n0) = (pi : Int) := by rw [h2]; have h3 := HN0.out; have h4 := HPI.out; unfold wrap64; omega
   clear h2
   go_wp2_with fail
   go_meet
   case rel => exact ⟨by rw [h2w], rfl⟩
  ·have HH : Hid (at0.tmod (n0 : Int) = (pi : Int)) := h2
   clear h2
   go_wp2_with fail
   go_meet
   case rel => exact ⟨by rw [HH.out], rfl⟩
 case rest =>
 obtain ⟨e1, e2⟩ := hcut.out
 subst e1
 replace e2 := e2.symm
 subst e2
 clear hcut hpi z1 c0 c1 c2 c3 c4 c5
 obtain ⟨z1, c0, c1, c2, c3, c4, c5⟩ := HX4.out.pc
 go_wp2_with fail
 clear z1 c0 c1 c2 c3 c4 c5
 refine (copied_any _ _ _ _ _ _ ns l w4 (HP.out.below (HK2.out.step HK4.out)) HBN.out).mono ?_
 rintro e w5 ⟨gr, dr, rfl, hcr, hk5⟩
 have HK5 : Hid (Ok w2 w5) := HK4.out.step hk5
 have HB5 : Hid (Six w5 gb (.slice (some ⟨a0, 0, none⟩) n0 q0) (.slice (some ⟨a1, 0, none⟩) n1 q1) (.slice (some ⟨a2, 0, none⟩) n2 q2) (.slice (some ⟨a3, 0, none⟩) n3 q3) (.slice (some ⟨a4, 0, none⟩) n4 q4) (.slice (some ⟨a5, 0, none⟩) n5 q5)) := HB4.out.below hk5
 have HY5 : Hid (w5.heap[gn]? = some (.cells #[Value.int .i64 nd.depth, Value.int .i64 nd.kind, Value.string nd.name, Value.int .i64 nd.num, Value.int .i64 nd.op, Value.int .i64 nd.pos] 31 (0, 0))) := Ok.row' hk5 HY4.out
 have HC5 : Hid (CRows w5 (w1.heap.size + 2) gq dq ns l) := HC2.out.ok HK5.out
 have HD5 : Hid (CRows w5 (w4.heap.size + 2) gr dr ns l) := hcr.row
 have HUR : Hid (∀ j k, j < k → k < 6 → gr j < gr k) := hcr.up
 have HLT : Hid (gb < w4.heap.size ∧ (∀ k, k < 6 → w1.heap.size + 2 ≤ gq k ∧ gq k < w2.heap.size) ∧ (∀ k, k < 6 → w4.heap.size + 2 ≤ gr k ∧ gr k < w5.heap.size) ∧ w2.heap.size ≤ w4.heap.size) := ⟨HB4.out.lt, fun k hk => (HC2.out k hk).lt (gq k) rfl, fun k hk => (HD5.out k hk).lt (gr k) rfl, HK4.out.le⟩
 obtain ⟨f0, hf0⟩ : ∃ x, x = gr 0 := ⟨_, rfl⟩
 obtain ⟨r0, hr0⟩ : ∃ x, x = dr 0 := ⟨_, rfl⟩
 obtain ⟨f1, hf1⟩ : ∃ x, x = gr 1 := ⟨_, rfl⟩
 obtain ⟨r1, hr1⟩ : ∃ x, x = dr 1 := ⟨_, rfl⟩
 obtain ⟨f2, hf2⟩ : ∃ x, x = gr 2 := ⟨_, rfl⟩
 obtain ⟨r2, hr2⟩ : ∃ x, x = dr 2 := ⟨_, rfl⟩
 obtain ⟨f3, hf3⟩ : ∃ x, x = gr 3 := ⟨_, rfl⟩
 obtain ⟨r3, hr3⟩ : ∃ x, x = dr 3 := ⟨_, rfl⟩
 obtain ⟨f4, hf4⟩ : ∃ x, x = gr 4 := ⟨_, rfl⟩
 obtain ⟨r4, hr4⟩ : ∃ x, x = dr 4 := ⟨_, rfl⟩
 obtain ⟨f5, hf5⟩ : ∃ x, x = gr 5 := ⟨_, rfl⟩
 obtain ⟨r5, hr5⟩ : ∃ x, x = dr 5 := ⟨_, rfl⟩
 have HDV : Hid (cpV ns l gr dr 0 = .slice (some ⟨f0, 0, none⟩) n0 r0 ∧ cpV ns l gr dr 1 = .slice (some ⟨f1, 0, none⟩) n1 r1 ∧ cpV ns l gr dr 2 = .slice (some ⟨f2, 0, none⟩) n2 r2 ∧ cpV ns l gr dr 3 = .slice (some ⟨f3, 0, none⟩) n3 r3 ∧ cpV ns l gr dr 4 = .slice (some ⟨f4, 0, none⟩) n4 r4 ∧ cpV ns l gr dr 5 = .slice (some ⟨f5, 0, none⟩) n5 r5) := by
  obtain ⟨k0, k1, k2, k3, k4, k5⟩ := HN.out
  rw [k0, hf0, hr0, k1, hf1, hr1, k2, hf2, hr2, k3, hf3, hr3, k4, hf4, hr4, k5, hf5, hr5]
  exact ⟨rfl, rfl, rfl, rfl, rfl, rfl⟩
 have HR0 : Hid (f0 = gr 0 ∧ n0 + 1 ≤ r0) := ⟨hf0, by have := (HD5.out.room 0 (by decide)).1; rw [hr0, HN.out.1]; exact this⟩
 rw [HDV.out.1, HDV.out.2.1, HDV.out.2.2.1, HDV.out.2.2.2.1, HDV.out.2.2.2.2.1, HDV.out.2.2.2.2.2]
 clear hk5 hcr hf0 hr0 hf1 hr1 hf2 hr2 hf3 hr3 hf4 hr4 hf5 hr5 HX4 HY4 HB4
 go_upto_region 12 with (fail)
 obtain ⟨w6, hw6⟩ : ∃ x, x = w5.alloc (Obj.cells #[Value.slice (some ⟨f0, 0, none⟩) n0 r0, Value.slice (some ⟨f1, 0, none⟩) n1 r1, Value.slice (some ⟨f2, 0, none⟩) n2 r2, Value.slice (some ⟨f3, 0, none⟩) n3 r3, Value.slice (some ⟨f4, 0, none⟩) n4 r4, Value.slice (some ⟨f5, 0, none⟩) n5 r5] 27) := ⟨_, rfl⟩
 obtain ⟨gc, hgc⟩ : ∃ x, x = w5.heap.size := ⟨_, rfl⟩
 rw [← hw6, ← hgc]
 have hk6 : Ok w5 w6 := by rw [hw6]; exact (Ok.refl _).alloc _
 have HE6 : Hid (Six w6 gc (.slice (some ⟨f0, 0, none⟩) n0 r0) (.slice (some ⟨f1, 0, none⟩) n1 r1) (.slice (some ⟨f2, 0, none⟩) n2 r2) (.slice (some ⟨f3, 0, none⟩) n3 r3) (.slice (some ⟨f4, 0, none⟩) n4 r4) (.slice (some ⟨f5, 0, none⟩) n5 r5)) := by unfold Hid; rw [hw6, hgc]; exact Six.new _ _ _ _ _ _ _
 have HB6 : Hid (Six w6 gb (.slice (some ⟨a0, 0, none⟩) n0 q0) (.slice (some ⟨a1, 0, none⟩) n1 q1) (.slice (some ⟨a2, 0, none⟩) n2 q2) (.slice (some ⟨a3, 0, none⟩) n3 q3) (.slice (some ⟨a4, 0, none⟩) n4 q4) (.slice (some ⟨a5, 0, none⟩) n5 q5)) := HB5.out.below hk6
 have HY6 : Hid (w6.heap[gn]? = some (.cells #[Value.int .i64 nd.depth, Value.int .i64 nd.kind, Value.string nd.name, Value.int .i64 nd.num, Value.int .i64 nd.op, Value.int .i64 nd.pos] 31 (0, 0))) := Ok.row' hk6 HY5.out
 have HC6 : Hid (CRows w6 (w1.heap.size + 2) gq dq ns l) := HC5.out.ok hk6
 have HD6 : Hid (CRows w6 (w4.heap.size + 2) gr dr ns l) := HD5.out.ok hk6
 have HK6 : Hid (Ok w w6) := (HK2.out.step HK5.out).step hk6
 have HGC : Hid (gc = w5.heap.size ∧ w4.heap.size ≤ w5.heap.size) := ⟨hgc, by have := (HLT.out.2.2.1 0 (by decide)); omega⟩
 clear hw6 hgc hk6 HB5 HY5 HC5 HD5
 obtain ⟨nx, hnx⟩ : ∃ n, ns[pi]? = some n := ⟨_, List.getElem?_eq_getElem (by have h1 := HPI.out; have h2 := HN.out.1; omega)⟩
 have HNX : Hid (ns[pi]? = some nx) := hnx
 clear hnx
 obtain ⟨y0, y1, y2, y3, y4, y5, y6⟩ := HD6.out.cells HNX.out
 rw [← HR0.out.1] at y0 y1 y2 y3 y4 y5 y6
 obtain ⟨z1, c0, c1, c2, c3, c4, c5⟩ := HE6.out.pc
 obtain ⟨u0, u1, u2, u3, u4, u5⟩ := row6_facts HY6.out
 have hpi1 : (pi : Int) < (n0 : Int) := by have := HPI.out; omega
 go_upto_region 13 with (fail)
 obtain ⟨w7, hw7⟩ : ∃ x, x = setNd w6 f0 pi nd := ⟨_, rfl⟩
 have hw7' := hw7
 unfold setNd at hw7'
 rw [← hw7']
 clear hw7'
 have HK7 : Hid (Ok w w7) := by unfold Hid; rw [hw7]; exact setNd_ok HK6.out (by have h1 := HLT.out.2.2.1 0 (by decide); have h2 := HR0.out.1; have h3 := (HK2.out.step HK4.out).le; omega) _ _
 have hne : ∀ b, b < w4.heap.size → w7.heap[b]? = w6.heap[b]? := fun b hb => by rw [hw7]; exact setNd_heap _ _ _ _ (by have h1 := HLT.out.2.2.1 0 (by decide); have h2 := HR0.out.1; omega)
 have HE7 : Hid (Six w7 gc (.slice (some ⟨f0, 0, none⟩) n0 r0) (.slice (some ⟨f1, 0, none⟩) n1 r1) (.slice (some ⟨f2, 0, none⟩) n2 r2) (.slice (some ⟨f3, 0, none⟩) n3 r3) (.slice (some ⟨f4, 0, none⟩) n4 r4) (.slice (some ⟨f5, 0, none⟩) n5 r5)) := ⟨by rw [hw7, setNd_heap _ _ _ _ (by have h1 := HLT.out.2.2.1 0 (by decide); have h2 := HR0.out.1; have h3 := HGC.out; omega)]; exact HE6.out.heap⟩
 have HB7 : Hid (Six w7 gb (.slice (some ⟨a0, 0, none⟩) n0 q0) (.slice (some ⟨a1, 0, none⟩) n1 q1) (.slice (some ⟨a2, 0, none⟩) n2 q2) (.slice (some ⟨a3, 0, none⟩) n3 q3) (.slice (some ⟨a4, 0, none⟩) n4 q4) (.slice (some ⟨a5, 0, none⟩) n5 q5)) := ⟨by rw [hne _ HLT.out.1]; exact HB6.out.heap⟩
 have HY7 : Hid (w7.heap[gn]? = some (.cells #[Value.int .i64 nd.depth, Value.int .i64 nd.kind, Value.string nd.name, Value.int .i64 nd.num, Value.int .i64 nd.op, Value.int .i64 nd.pos] 31 (0, 0))) := by unfold Hid; rw [hne _ (by have h1 := HGP.out; have h2 := HW1.out; have h3 := HLT.out.2.1 0 (by decide); have h4 := HLT.out.2.2.2; omega)]; exact HY6.out
 have HC7 : Hid (CRows w7 (w1.heap.size + 2) gq dq ns l) := by unfold Hid; rw [hw7]; exact HC6.out.past (fun k hk => by have h1 := HLT.out.2.1 k hk; have h2 := HLT.out.2.2.1 0 (by decide); have h3 := HR0.out.1; have h4 := HLT.out.2.2.2; omega) _
 have HD7 : Hid (CRows w7 (w4.heap.size + 2) gr dr (ns.set pi nd) l) := by unfold Hid; rw [hw7, HR0.out.1]; exact HD6.out.put HUR.out (by have h1 := HPI.out; have h2 := HN.out.1; omega) _
 clear hw7 hne y0 y1 y2 y3 y4 y5 y6 z1 c0 c1 c2 c3 c4 c5 u0 u1 u2 u3 u4 u5 HE6 HB6 HY6 HC6 HD6
 obtain ⟨y0, y1, y2, y3, y4, y5, y6⟩ := HC7.out.cells HNX.out
 rw [← HQ0.out.1] at y0 y1 y2 y3 y4 y5 y6
 obtain ⟨z1, c0, c1, c2, c3, c4, c5⟩ := HB7.out.pc
 obtain ⟨u0, u1, u2, u3, u4, u5⟩ := row6_facts HY7.out
 go_upto_region 14 with (fail)
 obtain ⟨w8, hw8⟩ : ∃ x, x = setNd w7 a0 pi nd := ⟨_, rfl⟩
 have hw8' := hw8
 unfold setNd at hw8'
 rw [← hw8']
 clear hw8'
 have hq := HLT.out.2.1 0 (by decide)
 rw [← HQ0.out.1] at hq
 have HK8 : Hid (Ok w w8) := by unfold Hid; rw [hw8]; exact setNd_ok HK7.out (by have h2 := HW1.out; omega) _ _
 have HE8 : Hid (Six w8 gc (.slice (some ⟨f0, 0, none⟩) n0 r0) (.slice (some ⟨f1, 0, none⟩) n1 r1) (.slice (some ⟨f2, 0, none⟩) n2 r2) (.slice (some ⟨f3, 0, none⟩) n3 r3) (.slice (some ⟨f4, 0, none⟩) n4 r4) (.slice (some ⟨f5, 0, none⟩) n5 r5)) := ⟨by rw [hw8, setNd_heap _ _ _ _ (by have h3 := HGC.out; have h4 := HLT.out; omega)]; exact HE7.out.heap⟩
 have HB8 : Hid (Six w8 gb (.slice (some ⟨a0, 0, none⟩) n0 q0) (.slice (some ⟨a1, 0, none⟩) n1 q1) (.slice (some ⟨a2, 0, none⟩) n2 q2) (.slice (some ⟨a3, 0, none⟩) n3 q3) (.slice (some ⟨a4, 0, none⟩) n4 q4) (.slice (some ⟨a5, 0, none⟩) n5 q5)) := ⟨by rw [hw8, setNd_heap _ _ _ _ (by have h3 := HGB.out; omega)]; exact HB7.out.heap⟩
 have HC8 : Hid (CRows w8 (w1.heap.size + 2) gq dq (ns.set pi nd) l) := by unfold Hid; rw [hw8, HQ0.out.1]; exact HC7.out.put HUP.out (by have h1 := HPI.out; have h2 := HN.out.1; omega) _
 have HD8 : Hid (CRows w8 (w4.heap.size + 2) gr dr (ns.set pi nd) l) := by unfold Hid; rw [hw8]; exact HD7.out.past (fun k hk => by have h2 := HLT.out.2.2.1 k hk; have h4 := HLT.out.2.2.2; omega) _
 have HOK8 : Hid (∀ n ∈ ns.set pi nd, n.Ok) := fun n hn => by
  rcases List.mem_or_eq_of_mem_set hn with h | h
  ·exact HOK.out n h
  ·rw [h]; exact HND.out
 have HAS2 : Hid (Calls Tryz.prog 7 #[.agg #[Value.slice (some ⟨a0, 0, none⟩) n0 q0, Value.slice (some ⟨a1, 0, none⟩) n1 q1, Value.slice (some ⟨a2, 0, none⟩) n2 q2, Value.slice (some ⟨a3, 0, none⟩) n3 q3, Value.slice (some ⟨a4, 0, none⟩) n4 q4, Value.slice (some ⟨a5, 0, none⟩) n5 q5], .agg #[Value.slice (some ⟨f0, 0, none⟩) n0 r0, Value.slice (some ⟨f1, 0, none⟩) n1 r1, Value.slice (some ⟨f2, 0, none⟩) n2 r2, Value.slice (some ⟨f3, 0, none⟩) n3 r3, Value.slice (some ⟨f4, 0, none⟩) n4 r4, Value.slice (some ⟨f5, 0, none⟩) n5 r5]] w8 fun e w' => e = .returned (.bool true) ∧ Ok w8 w') := by
  have hl : (ns.set pi nd).length = ns.length := List.length_set
  have := asked_cp _ _ _ _ _ _ (ns.set pi nd) l gq dq (w1.heap.size + 2) w8 (HR.out.below HK8.out) (HS.out.below HK8.out) HC8.out (by omega) HUP.out (HD8.out.pr.prog HOK8.out) (by rw [hl]; exact HBN.out)
  have e1 : ∀ g d k, cpV (ns.set pi nd) l g d k = cpV ns l g d k := fun g d k => by unfold cpV; rw [hl]
  simp only [e1] at this
  rw [HCV.out.1, HCV.out.2.1, HCV.out.2.2.1, HCV.out.2.2.2.1, HCV.out.2.2.2.2.1, HCV.out.2.2.2.2.2, HDV.out.1, HDV.out.2.1, HDV.out.2.2.1, HDV.out.2.2.2.1, HDV.out.2.2.2.2.1, HDV.out.2.2.2.2.2] at this
  exact this
 clear hw8 hq y0 y1 y2 y3 y4 y5 y6 z1 c0 c1 c2 c3 c4 c5 u0 u1 u2 u3 u4 u5 HE7 HB7 HY7 HC7 HD7
 obtain ⟨z1, c0, c1, c2, c3, c4, c5⟩ := HE8.out.pc
 obtain ⟨y1, d0, d1, d2, d3, d4, d5⟩ := HB8.out.pc
 go_wp2_with fail
 refine HAS2.out.mono ?_
 rintro e w9 ⟨rfl, hk9⟩
 have HK9 : Hid (Ok w w9) := HK8.out.step hk9
 clear hk9
 go_wp2_with fail
 go_ret
 exact ⟨rfl, HK9.out⟩
end
end Go.Proofs.YtklkpaekdpaloaaGreatDoor
