import Derived.Deep.Cut
import Derived.Deep.CutRange
import Derived.Test.YtpjpjhjjhoeijaaGreatKNb
import Derived.Test.YtpjpjhjjhoeijaaGreatKRw
import Derived.Test.YtpjpjhjjhoeijaaGreatKNx
import Derived.Test.YtpjpjhjjhoeijaaGreatKKB
set_option linter.unusedVariables false
set_option linter.unusedSimpArgs false
set_option linter.unnecessarySimpa false
/- NumOps: the law's walk. -/
namespace Go.Proofs.YtpjpjhjjhoeijaaGreat
open Go.RowKit
/-- (Of an operation that may be guarded.) A copy of a row of numbers, made by append onto an empty row, at a step of a region that draws its order. -/
theorem step_copyG {P : Program} {ops : Array Oper} {o : Oper} {a : Act} {w : World} {K : Act → World → Prop} {Q : Exit → Act → World → Prop} {E : Prop} (hw : Region.wanted o (yielded ops a.tmps) = true) (s x : Operand) (t : TypeId)
    (ho : o.op = .call { callee := .builtin .append, args := #[s, x], argTypes := #[t, t] })
    (i : TypeInfo) (z : Value) (ht : P.underlying t = some (.slice 2)) (hi : P.info? 2 = some i) (hz : i.zero = some z)
    (hsize : i.size = 1) (hby : i.bytes = 8) (hzs : z.cells.size = 1)
    (B : Nat) (hs : a.eval s = .slice (some ⟨B, 0, none⟩) 0 0) (hB : w.heap[B]? = some (.cells #[] 2 (0, 0)))
    (g n cap : Nat) (hx : a.eval x = .slice (some ⟨g, 0, none⟩) n cap) (ys : List Int) (hS : IntsAt w g 0 ys) (hl : ys.length = n) (hn : n * 8 ≤ 140737488355328) (base : Nat) (hbB : base ≤ B)
    (h : ∀ v' w', SInts w' v' ys → Below base w w' → K (a.put o.dst v') w') :
    if Region.wanted o (yielded ops a.tmps) = true then Oper.wp P o a w K Q else E := by
  rw [if_pos hw]
  have hBl := lt_rowV hB
  refine wp_append_own w s x t ho base 2 i z 1 8 ht hi hz hsize hby hzs (by decide) (.slice (some ⟨B, 0, none⟩) 0 0) 0 [] hs ⟨rfl, .inr ⟨B, 0, #[], rfl, hbB, hB, Nat.le_refl _, Nat.zero_le _, rfl, rfl⟩⟩ ⟨g, 0, none⟩ n cap (intsV ys) hx (by simp [intsV, hl]) ?_ (ints_one ys) (by unfold maxLen; omega) (by omega) (by omega) ?_
  · intro j u hu
    obtain ⟨hj, hu⟩ := List.getElem?_eq_some_iff.1 hu
    have hj2 : j < ys.length := by simpa [intsV] using hj
    rw [add_off, hS.1 j hj2, ← hu]
    simp [intsV]
  · intro v' w' k1 k2 _
    rw [Nat.zero_add, List.nil_append] at k1
    exact h v' w' (own_any k1 (by omega)) ((Below.refl base w).grown k2 (by omega) (by intro k hk; simp [Value.ownBlock] at hk; omega))
theorem ops7_cell {w : World} {g : Nat} {t : TypeId} {op : Int} (h : w.heap[g]? = some (.cells #[.int .i64 op, .int .i64 1, .int .i64 3, .int .i64 4, .int .i64 5, .int .i64 6, .int .i64 7] t (0, 0))) {k : Nat} (hk : k < 7) : ∃ o : Int, w.cell? ⟨g, k, none⟩ = some (.int .i64 o) := by
  match k, hk with
  | 0, _ => exact ⟨op, (cell_of_row _ _ 0 _ _ _ h).trans (by simp)⟩
  | 1, _ => exact ⟨1, (cell_of_row _ _ 1 _ _ _ h).trans (by simp)⟩
  | 2, _ => exact ⟨3, (cell_of_row _ _ 2 _ _ _ h).trans (by simp)⟩
  | 3, _ => exact ⟨4, (cell_of_row _ _ 3 _ _ _ h).trans (by simp)⟩
  | 4, _ => exact ⟨5, (cell_of_row _ _ 4 _ _ _ h).trans (by simp)⟩
  | 5, _ => exact ⟨6, (cell_of_row _ _ 5 _ _ _ h).trans (by simp)⟩
  | 6, _ => exact ⟨7, (cell_of_row _ _ 6 _ _ _ h).trans (by simp)⟩

set_option maxRecDepth 100000 in
set_option maxHeartbeats 40000000 in
theorem numops_any (op : Int) (a b : Int × Int × Nat × Nat × Bool) (ao : Option Addr) (cap : Nat) (ts : List Int) (ha : RawN a) (hb : RawN b) (hn : (ts.length + 1) * 8 ≤ 140737488355328) (w : World) (hT : SInts w (.slice ao ts.length cap) ts) (hao : ao = none → cap = 0) :
    Calls Tryz.prog 3 #[.int .i64 op, nv a, nv b, .slice ao ts.length cap] w fun e w' => e = .returned (.bool true) ∧ Ok w w' := by
  obtain ⟨n, hnn⟩ : ∃ n, n = ts.length := ⟨_, rfl⟩
  obtain ⟨i0, hi0, hz0', hz1', hz2'⟩ := info_parts JinfoN
  have HT : Hid (SInts w (.slice ao n cap) ts) := by unfold Hid; rw [hnn]; exact hT
  have HAO : Hid _ := hao
  have HU : Hid (RawN a ∧ RawN b) := ⟨ha, hb⟩
  rw [← hnn] at hn
  rw [← hnn]
  have HNM : Hid (n = ts.length) := hnn
  clear hT hao ha hb hnn
  have hle : w.heap.size ≤ w.heap.size := Nat.le_refl _
  have hok : Ok w w := Ok.refl _
  unfold nv
  go_enter Tryz.func3, Tryz.ntmps3
  go_wp2_with fail
  obtain ⟨W, hW⟩ : ∃ W, W = ((w).alloc (.cells #[.bool a.2.2.2.2, .int .i64 a.1, .int .i64 a.2.1, .int .u64 (a.2.2.1 : Int), .int .u64 (a.2.2.2.1 : Int)] 29)).alloc (.cells #[.bool b.2.2.2.2, .int .i64 b.1, .int .i64 b.2.1, .int .u64 (b.2.2.1 : Int), .int .u64 (b.2.2.2.1 : Int)] 29) := ⟨_, rfl⟩
  have ra : Hid (W.heap[w.heap.size]? = some (.cells #[.bool a.2.2.2.2, .int .i64 a.1, .int .i64 a.2.1, .int .u64 (a.2.2.1 : Int), .int .u64 (a.2.2.2.1 : Int)] 29)) := by unfold Hid; rw [hW]; exact (by repeat (first | (refine heap_at _ _ _ ?hx; case hx => (first | (simp; done) | (simp; omega))) | (refine heap_past _ _ _ ?hy ?_; case hy => (first | (simp; done) | (simp; omega))) | fail))
  have rb : Hid (W.heap[w.heap.size + 1]? = some (.cells #[.bool b.2.2.2.2, .int .i64 b.1, .int .i64 b.2.1, .int .u64 (b.2.2.1 : Int), .int .u64 (b.2.2.2.1 : Int)] 29)) := by unfold Hid; rw [hW]; exact (by repeat (first | (refine heap_at _ _ _ ?hx; case hx => (first | (simp; done) | (simp; omega))) | (refine heap_past _ _ _ ?hy ?_; case hy => (first | (simp; done) | (simp; omega))) | fail))
  have HW : Hid (Ok w W) := by unfold Hid; rw [hW]; exact (by repeat (first | exact hok | refine Ok.alloc ?_ _ | refine Ok.draws ?_ _ | fail))
  rw [← hW]
  clear hW
  obtain ⟨gb, egb⟩ : ∃ g, g = w.heap.size + 1 := ⟨_, rfl⟩
  rw [← egb] at rb ⊢
  obtain ⟨ga, ega⟩ : ∃ g, g = w.heap.size := ⟨_, rfl⟩
  rw [← ega] at ra ⊢
  have lga : w.heap.size ≤ ga := by omega
  have ngagb : ¬ ga = gb := by omega
  have lgb : w.heap.size ≤ gb := by omega
  have ngbga : ¬ gb = ga := by omega
  clear ega egb
  refine (works13 W _ (Ok.refl _)).mono ?_
  rintro e W1 ⟨rfl, hb⟩
  replace ra : Hid _ := Ok.row' hb ra.out
  replace rb : Hid _ := Ok.row' hb rb.out
  have HW1 : Hid (Ok w W1) := HW.out.step hb
  clear hb HW
  go_wp2_with fail
  obtain ⟨W5, hW5⟩ : ∃ W, W = W1.alloc (.cells #[.int .i64 op, .int .i64 1, .int .i64 3, .int .i64 4, .int .i64 5, .int .i64 6, .int .i64 7] 22) := ⟨_, rfl⟩
  have rl : Hid (W5.heap[W1.heap.size]? = some (.cells #[.int .i64 op, .int .i64 1, .int .i64 3, .int .i64 4, .int .i64 5, .int .i64 6, .int .i64 7] 22)) := by unfold Hid; rw [hW5]; exact heap_new0 _ _
  have hO : Ok W1 W5 := by rw [hW5]; exact (Ok.refl _).alloc _
  rw [← hW5]
  obtain ⟨gl, egl⟩ : ∃ g, g = W1.heap.size := ⟨_, rfl⟩
  rw [← egl] at rl ⊢
  clear hW5 egl
  replace ra : Hid _ := Ok.row' hO ra.out
  replace rb : Hid _ := Ok.row' hO rb.out
  have HW5 : Hid (Ok w W5) := HW1.out.step hO
  clear hO HW1
  go_loopw [24] (fun s wr => ∃ k : Nat, k ≤ 7 ∧ s = .int .i64 (k : Int) ∧ Hid (Ok W5 wr)) (fun s _ => (7 - intOf s).toNat)
  case atStart => exact ⟨0, by omega, rfl, Ok.refl _⟩
  case round =>
    obtain ⟨k, hk, rfl, HK⟩ := hrel
    replace ra : Hid _ := Ok.row' HK.out ra.out
    replace rb : Hid _ := Ok.row' HK.out rb.out
    replace rl : Hid _ := Ok.row' HK.out rl.out
    by_cases k7 : k < 7
    · have k7i : (k : Int) < 7 := by omega
      as_aux_lemma =>
        have k0i : (0 : Int) ≤ (k : Int) := by omega
        obtain ⟨o, ce⟩ := ops7_cell rl.out k7
        obtain ⟨g, er, c1, c2⟩ := apply_both o a b HU.out.1 HU.out.2
        have C1 : Hid _ := c1
        have C2 : Hid _ := c2
        clear c1 c2
        have Hwr : Hid (Ok W5 wr) := HK.out
        have zz := row5_facts (ra.out)
        have aa0 := zz.1
        have aa1 := zz.2.1
        have aa2 := zz.2.2.1
        have aa3 := zz.2.2.2.1
        have aa4 := zz.2.2.2.2.1
        have aa5 := zz.2.2.2.2.2.1
        have aa6 := zz.2.2.2.2.2.2.1
        have aa7 := zz.2.2.2.2.2.2.2.1
        have aa8 := zz.2.2.2.2.2.2.2.2.1
        have aa9 := zz.2.2.2.2.2.2.2.2.2
        clear zz
        have zz := row5_facts (rb.out)
        have bb0 := zz.1
        have bb1 := zz.2.1
        have bb2 := zz.2.2.1
        have bb3 := zz.2.2.2.1
        have bb4 := zz.2.2.2.2.1
        have bb5 := zz.2.2.2.2.2.1
        have bb6 := zz.2.2.2.2.2.2.1
        have bb7 := zz.2.2.2.2.2.2.2.1
        have bb8 := zz.2.2.2.2.2.2.2.2.1
        have bb9 := zz.2.2.2.2.2.2.2.2.2
        clear zz
        go_wp2_with fail
        clear ce
        refine (C1.out wr _ (Ok.refl _)).mono ?_
        rintro e v1 ⟨rfl, hb⟩
        unfold nv
        clear aa0 aa1 aa2 aa3 aa4 aa5 aa6 aa7 aa8 aa9 bb0 bb1 bb2 bb3 bb4 bb5 bb6 bb7 bb8 bb9
        replace ra : Hid _ := Ok.row' hb ra.out
        replace rb : Hid _ := Ok.row' hb rb.out
        replace rl : Hid _ := Ok.row' hb rl.out
        have Hv1 : Hid (Ok W5 v1) := Hwr.out.step hb
        clear hb Hwr
        have zz := row5_facts (ra.out)
        have aa0 := zz.1
        have aa1 := zz.2.1
        have aa2 := zz.2.2.1
        have aa3 := zz.2.2.2.1
        have aa4 := zz.2.2.2.2.1
        have aa5 := zz.2.2.2.2.2.1
        have aa6 := zz.2.2.2.2.2.2.1
        have aa7 := zz.2.2.2.2.2.2.2.1
        have aa8 := zz.2.2.2.2.2.2.2.2.1
        have aa9 := zz.2.2.2.2.2.2.2.2.2
        clear zz
        have zz := row5_facts (rb.out)
        have bb0 := zz.1
        have bb1 := zz.2.1
        have bb2 := zz.2.2.1
        have bb3 := zz.2.2.2.1
        have bb4 := zz.2.2.2.2.1
        have bb5 := zz.2.2.2.2.2.1
        have bb6 := zz.2.2.2.2.2.2.1
        have bb7 := zz.2.2.2.2.2.2.2.1
        have bb8 := zz.2.2.2.2.2.2.2.2.1
        have bb9 := zz.2.2.2.2.2.2.2.2.2
        clear zz
        go_upto_region 7 with (fail)
        obtain ⟨v2, hv2⟩ : ∃ W, W = v1.alloc (.cells #[.bool g.2.2.2.2, .int .i64 g.1, .int .i64 g.2.1, .int .u64 (g.2.2.1 : Int), .int .u64 (g.2.2.2.1 : Int)] 29) := ⟨_, rfl⟩
        have rx : Hid (v2.heap[v1.heap.size]? = some (.cells #[.bool g.2.2.2.2, .int .i64 g.1, .int .i64 g.2.1, .int .u64 (g.2.2.1 : Int), .int .u64 (g.2.2.2.1 : Int)] 29)) := by unfold Hid; rw [hv2]; exact heap_new0 _ _
        have hO : Ok v1 v2 := by rw [hv2]; exact (Ok.refl _).alloc _
        rw [← hv2]
        obtain ⟨gx, egx⟩ : ∃ g, g = v1.heap.size := ⟨_, rfl⟩
        rw [← egx] at rx ⊢
        clear hv2 egx
        replace ra : Hid _ := Ok.row' hO ra.out
        replace rb : Hid _ := Ok.row' hO rb.out
        replace rl : Hid _ := Ok.row' hO rl.out
        have Hv2 : Hid (Ok W5 v2) := Hv1.out.step hO
        clear hO Hv1
        clear aa0 aa1 aa2 aa3 aa4 aa5 aa6 aa7 aa8 aa9 bb0 bb1 bb2 bb3 bb4 bb5 bb6 bb7 bb8 bb9
        have zz := row5_facts (ra.out)
        have aa0 := zz.1
        have aa1 := zz.2.1
        have aa2 := zz.2.2.1
        have aa3 := zz.2.2.2.1
        have aa4 := zz.2.2.2.2.1
        have aa5 := zz.2.2.2.2.2.1
        have aa6 := zz.2.2.2.2.2.2.1
        have aa7 := zz.2.2.2.2.2.2.2.1
        have aa8 := zz.2.2.2.2.2.2.2.2.1
        have aa9 := zz.2.2.2.2.2.2.2.2.2
        clear zz
        have zz := row5_facts (rb.out)
        have bb0 := zz.1
        have bb1 := zz.2.1
        have bb2 := zz.2.2.1
        have bb3 := zz.2.2.2.1
        have bb4 := zz.2.2.2.2.1
        have bb5 := zz.2.2.2.2.2.1
        have bb6 := zz.2.2.2.2.2.2.1
        have bb7 := zz.2.2.2.2.2.2.2.1
        have bb8 := zz.2.2.2.2.2.2.2.2.1
        have bb9 := zz.2.2.2.2.2.2.2.2.2
        clear zz
        go_wp2_with fail
        clear aa0 aa1 aa2 aa3 aa4 aa5 aa6 aa7 aa8 aa9 bb0 bb1 bb2 bb3 bb4 bb5 bb6 bb7 bb8 bb9
        refine (C2.out v2 _ (Ok.refl _)).mono ?_
        rintro e v3 ⟨rfl, hb⟩
        unfold nv
        replace ra : Hid _ := Ok.row' hb ra.out
        replace rb : Hid _ := Ok.row' hb rb.out
        replace rl : Hid _ := Ok.row' hb rl.out
        replace rx : Hid _ := Ok.row' hb rx.out
        have Hv3 : Hid (Ok W5 v3) := Hv2.out.step hb
        clear hb Hv2
        go_upto_region 8 with (fail)
        obtain ⟨v4, hv4⟩ : ∃ W, W = v3.alloc (.cells #[.bool g.2.2.2.2, .int .i64 g.1, .int .i64 g.2.1, .int .u64 (g.2.2.1 : Int), .int .u64 (g.2.2.2.1 : Int)] 29) := ⟨_, rfl⟩
        have ry : Hid (v4.heap[v3.heap.size]? = some (.cells #[.bool g.2.2.2.2, .int .i64 g.1, .int .i64 g.2.1, .int .u64 (g.2.2.1 : Int), .int .u64 (g.2.2.2.1 : Int)] 29)) := by unfold Hid; rw [hv4]; exact heap_new0 _ _
        have hO : Ok v3 v4 := by rw [hv4]; exact (Ok.refl _).alloc _
        rw [← hv4]
        obtain ⟨gy, egy⟩ : ∃ g, g = v3.heap.size := ⟨_, rfl⟩
        rw [← egy] at ry ⊢
        clear hv4 egy
        replace ra : Hid _ := Ok.row' hO ra.out
        replace rb : Hid _ := Ok.row' hO rb.out
        replace rl : Hid _ := Ok.row' hO rl.out
        replace rx : Hid _ := Ok.row' hO rx.out
        have Hv4 : Hid (Ok W5 v4) := Hv3.out.step hO
        clear hO Hv3
        have zz := row5_facts (rx.out)
        have xx0 := zz.1
        have xx1 := zz.2.1
        have xx2 := zz.2.2.1
        have xx3 := zz.2.2.2.1
        have xx4 := zz.2.2.2.2.1
        have xx5 := zz.2.2.2.2.2.1
        have xx6 := zz.2.2.2.2.2.2.1
        have xx7 := zz.2.2.2.2.2.2.2.1
        have xx8 := zz.2.2.2.2.2.2.2.2.1
        have xx9 := zz.2.2.2.2.2.2.2.2.2
        clear zz
        have zz := row5_facts (ry.out)
        have yy0 := zz.1
        have yy1 := zz.2.1
        have yy2 := zz.2.2.1
        have yy3 := zz.2.2.2.1
        have yy4 := zz.2.2.2.2.1
        have yy5 := zz.2.2.2.2.2.1
        have yy6 := zz.2.2.2.2.2.2.1
        have yy7 := zz.2.2.2.2.2.2.2.1
        have yy8 := zz.2.2.2.2.2.2.2.2.1
        have yy9 := zz.2.2.2.2.2.2.2.2.2
        clear zz
        go_wp2_with fail
        go_roundw
        case rel => exact ⟨k + 1, by omega, by simp, Hv4.out⟩
        case measure => simp [intOf]; omega
    · obtain rfl : k = 7 := by omega
      obtain ⟨w1, hw1⟩ : ∃ z, z = wr := ⟨_, rfl⟩
      rw [← hw1] at ra rb HK ⊢
      have H1 : Hid (Ok w w1) := HW5.out.step HK.out
      clear HK HW5 rl hw1 hk k7
      go_wp2_with (at_builtin; refine wpList_append_ints rfl _ _ 30 rfl w1.heap.size 2 i0 (.int .i64 0) Tryz.underlying30 hi0 hz0' hz1' hz2' rfl (.slice (some ⟨w1.heap.size, 0, none⟩) 0 0) 0 [] (by rfl) ?ap0 ao cap ts ?ap1 ?ap2 HAO.out ?ap3 ?ap4 ?ap5 ?_)
      case ap0 => exact ⟨rfl, .inr ⟨w1.heap.size, 0, #[], rfl, Nat.le_refl _, heap_new0 _ _, Nat.le_refl _, Nat.zero_le _, rfl, rfl⟩⟩
      case ap1 => rw [← HNM.out]; rfl
      case ap2 => rw [← HNM.out]; exact HT.out.ok (H1.out.alloc _)
      case ap3 => rw [← HNM.out]; unfold maxLen; omega
      case ap4 => rw [← HNM.out]; omega
      case ap5 => simp
      intro v1 w2 hown hgrow
      have HO1 : Hid (w2.ownsRow w1.heap.size 2 1 v1 n (intsV ts)) := by unfold Hid; rw [HNM.out]; first | exact hown | (have h9 := hown; rw [Nat.zero_add] at h9; exact h9)
      have HB2 : Hid (Ok w1 w2) := ((Below.refl _ _).alloc (Nat.le_refl _) _).grown hgrow (by simp) (by intro k hk; simp [Value.ownBlock] at hk; omega)
      have hz := HB2.out.le
      clear hown hgrow
      go_wp2_with (at_builtin; refine wpList_append_lies _ rfl _ _ 30 rfl w1.heap.size 2 i0 (.int .i64 0) 1 8 Tryz.underlying30 hi0 hz0' hz1' hz2' rfl (by decide) v1 n (intsV ts) (by rfl) (own_below HO1.out ((Below.refl _ _).alloc (Nat.le_refl _) _)) ⟨w2.heap.size, 0, none⟩ 1 1 [.int .i64 77] (by rfl) rfl (World.news_of_block (cs := #[.int .i64 77]) (t := 2) (fr := (0, 0)) (heap_new0 _ _)) ?bp1 (by decide) ?bp2 (by omega) ?bp3 (w2.heap.size + 1) (by simp) ?_)
      case bp1 => intro u hu; simp at hu; subst hu; rfl
      case bp2 => unfold maxLen; omega
      case bp3 => simp; omega
      intro g cap2 w3 hown hgrow _ hlt
      have HO : Hid (w3.ownsRow w1.heap.size 2 1 (.slice (some ⟨g, 0, none⟩) (n + 1) cap2) (n + 1) (intsV (ts ++ [77]))) := by unfold Hid intsV; rw [List.map_append]; exact hown
      have HB3 : Hid (Ok w1 w3) := (HB2.out.alloc _).grown hgrow (by simp; omega) (own_base HO1.out)
      obtain ⟨hc1, hc2, hgB⟩ : n + 1 ≤ cap2 ∧ cap2 ≤ maxLen ∧ w1.heap.size ≤ g := by
        rcases HO.out.2 with ⟨h, _⟩ | ⟨g', cp, cur, h, h1, h2, h3, h4, _⟩
        · cases h
        · injection h with e1 e2 e3
          injection e1 with e1
          injection e1 with e1
          subst e1 e3
          exact ⟨h3, h4, h1⟩
      have hc3 : (n : Int) ≤ (cap2 : Int) := by omega
      unfold maxLen at hc2
      clear hown hgrow HO1 HB2
      replace ra : Hid _ := Ok.row' HB3.out ra.out
      replace rb : Hid _ := Ok.row' HB3.out rb.out
      go_upto_region 13 with (fail)
      have HSO : Hid (SInts w3 (.slice (some ⟨g, 0, none⟩) n cap2) ts) := own_sints HO.out HNM.out (by omega)
      have HST : Hid (SInts w3 (.slice ao n cap) ts) := HT.out.ok (H1.out.step HB3.out)
      obtain ⟨N, hN⟩ : ∃ N, N = widenN a b ts := ⟨_, rfl⟩
      have HN : Hid _ := hN
      clear hN
      have zz := row5_facts (ra.out)
      have aa0 := zz.1
      have aa1 := zz.2.1
      have aa2 := zz.2.2.1
      have aa3 := zz.2.2.2.1
      have aa4 := zz.2.2.2.2.1
      have aa5 := zz.2.2.2.2.2.1
      have aa6 := zz.2.2.2.2.2.2.1
      have aa7 := zz.2.2.2.2.2.2.2.1
      have aa8 := zz.2.2.2.2.2.2.2.2.1
      have aa9 := zz.2.2.2.2.2.2.2.2.2
      clear zz
      have zz := row5_facts (rb.out)
      have bb0 := zz.1
      have bb1 := zz.2.1
      have bb2 := zz.2.2.1
      have bb3 := zz.2.2.2.1
      have bb4 := zz.2.2.2.2.1
      have bb5 := zz.2.2.2.2.2.1
      have bb6 := zz.2.2.2.2.2.2.1
      have bb7 := zz.2.2.2.2.2.2.2.1
      have bb8 := zz.2.2.2.2.2.2.2.2.1
      have bb9 := zz.2.2.2.2.2.2.2.2.2
      clear zz
      have za := lt_row ra.out
      have zb := lt_row rb.out
      have bz : Ok w3 w3 := Ok.refl _
      go_cut [68] from 60 to 68 (fun s68 u => Hid (s68 = .bool false ∧ Ok w3 u))
      case first =>
        as_aux_lemma =>
          go_region_held3 (fun w' => w'.cell? ⟨ga, 0, none⟩ = some (.bool a.2.2.2.2) ∧ w'.cell? ⟨ga, 1, none⟩ = some (.int .i64 a.1) ∧ w'.cell? ⟨ga, 2, none⟩ = some (.int .i64 a.2.1) ∧ w'.cell? ⟨ga, 3, none⟩ = some (.int .u64 (a.2.2.1 : Int)) ∧ w'.cell? ⟨ga, 4, none⟩ = some (.int .u64 (a.2.2.2.1 : Int)) ∧ w'.cell? ⟨gb, 0, none⟩ = some (.bool b.2.2.2.2) ∧ w'.cell? ⟨gb, 1, none⟩ = some (.int .i64 b.1) ∧ w'.cell? ⟨gb, 2, none⟩ = some (.int .i64 b.2.1) ∧ w'.cell? ⟨gb, 3, none⟩ = some (.int .u64 (b.2.2.1 : Int)) ∧ w'.cell? ⟨gb, 4, none⟩ = some (.int .u64 (b.2.2.2.1 : Int))) (go_keep)
            (first
            | (go_at_call 9; refine (nwiden_any a b _ ts HU.out.1 HU.out.2 w3 _ (by repeat (first | assumption | refine Ok.alloc ?_ _ | refine Below.drew ?_)) (SInts.ok HSO.out (by repeat (first | assumption | refine Ok.alloc ?_ _ | refine Below.drew ?_)))).mono ?_; rintro e w' ⟨rfl, hb⟩; rw [← HN.out]; unfold nv; have q0 := Ok.cell hb za aa0; have q1 := Ok.cell hb za aa1; have q2 := Ok.cell hb za aa2; have q3 := Ok.cell hb za aa3; have q4 := Ok.cell hb za aa4; have q5 := Ok.cell hb zb bb0; have q6 := Ok.cell hb zb bb1; have q7 := Ok.cell hb zb bb2; have q8 := Ok.cell hb zb bb3; have q9 := Ok.cell hb zb bb4)
            | (go_at_call 10; refine (rnwiden_any a b _ ts HU.out.1 HU.out.2 w3 _ (by repeat (first | assumption | refine Ok.alloc ?_ _ | refine Below.drew ?_)) (SInts.ok HST.out (by repeat (first | assumption | refine Ok.alloc ?_ _ | refine Below.drew ?_)))).mono ?_; rintro e w' ⟨rfl, hb⟩; rw [← HN.out]; unfold nv; have q0 := Ok.cell hb za aa0; have q1 := Ok.cell hb za aa1; have q2 := Ok.cell hb za aa2; have q3 := Ok.cell hb za aa3; have q4 := Ok.cell hb za aa4; have q5 := Ok.cell hb zb bb0; have q6 := Ok.cell hb zb bb1; have q7 := Ok.cell hb zb bb2; have q8 := Ok.cell hb zb bb3; have q9 := Ok.cell hb zb bb4)
            | fail)
          go_wp2_with fail
          go_meet
          case rel => exact ⟨rfl, hb⟩
      case rest =>
        obtain ⟨h68, hO⟩ := hcut.out
        subst h68
        obtain ⟨w4, ew⟩ : ∃ t, t = wc := ⟨_, rfl⟩
        rw [← ew] at hO ⊢
        have HOK4 : Hid (Ok w3 w4) := hO
        clear hcut ew hO bz za zb HN aa0 bb0 aa1 bb1 aa2 bb2 aa3 bb3 aa4 bb4 aa5 bb5 aa6 bb6 aa7 bb7 aa8 bb8 aa9 bb9
        go_wp2_with fail
        go_loopw [71] (fun i wr => ∃ k : Nat, k ≤ n ∧ i = .int .i64 k ∧ Hid (Ok w3 wr)) (fun i _ => n - (intOf i).toNat)
        case atStart => exact ⟨0, by omega, rfl, HOK4⟩
        case round =>
          clear HOK4
          obtain ⟨j, hj, rfl, HOK⟩ := hrel
          by_cases hj1 : j < n
          · have hj2 : (j : Int) < (n : Int) := by omega
            have hj3 : (j : Int) < (cap2 : Int) := by omega
            have hjt : j < ts.length := by rw [← HNM.out]; exact hj1
            obtain ⟨tb, o, hao, hc⟩ : ∃ tb o, ao = some ⟨tb, o, none⟩ ∧ IntsAt wr tb o ts := by
              rcases HST.out.ok HOK.out with ⟨tb, o, cp, e, hI⟩ | ⟨_, _, _, e⟩
              · injection e with e1 _ _
                exact ⟨tb, o, e1, hI⟩
              · rw [e] at hjt; simp at hjt
            subst hao
            obtain ⟨hx, e0, _⟩ := own_cell (own_below HO.out HOK.out) (by omega) (show j < n + 1 by omega)
            rw [List.getElem_append_left hjt] at e0
            have e1 := hc.1 j hjt
            obtain ⟨t, ht⟩ : ∃ t, t = ts[j] := ⟨_, rfl⟩
            rw [← ht] at e0 e1
            clear ht hc hx hjt
            go_wp2_with fail
            go_quiet (fail)
            go_wp2_with fail
            exact ⟨⟨j + 1, by omega, rfl, Ok.draws HOK.out _⟩, by simp only [intOf]; omega⟩
          · have hj2 : ¬ (j : Int) < (n : Int) := by omega
            go_wp2_with fail
            have A1 : Hid _ := own_below HO.out HOK.out
            have A3 : Hid (Ok w1 wr) := HB3.out.step HOK.out
            have RA : Hid _ := Ok.row' HOK.out ra.out
            have RB : Hid _ := Ok.row' HOK.out rb.out
            have nga : g ≠ ga ∧ g ≠ gb := by
              obtain ⟨cur, _, h2, _⟩ := own_row HO.out
              exact ⟨fun h => by subst h; rw [ra.out] at h2; injection h2 with h2; injection h2 with h2 h3; exact absurd h3 (by decide), fun h => by subst h; rw [rb.out] at h2; injection h2 with h2; injection h2 with h2 h3; exact absurd h3 (by decide)⟩
            obtain ⟨nga, ngb⟩ := nga
            clear ra rb HSO HST
            go_loopw [86] (fun i wr => ∃ (j : Nat) (ys : List Int), j ≤ n ∧ i = .int .i64 j ∧ Hid (ys.length = n) ∧ Hid (wr.ownsRow w1.heap.size 2 1 (.slice (some ⟨g, 0, none⟩) (n + 1) cap2) (n + 1) (intsV (ys ++ [77]))) ∧ Hid (wr.heap[ga]? = some (.cells #[.bool a.2.2.2.2, .int .i64 a.1, .int .i64 a.2.1, .int .u64 (a.2.2.1 : Int), .int .u64 (a.2.2.2.1 : Int)] 29)) ∧ Hid (wr.heap[gb]? = some (.cells #[.bool b.2.2.2.2, .int .i64 b.1, .int .i64 b.2.1, .int .u64 (b.2.2.1 : Int), .int .u64 (b.2.2.2.1 : Int)] 29)) ∧ Hid (Ok w1 wr)) (fun i _ => n - (intOf i).toNat)
            case atStart => exact ⟨0, ts, by omega, rfl, HNM.out.symm, A1, RA, RB, A3⟩
            case round =>
              obtain ⟨j, ys, hj, rfl, HYL, B1, ra, rb, B3⟩ := hrel
              clear A1 A3 RA RB HOK
              by_cases hj1 : j < n
              · have hj2 : (j : Int) < (n : Int) := by omega
                have hj3 : (j : Int) < (cap2 : Int) := by omega
                have hjt : n - 1 - j < ts.length := by rw [← HNM.out]; omega
                obtain ⟨tb2, o2, hao, hc⟩ : ∃ tb o, ao = some ⟨tb, o, none⟩ ∧ IntsAt wr tb o ts := by
                  rcases HT.out.ok (H1.out.step B3.out) with ⟨tb, o, cp, e, hI⟩ | ⟨_, _, _, e⟩
                  · injection e with e1 _ _
                    exact ⟨tb, o, e1, hI⟩
                  · rw [e] at hjt; simp at hjt
                subst hao
                have e1 := hc.1 (n - 1 - j) hjt
                obtain ⟨t, ht⟩ : ∃ t, t = ts[n - 1 - j] := ⟨_, rfl⟩
                rw [← ht] at e1
                obtain ⟨hx, e0, e2⟩ := own_cell B1.out (by omega) (show j < n + 1 by omega)
                obtain ⟨q, hq⟩ : ∃ q : Nat, q = n - 1 - j := ⟨_, rfl⟩
                have hq1 : (n : Int) - 1 - (j : Int) = (q : Int) := by omega
                have hq2 : (q : Int) < (n : Int) := by omega
                rw [← hq] at e1
                clear ht hc hjt hq
                have C1 : Hid _ := fun x => own_set77 B1.out HYL.out hj1 x
                have C2 : Hid (∀ x : Value, (wr.setCell ⟨g, j, none⟩ x).heap[ga]? = some (.cells #[.bool a.2.2.2.2, .int .i64 a.1, .int .i64 a.2.1, .int .u64 (a.2.2.1 : Int), .int .u64 (a.2.2.2.1 : Int)] 29)) := fun x => (heap_setCell_other wr ⟨g, j, none⟩ ga x nga.symm).trans ra.out
                have C4 : Hid (∀ x : Value, (wr.setCell ⟨g, j, none⟩ x).heap[gb]? = some (.cells #[.bool b.2.2.2.2, .int .i64 b.1, .int .i64 b.2.1, .int .u64 (b.2.2.1 : Int), .int .u64 (b.2.2.2.1 : Int)] 29)) := fun x => (heap_setCell_other wr ⟨g, j, none⟩ gb x ngb.symm).trans rb.out
                have C3 : Hid (∀ x : Value, Ok w1 (wr.setCell ⟨g, j, none⟩ x)) := fun x => B3.out.set (show w1.heap.size ≤ g from hgB) x
                clear nga ngb
                go_wp2_with fail
                exact ⟨⟨j + 1, ys.set j _, by omega, rfl, by unfold Hid; rw [List.length_set]; exact HYL.out, C1.out _, C2.out _, C4.out _, C3.out _⟩, by simp only [intOf]; omega⟩
              · have hj2 : ¬ (j : Int) < (n : Int) := by omega
                obtain ⟨hIY, hSY⟩ : IntsAt wr g 0 ys ∧ SInts wr (.slice (some ⟨g, 0, none⟩) n cap2) ys := by
                  have h9 := own_sints B1.out HYL.out.symm (by omega)
                  refine ⟨?_, h9⟩
                  rcases h9 with ⟨tb, o, cp, e, hI⟩ | ⟨_, _, _, e⟩
                  · injection e with e1 _ _
                    injection e1 with e1
                    injection e1 with e1 e2
                    subst e1 e2
                    exact hI
                  · subst e
                    obtain ⟨cur, _, h2, _⟩ := own_row B1.out
                    exact ⟨fun i hi => by simp at hi, lt_rowV h2, by simp⟩
                have HIY : Hid (IntsAt wr g 0 ys) := hIY
                have HSY : Hid (SInts wr (.slice (some ⟨g, 0, none⟩) n cap2) ys) := hSY
                obtain ⟨hx, e0, _⟩ := own_cell B1.out (by omega) (show n < n + 1 by omega)
                rw [List.getElem_append_right (by rw [HYL.out]; exact Nat.le_refl _)] at e0
                have e1 : wr.cell? ⟨g, n, none⟩ = some (.int .i64 77) := by simpa [HYL.out] using e0
                have hc4 : (n : Int) + 1 ≤ (cap2 : Int) := by omega
                have hs0 : (0 : Int) ≤ (n : Int) + 1 := by omega
                have hs1 : (n : Int) < (n : Int) + 1 := by omega
                have hs2 : (0 : Int) ≤ (n : Int) := by omega
                clear hIY hSY e0 hx
                obtain ⟨N, hN⟩ : ∃ N, N = widenN a b ys := ⟨_, rfl⟩
                have HN : Hid _ := hN
                clear hN
                go_upto_region 26 with (fail)
                have hsw : IntKind.i64.wrap ((n : Int) + 1) = (n : Int) + 1 := by rw [IntKind.wrap_i64]; omega
                have hsl : ∀ w' : World, (Instr.slice 30 (.slice (some ⟨g, 0, none⟩) n cap2) none (some (.int .i64 ((n : Int) + 1))) none).run Tryz.prog w' = .ok (.slice (some ⟨g, 0, none⟩) (n + 1) cap2) w' := by intro w'; go_simp
                have zz := row5_facts (ra.out)
                have aa0 := zz.1
                have aa1 := zz.2.1
                have aa2 := zz.2.2.1
                have aa3 := zz.2.2.2.1
                have aa4 := zz.2.2.2.2.1
                have aa5 := zz.2.2.2.2.2.1
                have aa6 := zz.2.2.2.2.2.2.1
                have aa7 := zz.2.2.2.2.2.2.2.1
                have aa8 := zz.2.2.2.2.2.2.2.2.1
                have aa9 := zz.2.2.2.2.2.2.2.2.2
                clear zz
                have zz := row5_facts (rb.out)
                have bb0 := zz.1
                have bb1 := zz.2.1
                have bb2 := zz.2.2.1
                have bb3 := zz.2.2.2.1
                have bb4 := zz.2.2.2.2.1
                have bb5 := zz.2.2.2.2.2.1
                have bb6 := zz.2.2.2.2.2.2.1
                have bb7 := zz.2.2.2.2.2.2.2.1
                have bb8 := zz.2.2.2.2.2.2.2.2.1
                have bb9 := zz.2.2.2.2.2.2.2.2.2
                clear zz
                have za := lt_row ra.out
                have zb := lt_row rb.out
                have zg : g < wr.heap.size := (HIY.out).2.1
                have bz : Ok wr wr := Ok.refl _
                go_region_held3 (fun w' => w'.cell? ⟨ga, 0, none⟩ = some (.bool a.2.2.2.2) ∧ w'.cell? ⟨ga, 1, none⟩ = some (.int .i64 a.1) ∧ w'.cell? ⟨ga, 2, none⟩ = some (.int .i64 a.2.1) ∧ w'.cell? ⟨ga, 3, none⟩ = some (.int .u64 (a.2.2.1 : Int)) ∧ w'.cell? ⟨ga, 4, none⟩ = some (.int .u64 (a.2.2.2.1 : Int)) ∧ w'.cell? ⟨gb, 0, none⟩ = some (.bool b.2.2.2.2) ∧ w'.cell? ⟨gb, 1, none⟩ = some (.int .i64 b.1) ∧ w'.cell? ⟨gb, 2, none⟩ = some (.int .i64 b.2.1) ∧ w'.cell? ⟨gb, 3, none⟩ = some (.int .u64 (b.2.2.1 : Int)) ∧ w'.cell? ⟨gb, 4, none⟩ = some (.int .u64 (b.2.2.2.1 : Int)) ∧ w'.cell? ⟨g, n, none⟩ = some (.int .i64 77)) (go_keep)
                  (first
                  | (go_at_call 9; refine (nwiden_any a b _ ys HU.out.1 HU.out.2 _ _ (Ok.refl _) (SInts.ok HSY.out (by repeat (first | assumption | refine Ok.alloc ?_ _ | refine Below.drew ?_)))).mono ?_; rintro e w' ⟨rfl, hc⟩; rw [← HN.out]; unfold nv; have hb : Ok wr w' := Ok.step (by repeat (first | assumption | refine Ok.alloc ?_ _ | refine Below.drew ?_)) hc; have hle := hb.le; have q0 := Ok.cell hb za aa0; have q1 := Ok.cell hb za aa1; have q2 := Ok.cell hb za aa2; have q3 := Ok.cell hb za aa3; have q4 := Ok.cell hb za aa4; have q5 := Ok.cell hb zb bb0; have q6 := Ok.cell hb zb bb1; have q7 := Ok.cell hb zb bb2; have q8 := Ok.cell hb zb bb3; have q9 := Ok.cell hb zb bb4; have q10 := Ok.cell hb zg e1)
                  | (go_at_call 10; refine (rnwiden_any a b _ ys HU.out.1 HU.out.2 wr _ (by repeat (first | assumption | refine Ok.alloc ?_ _ | refine Below.drew ?_)) (SInts.ok hSv (by repeat (first | exact Ok.refl _ | refine Below.drew ?_)))).mono ?_; rintro e w' ⟨rfl, hb⟩; rw [← HN.out]; unfold nv; have q0 := Ok.cell hb za aa0; have q1 := Ok.cell hb za aa1; have q2 := Ok.cell hb za aa2; have q3 := Ok.cell hb za aa3; have q4 := Ok.cell hb za aa4; have q5 := Ok.cell hb zb bb0; have q6 := Ok.cell hb zb bb1; have q7 := Ok.cell hb zb bb2; have q8 := Ok.cell hb zb bb3; have q9 := Ok.cell hb zb bb4; have q10 := Ok.cell hb zg e1)
                  | ((refine step_copyG (by rfl) _ _ _ (by rfl) i0 (.int .i64 0) Tryz.underlying30 hi0 hz0' hz1' hz2' rfl _ (by rfl) (by first | exact heap_new0 _ _ | exact Ok.row' hc (heap_new0 _ _)) _ _ _ (by rfl) ys (IntsAt.ok HIY.out (by repeat (first | assumption | refine Ok.alloc ?_ _ | refine Below.drew ?_))) HYL.out (by omega) wr.heap.size (by first | exact hle | exact Nat.le_refl _) ?_; intro v' w' hSv hbw; have hb : Ok wr w' := Below.trans (by repeat (first | assumption | refine Ok.alloc ?_ _ | refine Below.drew ?_)) hbw; have q0 := Ok.cell hb za aa0; have q1 := Ok.cell hb za aa1; have q2 := Ok.cell hb za aa2; have q3 := Ok.cell hb za aa3; have q4 := Ok.cell hb za aa4; have q5 := Ok.cell hb zb bb0; have q6 := Ok.cell hb zb bb1; have q7 := Ok.cell hb zb bb2; have q8 := Ok.cell hb zb bb3; have q9 := Ok.cell hb zb bb4; have q10 := Ok.cell hb zg e1))
                  | fail)
                all_goals (go_wp2_with fail)
                all_goals (go_ret)
                all_goals exact ⟨rfl, H1.out.step (B3.out.step hb)⟩
end Go.Proofs.YtpjpjhjjhoeijaaGreat
