import Derived.Test.YtbkblijoimmdeaaGreatKJc
set_option linter.unusedVariables false
set_option linter.unusedSimpArgs false
set_option linter.unnecessarySimpa false
/- Jh -/
namespace Go.Proofs.YtbkblijoimmdeaaGreat
open Go.RowKit
set_option maxHeartbeats 400000 in
theorem pthrough_ex (f : Nat) (w : World) :
    Calls Tryz.prog 172 #[.func (.func f) #[] #[]] w fun e w' => e = .returned (.func (.func 196) #[] #[.pointer (some ⟨w.heap.size, 0, none⟩)]) ∧ w' = w.alloc (.cells #[.func (.func f) #[] #[]] 154) := by
  have hmf : ∀ (fn : Fn) (first cap : Array Value) (w : World), (Instr.makeFunc fn first cap).run Tryz.prog w = .ok (.func fn first cap) w := fun _ _ _ _ => rfl
  go_enter Tryz.func172, Tryz.ntmps172
  go_wp2
  go_ret
  exact ⟨rfl, rfl⟩
theorem rowA {W w' : World} {p o : Obj} (h : Ok ((W.drew.alloc o).alloc p) w') : w'.heap[W.heap.size]? = some o := Ok.row' h (heap_past _ _ _ (by simp) (heap_new0 _ _))
theorem rowB {W w' : World} {p o : Obj} (h : Ok ((W.drew.alloc p).alloc o) w') : w'.heap[W.heap.size + 1]? = some o := Ok.row' h (heap_at _ _ _ (by simp))
def Spn (W w1 : World) (g : Nat) (L H : Int) : Prop := Ok W w1 ∧ w1.heap[g]? = some (rowS L H) ∧ W.heap.size ≤ g
theorem thr_a {W w2 : World} {L H : Int} (h : Ok W w2) : Hid (Spn W (w2.alloc (.cells #[.int .i64 (tW L), .int .i64 (wrap64 L), .int .i64 (tW H), .int .i64 (wrap64 H)] 158)) w2.heap.size L H) := ⟨h.alloc _, heap_new0 _ _, h.le⟩
theorem thr_b {W w2 : World} {g : Nat} {a b c d : Value} {L H : Int} (h : Ok W w2) (e : w2.heap[g]? = some (.cells #[a, b, c, d] 158 (0, 0))) (hg : W.heap.size ≤ g) :
    Hid (Spn W ((((w2.setCell ⟨g, 0, none⟩ (.int .i64 (tW L))).setCell ⟨g, 1, none⟩ (.int .i64 (wrap64 L))).setCell ⟨g, 2, none⟩ (.int .i64 (tW H))).setCell ⟨g, 3, none⟩ (.int .i64 (wrap64 H))) g L H) :=
  ⟨(((h.set hg _).set hg _).set hg _).set hg _, Jrow_set4 e _ _ _ _, hg⟩
def exW (lo hi : Int) : Bool := decide (In64 lo) && decide (In64 hi)
theorem pexact_any (lo hi : Int) (w0 w : World) (hok : Ok w0 w) :
    Calls Tryz.prog 174 #[.agg #[.int .i64 (tW lo), .int .i64 (wrap64 lo), .int .i64 (tW hi), .int .i64 (wrap64 hi)]] w fun e w' => e = .returned (.bool (exW lo hi)) ∧ Ok w0 w' := by
  refine (pexact_ex lo hi w).mono ?_
  rintro e w' ⟨rfl, rfl⟩
  exact ⟨rfl, hok.alloc _⟩
theorem span_hullW {lo hi : Int} (h : lo ≤ hi) : spanI lo hi = ((hullW lo hi).1, (hullW lo hi).2, exW lo hi) := by
  unfold exW
  have e1 := tW_eq lo
  have e2 := tW_eq hi
  have w1 := wrap64_in lo
  have w2 := wrap64_in hi
  have t1 := tW_zero lo
  have t2 := tW_zero hi
  unfold hullW
  by_cases h0 : In64 lo ∧ In64 hi
  · have hL : tW lo = 0 := by unfold tW; unfold In64 at h0; omega
    have hH : tW hi = 0 := by unfold tW; unfold In64 at h0; omega
    rw [spanI, if_pos h0, if_pos (by omega), decide_eq_true h0.1, decide_eq_true h0.2, wrap64_id h0.1, wrap64_id h0.2]; rfl
  · have hd : (decide (In64 lo) && decide (In64 hi)) = false := by
      by_cases h1 : In64 lo
      · rw [decide_eq_false (show ¬ In64 hi from fun h2 => h0 ⟨h1, h2⟩), Bool.and_false]
      · rw [decide_eq_false h1, Bool.false_and]
    rw [hd, spanI, if_neg h0]
    clear t1 t2 h0 hd
    unfold In64 at w1 w2
    by_cases ht : tW lo = tW hi
    · rw [if_pos ht]
      by_cases hw : 18446744073709551615 ≤ hi - lo ∨ wrap64 hi < wrap64 lo
      · rw [if_pos hw]
        have a1 : wrap64 lo = -9223372036854775808 := by omega
        have a2 : wrap64 hi = 9223372036854775807 := by omega
        rw [a1, a2]
      · rw [if_neg hw]
    · rw [if_neg ht, if_pos (by omega)]
theorem cL_sub {al ah bl bh : Int} (ha : al ≤ ah) (hb : bl ≤ bh) : cL (fun x y => x - y) al ah bl bh 4 = al - bh ∧ cH (fun x y => x - y) al ah bl bh 4 = ah - bl := by
  simp only [cL, cH, cX, cY]; omega
theorem op_dif {al ah bl bh : Int} (ha1 : In64 al) (ha2 : In64 ah) (hb1 : In64 bl) (hb2 : In64 bh) : OpAt 171 al ah bl bh (fun x y => x - y) := by
  intro x y hx hy w0 w hok
  exact pdif_any x y (by rcases hx with rfl | rfl <;> assumption) (by rcases hy with rfl | rfl <;> assumption) w0 w hok
end Go.Proofs.YtbkblijoimmdeaaGreat
