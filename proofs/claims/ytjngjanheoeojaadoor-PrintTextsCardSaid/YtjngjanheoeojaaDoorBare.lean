import Derived.Test.YtjngjanheoeojaaDoorPr
import Derived.Lib.AppendIntMem
namespace Go.Proofs.YtjngjanheoeojaaDoor
set_option linter.unusedVariables false
set_option linter.unusedSimpArgs false
open Go.RowKit
/-- print.operators. -/
structure OpsIs (w : World) : Prop where
  lt : 1 < w.heap.size
  sign : ∀ k : Nat, k < 16 → w.cell? ⟨1, k * 2, none⟩ = some (.string ⟨(sgn k).toArray⟩)
  level : ∀ k : Nat, k < 16 → w.cell? ⟨1, k * 2 + 1, none⟩ = some (.int .i64 (lvl k))
structure Gl (bn : Nat) (w : World) : Prop where
  ops : OpsIs w
  tab : Lib.TabBelow Tryd.prog bn w "internal/strconv.uint64pow10" .u64 Lib.pow10Tab
  two : 1 < bn
theorem Gl.low {bn : Nat} {w w' : World} (h : Gl bn w) (hb : Below bn w w') : Gl bn w' := by
  have hc : ∀ o, w'.cell? ⟨1, o, none⟩ = w.cell? ⟨1, o, none⟩ := fun o => hb.cell (p := ⟨1, o, none⟩) h.two
  have := h.ops.lt
  have := hb.size
  exact ⟨⟨by omega, fun k hk => by rw [hc]; exact h.ops.sign k hk, fun k hk => by rw [hc]; exact h.ops.level k hk⟩, h.tab.on hb, h.two⟩
structure ExEnv (e bn bt : Nat) (w : World) : Prop where
  take : w.heap[e]? = some (.cells #[.func (.func 21) #[] #[.pointer (some ⟨bn, 0, none⟩)]] 59 (0, 0))
  say : w.heap[e + 1]? = some (.cells #[.func (.func 19) #[] #[.pointer (some ⟨bt, 0, none⟩)]] 58 (0, 0))
  expr : w.heap[e + 2]? = some (.cells #[.func (.func 57) #[] #[.pointer (some ⟨e, 0, none⟩), .pointer (some ⟨e + 3, 0, none⟩), .pointer (some ⟨e + 1, 0, none⟩)]] 81 (0, 0))
  bare : w.heap[e + 3]? = some (.cells #[.func (.func 54) #[] #[.pointer (some ⟨e + 1, 0, none⟩), .pointer (some ⟨e + 2, 0, none⟩)]] 84 (0, 0))
  lt : bt < e
theorem ExEnv.kept {e bn bt : Nat} {w w' : World} (h : ExEnv e bn bt w) (hk : Kp bn bt w w') (hm : bn < bt) : ExEnv e bn bt w' := by
  have := h.lt
  exact ⟨hk.box h.take (by omega) hm (by decide), hk.box h.say (by omega) hm (by decide), hk.box h.expr (by omega) hm (by decide), hk.box h.bare (by omega) hm (by decide), h.lt⟩
theorem repeat32 : ∀ c : Nat, Lib.repeatL [32] c = List.replicate c 32
  | 0 => rfl
  | c + 1 => by rw [Lib.repeatL, repeat32 c, List.replicate_succ]; rfl
set_option maxHeartbeats 1000000 in
theorem margin_any (n : Nd) (w : World) (h1 : 1 ≤ n.depth) (h2 : n.depth ≤ 24) :
    Calls Tryd.prog 39 #[ndVal n] w fun e w' => e = .returned (.string ⟨(List.replicate (n.depth - 1).toNat 32).toArray⟩) ∧ Below w.heap.size w w' := by
  obtain ⟨k, hk⟩ := Int.eq_ofNat_of_zero_le (show 0 ≤ n.depth - 1 by omega)
  have hd : n.depth = (k : Int) + 1 := by omega
  have e2 : (n.depth - 1).toNat = k := by omega
  rw [e2]
  unfold ndVal
  rw [hd]
  clear hk h1 e2
  go_enter Tryd.func39, Tryd.ntmps39
  go_wp2_with fail
  refine (Tryd.strings_Repeat ⟨#[32]⟩ k _ (by omega) (by have : (⟨#[32]⟩ : ByteArray).size = 1 := rfl; rw [this]; omega)).mono ?_
  rintro e w1 ⟨rfl, hb⟩
  have HB : Hid _ := hb
  clear hb
  go_wp2_with fail
  go_ret
  refine ⟨?_, ((Below.refl _ _).alloc (Nat.le_refl _) _).trans (HB.out.mono (by simp))⟩
  show Ending.returned (.string ⟨(Lib.repeatL [32] k).toArray⟩) = _
  rw [repeat32]
set_option maxHeartbeats 1000000 in
theorem print_any (v : Int) (h0 : -9223372036854775808 ≤ v) (h1 : v ≤ 9223372036854775807) (w : World) (hT : Lib.TabIs Tryd.prog w "internal/strconv.uint64pow10" .u64 Lib.pow10Tab) :
    Calls Tryd.prog 41 #[.int .i64 v] w fun e w' => e = .returned (.string ⟨(Lib.itoa v).toArray⟩) ∧ Below w.heap.size w w' := by
  have HT : Hid _ := hT
  clear hT
  go_enter Tryd.func41, Tryd.ntmps41
  go_wp2_with fail
  refine (Tryd.strconv_FormatInt_10 v h0 h1 w HT.out).mono ?_
  rintro e w1 ⟨rfl, k, os, rfl⟩
  go_wp2_with fail
  go_ret
  exact ⟨rfl, Lib.below_grow _ _ (Nat.le_refl _) _ _⟩
set_option maxHeartbeats 1000000 in
theorem truth_any (v : Int) (w : World) :
    Calls Tryd.prog 55 #[.int .i64 v] w fun e w' => e = .returned (.string ⟨(if v = 1 then [116, 114, 117, 101] else [102, 97, 108, 115, 101] : List UInt8).toArray⟩) ∧ w' = w := by
  by_cases h : v = 1
  · subst h
    rw [if_pos rfl]
    go_enter Tryd.func55, Tryd.ntmps55
    go_wp2_with fail
    go_ret
    exact ⟨rfl, rfl⟩
  · rw [if_neg h]
    have hb : (v == 1) = false := by rw [beq_eq_false_iff_ne]; exact h
    go_enter Tryd.func55, Tryd.ntmps55
    go_wp2_with fail
    go_ret
    exact ⟨rfl, rfl⟩
set_option maxHeartbeats 1000000 in
theorem leftWants_any (l : Nat) (w : World) :
    Calls Tryd.prog 56 #[.int .i64 l] w fun e w' => e = .returned (.int .i64 (leftW l)) ∧ w' = w := by
  unfold leftW
  by_cases h : l = 3
  · subst h
    rw [if_pos rfl]
    go_enter Tryd.func56, Tryd.ntmps56
    go_wp2_with fail
    go_ret
    exact ⟨rfl, rfl⟩
  · rw [if_neg h]
    have hb : ((l : Int) == 3) = false := by rw [beq_eq_false_iff_ne]; omega
    go_enter Tryd.func56, Tryd.ntmps56
    go_wp2_with fail
    go_ret
    exact ⟨rfl, rfl⟩
end Go.Proofs.YtjngjanheoeojaaDoor
