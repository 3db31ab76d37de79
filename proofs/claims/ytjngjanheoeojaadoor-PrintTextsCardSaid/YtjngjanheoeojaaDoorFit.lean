import Derived.Test.YtjngjanheoeojaaDoorName
namespace Go.Proofs.YtjngjanheoeojaaDoor
set_option linter.unusedVariables false
set_option linter.unusedSimpArgs false
open Go.RowKit
theorem ret_int {k : IntKind} {a b : Int} (h : a = b) : Ending.returned (.int k a) = .returned (.int k b) := by rw [h]
/-- parse.rules, column by column (0: nothing, 1: a declaration, 2: a statement, 3: a block, 4: an expression). -/
def rSort (k : Nat) : Int := [1, 1, 2, 2, 2, 2, 2, 2, 2, 3, 4, 4, 4, 4, 4, 4].getD k 0
def rNamed (k : Nat) : Bool := [true, true, true, true, true, false, false, false, false, false, false, false, true, true, false, false].getD k false
def rMost (k : Nat) : Int := [0, 9223372036854775807, 0, 0, 0, 0, 0, 0, 0, 0, 9223372036854775807, 1, 0, 0, 0, 0].getD k 0
def rOp0 (k : Nat) : Int := [0, 0, 0, 0, 0, 0, 0, 0, 0, 0, 0, 0, 0, 0, 1, 3].getD k 0
def rOp1 (k : Nat) : Int := [0, 0, 0, 0, 0, 0, 0, 0, 0, 0, 0, 0, 0, 0, 2, 15].getD k 0
def rH0 (k : Nat) : Int := [0, 0, 4, 4, 0, 4, 0, 4, 4, 0, 0, 0, 0, 4, 4, 4].getD k 0
def rH1 (k : Nat) : Int := [0, 0, 0, 4, 0, 0, 0, 3, 3, 0, 0, 0, 0, 0, 0, 4].getD k 0
def rH2 (k : Nat) : Int := [0, 0, 0, 0, 0, 0, 0, 3, 0, 0, 0, 0, 0, 0, 0, 0].getD k 0
def rWant (k : Nat) : Int := [0, 0, 1, 2, 0, 1, 0, 2, 2, 0, 0, 0, 0, 1, 1, 2].getD k 0
structure RulesIs (w : World) : Prop where
  lt : 0 < w.heap.size
  sort : ∀ k : Nat, k < 16 → w.cell? ⟨0, k * 9, none⟩ = some (.int .u8 (rSort k))
  named : ∀ k : Nat, k < 16 → w.cell? ⟨0, k * 9 + 1, none⟩ = some (.bool (rNamed k))
  most : ∀ k : Nat, k < 16 → w.cell? ⟨0, k * 9 + 2, none⟩ = some (.int .i64 (rMost k))
  op0 : ∀ k : Nat, k < 16 → w.cell? ⟨0, k * 9 + 3, none⟩ = some (.int .i64 (rOp0 k))
  op1 : ∀ k : Nat, k < 16 → w.cell? ⟨0, k * 9 + 3 + 1, none⟩ = some (.int .i64 (rOp1 k))
  h0 : ∀ k : Nat, k < 16 → w.cell? ⟨0, k * 9 + 5, none⟩ = some (.int .u8 (rH0 k))
  h1 : ∀ k : Nat, k < 16 → w.cell? ⟨0, k * 9 + 5 + 1, none⟩ = some (.int .u8 (rH1 k))
  h2 : ∀ k : Nat, k < 16 → w.cell? ⟨0, k * 9 + 5 + 2, none⟩ = some (.int .u8 (rH2 k))
  want : ∀ k : Nat, k < 16 → w.cell? ⟨0, k * 9 + 8, none⟩ = some (.int .u8 (rWant k))
def nextD (k h : Nat) : Int := if k = 9 then 2 else if h = 0 then rH0 k else if h = 1 then rH1 k else if h = 2 then rH2 k else 0
set_option maxHeartbeats 2000000 in
theorem next_any (k h : Nat) (hk : k < 16) (hh : k = 9 ∨ h ≤ 3) (w : World) (hR : RulesIs w) :
    Calls Tryd.prog 52 #[.agg #[.int .i64 k, .int .i64 h]] w fun e w' => e = .returned (.int .u8 (nextD k h)) ∧ Below w.heap.size w w' := by
  have c0 := hR.h0 k hk
  have c1 := hR.h1 k hk
  have c2 := hR.h2 k hk
  have hlt := hR.lt
  have hne : ¬ w.heap.size = 0 := by omega
  have hne2 : ¬ 0 = w.heap.size := by omega
  clear hR
  by_cases h9 : k = 9
  · subst h9
    clear hh
    go_enter Tryd.func52, Tryd.ntmps52
    go_wp2
    go_ret
    exact ⟨rfl, (Below.refl _ _).alloc (Nat.le_refl _) _⟩
  · have h9' : ((k : Int) == 9) = false := by rw [beq_eq_false_iff_ne]; omega
    have HN : Hid (nextD k h = if h = 0 then rH0 k else if h = 1 then rH1 k else if h = 2 then rH2 k else 0) := by
      unfold Hid nextD; rw [if_neg h9]
    replace hh : h ≤ 3 := by omega
    clear h9
    go_enter Tryd.func52, Tryd.ntmps52
    have h4 : h = 0 ∨ h = 1 ∨ h = 2 ∨ h = 3 := by omega
    rcases h4 with rfl | rfl | rfl | rfl
    all_goals
      go_wp2
      go_ret
      exact ⟨ret_int (by rw [HN.out]; rfl), (((Below.refl _ _).alloc (Nat.le_refl _) _).alloc (by simp) _)⟩
/-- Dev's word on a node's fields. -/
def fitB (k : Nat) (name : List UInt8) (num op : Int) : Bool :=
  (if rNamed k then nameB name else name.isEmpty) && (decide (0 ≤ num) && decide (num ≤ rMost k) && decide (rOp0 k ≤ op) && decide (op ≤ rOp1 k))
set_option maxHeartbeats 2000000 in
theorem fit_out (d k num op a : Int) (s : ByteArray) (w : World) (hk : k < 0 ∨ 15 < k) :
    Calls Tryd.prog 16 #[.agg #[.int .i64 d, .int .i64 k, .string s, .int .i64 num, .int .i64 op, .int .i64 a]] w fun e w' => e = .returned (.bool false) ∧ Below w.heap.size w w' := by
  go_enter Tryd.func16, Tryd.ntmps16
  rcases hk with hk | hk
  · go_wp2
    go_ret
    exact ⟨rfl, (Below.refl _ _).alloc (Nat.le_refl _) _⟩
  · have h0 : 0 ≤ k := by omega
    have h16 : 16 ≤ k := by omega
    go_wp2
    go_ret
    exact ⟨rfl, (Below.refl _ _).alloc (Nat.le_refl _) _⟩
set_option maxHeartbeats 2000000 in
theorem fit_any (d num op a : Int) (k : Nat) (s : ByteArray) (w : World) (hk : k < 16) (hs : s.size ≤ maxLen) (hR : RulesIs w) :
    Calls Tryd.prog 16 #[.agg #[.int .i64 d, .int .i64 k, .string s, .int .i64 num, .int .i64 op, .int .i64 a]] w fun e w' => e = .returned (.bool (fitB k s.toList num op)) ∧ Below w.heap.size w w' := by
  have HS : Hid _ := hs
  clear hs
  have c0 := hR.h0 k hk
  have c1 := hR.h1 k hk
  have c2 := hR.h2 k hk
  have c3 := hR.sort k hk
  have c4 := hR.named k hk
  have c5 := hR.most k hk
  have c6 := hR.op0 k hk
  have c7 := hR.op1 k hk
  have c8 := hR.want k hk
  have hlt := hR.lt
  have hne : ¬ w.heap.size = 0 := by omega
  have hne2 : ¬ 0 = w.heap.size := by omega
  clear hR
  go_enter Tryd.func16, Tryd.ntmps16
  cases hn : rNamed k
  · go_wp2
    all_goals (go_ret; refine ⟨ret_bool ?_, ((Below.refl _ _).alloc (Nat.le_refl _) _).alloc (by simp) _⟩)
    all_goals (clear c0 c1 c2 c3 c4 c5 c6 c7 c8 hne hne2 hlt HS; first | (simp_all [fitB]; done) | (simp_all [fitB]; omega))
  · go_wp2_with fail
    refine (isName_any _ _ HS.out).mono ?_
    rintro e w1 ⟨rfl, rfl⟩
    cases hm : nameB s.toList
    all_goals
      go_wp2
      all_goals (go_ret; refine ⟨ret_bool ?_, ((Below.refl _ _).alloc (Nat.le_refl _) _).alloc (by simp) _⟩)
      all_goals (clear c0 c1 c2 c3 c4 c5 c6 c7 c8 hne hne2 hlt HS; first | (simp_all [fitB]; done) | (simp_all [fitB]; omega))
end Go.Proofs.YtjngjanheoeojaaDoor
