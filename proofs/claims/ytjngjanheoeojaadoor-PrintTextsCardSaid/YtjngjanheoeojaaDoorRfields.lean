import Derived.Test.YtjngjanheoeojaaDoorRname
namespace Go.Proofs.YtjngjanheoeojaaDoor
set_option linter.unusedVariables false
set_option linter.unusedSimpArgs false
open Go.RowKit
def namedB (k : Int) : Bool := k == 0 || k == 1 || k == 2 || k == 3 || k == 4 || k == 12 || k == 13
def numB (k num op : Int) : Bool :=
  if k = 1 ∨ k = 10 then decide (0 ≤ num) && op == 0
  else if k = 11 then (num == 0 || num == 1) && op == 0
  else if k = 14 then num == 0 && (op == 1 || op == 2)
  else if k = 15 then num == 0 && (decide (3 ≤ op) && decide (op ≤ 15))
  else num == 0 && op == 0
/-- Are a node's fields as its kind has them, Depth and At aside? -/
def fieldsB (k : Int) (name : List UInt8) (num op : Int) : Bool :=
  decide (0 ≤ k) && decide (k ≤ 15) && (if namedB k then nameB name else name.isEmpty) && numB k num op
theorem bcell {W w1 : World} (hb : Below W.heap.size W w1) : (∀ b o, b < W.heap.size → w1.cell? ⟨b, o, none⟩ = W.cell? ⟨b, o, none⟩) ∧ (∀ b o, b < W.heap.size → w1.frozen? ⟨b, o, none⟩ = W.frozen? ⟨b, o, none⟩) :=
  ⟨fun b o h => hb.cell (p := ⟨b, o, none⟩) h, fun b o h => hb.frozen (p := ⟨b, o, none⟩) h⟩
set_option maxHeartbeats 4000000 in
theorem fields_any (d k num op a : Int) (s : ByteArray) (w : World) (hs : s.size ≤ maxLen) :
    Calls Tryd.prog 26 #[.agg #[.int .i64 d, .int .i64 k, .string s, .int .i64 num, .int .i64 op, .int .i64 a]] w fun e w' => e = .returned (.bool (fieldsB k s.toList num op)) ∧ Below w.heap.size w w' := by
  have HS : Hid _ := hs
  clear hs
  have h17 : k < 0 ∨ 15 < k ∨ k = 0 ∨ k = 1 ∨ k = 2 ∨ k = 3 ∨ k = 4 ∨ k = 12 ∨ k = 13 ∨ k = 5 ∨ k = 6 ∨ k = 7 ∨ k = 8 ∨ k = 9 ∨ k = 10 ∨ k = 11 ∨ k = 14 ∨ k = 15 := by omega
  go_enter Tryd.func26, Tryd.ntmps26
  rcases h17 with h | h | rfl | rfl | rfl | rfl | rfl | rfl | rfl | rfl | rfl | rfl | rfl | rfl | rfl | rfl | rfl | rfl
  · go_wp2
    go_ret
    refine ⟨ret_bool ?_, (Below.refl _ _).alloc (Nat.le_refl _) _⟩
    have : decide (0 ≤ k) = false := by simp; omega
    unfold fieldsB; rw [this]; rfl
  · have h0 : 0 ≤ k := by omega
    go_wp2
    go_ret
    refine ⟨ret_bool ?_, (Below.refl _ _).alloc (Nat.le_refl _) _⟩
    have : decide (k ≤ 15) = false := by simp; omega
    unfold fieldsB; rw [this]; simp
  iterate 7
    · go_wp2_with fail
      refine (rname_any _ _ HS.out).mono ?_
      rintro e w1 ⟨rfl, hb⟩
      obtain ⟨hc, hf⟩ := bcell hb
      have HB : Hid (Below w.heap.size w w1) := ((Below.refl _ _).alloc (Nat.le_refl _) _).trans (hb.mono (by simp))
      clear hb
      cases hn : nameB s.toList
      · go_wp2
        go_ret
        exact ⟨ret_bool (by simp [fieldsB, namedB, hn]), HB.out⟩
      · go_wp2
        all_goals (go_ret; refine ⟨ret_bool ?_, HB.out⟩)
        all_goals (clear HB hc hf HS; first | (simp_all [fieldsB, namedB, numB]; done) | (simp [fieldsB, namedB, numB, hn]; omega))
  all_goals
    by_cases he : s.toList = []
    · go_wp2
      all_goals (go_ret; refine ⟨ret_bool ?_, (Below.refl _ _).alloc (Nat.le_refl _) _⟩)
      all_goals (clear HS; first | (simp_all [fieldsB, namedB, numB]; done) | (simp [fieldsB, namedB, numB, he]; omega))
    · have he2 : s.toList.isEmpty = false := by simpa using he
      go_wp2
      go_ret
      refine ⟨ret_bool ?_, (Below.refl _ _).alloc (Nat.le_refl _) _⟩
      simp [fieldsB, namedB, he]
end Go.Proofs.YtjngjanheoeojaaDoor
