import Derived.Test.YtjngjanheoeojaaDoorText
namespace Go.Proofs.YtjngjanheoeojaaDoor
set_option linter.unusedVariables false
set_option linter.unusedSimpArgs false
open Go.RowKit
def xN : ByteArray := ⟨#[120]⟩
def f1 : Nd := ⟨1, 2, ⟨#[120]⟩, 0, 0, 0⟩
def f2 : Nd := ⟨2, 15, ⟨#[]⟩, 0, 5, 0⟩
def f3 : Nd := ⟨3, 15, ⟨#[]⟩, 0, 3, 0⟩
def f4 : Nd := ⟨4, 10, ⟨#[]⟩, 1, 0, 0⟩
def f5 : Nd := ⟨4, 10, ⟨#[]⟩, 2, 0, 0⟩
def f6 : Nd := ⟨3, 10, ⟨#[]⟩, 3, 0, 0⟩
theorem fitN_eq (n : Nd) (l : List UInt8) (h : n.name.data.toList = l) : fitN n = (decide (0 ≤ n.kind) && decide (n.kind ≤ 15) && fitB n.kind.toNat l n.num n.op) := by
  unfold fitN; rw [ByteArray.toList_eq, h]
theorem fit1 : fitN f1 = true := by rw [fitN_eq f1 [120] rfl]; decide
theorem fit2 : fitN f2 = true := by rw [fitN_eq f2 [] rfl]; decide
theorem fit3 : fitN f3 = true := by rw [fitN_eq f3 [] rfl]; decide
theorem fit4 : fitN f4 = true := by rw [fitN_eq f4 [] rfl]; decide
theorem fit5 : fitN f5 = true := by rw [fitN_eq f5 [] rfl]; decide
theorem fit6 : fitN f6 = true := by rw [fitN_eq f6 [] rfl]; decide
theorem shape_f : shapeD [f1, f2, f3, f4, f5, f6] = (0, 0) := by
  unfold shapeD
  rw [if_neg (by decide)]
  simp only [runD, fit1, fit2, fit3, fit4, fit5, fit6]
  decide
theorem shape_g : shapeD [f1] = (33, 1) := by
  unfold shapeD
  rw [if_neg (by decide)]
  simp only [runD, fit1]
  decide
def fP : Parts := [([f1, f2, f3, f4, f5, f6], [ind 0 ++ ([120] ++ ([32, 58, 61, 32] ++ (brk 1 5 (brk 5 4 (brk 4 7 [49] ++ 32 :: ([43] ++ 32 :: brk 5 7 [50])) ++ 32 :: ([42] ++ 32 :: brk 6 7 [51])) ++ [59])))])]
theorem itoa1 : Lib.itoa 1 = [49] ∧ Lib.itoa 2 = [50] ∧ Lib.itoa 3 = [51] := by
  refine ⟨?_, ?_, ?_⟩ <;> (unfold Lib.itoa; rw [if_neg (by decide)]; first | exact Lib.decDigits_one (by decide))
theorem stF : ∀ p ∈ fP, St 0 p.1 p.2 := by
  intro p hp
  simp only [fP, List.mem_singleton] at hp
  subst hp
  have e4 : Ex 4 [f4] 7 [49] := by have := Ex.num 4 f4 rfl ⟨fit4, by decide⟩ rfl; rwa [show f4.num = 1 from rfl, itoa1.1] at this
  have e5 : Ex 4 [f5] 7 [50] := by have := Ex.num 4 f5 rfl ⟨fit5, by decide⟩ rfl; rwa [show f5.num = 2 from rfl, itoa1.2.1] at this
  have e6 : Ex 3 [f6] 7 [51] := by have := Ex.num 3 f6 rfl ⟨fit6, by decide⟩ rfl; rwa [show f6.num = 3 from rfl, itoa1.2.2] at this
  have e3 : Ex 3 [f3, f4, f5] 4 (brk 4 7 [49] ++ 32 :: ([43] ++ 32 :: brk 5 7 [50])) := Ex.binary 3 f3 [f4] [f5] 7 7 [49] [50] rfl ⟨fit3, by decide⟩ rfl e4 e5
  have e2 : Ex 2 [f2, f3, f4, f5, f6] 5 (brk 5 4 (brk 4 7 [49] ++ 32 :: ([43] ++ 32 :: brk 5 7 [50])) ++ 32 :: ([42] ++ 32 :: brk 6 7 [51])) := Ex.binary 2 f2 [f3, f4, f5] [f6] 4 7 _ [51] rfl ⟨fit2, by decide⟩ rfl e3 e6
  have := St.assign 0 f1 _ _ _ rfl ⟨fit1, by decide⟩ rfl e2
  rw [show f1.name.toList = [120] by rw [ByteArray.toList_eq]; rfl] at this
  exact this
theorem outF : outT fP = [120, 32, 58, 61, 32, 40, 49, 32, 43, 32, 50, 41, 32, 42, 32, 51, 59, 10] ∧ outE fP = 0 := by
  constructor <;> decide
theorem okF : (∀ n ∈ nodesOf fP, n.Ok) ∧ (∀ n ∈ [f1], n.Ok) := by
  constructor
  · intro n hn
    simp only [fP, nodesOf, List.map_cons, List.map_nil, List.flatten_cons, List.flatten_nil, List.append_nil, List.mem_cons, List.not_mem_nil, or_false] at hn
    rcases hn with rfl | rfl | rfl | rfl | rfl | rfl <;> exact ⟨by unfold maxLen; decide, by decide, by decide, by decide⟩
  · intro n hn
    simp at hn
    subst hn
    exact ⟨by unfold maxLen; decide, by decide, by decide, by decide⟩
/-- The cells of a list of nodes. -/
def ndCells (n : Nd) : List Value := [.int .i64 n.depth, .int .i64 n.kind, .string n.name, .int .i64 n.num, .int .i64 n.op, .int .i64 n.pos]
def flatN : List Nd → List Value
  | [] => []
  | n :: t => .int .i64 n.depth :: .int .i64 n.kind :: .string n.name :: .int .i64 n.num :: .int .i64 n.op :: .int .i64 n.pos :: flatN t
theorem flatN_len (ns : List Nd) : (flatN ns).length = ns.length * 6 := by
  induction ns with
  | nil => rfl
  | cons n t ih => simp only [flatN, List.length_cons, ih]; omega
theorem flatN_app (a c : List Nd) : flatN (a ++ c) = flatN a ++ flatN c := by
  induction a with
  | nil => rfl
  | cons n t ih => simp only [flatN, List.cons_append, ih]
theorem flatN_get (ns : List Nd) (i : Nat) (h : i < ns.length) : (flatN ns)[i * 6]? = some (.int .i64 ns[i].depth) ∧ (flatN ns)[i * 6 + 1]? = some (.int .i64 ns[i].kind) ∧ (flatN ns)[i * 6 + 2]? = some (.string ns[i].name) ∧ (flatN ns)[i * 6 + 3]? = some (.int .i64 ns[i].num) ∧ (flatN ns)[i * 6 + 4]? = some (.int .i64 ns[i].op) ∧ (flatN ns)[i * 6 + 5]? = some (.int .i64 ns[i].pos) := by
  induction ns generalizing i with
  | nil => simp at h
  | cons n t ih =>
    cases i with
    | zero => exact ⟨rfl, rfl, rfl, rfl, rfl, rfl⟩
    | succ i =>
      have := ih i (by simpa using h)
      simp only [flatN, List.getElem_cons_succ]
      have e : ∀ k, (i + 1) * 6 + k = i * 6 + k + 1 + 1 + 1 + 1 + 1 + 1 := fun k => by omega
      have e0 : (i + 1) * 6 = i * 6 + 1 + 1 + 1 + 1 + 1 + 1 := by omega
      rw [e, e, e, e, e, e0]
      simp only [List.getElem?_cons_succ]
      exact this
theorem nodes_row {w : World} {g : Nat} {cs : Array Value} {T : TypeId} {fz : Nat × Nat} {ns : List Nd} (h : w.heap[g]? = some (.cells cs T fz)) (hc : cs.toList.take (ns.length * 6) = flatN ns) : NodesAt w g 0 ns := by
  have hlt := (Array.getElem?_eq_some_iff.1 h).1
  have key : ∀ (j : Nat) (v : Value), (flatN ns)[j]? = some v → w.cell? ⟨g, j, none⟩ = some v := by
    intro j v hv
    have hj : j < ns.length * 6 := by
      have := (List.getElem?_eq_some_iff.1 hv).1
      rw [flatN_len] at this
      exact this
    rw [← hc, List.getElem?_take, if_pos hj] at hv
    rw [Lib.cell_of_heap h, ← Array.getElem?_toList]
    exact hv
  refine ⟨hlt, ?_, ?_, ?_, ?_, ?_, ?_⟩ <;> intro i hi <;> obtain ⟨k0, k1, k2, k3, k4, k5⟩ := flatN_get ns i hi <;> rw [Nat.zero_add] <;> apply key <;> assumption
set_option maxHeartbeats 2000000 in
theorem fixed_any (w : World) (hG : G0 w) : Calls Tryd.prog 5 #[] w fun y w' => y = .returned (.bool true) ∧ Below w.heap.size w w' := by
  obtain ⟨W, hW⟩ : ∃ W, W = w.alloc (.cells #[.int .i64 1, .int .i64 2, .string ⟨#[120]⟩, .int .i64 0, .int .i64 0, .int .i64 0, .int .i64 2, .int .i64 15, .string ⟨#[]⟩, .int .i64 0, .int .i64 5, .int .i64 0, .int .i64 3, .int .i64 15, .string ⟨#[]⟩, .int .i64 0, .int .i64 3, .int .i64 0, .int .i64 4, .int .i64 10, .string ⟨#[]⟩, .int .i64 1, .int .i64 0, .int .i64 0, .int .i64 4, .int .i64 10, .string ⟨#[]⟩, .int .i64 2, .int .i64 0, .int .i64 0, .int .i64 3, .int .i64 10, .string ⟨#[]⟩, .int .i64 3, .int .i64 0, .int .i64 0] 31) := ⟨_, rfl⟩
  have hB : Below w.heap.size w W := by rw [hW]; exact (Below.refl _ _).alloc (Nat.le_refl _) _
  have hN : NodesAt W w.heap.size 0 (nodesOf fP) := nodes_row (by rw [hW]; exact heap_alloc_new _ _) rfl
  have HT : Hid (Calls Tryd.prog 6 #[.slice (some ⟨w.heap.size, 0, none⟩) 6 6] W fun y w' => y = .returned (.tuple #[.string ⟨#[120, 32, 58, 61, 32, 40, 49, 32, 43, 32, 50, 41, 32, 42, 32, 51, 59, 10]⟩, .int .i64 0]) ∧ Below W.heap.size W w') := by
    have h9 := text_ok w.heap.size 0 6 fP W okF.1 (hG.below hB) hN (by decide) (by unfold maxLen; decide) (by rw [show nodesOf fP = [f1, f2, f3, f4, f5, f6] from rfl, shape_f]) (by decide) stF
    rw [outF.1, outF.2] at h9
    exact h9
  have HG2 : Hid (∀ w', Below w.heap.size w w' → Calls Tryd.prog 6 #[.slice (some ⟨w'.heap.size, 0, none⟩) 1 1] (w'.alloc (.cells #[.int .i64 1, .int .i64 2, .string ⟨#[120]⟩, .int .i64 0, .int .i64 0, .int .i64 0] 31)) fun y w2 => y = .returned (.tuple #[.string ⟨#[]⟩, .int .i64 33]) ∧ Below w'.heap.size w' w2) := by
    intro w' hb
    have hb2 : Below w'.heap.size w' (w'.alloc (.cells #[.int .i64 1, .int .i64 2, .string ⟨#[120]⟩, .int .i64 0, .int .i64 0, .int .i64 0] 31)) := (Below.refl _ _).alloc (Nat.le_refl _) _
    have hN2 : NodesAt (w'.alloc (.cells #[.int .i64 1, .int .i64 2, .string ⟨#[120]⟩, .int .i64 0, .int .i64 0, .int .i64 0] 31)) w'.heap.size 0 [f1] := nodes_row (heap_alloc_new _ _) rfl
    have h9 := text_no w'.heap.size 0 1 [f1] _ okF.2 ((hG.below hb).below hb2) hN2 (by decide) (by unfold maxLen; decide) (by rw [shape_g]; decide)
    rw [shape_g] at h9
    exact h9.mono fun y w2 ⟨h1, h2⟩ => ⟨h1, hb2.trans (h2.mono (by simp))⟩
  have HB : Hid _ := hB
  have HW : Hid _ := hW
  clear hG hN hB hW
  go_enter Tryd.func5, Tryd.ntmps5
  go_wp2_with fail
  rw [← HW.out]
  refine Calls.mono HT.out ?_
  rintro y w1 ⟨rfl, hb1⟩
  have HB1 : Hid (Below w.heap.size w w1) := HB.out.trans (hb1.mono HB.out.size)
  clear hb1
  go_wp2_with fail
  refine Calls.mono (HG2.out _ HB1.out) ?_
  rintro y w2 ⟨rfl, hb2⟩
  have HB2 : Hid (Below w.heap.size w w2) := HB1.out.trans (hb2.mono HB1.out.size)
  clear hb2
  go_wp2_with fail
  go_ret
  exact ⟨rfl, HB2.out⟩
end Go.Proofs.YtjngjanheoeojaaDoor
