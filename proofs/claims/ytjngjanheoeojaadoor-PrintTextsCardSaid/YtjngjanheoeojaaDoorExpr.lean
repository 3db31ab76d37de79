import Derived.Test.YtjngjanheoeojaaDoorNode
namespace Go.Proofs.YtjngjanheoeojaaDoor
set_option linter.unusedVariables false
set_option linter.unusedSimpArgs false
open Go.RowKit
theorem Ex.head {d : Nat} {l : List Nd} {lv : Nat} {t : List UInt8} (h : Ex d l lv t) : ∃ n l' k, l = n :: l' ∧ n.depth = d ∧ Fine n ∧ n.op = ((k : Nat) : Int) ∧ k < 16 ∧ lvl k = lv := by
  cases h using Ex.cas with
  | num d n hd hf hk => have := hf.ops; rw [hk] at this; simp [rOp0, rOp1] at this; exact ⟨n, [], 0, rfl, hd, hf, by omega, by decide, rfl⟩
  | bool d n hd hf hk => have := hf.ops; rw [hk] at this; simp [rOp0, rOp1] at this; exact ⟨n, [], 0, rfl, hd, hf, by omega, by decide, rfl⟩
  | read d n hd hf hk => have := hf.ops; rw [hk] at this; simp [rOp0, rOp1] at this; exact ⟨n, [], 0, rfl, hd, hf, by omega, by decide, rfl⟩
  | load d n e lv t hd hf hk _ => have := hf.ops; rw [hk] at this; simp [rOp0, rOp1] at this; exact ⟨n, e, 0, rfl, hd, hf, by omega, by decide, rfl⟩
  | unary d n e lv t hd hf hk _ =>
    have := hf.ops; rw [hk] at this; simp [rOp0, rOp1] at this
    have h2 : n.op = 1 ∨ n.op = 2 := by omega
    rcases h2 with h2 | h2
    · exact ⟨n, e, 1, rfl, hd, hf, h2, by decide, rfl⟩
    · exact ⟨n, e, 2, rfl, hd, hf, h2, by decide, rfl⟩
  | binary d n e f l1 l2 t u hd hf hk _ _ =>
    have := hf.ops; rw [hk] at this; simp [rOp0, rOp1] at this
    exact ⟨n, e ++ f, n.op.toNat, rfl, hd, hf, by omega, by omega, rfl⟩
set_option maxHeartbeats 2000000 in
theorem expr_of_bare (e bn bt b d : Nat) (l : List Nd) (lv : Nat) (t : List UInt8) (hx : Ex d l lv t) (hB : BareC e bn bt b l t) : ExprC e bn bt b l lv t := by
  obtain ⟨n, l', k, rfl, hd, hf, hop, hk16, hlv⟩ := hx.head
  clear hx
  subst hlv
  intro want r txt w hwant hP hE hG hlen
  have hhi := hP.hi
  have hmid := hP.mid
  have hes : e + 3 < w.heap.size := (Array.getElem?_eq_some_iff.1 hE.bare).1
  have a1 : w.cell? ⟨e, 0, none⟩ = some (.func (.func 21) #[] #[.pointer (some ⟨bn, 0, none⟩)]) := by rw [Lib.cell_of_heap hE.take]; rfl
  have hB2 := hB n l' rfl
  unfold ndVal at hB2
  simp only [hop] at hB2
  have HB : Hid _ := hB2
  clear hB2
  have HP : Hid _ := hP
  have HE : Hid _ := hE
  have HG : Hid _ := hG
  clear hP hE hG hB hd
  go_enter Tryd.func57, Tryd.ntmps57
  go_wp2_with fail
  refine (take_any bn bt b n (l' ++ r) txt w HP.out).mono ?_
  rintro x w1 ⟨rfl, hp1, hk1⟩
  have HE1 : Hid _ := HE.out.kept hk1 hmid
  have HG1 : Hid _ := HG.out.low hk1.low
  have HP1 : Hid _ := hp1
  have HK1 : Hid _ := hk1
  have hz1 := hk1.low.size
  have g1 := HG1.out.ops.level k hk16
  have c1 : w1.cell? ⟨e + 1, 0, none⟩ = some (.func (.func 19) #[] #[.pointer (some ⟨bt, 0, none⟩)]) := by rw [Lib.cell_of_heap HE1.out.say]; rfl
  have c3 : w1.cell? ⟨e + 3, 0, none⟩ = some (.func (.func 54) #[] #[.pointer (some ⟨e + 1, 0, none⟩), .pointer (some ⟨e + 2, 0, none⟩)]) := by rw [Lib.cell_of_heap HE1.out.bare]; rfl
  have hk2' : (k : Int) < 16 := by omega
  have hk3 : 0 ≤ (k : Int) := by omega
  have z1 : e + 1 < w1.heap.size := by omega
  have z3 : e + 3 < w1.heap.size := by omega
  have y1 : ¬ e + 1 = w1.heap.size := by omega
  have y3 : ¬ e + 3 = w1.heap.size := by omega
  have z5 : 1 < w1.heap.size := HG1.out.ops.lt
  have y5 : ¬ 1 = w1.heap.size := by omega
  clear hp1 hk1 a1
  unfold ndVal
  rw [hop]
  obtain ⟨W, hW⟩ : ∃ W, W = w1.alloc (.cells #[.int .i64 n.depth, .int .i64 n.kind, .string n.name, .int .i64 n.num, .int .i64 k, .int .i64 n.pos] 31) := ⟨_, rfl⟩
  have hB1 : Below w1.heap.size w1 W := by rw [hW]; exact (Below.refl _ _).alloc (Nat.le_refl _) _
  have HPW : Hid _ := HP1.out.below hB1
  have HEW : Hid _ := HE1.out.kept (Kp.of hB1 (by omega)) hmid
  have HGW : Hid _ := HG1.out.low (hB1.mono (by omega))
  have HKW : Hid (Kp bn bt w W) := HK1.out.trans (Kp.of hB1 (by omega))
  have HZ : Hid (w1.heap.size + 1 = W.heap.size) := by unfold Hid; rw [hW]; simp
  have HND : Hid (W.heap[w1.heap.size]? = some (.cells #[.int .i64 n.depth, .int .i64 n.kind, .string n.name, .int .i64 n.num, .int .i64 k, .int .i64 n.pos] 31 (0, 0))) := by unfold Hid; rw [hW]; exact heap_alloc_new _ _
  have HW : Hid _ := hW
  clear hW hB1
  by_cases hge : want ≤ lvl k
  · have hge' : (want : Int) ≤ (lvl k : Int) := by omega
    have hbk : brk want (lvl k) t = t := by unfold brk; rw [if_neg (by omega)]
    rw [hbk] at hlen
    have HBK : Hid _ := hbk
    clear hbk
    go_wp2_with fail
    rw [← HW.out]
    refine (HB.out r txt W HPW.out HEW.out HGW.out hlen).mono ?_
    rintro x w2 ⟨rfl, hp2, hk2⟩
    have HP2 : Hid _ := hp2
    have HK2 : Hid _ := hk2
    clear hp2 hk2
    go_wp2_with fail
    try simp only [Exit.inBlock, Exit.then]
    refine bodyPost_ret (results_none rfl _ _ _) rfl ?_
    rw [HBK.out]
    exact ⟨rfl, HP2.out, HKW.out.trans HK2.out⟩
  · have hge' : ¬ (want : Int) ≤ (lvl k : Int) := by omega
    have hbk : brk want (lvl k) t = 40 :: (t ++ [41]) := by unfold brk; rw [if_pos (by omega)]
    rw [hbk] at hlen
    have HBK : Hid _ := hbk
    clear hbk
    simp only [List.length_cons, List.length_append, List.length_nil] at hlen
    have HL1 : Hid (txt.length + (cat [⟨#[40]⟩]).length ≤ 1000000) := by unfold Hid; simp [cat]; omega
    have HL2 : Hid ((txt ++ cat [⟨#[40]⟩]).length + t.length ≤ 900000) := by unfold Hid; simp [cat]; omega
    have HL3 : Hid ((txt ++ cat [⟨#[40]⟩] ++ t).length + (cat [⟨#[41]⟩]).length ≤ 1000000) := by unfold Hid; simp [cat]; omega
    go_wp2_with fail
    rw [← HW.out]
    refine (say_pr bn bt b 1 1 _ _ _ W HZ.out [⟨#[40]⟩] _ rfl rfl HPW.out HL1.out (by simp)).mono ?_
    rintro x w2 ⟨rfl, hp2, hk2⟩
    have hlt0 := HEW.out.lt
    have HP2 : Hid _ := hp2
    have HE2 : Hid _ := HEW.out.kept hk2 hmid
    have HG2 : Hid _ := HGW.out.low hk2.low
    have HK2 : Hid (Kp bn bt w w2) := HKW.out.trans hk2
    have HND2 : Hid _ := hk2.blk HND.out (by omega) hmid (by decide)
    have d0 : w2.cell? ⟨w1.heap.size, 0, none⟩ = some (.int .i64 n.depth) := by rw [Lib.cell_of_heap HND2.out]; rfl
    have d1 : w2.cell? ⟨w1.heap.size, 1, none⟩ = some (.int .i64 n.kind) := by rw [Lib.cell_of_heap HND2.out]; rfl
    have d2 : w2.cell? ⟨w1.heap.size, 2, none⟩ = some (.string n.name) := by rw [Lib.cell_of_heap HND2.out]; rfl
    have d3 : w2.cell? ⟨w1.heap.size, 3, none⟩ = some (.int .i64 n.num) := by rw [Lib.cell_of_heap HND2.out]; rfl
    have d4 : w2.cell? ⟨w1.heap.size, 4, none⟩ = some (.int .i64 k) := by rw [Lib.cell_of_heap HND2.out]; rfl
    have d5 : w2.cell? ⟨w1.heap.size, 5, none⟩ = some (.int .i64 n.pos) := by rw [Lib.cell_of_heap HND2.out]; rfl
    have c4 : w2.cell? ⟨e + 3, 0, none⟩ = some (.func (.func 54) #[] #[.pointer (some ⟨e + 1, 0, none⟩), .pointer (some ⟨e + 2, 0, none⟩)]) := by rw [Lib.cell_of_heap HE2.out.bare]; rfl
    clear hp2 hk2 c1 c3 g1
    go_wp2_with fail
    refine (HB.out r _ w2 HP2.out HE2.out HG2.out HL2.out).mono ?_
    rintro x w3 ⟨rfl, hp3, hk3⟩
    have HP3 : Hid _ := hp3
    have HE3 : Hid _ := HE2.out.kept hk3 hmid
    have HK3 : Hid (Kp bn bt w w3) := HK2.out.trans hk3
    have c5 : w3.cell? ⟨e + 1, 0, none⟩ = some (.func (.func 19) #[] #[.pointer (some ⟨bt, 0, none⟩)]) := by rw [Lib.cell_of_heap HE3.out.say]; rfl
    clear hp3 hk3 c4 d0 d1 d2 d3 d4 d5
    go_wp2_with fail
    refine (say_pr bn bt b 1 1 _ _ _ w3 rfl [⟨#[41]⟩] _ rfl rfl HP3.out HL3.out (by simp)).mono ?_
    rintro x w4 ⟨rfl, hp4, hk4⟩
    have HP4 : Hid _ := hp4
    have HK4 : Hid (Kp bn bt w w4) := HK3.out.trans hk4
    clear hp4 hk4
    go_wp2_with fail
    go_end0
    rw [HBK.out]
    refine ⟨rfl, ?_, HK4.out⟩
    have h9 := HP4.out
    simpa [cat] using h9
theorem expr_any {e bn bt b d : Nat} {l : List Nd} {lv : Nat} {t : List UInt8} (h : Ex d l lv t) : ExprC e bn bt b l lv t := by
  refine expr_of_bare e bn bt b d l lv t h ?_
  induction h using Ex.indu with
  | num d n hd hf hk => exact bare_num e bn bt b d n hd hf hk
  | bool d n hd hf hk => exact bare_bool e bn bt b d n hd hf hk
  | read d n hd hf hk => exact bare_read e bn bt b d n hd hf hk
  | load d n f lv t hd hf hk h ih => exact bare_load e bn bt b d n hd hf f lv t hk (expr_of_bare e bn bt b _ f lv t h ih)
  | unary d n f lv t hd hf hk h ih =>
    have := hf.ops; rw [hk] at this; simp [rOp0, rOp1] at this
    exact bare_unary e bn bt b d n hd hf f lv t hk n.op.toNat (by omega) (by omega) (expr_of_bare e bn bt b _ f lv t h ih)
  | binary d n f f2 l1 l2 t u hd hf hk h1 h2 ih1 ih2 =>
    have := hf.ops; rw [hk] at this; simp [rOp0, rOp1] at this
    exact bare_binary e bn bt b d n hd hf f f2 l1 l2 t u hk n.op.toNat (by omega) (by omega) (expr_of_bare e bn bt b _ f l1 t h1 ih1) (expr_of_bare e bn bt b _ f2 l2 u h2 ih2)
end Go.Proofs.YtjngjanheoeojaaDoor
