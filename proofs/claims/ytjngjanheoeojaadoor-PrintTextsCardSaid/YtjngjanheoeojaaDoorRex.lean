import Derived.Test.YtjngjanheoeojaaDoorHeld
import Derived.Test.YtjngjanheoeojaaDoorSgn
namespace Go.Proofs.YtjngjanheoeojaaDoor
set_option linter.unusedVariables false
set_option linter.unusedSimpArgs false
open Go.RowKit
theorem Ex.all {d : Nat} {l : List Nd} {lv : Nat} {t : List UInt8} (h : Ex d l lv t) : ∀ x ∈ l, (d : Int) ≤ x.depth := by
  induction h using Ex.indu with
  | num d n hd hf hk => intro x hx; simp at hx; subst hx; omega
  | bool d n hd hf hk => intro x hx; simp at hx; subst hx; omega
  | read d n hd hf hk => intro x hx; simp at hx; subst hx; omega
  | load d n f lv t hd hf hk hx ih => intro x hx; simp at hx; rcases hx with rfl | hx; omega; have := ih x hx; omega
  | unary d n f lv t hd hf hk hx ih => intro x hx; simp at hx; rcases hx with rfl | hx; omega; have := ih x hx; omega
  | binary d n f g l1 l2 t u hd hf hk hx hy ih1 ih2 =>
    intro x hx; simp at hx
    rcases hx with rfl | hx | hx
    · omega
    · have := ih1 x hx; omega
    · have := ih2 x hx; omega
theorem cut_of {d : Nat} {pre r post : List Nd} {n : Nd} (hd : n.depth = d) (hr : ∀ x ∈ r, (d : Int) < x.depth) (hp : Ends d post) : Cut (pre ++ (n :: r ++ post)) pre.length (pre.length + (r.length + 1)) := by
  have hl : (pre ++ (n :: r ++ post)).length = pre.length + (r.length + 1 + post.length) := by simp; omega
  have h0 : ∀ (h : pre.length < (pre ++ (n :: r ++ post)).length), (pre ++ (n :: r ++ post))[pre.length] = n := by intro h; simp
  have hp0 : ∀ (h : 0 < post.length), (post[0]).depth ≤ d := by
    intro h
    cases post with
    | nil => simp at h
    | cons m t => exact hp m t rfl
  refine ⟨by omega, by omega, by omega, ?_, ?_⟩
  · intro k h1 h2
    rw [h0, hd]
    have e : (pre ++ (n :: r ++ post))[k]'(by omega) = r[k - pre.length - 1]'(by omega) := by
      rw [List.getElem_append_right (by omega), List.getElem_append_left (by simp; omega)]
      rw [List.getElem_cons]
      split
      · omega
      · rfl
    rw [e]
    exact hr _ (List.getElem_mem _)
  · intro h
    rw [h0, hd]
    have e : (pre ++ (n :: r ++ post))[pre.length + (r.length + 1)] = post[0]'(by omega) := by
      rw [List.getElem_append_right (by omega), List.getElem_append_right (by simp)]
      simp
    rw [e]
    exact hp0 (by omega)
structure At (ns : List Nd) (i : Nat) (n : Nd) (ks : List Nat) : Prop where
  lt : i < ns.length
  get : ∀ h : i < ns.length, ns[i] = n
  held : ∃ E, Cut ns i E ∧ Chain ns E (i + 1) ks
theorem At.node {w : World} {b o i : Nat} {ns : List Nd} {n : Nd} {ks : List Nat} (hA : At ns i n ks) (h : NodesAt w b o ns) :
    w.cell? ⟨b, o + i * 6, none⟩ = some (.int .i64 n.depth) ∧ w.cell? ⟨b, o + i * 6 + 1, none⟩ = some (.int .i64 n.kind) ∧ w.cell? ⟨b, o + i * 6 + 2, none⟩ = some (.string n.name) ∧ w.cell? ⟨b, o + i * 6 + 3, none⟩ = some (.int .i64 n.num) ∧ w.cell? ⟨b, o + i * 6 + 4, none⟩ = some (.int .i64 n.op) ∧ w.cell? ⟨b, o + i * 6 + 5, none⟩ = some (.int .i64 n.pos) := by
  have hl := hA.lt
  have e := hA.get hl
  have h0 := h.c0 _ hl
  have h1 := h.c1 _ hl
  have h2 := h.c2 _ hl
  have h3 := h.c3 _ hl
  have h4 := h.c4 _ hl
  have h5 := h.c5 _ hl
  rw [e] at h0 h1 h2 h3 h4 h5
  exact ⟨h0, h1, h2, h3, h4, h5⟩
theorem At.held_any {ns : List Nd} {i : Nat} {n : Nd} {ks : List Nat} (hA : At ns i n ks) (b o cap : Nat) (w : World) (hN : NodesAt w b o ns) (hlen : ns.length ≤ 300) :
    Calls Tryd.prog 30 #[.slice (some ⟨b, o, none⟩) ns.length cap, .int .i64 i] w fun y w' => ∃ v, y = .returned v ∧ w'.ownsRow w.heap.size 3 1 v ks.length (ints ks) ∧ Below w.heap.size w w' := by
  obtain ⟨E, h1, h2⟩ := hA.held
  exact YtjngjanheoeojaaDoor.held_any b o cap i E ks ns w h1 h2 hN hlen
theorem wrap_lv (l : Nat) (h : l ≤ 5) : IntKind.i64.wrap ((l : Int) + 1) = ((l + 1 : Nat) : Int) := by
  have h2 : l = 0 ∨ l = 1 ∨ l = 2 ∨ l = 3 ∨ l = 4 ∨ l = 5 := by omega
  rcases h2 with rfl | rfl | rfl | rfl | rfl | rfl <;> decide
theorem fmt_any (v : Int) (h0 : -9223372036854775808 ≤ v) (h1 : v ≤ 9223372036854775807) (w : World) (hT : Lib.TabIs Tryd.prog w "internal/strconv.uint64pow10" .u64 Lib.pow10Tab) :
    Calls Tryd.prog 31 #[.int .i64 v, .int .i64 10] w fun e w' => e = .returned (.string ⟨(Lib.itoa v).toArray⟩) ∧ Below w.heap.size w w' := by
  refine (Tryd.strconv_FormatInt_10 v h0 h1 w hT).mono ?_
  rintro e w1 ⟨rfl, k, os, rfl⟩
  exact ⟨rfl, Lib.below_grow _ _ (Nat.le_refl _) _ _⟩
theorem str_eq {x : ByteArray} {l : List UInt8} (h : x.data.toList = l) : Ending.returned (.string x) = .returned (.string ⟨l.toArray⟩) := by
  subst h
  rfl
theorem bs_eq {x : ByteArray} {l : List UInt8} (h : x.data.toList = l) : x = ⟨l.toArray⟩ := by
  subst h
  rfl
theorem own_cells {w : World} {B : Nat} {v : Value} {ks : List Nat} (h : w.ownsRow B 3 1 v ks.length (ints ks)) (hk : 0 < ks.length) : ∃ g cap, v = .slice (some ⟨g, 0, none⟩) ks.length cap ∧ B ≤ g ∧ g < w.heap.size ∧ ∀ (j : Nat) (hj : j < ks.length), w.cell? ⟨g, j, none⟩ = some (.int .i64 (ks[j] : Nat)) := by
  rcases h.2 with ⟨_, h0⟩ | ⟨g, cap, cur, hv, hB, hg, hc1, hc2, hc3, hc4⟩
  · omega
  · have hlt := (Array.getElem?_eq_some_iff.1 hg).1
    refine ⟨g, cap, hv, hB, hlt, ?_⟩
    intro j hj
    rw [Lib.cell_of_heap hg]
    have e : cur.toList[j]? = (ints ks)[j]? := by
      rw [← hc4, List.getElem?_take, if_pos (by omega)]
    rw [← Array.getElem?_toList, e]
    simp [ints, hj]
set_option maxHeartbeats 2000000 in
theorem rex_num (b o cap i want k1 k2 : Nat) (ns : List Nd) (n : Nd) (w : World) (hA : At ns i n []) (hf : Fine n) (hk : n.kind = 10) (hN : NodesAt w b o ns) (hlen : ns.length ≤ 300) (hwant : want ≤ 7) (hG : G0 w) :
    Calls Tryd.prog 32 #[.slice (some ⟨b, o, none⟩) ns.length cap, .int .i64 i, .int .i64 want] w fun y w' => y = .returned (.string ⟨(brk want 7 (Lib.itoa n.num)).toArray⟩) ∧ Below w.heap.size w w' := by
  obtain ⟨c0, c1, c2, c3, c4, c5⟩ := hA.node hN
  have hz := hN.lt
  have hops := hf.ops
  rw [hk] at hops
  have hop : n.op = ((0 : Nat) : Int) := by simp [rOp0, rOp1] at hops; omega
  have hn1 : -9223372036854775808 ≤ n.num := by omega
  have hn2 : n.num ≤ 9223372036854775807 := by simp [rMost] at hops; omega
  have HLV : Hid _ := level_any n 0 hop (by omega) (.inl ⟨by omega, rfl⟩)
  unfold ndVal at HLV
  simp only [hk, hop] at HLV
  have hlt := hA.lt
  have hi : (i : Int) < (ns.length : Int) := by omega
  have HH : Hid (∀ w', Below w.heap.size w w' → Calls Tryd.prog 30 #[.slice (some ⟨b, o, none⟩) ns.length cap, .int .i64 i] w' fun y w2 => ∃ v, y = .returned v ∧ w2.ownsRow w'.heap.size 3 1 v ([]).length (ints ([])) ∧ Below w'.heap.size w' w2) := fun w' hb => hA.held_any b o cap w' (hN.below hb) hlen
  have hl3 : (ns.length : Int) ≤ 300 := by omega
  have hneb : ¬ b = w.heap.size := by omega
  have hB0 : Below w.heap.size w (w.alloc (.cells #[.int .i64 n.depth, .int .i64 n.kind, .string n.name, .int .i64 n.num, .int .i64 n.op, .int .i64 n.pos] 31)) := (Below.refl _ _).alloc (Nat.le_refl _) _
  have HN0 : Hid (NdAt (w.alloc (.cells #[.int .i64 n.depth, .int .i64 n.kind, .string n.name, .int .i64 n.num, .int .i64 n.op, .int .i64 n.pos] 31)) w.heap.size n) := heap_alloc_new _ _
  have HG : Hid _ := hG
  have HNS : Hid _ := hN
  clear hA hN hops hG
  rw [hk, hop] at hB0
  simp only [hk, hop] at HN0
  rw [hk] at c1
  rw [hop] at c4
  have HB0 : Hid _ := hB0
  have HHK : Hid _ := hk
  have HHO : Hid _ := hop
  clear hB0 hk hop
  go_enter Tryd.func32, Tryd.ntmps32
  go_wp2_with fail
  refine (HH.out _ HB0.out).mono ?_
  rintro y w2 ⟨v, rfl, ho2, hb2⟩
  have HB2 : Hid (Below w.heap.size w w2) := HB0.out.trans (hb2.mono HB0.out.size)
  have HN2 : Hid (NdAt w2 w.heap.size n) := HN0.out.below hb2
  have HO2 : Hid _ := ho2
  have hz2 := HN2.out.lt
  clear hb2 ho2 c0 c1 c2 c3 c4 c5
  obtain ⟨d0, d1, d2, d3, d4, d5⟩ := HN2.out.cells
  rw [HHK.out] at d1
  rw [HHO.out] at d4
  go_wp2_with fail
  refine (fmt_any n.num hn1 hn2 w2 (HG.out.below HB2.out).tab).mono ?_
  rintro y w3 ⟨rfl, hb3⟩
  have HB3 : Hid (Below w.heap.size w w3) := HB2.out.trans (hb3.mono HB2.out.size)
  have HN3 : Hid (NdAt w3 w.heap.size n) := HN2.out.below hb3
  have hz3 := HN3.out.lt
  clear hb3 d0 d1 d2 d3 d4 d5
  obtain ⟨d0, d1, d2, d3, d4, d5⟩ := HN3.out.cells
  rw [HHK.out] at d1
  rw [HHO.out] at d4
  go_wp2_with fail
  refine Calls.mono (HLV.out _) ?_
  rintro y w4 ⟨rfl, hb4⟩
  have HB4 : Hid (Below w.heap.size w w4) := HB3.out.trans (hb4.mono HB3.out.size)
  clear hb4 d0 d1 d2 d3 d4 d5
  by_cases hlw : 7 < want
  · exact absurd hlw (by omega)
  · have hlw' : ¬ (7 : Int) < (want : Int) := by omega
    have HBK : Hid (brk want 7 (Lib.itoa n.num) = Lib.itoa n.num) := by unfold Hid brk; rw [if_neg hlw]
    go_wp2_with fail
    go_ret
    rw [HBK.out]
    exact ⟨str_eq (by simp [ByteArray.toList_eq]), HB4.out⟩
set_option maxHeartbeats 2000000 in
theorem rex_bool (b o cap i want k1 k2 : Nat) (ns : List Nd) (n : Nd) (w : World) (hA : At ns i n []) (hf : Fine n) (hk : n.kind = 11) (hN : NodesAt w b o ns) (hlen : ns.length ≤ 300) (hwant : want ≤ 7) (hG : G0 w) :
    Calls Tryd.prog 32 #[.slice (some ⟨b, o, none⟩) ns.length cap, .int .i64 i, .int .i64 want] w fun y w' => y = .returned (.string ⟨(brk want 7 (boolT n.num)).toArray⟩) ∧ Below w.heap.size w w' := by
  obtain ⟨c0, c1, c2, c3, c4, c5⟩ := hA.node hN
  have hz := hN.lt
  have hops := hf.ops
  rw [hk] at hops
  have hop : n.op = ((0 : Nat) : Int) := by simp [rOp0, rOp1] at hops; omega
  have HLV : Hid _ := level_any n 0 hop (by omega) (.inl ⟨by omega, rfl⟩)
  unfold ndVal at HLV
  simp only [hk, hop] at HLV
  have hlt := hA.lt
  have hi : (i : Int) < (ns.length : Int) := by omega
  have HH : Hid (∀ w', Below w.heap.size w w' → Calls Tryd.prog 30 #[.slice (some ⟨b, o, none⟩) ns.length cap, .int .i64 i] w' fun y w2 => ∃ v, y = .returned v ∧ w2.ownsRow w'.heap.size 3 1 v ([]).length (ints ([])) ∧ Below w'.heap.size w' w2) := fun w' hb => hA.held_any b o cap w' (hN.below hb) hlen
  have hl3 : (ns.length : Int) ≤ 300 := by omega
  have hneb : ¬ b = w.heap.size := by omega
  have hB0 : Below w.heap.size w (w.alloc (.cells #[.int .i64 n.depth, .int .i64 n.kind, .string n.name, .int .i64 n.num, .int .i64 n.op, .int .i64 n.pos] 31)) := (Below.refl _ _).alloc (Nat.le_refl _) _
  have HN0 : Hid (NdAt (w.alloc (.cells #[.int .i64 n.depth, .int .i64 n.kind, .string n.name, .int .i64 n.num, .int .i64 n.op, .int .i64 n.pos] 31)) w.heap.size n) := heap_alloc_new _ _
  have HG : Hid _ := hG
  have HNS : Hid _ := hN
  clear hA hN hops hG
  rw [hk, hop] at hB0
  simp only [hk, hop] at HN0
  rw [hk] at c1
  rw [hop] at c4
  have HB0 : Hid _ := hB0
  have HHK : Hid _ := hk
  have HHO : Hid _ := hop
  clear hB0 hk hop
  go_enter Tryd.func32, Tryd.ntmps32
  go_wp2_with fail
  refine (HH.out _ HB0.out).mono ?_
  rintro y w2 ⟨v, rfl, ho2, hb2⟩
  have HB2 : Hid (Below w.heap.size w w2) := HB0.out.trans (hb2.mono HB0.out.size)
  have HN2 : Hid (NdAt w2 w.heap.size n) := HN0.out.below hb2
  have HO2 : Hid _ := ho2
  have hz2 := HN2.out.lt
  clear hb2 ho2 c0 c1 c2 c3 c4 c5
  obtain ⟨d0, d1, d2, d3, d4, d5⟩ := HN2.out.cells
  rw [HHK.out] at d1
  rw [HHO.out] at d4
  by_cases h1 : n.num = 1
  · have HBT : Hid (boolT n.num = [116, 114, 117, 101]) := by unfold Hid boolT; rw [if_pos h1]
    rw [h1] at d3
    simp only [h1] at HLV
    replace h1 : Hid (n.num = 1) := h1
    go_wp2_with fail
    refine Calls.mono (HLV.out _) ?_
    rintro y w3 ⟨rfl, hb3⟩
    have HB3 : Hid (Below w.heap.size w w3) := HB2.out.trans (hb3.mono HB2.out.size)
    clear hb3 d0 d1 d2 d3 d4 d5
    by_cases hlw : 7 < want
    · exact absurd hlw (by omega)
    · have hlw' : ¬ (7 : Int) < (want : Int) := by omega
      have HBK : Hid (brk want 7 (boolT n.num) = boolT n.num) := by unfold Hid brk; rw [if_neg hlw]
      go_wp2_with fail
      go_ret
      rw [HBK.out]
      exact ⟨str_eq (by simp [ByteArray.toList_eq, HBT.out]), HB3.out⟩
  · have HBT : Hid (boolT n.num = [102, 97, 108, 115, 101]) := by unfold Hid boolT; rw [if_neg h1]
    have h1' : (n.num == 1) = false := by rw [beq_eq_false_iff_ne]; exact h1
    go_wp2_with fail
    refine Calls.mono (HLV.out _) ?_
    rintro y w3 ⟨rfl, hb3⟩
    have HB3 : Hid (Below w.heap.size w w3) := HB2.out.trans (hb3.mono HB2.out.size)
    clear hb3 d0 d1 d2 d3 d4 d5
    by_cases hlw : 7 < want
    · exact absurd hlw (by omega)
    · have hlw' : ¬ (7 : Int) < (want : Int) := by omega
      have HBK : Hid (brk want 7 (boolT n.num) = boolT n.num) := by unfold Hid brk; rw [if_neg hlw]
      go_wp2_with fail
      go_ret
      rw [HBK.out]
      exact ⟨str_eq (by simp [ByteArray.toList_eq, HBT.out]), HB3.out⟩
set_option maxHeartbeats 2000000 in
theorem rex_read (b o cap i want k1 k2 : Nat) (ns : List Nd) (n : Nd) (w : World) (hA : At ns i n []) (hf : Fine n) (hk : n.kind = 12) (hN : NodesAt w b o ns) (hlen : ns.length ≤ 300) (hwant : want ≤ 7) (hG : G0 w) :
    Calls Tryd.prog 32 #[.slice (some ⟨b, o, none⟩) ns.length cap, .int .i64 i, .int .i64 want] w fun y w' => y = .returned (.string ⟨(brk want 7 (n.name.toList)).toArray⟩) ∧ Below w.heap.size w w' := by
  obtain ⟨c0, c1, c2, c3, c4, c5⟩ := hA.node hN
  have hz := hN.lt
  have hops := hf.ops
  rw [hk] at hops
  have hop : n.op = ((0 : Nat) : Int) := by simp [rOp0, rOp1] at hops; omega
  have HLV : Hid _ := level_any n 0 hop (by omega) (.inl ⟨by omega, rfl⟩)
  unfold ndVal at HLV
  simp only [hk, hop] at HLV
  have hlt := hA.lt
  have hi : (i : Int) < (ns.length : Int) := by omega
  have HH : Hid (∀ w', Below w.heap.size w w' → Calls Tryd.prog 30 #[.slice (some ⟨b, o, none⟩) ns.length cap, .int .i64 i] w' fun y w2 => ∃ v, y = .returned v ∧ w2.ownsRow w'.heap.size 3 1 v ([]).length (ints ([])) ∧ Below w'.heap.size w' w2) := fun w' hb => hA.held_any b o cap w' (hN.below hb) hlen
  have hl3 : (ns.length : Int) ≤ 300 := by omega
  have hneb : ¬ b = w.heap.size := by omega
  have hB0 : Below w.heap.size w (w.alloc (.cells #[.int .i64 n.depth, .int .i64 n.kind, .string n.name, .int .i64 n.num, .int .i64 n.op, .int .i64 n.pos] 31)) := (Below.refl _ _).alloc (Nat.le_refl _) _
  have HN0 : Hid (NdAt (w.alloc (.cells #[.int .i64 n.depth, .int .i64 n.kind, .string n.name, .int .i64 n.num, .int .i64 n.op, .int .i64 n.pos] 31)) w.heap.size n) := heap_alloc_new _ _
  have HG : Hid _ := hG
  have HNS : Hid _ := hN
  clear hA hN hops hG
  rw [hk, hop] at hB0
  simp only [hk, hop] at HN0
  rw [hk] at c1
  rw [hop] at c4
  have HB0 : Hid _ := hB0
  have HHK : Hid _ := hk
  have HHO : Hid _ := hop
  clear hB0 hk hop
  go_enter Tryd.func32, Tryd.ntmps32
  go_wp2_with fail
  refine (HH.out _ HB0.out).mono ?_
  rintro y w2 ⟨v, rfl, ho2, hb2⟩
  have HB2 : Hid (Below w.heap.size w w2) := HB0.out.trans (hb2.mono HB0.out.size)
  have HN2 : Hid (NdAt w2 w.heap.size n) := HN0.out.below hb2
  have HO2 : Hid _ := ho2
  have hz2 := HN2.out.lt
  clear hb2 ho2 c0 c1 c2 c3 c4 c5
  obtain ⟨d0, d1, d2, d3, d4, d5⟩ := HN2.out.cells
  rw [HHK.out] at d1
  rw [HHO.out] at d4
  go_wp2_with fail
  refine Calls.mono (HLV.out _) ?_
  rintro y w3 ⟨rfl, hb3⟩
  have HB3 : Hid (Below w.heap.size w w3) := HB2.out.trans (hb3.mono HB2.out.size)
  clear hb3 d0 d1 d2 d3 d4 d5
  by_cases hlw : 7 < want
  · exact absurd hlw (by omega)
  · have hlw' : ¬ (7 : Int) < (want : Int) := by omega
    have HBK : Hid (brk want 7 (n.name.toList) = n.name.toList) := by unfold Hid brk; rw [if_neg hlw]
    go_wp2_with fail
    go_ret
    rw [HBK.out]
    exact ⟨str_eq (by simp [ByteArray.toList_eq]), HB3.out⟩
set_option maxHeartbeats 2000000 in
theorem rex_load (b o cap i want k1 k2 : Nat) (ns : List Nd) (n : Nd) (w : World) (hA : At ns i n [k1]) (hf : Fine n) (hk : n.kind = 13) (lv1 : Nat) (t1 : List UInt8) (hk1 : k1 ≤ 300) (hbl : (brk 1 lv1 t1).length ≤ 100000) (IH : ∀ w', Below w.heap.size w w' → Calls Tryd.prog 32 #[.slice (some ⟨b, o, none⟩) ns.length cap, .int .i64 k1, .int .i64 1] w' fun y w2 => y = .returned (.string ⟨(brk 1 lv1 t1).toArray⟩) ∧ Below w'.heap.size w' w2) (hN : NodesAt w b o ns) (hlen : ns.length ≤ 300) (hwant : want ≤ 7) (hG : G0 w) :
    Calls Tryd.prog 32 #[.slice (some ⟨b, o, none⟩) ns.length cap, .int .i64 i, .int .i64 want] w fun y w' => y = .returned (.string ⟨(brk want 7 (n.name.toList ++ 91 :: (brk 1 lv1 t1 ++ [93]))).toArray⟩) ∧ Below w.heap.size w w' := by
  obtain ⟨c0, c1, c2, c3, c4, c5⟩ := hA.node hN
  have hz := hN.lt
  have hops := hf.ops
  rw [hk] at hops
  have hop : n.op = ((0 : Nat) : Int) := by simp [rOp0, rOp1] at hops; omega
  have HLV : Hid _ := level_any n 0 hop (by omega) (.inl ⟨by omega, rfl⟩)
  unfold ndVal at HLV
  simp only [hk, hop] at HLV
  have hlt := hA.lt
  have hi : (i : Int) < (ns.length : Int) := by omega
  have HH : Hid (∀ w', Below w.heap.size w w' → Calls Tryd.prog 30 #[.slice (some ⟨b, o, none⟩) ns.length cap, .int .i64 i] w' fun y w2 => ∃ v, y = .returned v ∧ w2.ownsRow w'.heap.size 3 1 v ([k1]).length (ints ([k1])) ∧ Below w'.heap.size w' w2) := fun w' hb => hA.held_any b o cap w' (hN.below hb) hlen
  have hl3 : (ns.length : Int) ≤ 300 := by omega
  have hneb : ¬ b = w.heap.size := by omega
  have hB0 : Below w.heap.size w (w.alloc (.cells #[.int .i64 n.depth, .int .i64 n.kind, .string n.name, .int .i64 n.num, .int .i64 n.op, .int .i64 n.pos] 31)) := (Below.refl _ _).alloc (Nat.le_refl _) _
  have HN0 : Hid (NdAt (w.alloc (.cells #[.int .i64 n.depth, .int .i64 n.kind, .string n.name, .int .i64 n.num, .int .i64 n.op, .int .i64 n.pos] 31)) w.heap.size n) := heap_alloc_new _ _
  have HG : Hid _ := hG
  have HNS : Hid _ := hN
  clear hA hN hops hG
  rw [hk, hop] at hB0
  simp only [hk, hop] at HN0
  rw [hk] at c1
  rw [hop] at c4
  have HB0 : Hid _ := hB0
  have HHK : Hid _ := hk
  have HHO : Hid _ := hop
  clear hB0 hk hop
  go_enter Tryd.func32, Tryd.ntmps32
  go_wp2_with fail
  refine (HH.out _ HB0.out).mono ?_
  rintro y w2 ⟨v, rfl, ho2, hb2⟩
  have HB2 : Hid (Below w.heap.size w w2) := HB0.out.trans (hb2.mono HB0.out.size)
  have HN2 : Hid (NdAt w2 w.heap.size n) := HN0.out.below hb2
  have HO2 : Hid _ := ho2
  have hz2 := HN2.out.lt
  clear hb2 ho2 c0 c1 c2 c3 c4 c5
  obtain ⟨d0, d1, d2, d3, d4, d5⟩ := HN2.out.cells
  rw [HHK.out] at d1
  rw [HHO.out] at d4
  have HIH : Hid _ := IH
  clear IH
  have hnm := hf.name
  rw [toList_len] at hnm
  have q1a : ¬ 9223372036854775807 < n.name.size + 1 := by omega
  have q1b : n.name.size + 1 ≤ 9223372036854775807 := by omega
  have q1c : decide (9223372036854775807 < n.name.size + 1) = false := decide_eq_false (by omega)
  have q2a : ¬ 9223372036854775807 < n.name.size + 1 + (brk 1 lv1 t1).length := by omega
  have q2b : n.name.size + 1 + (brk 1 lv1 t1).length ≤ 9223372036854775807 := by omega
  have q2c : decide (9223372036854775807 < n.name.size + 1 + (brk 1 lv1 t1).length) = false := decide_eq_false (by omega)
  have q3a : ¬ 9223372036854775807 < n.name.size + 1 + (brk 1 lv1 t1).length + 1 := by omega
  have q3b : n.name.size + 1 + (brk 1 lv1 t1).length + 1 ≤ 9223372036854775807 := by omega
  have q3c : decide (9223372036854775807 < n.name.size + 1 + (brk 1 lv1 t1).length + 1) = false := decide_eq_false (by omega)
  obtain ⟨g, gc, rfl, hg1, hg2, hgc⟩ := own_cells HO2.out (by simp)
  have r0 : w2.cell? ⟨g, 0, none⟩ = some (.int .i64 k1) := hgc 0 (by simp)
  clear hgc
  go_wp2_with fail
  go_region_held3 (fun w' => w'.cell? ⟨w.heap.size, 2, none⟩ = some (.string n.name) ∧ w'.cell? ⟨g, 0, none⟩ = some (.int .i64 k1)) (go_keep)
    (first
    | (go_at_call 32; refine (HIH.out _ HB2.out.drew).mono ?_; rintro y w3 ⟨rfl, hb3⟩; have HB3 : Hid (Below w.heap.size w w3) := HB2.out.drew.trans (hb3.mono HB2.out.size); have HN3 : Hid (NdAt w3 w.heap.size n) := (HN2.out.below (Below.refl _ _).drew).below hb3; have hz3 := HN3.out.lt; have dn3 := HN3.out.cells.2.2.1; have hg_3 : g < w3.heap.size := (by have h8 := hb3.size; have h7 : w2.heap.size ≤ w3.heap.size := h8; omega); have r0_3 : w3.cell? ⟨g, 0, none⟩ = some (.int .i64 k1) := (hb3.cell (p := ⟨g, 0, none⟩) hg2).trans r0))
  clear dn3 r0_3 r0 hb3 d0 d1 d2 d3 d4 d5
  obtain ⟨d0, d1, d2, d3, d4, d5⟩ := HN3.out.cells
  rw [HHK.out] at d1
  rw [HHO.out] at d4
  go_wp2_with fail
  refine Calls.mono (HLV.out _) ?_
  rintro y w4 ⟨rfl, hb4⟩
  have HB4 : Hid (Below w.heap.size w w4) := HB3.out.trans (hb4.mono HB3.out.size)
  clear hb4 d0 d1 d2 d3 d4 d5
  by_cases hlw : 7 < want
  · exact absurd hlw (by omega)
  · have hlw' : ¬ (7 : Int) < (want : Int) := by omega
    have HBK : Hid (brk want 7 (n.name.toList ++ 91 :: (brk 1 lv1 t1 ++ [93])) = n.name.toList ++ 91 :: (brk 1 lv1 t1 ++ [93])) := by unfold Hid brk; rw [if_neg hlw]
    go_wp2_with fail
    go_ret
    rw [HBK.out]
    exact ⟨str_eq (by simp [ByteArray.toList_eq]), HB4.out⟩
set_option maxHeartbeats 2000000 in
theorem rex_unary (b o cap i want k1 k2 : Nat) (ns : List Nd) (n : Nd) (w : World) (hA : At ns i n [k1]) (hf : Fine n) (hk : n.kind = 14) (k : Nat) (hop : n.op = k) (hkr : k = 1 ∨ k = 2) (lv1 : Nat) (t1 : List UInt8) (hk1 : k1 ≤ 300) (hbl : (brk 6 lv1 t1).length ≤ 100000) (IH : ∀ w', Below w.heap.size w w' → Calls Tryd.prog 32 #[.slice (some ⟨b, o, none⟩) ns.length cap, .int .i64 k1, .int .i64 6] w' fun y w2 => y = .returned (.string ⟨(brk 6 lv1 t1).toArray⟩) ∧ Below w'.heap.size w' w2) (hN : NodesAt w b o ns) (hlen : ns.length ≤ 300) (hwant : want ≤ 7) (hG : G0 w) :
    Calls Tryd.prog 32 #[.slice (some ⟨b, o, none⟩) ns.length cap, .int .i64 i, .int .i64 want] w fun y w' => y = .returned (.string ⟨(brk want (lvl k) (sgn k ++ brk 6 lv1 t1)).toArray⟩) ∧ Below w.heap.size w w' := by
  obtain ⟨c0, c1, c2, c3, c4, c5⟩ := hA.node hN
  have hz := hN.lt
  have hops := hf.ops
  rw [hk] at hops
  have hkk : 0 ≤ (k : Int) := by omega
  have hk16 : k < 16 := by omega
  have HLV : Hid _ := level_any n k hop (by omega) (.inr (.inl ⟨hk, hkr⟩))
  unfold ndVal at HLV
  simp only [hk, hop] at HLV
  have hlt := hA.lt
  have hi : (i : Int) < (ns.length : Int) := by omega
  have HH : Hid (∀ w', Below w.heap.size w w' → Calls Tryd.prog 30 #[.slice (some ⟨b, o, none⟩) ns.length cap, .int .i64 i] w' fun y w2 => ∃ v, y = .returned v ∧ w2.ownsRow w'.heap.size 3 1 v ([k1]).length (ints ([k1])) ∧ Below w'.heap.size w' w2) := fun w' hb => hA.held_any b o cap w' (hN.below hb) hlen
  have hl3 : (ns.length : Int) ≤ 300 := by omega
  have hneb : ¬ b = w.heap.size := by omega
  have hB0 : Below w.heap.size w (w.alloc (.cells #[.int .i64 n.depth, .int .i64 n.kind, .string n.name, .int .i64 n.num, .int .i64 n.op, .int .i64 n.pos] 31)) := (Below.refl _ _).alloc (Nat.le_refl _) _
  have HN0 : Hid (NdAt (w.alloc (.cells #[.int .i64 n.depth, .int .i64 n.kind, .string n.name, .int .i64 n.num, .int .i64 n.op, .int .i64 n.pos] 31)) w.heap.size n) := heap_alloc_new _ _
  have HG : Hid _ := hG
  have HNS : Hid _ := hN
  clear hA hN hops hG
  rw [hk, hop] at hB0
  simp only [hk, hop] at HN0
  rw [hk] at c1
  rw [hop] at c4
  have HB0 : Hid _ := hB0
  have HHK : Hid _ := hk
  have HHO : Hid _ := hop
  clear hB0 hk hop
  go_enter Tryd.func32, Tryd.ntmps32
  go_wp2_with fail
  refine (HH.out _ HB0.out).mono ?_
  rintro y w2 ⟨v, rfl, ho2, hb2⟩
  have HB2 : Hid (Below w.heap.size w w2) := HB0.out.trans (hb2.mono HB0.out.size)
  have HN2 : Hid (NdAt w2 w.heap.size n) := HN0.out.below hb2
  have HO2 : Hid _ := ho2
  have hz2 := HN2.out.lt
  clear hb2 ho2 c0 c1 c2 c3 c4 c5
  obtain ⟨d0, d1, d2, d3, d4, d5⟩ := HN2.out.cells
  rw [HHK.out] at d1
  rw [HHO.out] at d4
  have HIH : Hid _ := IH
  clear IH
  have hsl := sgn_len k
  have q4a : ¬ 9223372036854775807 < (sgn k).length + (brk 6 lv1 t1).length := by omega
  have q4b : (sgn k).length + (brk 6 lv1 t1).length ≤ 9223372036854775807 := by omega
  have q4c : decide (9223372036854775807 < (sgn k).length + (brk 6 lv1 t1).length) = false := decide_eq_false (by omega)
  have q5a : ¬ 9223372036854775807 < 1 + ((sgn k).length + (brk 6 lv1 t1).length) := by omega
  have q5b : 1 + ((sgn k).length + (brk 6 lv1 t1).length) ≤ 9223372036854775807 := by omega
  have q5c : decide (9223372036854775807 < 1 + ((sgn k).length + (brk 6 lv1 t1).length)) = false := decide_eq_false (by omega)
  have q6a : ¬ 9223372036854775807 < 1 + ((sgn k).length + (brk 6 lv1 t1).length) + 1 := by omega
  have q6b : 1 + ((sgn k).length + (brk 6 lv1 t1).length) + 1 ≤ 9223372036854775807 := by omega
  have q6c : decide (9223372036854775807 < 1 + ((sgn k).length + (brk 6 lv1 t1).length) + 1) = false := decide_eq_false (by omega)
  obtain ⟨g, gc, rfl, hg1, hg2, hgc⟩ := own_cells HO2.out (by simp)
  have r0 : w2.cell? ⟨g, 0, none⟩ = some (.int .i64 k1) := hgc 0 (by simp)
  clear hgc
  go_wp2_with fail
  go_region_held3 (fun w' => w'.cell? ⟨w.heap.size, 4, none⟩ = some (.int .i64 k) ∧ w'.cell? ⟨g, 0, none⟩ = some (.int .i64 k1)) (go_keep)
    (first
    | (go_at_call 49; refine (sign_any k hk16 _).mono ?_; rintro y w3 ⟨rfl, hb3⟩; have HB3 : Hid (Below w.heap.size w w3) := HB2.out.drew.trans (hb3.mono HB2.out.size); have HN3 : Hid (NdAt w3 w.heap.size n) := (HN2.out.below (Below.refl _ _).drew).below hb3; have hz3 := HN3.out.lt; have dp3 : w3.cell? ⟨w.heap.size, 4, none⟩ = some (.int .i64 k) := (by have h8 := HN3.out.cells.2.2.2.2.1; rw [HHO.out] at h8; exact h8); have hg_3 : g < w3.heap.size := (by have h8 := hb3.size; have h7 : w2.heap.size ≤ w3.heap.size := h8; omega); have r0_3 : w3.cell? ⟨g, 0, none⟩ = some (.int .i64 k1) := (hb3.cell (p := ⟨g, 0, none⟩) hg2).trans r0)
    | (go_at_call 32; refine (HIH.out _ HB3.out).mono ?_; rintro y w4 ⟨rfl, hb4⟩; have HB4 : Hid (Below w.heap.size w w4) := HB3.out.trans (hb4.mono HB3.out.size); have HN4 : Hid (NdAt w4 w.heap.size n) := HN3.out.below hb4; have hz4 := HN4.out.lt; have dp4 : w4.cell? ⟨w.heap.size, 4, none⟩ = some (.int .i64 k) := (by have h8 := HN4.out.cells.2.2.2.2.1; rw [HHO.out] at h8; exact h8); have hg_4 : g < w4.heap.size := (by have h8 := hb4.size; have h7 : w3.heap.size ≤ w4.heap.size := h8; omega); have r0_4 : w4.cell? ⟨g, 0, none⟩ = some (.int .i64 k1) := (hb4.cell (p := ⟨g, 0, none⟩) hg_3).trans r0_3))
  clear dp3 r0_3 dp4 r0_4 r0 hb3 hb4 d0 d1 d2 d3 d4 d5
  obtain ⟨d0, d1, d2, d3, d4, d5⟩ := HN4.out.cells
  rw [HHK.out] at d1
  rw [HHO.out] at d4
  go_wp2_with fail
  refine Calls.mono (HLV.out _) ?_
  rintro y w5 ⟨rfl, hb5⟩
  have HB5 : Hid (Below w.heap.size w w5) := HB4.out.trans (hb5.mono HB4.out.size)
  clear hb5 d0 d1 d2 d3 d4 d5
  by_cases hlw : (lvl k) < want
  · have hlw' : ((lvl k) : Int) < (want : Int) := by omega
    have HBK : Hid (brk want (lvl k) (sgn k ++ brk 6 lv1 t1) = 40 :: (sgn k ++ brk 6 lv1 t1 ++ [41])) := by unfold Hid brk; rw [if_pos hlw]
    go_wp2_with fail
    go_ret
    rw [HBK.out]
    exact ⟨str_eq (by simp [ByteArray.toList_eq]), HB5.out⟩
  · have hlw' : ¬ ((lvl k) : Int) < (want : Int) := by omega
    have HBK : Hid (brk want (lvl k) (sgn k ++ brk 6 lv1 t1) = sgn k ++ brk 6 lv1 t1) := by unfold Hid brk; rw [if_neg hlw]
    go_wp2_with fail
    go_ret
    rw [HBK.out]
    exact ⟨str_eq (by simp [ByteArray.toList_eq]), HB5.out⟩
set_option maxHeartbeats 2000000 in
theorem rex_binary (b o cap i want k1 k2 : Nat) (ns : List Nd) (n : Nd) (w : World) (hA : At ns i n [k1, k2]) (hf : Fine n) (hk : n.kind = 15) (k : Nat) (hop : n.op = k) (hkr : 3 ≤ k ∧ k ≤ 15) (lw : Nat) (hlw0 : lw = leftW (lvl k)) (lv1 lv2 : Nat) (t1 t2 : List UInt8) (hk1 : k1 ≤ 300) (hk2 : k2 ≤ 300) (hbl : (brk lw lv1 t1).length ≤ 100000) (hbl2 : (brk (lvl k + 1) lv2 t2).length ≤ 100000) (IH : ∀ w', Below w.heap.size w w' → Calls Tryd.prog 32 #[.slice (some ⟨b, o, none⟩) ns.length cap, .int .i64 k1, .int .i64 (lw : Nat)] w' fun y w2 => y = .returned (.string ⟨(brk lw lv1 t1).toArray⟩) ∧ Below w'.heap.size w' w2) (IH2 : ∀ w', Below w.heap.size w w' → Calls Tryd.prog 32 #[.slice (some ⟨b, o, none⟩) ns.length cap, .int .i64 k2, .int .i64 (lvl k + 1 : Nat)] w' fun y w2 => y = .returned (.string ⟨(brk (lvl k + 1) lv2 t2).toArray⟩) ∧ Below w'.heap.size w' w2) (hN : NodesAt w b o ns) (hlen : ns.length ≤ 300) (hwant : want ≤ 7) (hG : G0 w) :
    Calls Tryd.prog 32 #[.slice (some ⟨b, o, none⟩) ns.length cap, .int .i64 i, .int .i64 want] w fun y w' => y = .returned (.string ⟨(brk want (lvl k) (brk lw lv1 t1 ++ 32 :: (sgn k ++ 32 :: brk (lvl k + 1) lv2 t2))).toArray⟩) ∧ Below w.heap.size w w' := by
  obtain ⟨c0, c1, c2, c3, c4, c5⟩ := hA.node hN
  have hz := hN.lt
  have hops := hf.ops
  rw [hk] at hops
  have hkk : 0 ≤ (k : Int) := by omega
  have hk16 : k < 16 := by omega
  have HLV : Hid _ := level_any n k hop (by omega) (.inr (.inr ⟨hk, hkr⟩))
  unfold ndVal at HLV
  simp only [hk, hop] at HLV
  have hlt := hA.lt
  have hi : (i : Int) < (ns.length : Int) := by omega
  have HH : Hid (∀ w', Below w.heap.size w w' → Calls Tryd.prog 30 #[.slice (some ⟨b, o, none⟩) ns.length cap, .int .i64 i] w' fun y w2 => ∃ v, y = .returned v ∧ w2.ownsRow w'.heap.size 3 1 v ([k1, k2]).length (ints ([k1, k2])) ∧ Below w'.heap.size w' w2) := fun w' hb => hA.held_any b o cap w' (hN.below hb) hlen
  have hl3 : (ns.length : Int) ≤ 300 := by omega
  have hneb : ¬ b = w.heap.size := by omega
  have hB0 : Below w.heap.size w (w.alloc (.cells #[.int .i64 n.depth, .int .i64 n.kind, .string n.name, .int .i64 n.num, .int .i64 n.op, .int .i64 n.pos] 31)) := (Below.refl _ _).alloc (Nat.le_refl _) _
  have HN0 : Hid (NdAt (w.alloc (.cells #[.int .i64 n.depth, .int .i64 n.kind, .string n.name, .int .i64 n.num, .int .i64 n.op, .int .i64 n.pos] 31)) w.heap.size n) := heap_alloc_new _ _
  have HG : Hid _ := hG
  have HNS : Hid _ := hN
  clear hA hN hops hG
  rw [hk, hop] at hB0
  simp only [hk, hop] at HN0
  rw [hk] at c1
  rw [hop] at c4
  have HB0 : Hid _ := hB0
  have HHK : Hid _ := hk
  have HHO : Hid _ := hop
  clear hB0 hk hop
  go_enter Tryd.func32, Tryd.ntmps32
  go_wp2_with fail
  refine (HH.out _ HB0.out).mono ?_
  rintro y w2 ⟨v, rfl, ho2, hb2⟩
  have HB2 : Hid (Below w.heap.size w w2) := HB0.out.trans (hb2.mono HB0.out.size)
  have HN2 : Hid (NdAt w2 w.heap.size n) := HN0.out.below hb2
  have HO2 : Hid _ := ho2
  have hz2 := HN2.out.lt
  clear hb2 ho2 c0 c1 c2 c3 c4 c5
  obtain ⟨d0, d1, d2, d3, d4, d5⟩ := HN2.out.cells
  rw [HHK.out] at d1
  rw [HHO.out] at d4
  have HIH : Hid _ := IH
  clear IH
  have HIH2 : Hid (∀ w', Below w.heap.size w w' → Calls Tryd.prog 32 #[.slice (some ⟨b, o, none⟩) ns.length cap, .int .i64 k2, .int .i64 (IntKind.i64.wrap ((lvl k : Int) + 1))] w' fun y w2 => y = .returned (.string ⟨(brk (lvl k + 1) lv2 t2).toArray⟩) ∧ Below w'.heap.size w' w2) := by
    intro w' hb
    have h8 := IH2 w' hb
    rw [← wrap_lv (lvl k) (lvl_le hkr)] at h8
    exact h8
  clear IH2
  have hlv := lvl_le (k := k) hkr
  have hlv0 : (lvl k : Int) ≤ 5 := by omega
  obtain ⟨g, gc, rfl, hg1, hg2, hgc⟩ := own_cells HO2.out (by simp)
  have r0 : w2.cell? ⟨g, 0, none⟩ = some (.int .i64 k1) := hgc 0 (by simp)
  have r1 : w2.cell? ⟨g, 1, none⟩ = some (.int .i64 k2) := hgc 1 (by simp)
  clear hgc
  go_wp2_with fail
  refine Calls.mono (HLV.out _) ?_
  rintro y w3 ⟨rfl, hb3⟩
  have HB3 : Hid (Below w.heap.size w w3) := HB2.out.trans (hb3.mono HB2.out.size)
  have HN3 : Hid (NdAt w3 w.heap.size n) := HN2.out.below hb3
  have hz3 := HN3.out.lt
  have hg3 : g < w3.heap.size := by have := hb3.size; omega
  have p0 : w3.cell? ⟨g, 0, none⟩ = some (.int .i64 k1) := (hb3.cell (p := ⟨g, 0, none⟩) hg2).trans r0
  have p1 : w3.cell? ⟨g, 1, none⟩ = some (.int .i64 k2) := (hb3.cell (p := ⟨g, 1, none⟩) hg2).trans r1
  clear hb3 r0 r1 d0 d1 d2 d3 d4 d5
  obtain ⟨d0, d1, d2, d3, d4, d5⟩ := HN3.out.cells
  rw [HHK.out] at d1
  rw [HHO.out] at d4
  have hsl := sgn_len k
  have q7a : ¬ 9223372036854775807 < (brk lw lv1 t1).length + 1 := by omega
  have q7b : (brk lw lv1 t1).length + 1 ≤ 9223372036854775807 := by omega
  have q7c : decide (9223372036854775807 < (brk lw lv1 t1).length + 1) = false := decide_eq_false (by omega)
  have q8a : ¬ 9223372036854775807 < (brk lw lv1 t1).length + 1 + (sgn k).length := by omega
  have q8b : (brk lw lv1 t1).length + 1 + (sgn k).length ≤ 9223372036854775807 := by omega
  have q8c : decide (9223372036854775807 < (brk lw lv1 t1).length + 1 + (sgn k).length) = false := decide_eq_false (by omega)
  have q9a : ¬ 9223372036854775807 < (brk lw lv1 t1).length + 1 + (sgn k).length + 1 := by omega
  have q9b : (brk lw lv1 t1).length + 1 + (sgn k).length + 1 ≤ 9223372036854775807 := by omega
  have q9c : decide (9223372036854775807 < (brk lw lv1 t1).length + 1 + (sgn k).length + 1) = false := decide_eq_false (by omega)
  have q10a : ¬ 9223372036854775807 < (brk lw lv1 t1).length + 1 + (sgn k).length + 1 + (brk (lvl k + 1) lv2 t2).length := by omega
  have q10b : (brk lw lv1 t1).length + 1 + (sgn k).length + 1 + (brk (lvl k + 1) lv2 t2).length ≤ 9223372036854775807 := by omega
  have q10c : decide (9223372036854775807 < (brk lw lv1 t1).length + 1 + (sgn k).length + 1 + (brk (lvl k + 1) lv2 t2).length) = false := decide_eq_false (by omega)
  have q11a : ¬ 9223372036854775807 < 1 + ((brk lw lv1 t1).length + 1 + (sgn k).length + 1 + (brk (lvl k + 1) lv2 t2).length) := by omega
  have q11b : 1 + ((brk lw lv1 t1).length + 1 + (sgn k).length + 1 + (brk (lvl k + 1) lv2 t2).length) ≤ 9223372036854775807 := by omega
  have q11c : decide (9223372036854775807 < 1 + ((brk lw lv1 t1).length + 1 + (sgn k).length + 1 + (brk (lvl k + 1) lv2 t2).length)) = false := decide_eq_false (by omega)
  have q12a : ¬ 9223372036854775807 < 1 + ((brk lw lv1 t1).length + 1 + (sgn k).length + 1 + (brk (lvl k + 1) lv2 t2).length) + 1 := by omega
  have q12b : 1 + ((brk lw lv1 t1).length + 1 + (sgn k).length + 1 + (brk (lvl k + 1) lv2 t2).length) + 1 ≤ 9223372036854775807 := by omega
  have q12c : decide (9223372036854775807 < 1 + ((brk lw lv1 t1).length + 1 + (sgn k).length + 1 + (brk (lvl k + 1) lv2 t2).length) + 1) = false := decide_eq_false (by omega)
  by_cases hl3' : lvl k = 3
  · have hl3'' : (((lvl k : Nat) : Int) == 3) = true := by rw [beq_iff_eq]; omega
    have hlw1 : lw = 4 := by rw [hlw0]; unfold leftW; rw [if_pos hl3']
    clear hlw0 hl3'
    subst hlw1
    have HIHx : Hid (∀ w', Below w.heap.size w w' → Calls Tryd.prog 32 #[.slice (some ⟨b, o, none⟩) ns.length cap, .int .i64 k1, .int .i64 4] w' fun y w2 => y = .returned (.string ⟨(brk 4 lv1 t1).toArray⟩) ∧ Below w'.heap.size w' w2) := HIH.out
    clear HIH
    go_wp2_with fail
    go_region_held3 (fun w' => w'.cell? ⟨w.heap.size, 4, none⟩ = some (.int .i64 k) ∧ w'.cell? ⟨g, 0, none⟩ = some (.int .i64 k1) ∧ w'.cell? ⟨g, 1, none⟩ = some (.int .i64 k2)) (go_keep)
      (first
      | (go_at_call 32; refine (HIHx.out _ HB3.out.drew).mono ?_; rintro y w4 ⟨rfl, hb4⟩; clear HIHx; have HB4 : Hid (Below w.heap.size w w4) := HB3.out.drew.trans (hb4.mono HB3.out.size); have HN4 : Hid (NdAt w4 w.heap.size n) := (HN3.out.below (Below.refl _ _).drew).below hb4; have hz4 := HN4.out.lt; have dp4 : w4.cell? ⟨w.heap.size, 4, none⟩ = some (.int .i64 k) := (by have h8 := HN4.out.cells.2.2.2.2.1; rw [HHO.out] at h8; exact h8); have hg4 : g < w4.heap.size := (by have h8 := hb4.size; have h7 : w3.heap.size ≤ w4.heap.size := h8; omega); have p0_4 : w4.cell? ⟨g, 0, none⟩ = some (.int .i64 k1) := (hb4.cell (p := ⟨g, 0, none⟩) hg3).trans p0; have p1_4 : w4.cell? ⟨g, 1, none⟩ = some (.int .i64 k2) := (hb4.cell (p := ⟨g, 1, none⟩) hg3).trans p1)
      | (go_at_call 49; refine (sign_any k hk16 _).mono ?_; rintro y w5 ⟨rfl, hb5⟩; have HB5 : Hid (Below w.heap.size w w5) := HB4.out.trans (hb5.mono HB4.out.size); have HN5 : Hid (NdAt w5 w.heap.size n) := HN4.out.below hb5; have hz5 := HN5.out.lt; have dp5 : w5.cell? ⟨w.heap.size, 4, none⟩ = some (.int .i64 k) := (by have h8 := HN5.out.cells.2.2.2.2.1; rw [HHO.out] at h8; exact h8); have hg5 : g < w5.heap.size := (by have h8 := hb5.size; have h7 : w4.heap.size ≤ w5.heap.size := h8; omega); have p0_5 : w5.cell? ⟨g, 0, none⟩ = some (.int .i64 k1) := (hb5.cell (p := ⟨g, 0, none⟩) hg4).trans p0_4; have p1_5 : w5.cell? ⟨g, 1, none⟩ = some (.int .i64 k2) := (hb5.cell (p := ⟨g, 1, none⟩) hg4).trans p1_4)
      | (go_at_call 32; refine (HIH2.out _ HB5.out).mono ?_; rintro y w6 ⟨rfl, hb6⟩; have HB6 : Hid (Below w.heap.size w w6) := HB5.out.trans (hb6.mono HB5.out.size); have HN6 : Hid (NdAt w6 w.heap.size n) := HN5.out.below hb6; have hz6 := HN6.out.lt; have dp6 : w6.cell? ⟨w.heap.size, 4, none⟩ = some (.int .i64 k) := (by have h8 := HN6.out.cells.2.2.2.2.1; rw [HHO.out] at h8; exact h8); have hg6 : g < w6.heap.size := (by have h8 := hb6.size; have h7 : w5.heap.size ≤ w6.heap.size := h8; omega); have p0_6 : w6.cell? ⟨g, 0, none⟩ = some (.int .i64 k1) := (hb6.cell (p := ⟨g, 0, none⟩) hg5).trans p0_5; have p1_6 : w6.cell? ⟨g, 1, none⟩ = some (.int .i64 k2) := (hb6.cell (p := ⟨g, 1, none⟩) hg5).trans p1_5))
    clear dp4 dp5 dp6 p0_4 p0_5 p0_6 p1_4 p1_5 p1_6 p0 p1 hb4 hb5 hb6 d0 d1 d2 d3 d4 d5
    obtain ⟨d0, d1, d2, d3, d4, d5⟩ := HN6.out.cells
    rw [HHK.out] at d1
    rw [HHO.out] at d4
    go_wp2_with fail
    refine Calls.mono (HLV.out _) ?_
    rintro y w7 ⟨rfl, hb7⟩
    have HB7 : Hid (Below w.heap.size w w7) := HB6.out.trans (hb7.mono HB6.out.size)
    clear hb7 d0 d1 d2 d3 d4 d5
    by_cases hlw : (lvl k) < want
    · have hlw' : ((lvl k) : Int) < (want : Int) := by omega
      have HBK : Hid (brk want (lvl k) (brk 4 lv1 t1 ++ 32 :: (sgn k ++ 32 :: brk (lvl k + 1) lv2 t2)) = 40 :: (brk 4 lv1 t1 ++ 32 :: (sgn k ++ 32 :: brk (lvl k + 1) lv2 t2) ++ [41])) := by unfold Hid brk; rw [if_pos hlw]
      go_wp2_with fail
      go_ret
      rw [HBK.out]
      exact ⟨str_eq (by simp [ByteArray.toList_eq]), HB7.out⟩
    · have hlw' : ¬ ((lvl k) : Int) < (want : Int) := by omega
      have HBK : Hid (brk want (lvl k) (brk 4 lv1 t1 ++ 32 :: (sgn k ++ 32 :: brk (lvl k + 1) lv2 t2)) = brk 4 lv1 t1 ++ 32 :: (sgn k ++ 32 :: brk (lvl k + 1) lv2 t2)) := by unfold Hid brk; rw [if_neg hlw]
      go_wp2_with fail
      go_ret
      rw [HBK.out]
      exact ⟨str_eq (by simp [ByteArray.toList_eq]), HB7.out⟩
  · have hl3'' : (((lvl k : Nat) : Int) == 3) = false := by rw [beq_eq_false_iff_ne]; omega
    have hlw1 : lw = lvl k := by rw [hlw0]; unfold leftW; rw [if_neg hl3']
    clear hlw0 hl3'
    subst hlw1
    go_wp2_with fail
    go_region_held3 (fun w' => w'.cell? ⟨w.heap.size, 4, none⟩ = some (.int .i64 k) ∧ w'.cell? ⟨g, 0, none⟩ = some (.int .i64 k1) ∧ w'.cell? ⟨g, 1, none⟩ = some (.int .i64 k2)) (go_keep)
      (first
      | (go_at_call 32; refine (HIH.out _ HB3.out.drew).mono ?_; rintro y w4 ⟨rfl, hb4⟩; clear HIH; have HB4 : Hid (Below w.heap.size w w4) := HB3.out.drew.trans (hb4.mono HB3.out.size); have HN4 : Hid (NdAt w4 w.heap.size n) := (HN3.out.below (Below.refl _ _).drew).below hb4; have hz4 := HN4.out.lt; have dp4 : w4.cell? ⟨w.heap.size, 4, none⟩ = some (.int .i64 k) := (by have h8 := HN4.out.cells.2.2.2.2.1; rw [HHO.out] at h8; exact h8); have hg4 : g < w4.heap.size := (by have h8 := hb4.size; have h7 : w3.heap.size ≤ w4.heap.size := h8; omega); have p0_4 : w4.cell? ⟨g, 0, none⟩ = some (.int .i64 k1) := (hb4.cell (p := ⟨g, 0, none⟩) hg3).trans p0; have p1_4 : w4.cell? ⟨g, 1, none⟩ = some (.int .i64 k2) := (hb4.cell (p := ⟨g, 1, none⟩) hg3).trans p1)
      | (go_at_call 49; refine (sign_any k hk16 _).mono ?_; rintro y w5 ⟨rfl, hb5⟩; have HB5 : Hid (Below w.heap.size w w5) := HB4.out.trans (hb5.mono HB4.out.size); have HN5 : Hid (NdAt w5 w.heap.size n) := HN4.out.below hb5; have hz5 := HN5.out.lt; have dp5 : w5.cell? ⟨w.heap.size, 4, none⟩ = some (.int .i64 k) := (by have h8 := HN5.out.cells.2.2.2.2.1; rw [HHO.out] at h8; exact h8); have hg5 : g < w5.heap.size := (by have h8 := hb5.size; have h7 : w4.heap.size ≤ w5.heap.size := h8; omega); have p0_5 : w5.cell? ⟨g, 0, none⟩ = some (.int .i64 k1) := (hb5.cell (p := ⟨g, 0, none⟩) hg4).trans p0_4; have p1_5 : w5.cell? ⟨g, 1, none⟩ = some (.int .i64 k2) := (hb5.cell (p := ⟨g, 1, none⟩) hg4).trans p1_4)
      | (go_at_call 32; refine (HIH2.out _ HB5.out).mono ?_; rintro y w6 ⟨rfl, hb6⟩; have HB6 : Hid (Below w.heap.size w w6) := HB5.out.trans (hb6.mono HB5.out.size); have HN6 : Hid (NdAt w6 w.heap.size n) := HN5.out.below hb6; have hz6 := HN6.out.lt; have dp6 : w6.cell? ⟨w.heap.size, 4, none⟩ = some (.int .i64 k) := (by have h8 := HN6.out.cells.2.2.2.2.1; rw [HHO.out] at h8; exact h8); have hg6 : g < w6.heap.size := (by have h8 := hb6.size; have h7 : w5.heap.size ≤ w6.heap.size := h8; omega); have p0_6 : w6.cell? ⟨g, 0, none⟩ = some (.int .i64 k1) := (hb6.cell (p := ⟨g, 0, none⟩) hg5).trans p0_5; have p1_6 : w6.cell? ⟨g, 1, none⟩ = some (.int .i64 k2) := (hb6.cell (p := ⟨g, 1, none⟩) hg5).trans p1_5))
    clear dp4 dp5 dp6 p0_4 p0_5 p0_6 p1_4 p1_5 p1_6 p0 p1 hb4 hb5 hb6 d0 d1 d2 d3 d4 d5
    obtain ⟨d0, d1, d2, d3, d4, d5⟩ := HN6.out.cells
    rw [HHK.out] at d1
    rw [HHO.out] at d4
    go_wp2_with fail
    refine Calls.mono (HLV.out _) ?_
    rintro y w7 ⟨rfl, hb7⟩
    have HB7 : Hid (Below w.heap.size w w7) := HB6.out.trans (hb7.mono HB6.out.size)
    clear hb7 d0 d1 d2 d3 d4 d5
    by_cases hlw : (lvl k) < want
    · have hlw' : ((lvl k) : Int) < (want : Int) := by omega
      have HBK : Hid (brk want (lvl k) (brk (lvl k) lv1 t1 ++ 32 :: (sgn k ++ 32 :: brk (lvl k + 1) lv2 t2)) = 40 :: (brk (lvl k) lv1 t1 ++ 32 :: (sgn k ++ 32 :: brk (lvl k + 1) lv2 t2) ++ [41])) := by unfold Hid brk; rw [if_pos hlw]
      go_wp2_with fail
      go_ret
      rw [HBK.out]
      exact ⟨str_eq (by simp [ByteArray.toList_eq]), HB7.out⟩
    · have hlw' : ¬ ((lvl k) : Int) < (want : Int) := by omega
      have HBK : Hid (brk want (lvl k) (brk (lvl k) lv1 t1 ++ 32 :: (sgn k ++ 32 :: brk (lvl k + 1) lv2 t2)) = brk (lvl k) lv1 t1 ++ 32 :: (sgn k ++ 32 :: brk (lvl k + 1) lv2 t2)) := by unfold Hid brk; rw [if_neg hlw]
      go_wp2_with fail
      go_ret
      rw [HBK.out]
      exact ⟨str_eq (by simp [ByteArray.toList_eq]), HB7.out⟩
end Go.Proofs.YtjngjanheoeojaaDoor
