import Derived.Test.YtjngjanheoeojaaDoorFixd
import Derived.Test.YtjngjanheoeojaaDoorHeld
import Derived.Laws.AppendOwnNone
import Derived.ArgAppend
import Derived.Deep.AppendLies
import Derived.Deep.QuietTactic
namespace Go.Proofs.YtjngjanheoeojaaDoor
set_option linter.unusedVariables false
set_option linter.unusedSimpArgs false
open Go.RowKit
theorem Tryd.info31y : (Tryd.prog.info? 31).map (fun i => (i.zero, i.size, i.bytes)) = some (some (.agg #[.int .i64 0, .int .i64 0, .string ⟨#[]⟩, .int .i64 0, .int .i64 0, .int .i64 0]), 6, 56) := by kernel_rfl
def roomN : Nd := ⟨-7, 0, ⟨#[114, 111, 111, 109]⟩, 0, 0, 0⟩
/-- lent of a list that lies somewhere (or is empty). -/
theorem lent_any (ao : Option Addr) (m cap : Nat) (hao : ao = none → m = 0 ∧ cap = 0) (hm2 : (m + 1) * 56 ≤ 140737488355328) (ns : List Nd) (hl : ns.length = m) (w : World)
    (hn : ∀ ad, ao = some ad → ∀ j u, (flatN ns)[j]? = some u → w.cell? (ad.add j) = some u) (h1 : ∀ u ∈ flatN ns, u.oneCell' = true) :
    Calls Tryd.prog 7 #[.slice ao m cap] w fun y w' => ∃ g cap2, y = .returned (.slice (some ⟨g, 0, none⟩) (m + 1) cap2) ∧ w'.ownsRow w.heap.size 31 6 (.slice (some ⟨g, 0, none⟩) (m + 1) cap2) (m + 1) (flatN (ns ++ [roomN])) ∧ Below w.heap.size w w' := by
  obtain ⟨i0, hi0, hz0', hz1', hz2'⟩ := info_parts Tryd.info31y
  have H1 : Hid _ := h1
  have HL : Hid ((flatN ns).length = m * 6) := by unfold Hid; rw [flatN_len, hl]
  have hF : flatN (ns ++ [roomN]) = flatN ns ++ [.int .i64 (-7), .int .i64 0, .string ⟨#[114, 111, 111, 109]⟩, .int .i64 0, .int .i64 0, .int .i64 0] := by rw [flatN_app]; rfl
  have HF : Hid _ := hF
  have second : ∀ (v : Value) (w1 : World), Below w.heap.size w w1 → w1.ownsRow w.heap.size 31 6 v m (flatN ns) → True := fun _ _ _ _ => trivial
  clear second hF h1
  cases ao with
  | none =>
    obtain ⟨rfl, rfl⟩ := hao rfl
    have hns : ns = [] := List.length_eq_zero_iff.1 hl
    subst hns
    clear hn hl hao
    go_enter Tryd.func7, Tryd.ntmps7
    go_wp2_with (first
      | (at_builtin; refine wpList_append_own_none rfl _ _ 22 rfl w.heap.size 31 i0 6 Tryd.underlying22 hi0 (.slice none 0 0) 0 [] (by rfl) (World.ownsRow_nil _ _ _ _) (by rfl) ?_)
      | (at_builtin; refine wpList_append_lies _ rfl _ _ 22 rfl w.heap.size 31 i0 (.agg #[.int .i64 0, .int .i64 0, .string ⟨#[]⟩, .int .i64 0, .int .i64 0, .int .i64 0]) 6 56 Tryd.underlying22 hi0 hz0' hz1' hz2' rfl (by decide) (.slice none 0 0) 0 [] (by rfl) (World.ownsRow_nil _ _ _ _) ⟨w.heap.size, 0, none⟩ 1 1 [.int .i64 (-7), .int .i64 0, .string ⟨#[114, 111, 111, 109]⟩, .int .i64 0, .int .i64 0, .int .i64 0] (by rfl) rfl (World.news_of_block (cs := #[.int .i64 (-7), .int .i64 0, .string ⟨#[114, 111, 111, 109]⟩, .int .i64 0, .int .i64 0, .int .i64 0]) (t := 31) (fr := (0, 0)) (heap_alloc_new _ _)) ?bp1 (by decide) ?bp2 (by omega) ?bp3 (w.heap.size + 1) (by simp) ?_))
    case bp1 => intro u hu; simp at hu; rcases hu with rfl | rfl | rfl | rfl | rfl | rfl <;> rfl
    case bp2 => unfold maxLen; omega
    case bp3 => simp
    intro g cap2 w2 hown hgrow _ hlt
    have HB2 : Hid (Below w.heap.size w w2) := ((Below.refl _ _).alloc (Nat.le_refl _) _).grown hgrow (by simp) (by intro k hk; simp [Value.ownBlock] at hk)
    have HO : Hid _ := hown
    clear hown hgrow
    go_wp2_with fail
    go_ret
    refine ⟨g, cap2, rfl, ?_, HB2.out⟩
    exact HO.out
  | some ad =>
    have HN : Hid _ := hn ad rfl
    clear hn hl hao
    go_enter Tryd.func7, Tryd.ntmps7
    go_wp2_with (at_builtin; refine wpList_append_own _ rfl _ _ 22 rfl w.heap.size 31 i0 (.agg #[.int .i64 0, .int .i64 0, .string ⟨#[]⟩, .int .i64 0, .int .i64 0, .int .i64 0]) 6 56 Tryd.underlying22 hi0 hz0' hz1' hz2' rfl (by decide) (.slice none 0 0) 0 [] (by rfl) (World.ownsRow_nil _ _ _ _) ad m cap (flatN ns) (by rfl) HL.out HN.out H1.out ?cp1 ?cp2 (Nat.le_refl _) ?_)
    case cp1 => unfold maxLen; omega
    case cp2 => omega
    intro v1 w1 hown hgrow _
    have HB1 : Hid (Below w.heap.size w w1) := (Below.refl _ _).grown hgrow (Nat.le_refl _) (by intro k hk; simp [Value.ownBlock] at hk)
    have HO1 : Hid (w1.ownsRow w.heap.size 31 6 v1 m (flatN ns)) := by first | exact hown | (have h9 := hown; rw [Nat.zero_add] at h9; exact h9)
    have hz := HB1.out.size
    clear hown hgrow
    go_wp2_with (at_builtin; refine wpList_append_lies _ rfl _ _ 22 rfl w.heap.size 31 i0 (.agg #[.int .i64 0, .int .i64 0, .string ⟨#[]⟩, .int .i64 0, .int .i64 0, .int .i64 0]) 6 56 Tryd.underlying22 hi0 hz0' hz1' hz2' rfl (by decide) v1 m (flatN ns) (by rfl) (own_below HO1.out ((Below.refl _ _).alloc (Nat.le_refl _) _)) ⟨w1.heap.size, 0, none⟩ 1 1 [.int .i64 (-7), .int .i64 0, .string ⟨#[114, 111, 111, 109]⟩, .int .i64 0, .int .i64 0, .int .i64 0] (by rfl) rfl (World.news_of_block (cs := #[.int .i64 (-7), .int .i64 0, .string ⟨#[114, 111, 111, 109]⟩, .int .i64 0, .int .i64 0, .int .i64 0]) (t := 31) (fr := (0, 0)) (heap_alloc_new _ _)) ?bp1 (by decide) ?bp2 (by omega) ?bp3 (w1.heap.size + 1) (by simp) ?_)
    case bp1 => intro u hu; simp at hu; rcases hu with rfl | rfl | rfl | rfl | rfl | rfl <;> rfl
    case bp2 => unfold maxLen; omega
    case bp3 => simp; omega
    intro g cap2 w2 hown hgrow _ hlt
    have HB2 : Hid (Below w.heap.size w w2) := (HB1.out.alloc hz _).grown hgrow (by simp; omega) (own_base HO1.out)
    have HO : Hid _ := hown
    clear hown hgrow
    go_wp2_with fail
    go_ret
    refine ⟨g, cap2, rfl, ?_, HB2.out⟩
    rw [HF.out]
    exact HO.out
set_option maxHeartbeats 1000000 in
theorem rest_any (x : Int) (m : Nat) (hm : 0 < m) (hm2 : (m : Int) ≤ 9223372036854775807) (h0 : -9223372036854775808 ≤ x) (h1 : x ≤ 9223372036854775807) (w : World) :
    Calls Tryd.prog 10 #[.int .i64 x, .int .i64 m] w fun y w' => (∃ j : Nat, j < m ∧ y = .returned (.int .i64 j)) ∧ w' = w := by
  have hr : x.tmod m = x - m * (x.tdiv m) := by have := Int.mul_tdiv_add_tmod x m; omega
  have hlo : -(m : Int) < x.tmod m := by
    by_cases h : x < 0
    · have h9 := Int.tmod_lt_of_pos (-x) (b := (m : Int)) (by omega)
      rw [Int.neg_tmod] at h9; omega
    · have := Int.tmod_nonneg (m : Int) (by omega : 0 ≤ x); omega
  have hhi : x.tmod m < m := Int.tmod_lt_of_pos x (by omega)
  have hne : ((m : Int) == 0) = false := by rw [beq_eq_false_iff_ne]; omega
  have hne2 : ¬ (m : Int) = 0 := by omega
  clear hr
  generalize hy : x.tmod m = r at *
  by_cases hn : r < 0
  · go_enter Tryd.func10, Tryd.ntmps10
    go_wp2_with fail
    go_ret
    exact ⟨⟨(r + m).toNat, by omega, show Ending.returned (.int .i64 (r + m)) = _ by rw [Int.toNat_of_nonneg (by omega)]⟩, rfl⟩
  · go_enter Tryd.func10, Tryd.ntmps10
    go_wp2_with fail
    go_ret
    exact ⟨⟨r.toNat, by omega, show Ending.returned (.int .i64 r) = _ by rw [Int.toNat_of_nonneg (by omega)]⟩, rfl⟩
set_option maxHeartbeats 2000000 in
theorem as_any (b o c b2 o2 c2 : Nat) (ns : List Nd) (w : World) (hN : NodesAt w b o ns) (hN2 : NodesAt w b2 o2 ns) (hl : (ns.length : Int) ≤ 9223372036854775806) :
    Calls Tryd.prog 9 #[.slice (some ⟨b, o, none⟩) ns.length c, .slice (some ⟨b2, o2, none⟩) ns.length c2] w fun y w' => y = .returned (.bool true) ∧ Below w.heap.size w w' := by
  have HN : Hid _ := hN
  have HN2 : Hid _ := hN2
  clear hN hN2
  go_enter Tryd.func9, Tryd.ntmps9
  go_wp2_with fail
  go_loopw [5] (fun i wr => ∃ k : Nat, k ≤ ns.length ∧ i = .int .i64 k ∧ Hid (Below w.heap.size w wr)) (fun i _ => ns.length - (intOf i).toNat)
  case atStart => exact ⟨0, Nat.zero_le _, rfl, Below.refl _ _⟩
  case round =>
    obtain ⟨k, hk, rfl, HB⟩ := hrel
    by_cases hkl : k < ns.length
    · have hkl' : (k : Int) < (ns.length : Int) := by omega
      obtain ⟨x, hx⟩ : ∃ x, x = ns[k] := ⟨_, rfl⟩
      have n1 := HN.out.below HB.out
      have n2 := HN2.out.below HB.out
      have a0 := n1.c0 k hkl
      have a1 := n1.c1 k hkl
      have a2 := n1.c2 k hkl
      have a3 := n1.c3 k hkl
      have a4 := n1.c4 k hkl
      have a5 := n1.c5 k hkl
      have e0 := n2.c0 k hkl
      have e1 := n2.c1 k hkl
      have e2 := n2.c2 k hkl
      have e3 := n2.c3 k hkl
      have e4 := n2.c4 k hkl
      have e5 := n2.c5 k hkl
      rw [← hx] at a0 a1 a2 a3 a4 a5 e0 e1 e2 e3 e4 e5
      clear n1 n2 hx
      go_wp2_with fail
      go_quiet (fail)
      go_wp2_with fail
      go_roundw
      case rel => exact ⟨k + 1, by omega, by go_num, below_drewN HB.out _⟩
      case measure => simp [intOf]; omega
    · have hke : k = ns.length := by omega
      have hnl : ¬ (k : Int) < (ns.length : Int) := by omega
      go_wp2_with fail
      go_ret
      exact ⟨rfl, HB.out⟩
end Go.Proofs.YtjngjanheoeojaaDoor
