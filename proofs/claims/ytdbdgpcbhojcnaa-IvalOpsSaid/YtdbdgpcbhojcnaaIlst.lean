import Derived.Test.YtdbdgpcbhojcnaaIwid
import Derived.OwnWalk
import Derived.Laws.OwnMore
import Derived.Laws.AppendOwnNone
import Derived.Deep.AppendLies
set_option linter.unusedVariables false
set_option linter.unusedSimpArgs false
set_option linter.unnecessarySimpa false
/- mod, short, list: contracts. -/
namespace Go.Proofs.Ytdbdgpcbhojcnaa
open Go.RowKit
/-- The numbers from l on. -/
def nums (l : Int) (n : Nat) : List Int := (List.range n).map fun (i : Nat) => l + (i : Int)
theorem nums_len (l : Int) (n : Nat) : (nums l n).length = n := by simp [nums]
theorem nums_at {l : Int} {n i : Nat} (h : i < (nums l n).length) : (nums l n)[i] = l + i := by simp [nums]
theorem nums_mem {l : Int} {n : Nat} {x : Int} : x ∈ nums l n ↔ l ≤ x ∧ x < l + n := by
  unfold nums
  constructor
  · intro h
    obtain ⟨i, hi, rfl⟩ := List.mem_map.1 h
    have := List.mem_range.1 hi
    omega
  · intro h
    exact List.mem_map.2 ⟨(x - l).toNat, List.mem_range.2 (by omega), by omega⟩
theorem nums_take (l : Int) (n : Nat) : nums l (n + 1) = nums l n ++ [l + (n : Int)] := by
  unfold nums; rw [List.range_succ, List.map_append]; rfl
theorem own_below {w w1 : World} {B : Nat} {e : TypeId} {size : Nat} {v : Value} {n : Nat} {xs : List Value} (h : w.ownsRow B e size v n xs) (hb : Below w.heap.size w w1) : w1.ownsRow B e size v n xs := by
  refine ⟨h.1, ?_⟩
  rcases h.2 with hn | ⟨g, cap, cur, hv, hB, hg, rest⟩
  · exact .inl hn
  · exact .inr ⟨g, cap, cur, hv, hB, (hb.block g (Array.getElem?_eq_some_iff.1 hg).1).trans hg, rest⟩
theorem own_base {w : World} {B : Nat} {e : TypeId} {size : Nat} {v : Value} {n : Nat} {xs : List Value} (h : w.ownsRow B e size v n xs) : ∀ k, v.ownBlock = some k → B ≤ k := fun k hk => (World.ownsRow.lt h k hk).1
set_option maxHeartbeats 1000000 in
theorem mod_any (v : Int) (hv : In64 v) (w : World) :
    Calls Try.prog 42 #[.int .i64 v, .int .i64 7] w fun y w' => (∃ r : Int, 0 ≤ r ∧ r < 7 ∧ y = .returned (.int .i64 r)) ∧ w' = w := by
  unfold In64 at hv
  have hlo : -7 < v.tmod 7 := by
    by_cases h : v < 0
    · have h9 := Int.tmod_lt_of_pos (-v) (b := (7 : Int)) (by omega)
      rw [Int.neg_tmod] at h9; omega
    · have := Int.tmod_nonneg (7 : Int) (by omega : 0 ≤ v); omega
  have hhi : v.tmod 7 < 7 := Int.tmod_lt_of_pos v (by omega)
  generalize hy : v.tmod 7 = r at *
  by_cases hn : r < 0
  · go_enter Try.func42, Try.ntmps42
    go_wp2_with fail
    go_ret
    exact ⟨⟨r + 7, by omega, by omega, rfl⟩, rfl⟩
  · go_enter Try.func42, Try.ntmps42
    go_wp2_with fail
    go_ret
    exact ⟨⟨r, by omega, by omega, rfl⟩, rfl⟩
set_option maxHeartbeats 1000000 in
theorem short_any (f v : Int) (hf : In64 f) (hv : In64 v) (w0 w : World) (hok : Ok w0 w) :
    Calls Try.prog 22 #[.int .i64 f, .int .i64 v] w fun y w' => (∃ l h : Int, In64 l ∧ In64 h ∧ l ≤ h ∧ h ≤ l + 6 ∧ y = .returned (.agg #[.int .i64 l, .int .i64 h])) ∧ Ok w0 w' := by
  unfold In64 at hf
  go_enter Try.func22, Try.ntmps22
  go_wp2_with fail
  refine (mod_any v hv _).mono ?_
  rintro y w' ⟨⟨r, r0, r1, rfl⟩, rfl⟩
  by_cases hc : 9223372036854775807 - r < f
  · go_wp2_with fail
    (try simp only [Exit.inBlock, Exit.then]); refine bodyPost_ret (results_cell_row rfl _ _ (w.heap.size) 23 #[_, _] (0, 0) _ rfl (by repeat (first | (refine heap_at _ _ _ ?hx; case hx => (first | (simp; done) | (simp; omega))) | (refine heap_past _ _ _ ?hy ?_; case hy => (first | (simp; done) | (simp; omega))) | fail)) Try.underlying23 rfl infoI) rfl ?_
    exact ⟨⟨_, _, by unfold In64; omega, by unfold In64; omega, by omega, by omega, rfl⟩, hok.alloc _⟩
  · go_wp2_with fail
    (try simp only [Exit.inBlock, Exit.then]); refine bodyPost_ret (results_cell_row rfl _ _ (w.heap.size) 23 #[_, _] (0, 0) _ rfl (by repeat (first | (refine heap_at _ _ _ ?hx; case hx => (first | (simp; done) | (simp; omega))) | (refine heap_past _ _ _ ?hy ?_; case hy => (first | (simp; done) | (simp; omega))) | fail)) Try.underlying23 rfl infoI) rfl ?_
    exact ⟨⟨_, _, by unfold In64; omega, by unfold In64; omega, by omega, by omega, rfl⟩, hok.alloc _⟩
def intsV (xs : List Int) : List Value := xs.map fun x => Value.int .i64 x
theorem infoN : (Try.prog.info? 2).map (fun i => (i.zero, i.size, i.bytes)) = some (some (.int .i64 0), 1, 8) := by kernel_rfl
theorem own_ints {w : World} {base : Nat} {v : Value} {k : Nat} {xs : List Int} (h : w.ownsRow base 2 1 v k (intsV xs)) (hx : xs.length = k) (hk : 0 < k) (hm : k ≤ 4611686018427387904) :
    ∃ g cap : Nat, v = .slice (some ⟨g, 0, none⟩) k cap ∧ IntsAt w g 0 xs ∧ base ≤ g ∧ k ≤ cap := by
  have hc := fun g (hg : v.ownBlock = some g) => World.ownsRow.cells h hg
  rcases h.2 with ⟨_, h0⟩ | ⟨g, cap, cur, rfl, hB, hg, hcap, _⟩
  · omega
  · refine ⟨g, cap, rfl, ⟨?_, lt_rowV hg, by omega⟩, hB, hcap⟩
    intro i hi
    have := hc g rfl i (.int .i64 xs[i]) (by simp [intsV, hi])
    have hadd : (⟨g, 0, none⟩ : Addr).add i = ⟨g, 0 + i, none⟩ := by unfold Addr.add; split <;> simp_all
    rw [hadd] at this
    exact this
set_option maxHeartbeats 2000000 in
theorem list_any (l h : Int) (n : Nat) (hl : In64 l) (hh : In64 h) (hn : h = l + n) (h6 : n ≤ 6) (w : World) :
    Calls Try.prog 23 #[.agg #[.int .i64 l, .int .i64 h]] w fun y w' => (∃ g cap : Nat, y = .returned (.slice (some ⟨g, 0, none⟩) (n + 1 : Nat) cap) ∧ IntsAt w' g 0 (nums l (n + 1)) ∧ w.heap.size ≤ g) ∧ Ok w w' := by
  unfold In64 at hl hh
  have HN : Hid (h = l + n) := hn
  clear hn
  go_enter Try.func23, Try.ntmps23
  go_wp2_with fail
  obtain ⟨W, hW⟩ : ∃ W, W = w.alloc (.cells #[.int .i64 l, .int .i64 h] 23) := ⟨_, rfl⟩
  have ra : W.heap[w.heap.size]? = some (.cells #[.int .i64 l, .int .i64 h] 23) := by rw [hW]; exact heap_new0 _ _
  have hokW : Ok w W := by rw [hW]; exact (Ok.refl _).alloc _
  rw [← hW]
  clear hW
  go_loopw [3, 4] (fun o v wr => ∃ k : Nat, k ≤ n ∧ v = .int .i64 (l + k) ∧ Hid (wr.ownsRow W.heap.size 2 1 o k (intsV (nums l k))) ∧ Hid (Ok W wr)) (fun _ v _ => (h - intOf v).toNat)
  case atStart => exact ⟨0, by omega, by simp, ⟨rfl, .inl ⟨rfl, rfl⟩⟩, Ok.refl _⟩
  case round =>
    obtain ⟨k, hk, rfl, HO, HB⟩ := hrel
    have hkh : l + (k : Int) ≤ h := by rw [HN.out]; omega
    obtain ⟨i0, hi0, hz0', hz1', hz2'⟩ := info_parts infoN
    have hz := HB.out.le
    go_wp2_with (at_builtin; refine wpList_append_own _ rfl _ _ 24 rfl W.heap.size 2 i0 (.int .i64 0) 1 8 Try.underlying24 hi0 hz0' hz1' hz2' rfl (by decide) _ _ _ rfl (own_below HO.out ((Below.refl _ _).alloc (Nat.le_refl _) _)) ⟨wr.heap.size, 0, none⟩ 1 1 [.int .i64 (l + k)] rfl rfl ?ap1 ?ap2 ?ap3 ?ap4 ?ap5 ?_)
    case ap1 =>
      intro j u hj
      match j, hj with
      | 0, hj => simp at hj; subst hj; simp [Addr.add, go_sem]
    case ap2 => intro u hu; simp at hu; subst hu; rfl
    case ap3 => simp [maxLen]; omega
    case ap4 => omega
    case ap5 => simp; omega
    intro v' w2 hown' hgrow _
    have HO2 : Hid (w2.ownsRow W.heap.size 2 1 v' (k + 1) (intsV (nums l (k + 1)))) := by
      unfold Hid; rw [nums_take]; unfold intsV; rw [List.map_append]; exact hown'
    have HB2 : Hid (Ok W w2) := (HB.out.alloc _).grown hgrow (by simp; omega) (own_base HO.out)
    clear hown' hgrow
    obtain ⟨c0, c1, _, _⟩ := row_facts ((HB2.out.block _ (lt_rowV ra)).trans ra)
    by_cases hc : k = n
    · have e : (l + k == h) = true := by simp; rw [HN.out]; omega
      have e' : l + k = h := by rw [HN.out]; omega
      go_wp2_with fail
      go_ret
      subst hc
      obtain ⟨g, cap, rfl, hI, hB, _⟩ := own_ints HO2.out (nums_len _ _) (by omega) (by omega)
      exact ⟨⟨g, cap, rfl, hI, Nat.le_trans hokW.le hB⟩, hokW.step HB2.out⟩
    · have e : (l + k == h) = false := by simp; rw [HN.out]; omega
      have e' : ¬ l + (k : Int) = h := by rw [HN.out]; omega
      go_wp2_with fail
      exact ⟨⟨k + 1, by omega, by congr 1; omega, HO2, HB2⟩, by simp only [intOf]; omega⟩
end Go.Proofs.Ytdbdgpcbhojcnaa
