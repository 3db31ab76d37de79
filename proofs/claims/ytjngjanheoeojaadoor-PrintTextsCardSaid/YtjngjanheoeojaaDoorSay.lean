import Derived.Test.YtjngjanheoeojaaDoorTree
import Derived.Test.YtjngjanheoeojaaDoorShelf
namespace Go.Proofs.YtjngjanheoeojaaDoor
set_option linter.unusedVariables false
set_option linter.unusedSimpArgs false
open Go.RowKit
theorem bld_same {bt : Nat} {bs : List Value} {w w' : World} (h : Lib.IsBuilderF 53 5 bt bt bs w) (hb : ∀ k, bt ≤ k → k < w.heap.size → w'.heap[k]? = w.heap[k]?) : Lib.IsBuilderF 53 5 bt bt bs w' := by
  have key : ∀ p, Lib.BuilderAtF 53 5 bt bt p bs w → Lib.BuilderAtF 53 5 bt bt p bs w' := by
    rintro p ⟨h1, v, h2, h3, h4⟩
    refine ⟨h1, v, ?_, ⟨h3.1, ?_⟩, h4⟩
    · rw [hb bt (Nat.le_refl _) (Array.getElem?_eq_some_iff.1 h2).1]; exact h2
    · rcases h3.2 with hn | ⟨g, cap, cur, fz, hv, hB, hg, rest⟩
      · exact .inl hn
      · exact .inr ⟨g, cap, cur, fz, hv, hB, by rw [hb g hB (Array.getElem?_eq_some_iff.1 hg).1]; exact hg, rest⟩
  exact h.imp (key _) (key _)
theorem bld_lt {bt : Nat} {bs : List Value} {w : World} (h : Lib.IsBuilderF 53 5 bt bt bs w) : bt < w.heap.size := by
  rcases h with h | h <;> exact Lib.BuilderAtF.lt h
def cat (ps : List ByteArray) : List UInt8 := (ps.map fun s => s.data.toList).flatten
set_option maxHeartbeats 1000000 in
theorem say_any (bt q cap : Nat) (ps : List ByteArray) (txt : List UInt8) (w : World) (hq : w.heap[q]? = some (.cells (ps.map Value.string).toArray 9 (0, 0))) (hqb : q ≠ bt) (hI : Lib.IsBuilderF 53 5 bt bt (Lib.byteCells txt) w)
    (hlen : txt.length + (cat ps).length ≤ 1000000) (hps : ps.length ≤ 10) :
    Calls Tryd.prog 19 #[.slice (some ⟨q, 0, none⟩) ps.length cap, .pointer (some ⟨bt, 0, none⟩)] w fun e w' => e = .returned (.tuple #[]) ∧ Lib.IsBuilderF 53 5 bt bt (Lib.byteCells (txt ++ cat ps)) w' ∧ Below bt w w' ∧ Lib.OthersKept 5 (some bt) w w' := by
  have hl1 : (ps.length : Int) ≤ 10 := by omega
  have HI : Hid _ := hI
  have HQ : Hid _ := hq
  clear hI hq
  go_enter Tryd.func19, Tryd.ntmps19
  go_wp2_with fail
  go_loopw [7] (fun t wr => ∃ k : Nat, k ≤ ps.length ∧ t = .int .i64 k ∧ Hid (Lib.IsBuilderF 53 5 bt bt (Lib.byteCells (txt ++ cat (ps.take k))) wr) ∧ Hid (Below bt w wr) ∧ Hid (Lib.OthersKept 5 (some bt) w wr)) (fun t _ => ps.length - (intOf t).toNat)
  case atStart => exact ⟨0, by omega, rfl, by unfold Hid; rw [List.take_zero, show cat [] = [] from rfl, List.append_nil]; exact HI.out, Below.refl _ _, Lib.OthersKept.refl _ _ _⟩
  case round =>
    obtain ⟨k, hk, rfl, H1, H2, H3⟩ := hrel
    by_cases hlt2 : k < ps.length
    · have hq1 : wr.heap[q]? = some (.cells (ps.map Value.string).toArray 9 (0, 0)) := H3.out q _ HQ.out (by simpa using hqb) (by intro c fz h; cases h)
      have c0 : wr.cell? ⟨q, k, none⟩ = some (.string ps[k]) := by rw [Lib.cell_of_heap hq1]; simp [hlt2]
      have hcat : cat (ps.take (k + 1)) = cat (ps.take k) ++ ps[k].data.toList := by
        rw [List.take_succ_eq_append_getElem hlt2]; unfold cat; rw [List.map_append, List.flatten_append]; simp only [List.map_cons, List.map_nil, List.flatten_cons, List.flatten_nil, List.append_nil]
      have hle : (cat (ps.take (k + 1))).length ≤ (cat ps).length := by
        have : cat ps = cat (ps.take (k + 1)) ++ cat (ps.drop (k + 1)) := by
          unfold cat; rw [← List.flatten_append, ← List.map_append, List.take_append_drop]
        rw [this, List.length_append]; omega
      have HC : Hid _ := hcat
      have hsz : ps[k].size = ps[k].data.toList.length := by simp
      have HL : Hid ((Lib.byteCells (txt ++ cat (ps.take k))).length + ps[k].size ≤ 140737488355328) := by
        unfold Hid; rw [Lib.byteCells_length, List.length_append]; rw [hcat, List.length_append] at hle; omega
      clear hcat hle hq1 hsz
      have hbs : bt ≤ wr.heap.size := Nat.le_of_lt (bld_lt H1.out)
      generalize ps[k] = s at *
      go_wp2_with fail
      refine (Tryd.Builder_WriteString_k bt bt _ s wr H1.out HL.out hbs).mono ?_
      rintro e w1 ⟨rfl, h1, h2, h3⟩
      have G1 : Hid (Lib.IsBuilderF 53 5 bt bt (Lib.byteCells (txt ++ cat (ps.take (k + 1)))) w1) := by
        unfold Hid; rw [HC.out, ← List.append_assoc, Lib.byteCells_append]; exact .inr h1
      have G2 : Hid (Below bt w w1) := H2.out.trans h2
      have G3 : Hid (Lib.OthersKept 5 (some bt) w w1) := H3.out.trans h3
      clear h1 h2 h3
      go_wp2_with fail
      go_roundw
      case rel => exact ⟨k + 1, by omega, by go_num, G1, G2, G3⟩
      case measure => simp [intOf]; omega
    · have e : ps.take k = ps := List.take_of_length_le (by omega)
      rw [e] at H1
      go_wp2_with fail
      go_end0
      exact ⟨rfl, H1.out, H2.out, H3.out⟩
end Go.Proofs.YtjngjanheoeojaaDoor
