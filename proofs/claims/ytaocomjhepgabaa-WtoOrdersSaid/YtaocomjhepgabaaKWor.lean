import Derived.Laws.OwnMore
import Derived.Test.YtaocomjhepgabaaKWrev
import Derived.Test.YtaocomjhepgabaaKWthr
set_option linter.unusedVariables false
set_option linter.unusedSimpArgs false
set_option linter.unnecessarySimpa false
/- Wor -/
namespace Go.Proofs.Ytaocomjhepgabaa
open Go.RowKit
theorem made_row (N : Nat) : madeCells #[.int .i64 0] N = mkRow N (fun _ => 0) := by
  apply Array.ext'
  rw [toList_madeCells_one]
  simp [mkRow]
  apply List.ext_getElem
  · simp
  · intro i h1 h2; simp
theorem run_marks (N : Nat) (h : N ≤ 1000000) (w : World) : (Instr.makeSlice 63 (.int .i64 (N : Int)) (.int .i64 (N : Int))).run Try.prog w = .ok (.slice (some ⟨w.heap.size, 0, none⟩) N N) (w.alloc (.cells (mkRow N (fun _ => 0)) 3)) := by
  obtain ⟨i, hi, hz, hs, hb⟩ := info_of Try.info3
  have := run_make (P := Try.prog) w 63 3 i (.int .i64 0) Try.underlying63 hi hz .i64 .i64 N N (by omega) (Int.le_refl _) (by rw [hb]; omega) (by omega)
  rw [this]
  simp only [Int.toNat_natCast, hs, Nat.mul_one]
  show Result.ok _ (w.alloc (.cells (madeCells #[.int .i64 0] N) 3)) = _
  rw [made_row]
theorem hear_ms {g : GD} {H : Nat} {wS w : World} {vk vl : Value} {S : St Nat} {gc n cap : Nat} (h : MS g H wS w (.slice (some ⟨gc, 0, none⟩) n cap) vk vl S) {p r : List (Cl Nat)} {c : Cl Nat} (e : S.calls = p ++ c :: r) (m : Nat) :
    Calls Try.prog 30 #[.pointer (some ⟨gc, r.length * 5, none⟩), .int .i64 (m : Nat)] w fun e w' => e = .returned (.tuple #[]) ∧ MS g H wS w' (.slice (some ⟨gc, 0, none⟩) n cap) vk vl ⟨p ++ hear c m :: r, S.stack, S.list, S.depth, S.marks, S.count⟩ := by
  obtain ⟨x0, x1, x2, x3, x4, x5, x6, x7⟩ := h.callCell e
  refine (hear_any w gc (r.length * 5) m c.least c.loop c.second x6 x2 x3 x4 x5).mono ?_
  rintro e w' ⟨rfl, rfl⟩
  exact ⟨rfl, h.heard ‹S.calls = p ++ c :: r› m⟩
set_option maxHeartbeats 4000000 in
theorem rev_none {w : World} {ao : Option Addr} {cap : Nat} : Calls Try.prog 31 #[.slice ao 0 cap] w fun e w' => e = .returned (.tuple #[]) ∧ w' = w := by
  go_enter Try.func31, Try.ntmps31
  go_wp2_with fail
  go_loopg [2, 3] 1 (fun k a b wr => a = .int .i64 0 ∧ b = .int .i64 (-1) ∧ wr = w)
  case atStart => exact ⟨rfl, rfl, rfl⟩
  case round =>
    obtain ⟨rfl, rfl, rfl⟩ := hrel
    go_wp2_with fail
    go_end0
    exact ⟨rfl, rfl⟩
theorem rev_gen {w : World} {B : Nat} {v : Value} {xs : List (Int × Int × Bool)} (h : w.ownsRow B 35 3 v xs.length (fl xs)) (hm : xs.length ≤ 1000000000000) :
    Calls Try.prog 31 #[v] w fun e w' => e = .returned (.tuple #[]) ∧ w'.ownsRow B 35 3 v xs.length (fl xs.reverse) ∧ w.grownBy w' v.ownBlock := by
  by_cases h0 : 0 < xs.length
  · obtain ⟨g, cap, rfl, _, _⟩ := h.form h0
    exact rev_any h rfl h0 hm
  · have hx : xs = [] := List.length_eq_zero_iff.1 (by omega)
    subst hx
    obtain ⟨ao, cap, rfl⟩ := own_form h
    refine (rev_none (ao := ao) (cap := cap)).mono ?_
    rintro e w' ⟨rfl, rfl⟩
    exact ⟨rfl, h, World.grownBy.refl _ _⟩
def elems (g : GD) (L : List (Nat × Nat × Bool)) : List (Int × Int × Bool) := L.map (fun x => (g.vs x.1, (x.2.1 : Int), x.2.2))
theorem elCells_fl (g : GD) : ∀ L, elCells g L = fl (elems g L).reverse
  | [] => rfl
  | x :: L => by
    show elCells g L ++ el3 g x = fl (elems g (x :: L)).reverse
    rw [elCells_fl g L]
    simp [elems, fl_app, fl, e3, el3]
theorem fl_elems (g : GD) (L : List (Nat × Nat × Bool)) : (elems g L).reverse.length = L.length := by simp [elems]
end Go.Proofs.Ytaocomjhepgabaa
