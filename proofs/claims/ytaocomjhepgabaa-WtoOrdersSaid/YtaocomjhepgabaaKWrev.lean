import Derived.Deep.LoopGhost
import Derived.Test.YtaocomjhepgabaaKWvis
set_option linter.unusedVariables false
set_option linter.unusedSimpArgs false
set_option linter.unnecessarySimpa false
/- Wrev -/
namespace Go.Proofs.Ytaocomjhepgabaa
open Go.RowKit
def e3 (x : Int × Int × Bool) : List Value := [.int .i64 x.1, .int .i64 x.2.1, .bool x.2.2]
def fl : List (Int × Int × Bool) → List Value
  | [] => []
  | x :: r => e3 x ++ fl r
theorem fl_len : ∀ ys, (fl ys).length = ys.length * 3
  | [] => rfl
  | x :: r => by simp [fl, e3, fl_len r]; omega
theorem fl_app : ∀ a b, fl (a ++ b) = fl a ++ fl b
  | [], b => rfl
  | x :: a, b => by simp [fl, fl_app a b]
theorem fl_get : ∀ (ys : List (Int × Int × Bool)) (k : Nat) (x : Int × Int × Bool) (f : Nat) (u : Value), ys[k]? = some x → (e3 x)[f]? = some u → (fl ys)[k * 3 + f]? = some u
  | [], k, x, f, u, h, _ => by simp at h
  | y :: ys, 0, x, f, u, h, hu => by
    simp at h; subst h
    have hf : f < 3 := by have := (List.getElem?_eq_some_iff.1 hu).1; simpa [e3] using this
    show (e3 y ++ fl ys)[0 * 3 + f]? = some u
    rw [Nat.zero_mul, Nat.zero_add, List.getElem?_append_left (by simpa [e3] using hf)]; exact hu
  | y :: ys, k + 1, x, f, u, h, hu => by
    show (e3 y ++ fl ys)[(k + 1) * 3 + f]? = some u
    rw [List.getElem?_append_right (by simp [e3]; omega)]
    have : (k + 1) * 3 + f - (e3 y).length = k * 3 + f := by simp [e3]; omega
    rw [this]
    exact fl_get ys k x f u (by simpa using h) hu
theorem fl_set : ∀ (ys : List (Int × Int × Bool)) (k : Nat) (x : Int × Int × Bool), fl (ys.set k x) = (((fl ys).set (k * 3) (.int .i64 x.1)).set (k * 3 + 1) (.int .i64 x.2.1)).set (k * 3 + 2) (.bool x.2.2)
  | [], k, x => by simp [fl]
  | y :: ys, 0, x => by simp [fl, e3]
  | y :: ys, k + 1, x => by
    show e3 y ++ fl (ys.set k x) = (((e3 y ++ fl ys).set ((k + 1) * 3) _).set ((k + 1) * 3 + 1) _).set ((k + 1) * 3 + 2) _
    rw [fl_set ys k x]
    have h3 : (e3 y).length = 3 := rfl
    rw [List.set_append_right _ _ (by rw [h3]; omega), List.set_append_right _ _ (by rw [h3]; omega), List.set_append_right _ _ (by rw [h3]; omega)]
    rw [h3, show (k + 1) * 3 - 3 = k * 3 by omega, show (k + 1) * 3 + 1 - 3 = k * 3 + 1 by omega, show (k + 1) * 3 + 2 - 3 = k * 3 + 2 by omega]
theorem own_row {w : World} {B e s n g cap : Nat} {xs : List Value} (h : w.ownsRow B e s (.slice (some ⟨g, 0, none⟩) n cap) n xs) :
    ∃ cur : Array Value, B ≤ g ∧ w.heap[g]? = some (.cells cur e (0, 0)) ∧ n ≤ cap ∧ cap ≤ maxLen ∧ cur.size = cap * s ∧ cur.toList.take (n * s) = xs := by
  rcases h.2 with ⟨h, _⟩ | ⟨g', cp, cur, h, h1, h2, h3, h4, h5, h6⟩
  · cases h
  · injection h with e1 e2 e3
    injection e1 with e1
    injection e1 with e1
    subst e1 e3
    exact ⟨cur, h1, h2, h3, h4, h5, h6⟩
theorem own_setv {w : World} {B e s n g cap : Nat} {xs : List Value} (h : w.ownsRow B e s (.slice (some ⟨g, 0, none⟩) n cap) n xs) (j : Nat) (x : Value) :
    (w.setCell ⟨g, j, none⟩ x).ownsRow B e s (.slice (some ⟨g, 0, none⟩) n cap) n (xs.set j x) := by
  obtain ⟨cur, h1, h2, h3, h4, h5, h6⟩ := own_row h
  refine ⟨?_, .inr ⟨g, cap, _, rfl, h1, heap_setCell_same _ _ _ _ _ _ h2, h3, h4, by simpa using h5, ?_⟩⟩
  · have := h.1
    simpa using this
  · rw [← h6]
    simp [List.take_set]
def set3 (w : World) (g k : Nat) (x : Int × Int × Bool) : World := ((w.setCell ⟨g, k * 3, none⟩ (.int .i64 x.1)).setCell ⟨g, k * 3 + 1, none⟩ (.int .i64 x.2.1)).setCell ⟨g, k * 3 + 2, none⟩ (.bool x.2.2)
theorem own_set3 {w : World} {B n g cap : Nat} {ys : List (Int × Int × Bool)} (h : w.ownsRow B 35 3 (.slice (some ⟨g, 0, none⟩) n cap) n (fl ys)) (k : Nat) (x : Int × Int × Bool) :
    (set3 w g k x).ownsRow B 35 3 (.slice (some ⟨g, 0, none⟩) n cap) n (fl (ys.set k x)) := by
  rw [fl_set]
  exact own_setv (own_setv (own_setv h _ _) _ _) _ _
theorem grown_set3 {w w1 : World} {g k : Nat} {x : Int × Int × Bool} (h : w.grownBy w1 (some g)) : w.grownBy (set3 w1 g k x) (some g) :=
  ((h.trans (grown_set _ _ _)).trans (grown_set _ _ _)).trans (grown_set _ _ _)
theorem own_cell3 {w : World} {B n g cap : Nat} {ys : List (Int × Int × Bool)} (h : w.ownsRow B 35 3 (.slice (some ⟨g, 0, none⟩) n cap) n (fl ys)) {k : Nat} {x : Int × Int × Bool} (hk : ys[k]? = some x) :
    w.cell? ⟨g, k * 3, none⟩ = some (.int .i64 x.1) ∧ w.cell? ⟨g, k * 3 + 1, none⟩ = some (.int .i64 x.2.1) ∧ w.cell? ⟨g, k * 3 + 2, none⟩ = some (.bool x.2.2) ∧ (∀ o, w.frozen? ⟨g, o, none⟩ = false) ∧ g < w.heap.size := by
  have key : ∀ (f : Nat) (u : Value), (e3 x)[f]? = some u → w.cell? ⟨g, k * 3 + f, none⟩ = some u := fun f u hu => by
    have := h.cells (g := g) rfl (k * 3 + f) u (fl_get ys k x f u hk hu)
    have hadd : (⟨g, 0, none⟩ : Addr).add (k * 3 + f) = ⟨g, k * 3 + f, none⟩ := by unfold Addr.add; split <;> simp_all
    rwa [hadd] at this
  obtain ⟨cur, h1, h2, h3, h4, h5, h6⟩ := own_row h
  exact ⟨key 0 _ rfl, key 1 _ rfl, key 2 _ rfl, fun o => frozen_of_row _ _ _ _ _ h2, lt_row h2⟩
/-- Where Reverse stands behind i rounds. -/
def RevAt (xs ys : List (Int × Int × Bool)) (i : Nat) : Prop := ys.length = xs.length ∧ ∀ k, k < xs.length → ys[k]? = if k < i ∨ xs.length ≤ k + i then xs[xs.length - 1 - k]? else xs[k]?
theorem RevAt.next {xs ys : List (Int × Int × Bool)} {i j : Nat} {a b : Int × Int × Bool} (h : RevAt xs ys i) (hij : i + j + 1 = xs.length) (hlt : i < j) (ha : ys[i]? = some a) (hb : ys[j]? = some b) : RevAt xs ((ys.set i b).set j a) (i + 1) := by
  refine ⟨by simpa using h.1, fun k hk => ?_⟩
  have hi := h.2 i (by omega)
  have hj := h.2 j (by omega)
  rw [if_neg (by omega), ha] at hi
  rw [if_neg (by omega), hb] at hj
  have hl := h.1
  rw [List.getElem?_set, List.getElem?_set]
  by_cases e1 : j = k
  · subst e1
    rw [if_pos rfl, if_pos (by simp; omega), if_pos (by omega), show xs.length - 1 - j = i by omega]
    exact hi
  · rw [if_neg e1]
    by_cases e2 : i = k
    · subst e2
      rw [if_pos rfl, if_pos (by omega), if_pos (by omega), show xs.length - 1 - i = j by omega]
      exact hj
    · rw [if_neg e2, h.2 k hk]
      by_cases h3 : k < i ∨ xs.length ≤ k + i
      · rw [if_pos h3, if_pos (by omega)]
      · rw [if_neg h3, if_neg (by omega)]
theorem RevAt.done {xs ys : List (Int × Int × Bool)} {i : Nat} (h : RevAt xs ys i) (hd : xs.length ≤ i + i + 1) : ys = xs.reverse := by
  apply List.ext_getElem?
  intro k
  by_cases hk : k < xs.length
  · rw [h.2 k hk, List.getElem?_reverse hk]
    split
    · rfl
    · rw [show xs.length - 1 - k = k by omega]
  · have h1 : ys[k]? = none := by rw [List.getElem?_eq_none]; rw [h.1]; omega
    have h2 : xs.reverse[k]? = none := by rw [List.getElem?_eq_none]; simp; omega
    rw [h1, h2]
theorem grown_any {w w' : World} (h : Below w.heap.size w w') (row : Option Nat) : w.grownBy w' row := ⟨h.os, h.tape, h.output, h.size, fun k hk _ => h.block k hk⟩
set_option maxHeartbeats 4000000 in
theorem rev_any {w : World} {B n g cap : Nat} {xs : List (Int × Int × Bool)} (h : w.ownsRow B 35 3 (.slice (some ⟨g, 0, none⟩) n cap) n (fl xs)) (hn : n = xs.length) (h0 : 0 < n) (hm : n ≤ 1000000000000) :
    Calls Try.prog 31 #[.slice (some ⟨g, 0, none⟩) n cap] w fun e w' => e = .returned (.tuple #[]) ∧ w'.ownsRow B 35 3 (.slice (some ⟨g, 0, none⟩) n cap) n (fl xs.reverse) ∧ w.grownBy w' (some g) := by
  have HO : Hid (w.ownsRow B 35 3 (.slice (some ⟨g, 0, none⟩) n cap) n (fl xs)) := h
  have HN : Hid (n = xs.length) := hn
  obtain ⟨y, hy⟩ : ∃ y, n = y + 1 := ⟨n - 1, by omega⟩
  have hy1 : IntKind.i64.wrap ((n : Int) - 1) = (y : Int) := wrap_nat (by omega) (by omega)
  have HY : Hid (n = y + 1) := hy
  clear h hn hy
  go_enter Try.func31, Try.ntmps31
  go_wp2_with fail
  go_loopg [2, 3] n (fun k a b wr => ∃ (i : Nat) (ys : List (Int × Int × Bool)), i ≤ y ∧ a = .int .i64 (i : Nat) ∧ b = .int .i64 ((y : Int) - (i : Int)) ∧ k + i = n ∧ Hid (RevAt xs ys i) ∧ Hid (wr.ownsRow B 35 3 (.slice (some ⟨g, 0, none⟩) n cap) n (fl ys)) ∧ Hid (w.grownBy wr (some g)))
  case atStart =>
    refine ⟨0, xs, by omega, rfl, by simp, rfl, ⟨rfl, fun k hk => ?_⟩, HO, World.grownBy.refl w _⟩
    rw [if_neg (by omega)]
  case round =>
    obtain ⟨i, ys, hiy, rfl, rfl, hki, HR, HW, HG⟩ := hrel
    obtain ⟨j, hj⟩ : ∃ j : Nat, y = i + j := ⟨y - i, by omega⟩
    have hjj : ((y : Int) - (i : Int)) = (j : Int) := by omega
    rw [hjj]
    have HJ : Hid (y = i + j) := hj
    have hyn := HY.out
    have HKI : Hid (gk + i = n) := hki
    clear hjj hki
    have hin : i < n := by omega
    have hjn : j < n := by omega
    have hl := HR.out.1
    have hxl := HN.out
    by_cases hlt : i < j
    · have hlt' : (i : Int) < (j : Int) := by omega
      obtain ⟨a, ha⟩ : ∃ a, ys[i]? = some a := ⟨ys[i]'(by omega), by simp [List.getElem?_eq_getElem (show i < ys.length by omega)]⟩
      obtain ⟨b, hb⟩ : ∃ b, ys[j]? = some b := ⟨ys[j]'(by omega), by simp [List.getElem?_eq_getElem (show j < ys.length by omega)]⟩
      obtain ⟨a0, a1, a2, a3, a4⟩ := own_cell3 HW.out ha
      obtain ⟨b0, b1, b2, b3, b4⟩ := own_cell3 HW.out hb
      have f0 := a3 (i * 3); have f1 := a3 (i * 3 + 1); have f2 := a3 (i * 3 + 2)
      have f3 := a3 (j * 3); have f4 := a3 (j * 3 + 1); have f5 := a3 (j * 3 + 2)
      have HA : Hid (ys[i]? = some a) := ha
      have HB : Hid (ys[j]? = some b) := hb
      have w1 : IntKind.i64.wrap ((i : Int) + 1) = ((i + 1 : Nat) : Int) := wrap_nat (by omega) (by omega)
      have w2 : IntKind.i64.wrap ((j : Int) - 1) = ((j - 1 : Nat) : Int) := wrap_nat (by omega) (by omega)
      have n1 : ¬ i * 3 = j * 3 := by omega
      have HC : Hid (i + j + 1 = xs.length) := by unfold Hid; omega
      clear a3 b3 ha hb hj hyn hl hxl
      go_wp2_with fail
      go_region
      all_goals
        go_wp2_with fail
        go_roundg (gk - 1)
        case measure => have := HKI.out; omega
        case rel =>
          have hki := HKI.out
          have hjo := HJ.out
          refine ⟨i + 1, (ys.set i b).set j a, by omega, rfl, ?_, by omega, RevAt.next HR.out HC.out hlt HA.out HB.out, World.ownsRow.kept (own_set3 (own_set3 HW.out i b) j a) (grown_below (Below.refl _ _).drew) (Classical.em _), (grown_set3 (grown_set3 HG.out)).trans (grown_any (Below.refl _ _).drew _)⟩
          congr 1
          have := HJ.out
          omega
    · have hlt' : ¬ (i : Int) < (j : Int) := by omega
      have HE : Hid (ys = xs.reverse) := RevAt.done HR.out (by omega)
      clear hj hyn hl hxl
      go_wp2_with fail
      go_end0
      refine ⟨rfl, ?_, HG.out⟩
      rw [← HE.out]; exact HW.out
end Go.Proofs.Ytaocomjhepgabaa
