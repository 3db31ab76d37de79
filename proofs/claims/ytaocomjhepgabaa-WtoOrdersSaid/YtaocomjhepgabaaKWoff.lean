import Derived.Test.YtaocomjhepgabaaKWvis
set_option linter.unusedVariables false
set_option linter.unusedSimpArgs false
set_option linter.unnecessarySimpa false
/- Woff -/
namespace Go.Proofs.Ytaocomjhepgabaa
open Go.RowKit
theorem stk_at (u : Nat) (s : List Nat) : ∀ p, (stkCells (p ++ u :: s))[s.length]? = some (.int .i64 (u : Nat))
  | [] => by
    show (stkCells s ++ [Value.int .i64 (u : Nat)])[s.length]? = _
    rw [← stkCells_len s]; simp
  | a :: p => by
    show (stkCells (p ++ u :: s) ++ [Value.int .i64 (a : Nat)])[s.length]? = _
    rw [List.getElem?_append_left (by rw [stkCells_len]; simp; omega)]
    exact stk_at u s p
theorem MS.stkCell {g : GD} {H : Nat} {wS w : World} {vc vl : Value} {S : St Nat} {gk n cap : Nat} (h : MS g H wS w vc (.slice (some ⟨gk, 0, none⟩) n cap) vl S) {p s : List Nat} {u : Nat} (e : S.stack = p ++ u :: s) : w.cell? ⟨gk, s.length, none⟩ = some (.int .i64 (u : Nat)) := by
  have := h.so.cells (g := gk) rfl s.length _ (by rw [e]; exact stk_at u s p)
  have hadd : (⟨gk, 0, none⟩ : Addr).add s.length = ⟨gk, s.length, none⟩ := by unfold Addr.add; split <;> simp_all
  rwa [hadd] at this
theorem own_cap {w : World} {B e s n gk cap : Nat} {xs : List Value} (h : w.ownsRow B e s (.slice (some ⟨gk, 0, none⟩) n cap) n xs) : n ≤ cap ∧ cap ≤ maxLen := by
  rcases h.2 with ⟨e, _⟩ | ⟨g', cp, cur, e, h1, h2, h3, h4, h5, h6⟩
  · cases e
  · injection e with e1 e2 e3
    subst e3
    exact ⟨h3, h4⟩
theorem stk_app : ∀ (a b : List Nat), stkCells (a ++ b) = stkCells b ++ stkCells a
  | [], b => by simp [stkCells]
  | x :: a, b => by simp [stkCells, stk_app a b]
set_option maxHeartbeats 4000000 in
theorem off_any {g : GD} {H : Nat} {wS w : World} {vc vl : Value} {S : St Nat} {gk n kcap : Nat} (h : MS g H wS w vc (.slice (some ⟨gk, 0, none⟩) n kcap) vl S) (hn : n = S.stack.length) (v : Nat) (hv : v ∈ S.stack) (hs : ∀ u ∈ S.stack, u < g.N) (hl : S.stack.length ≤ 1000000000000) :
    Calls Try.prog 28 #[.slice (some ⟨H + 5, 0, none⟩) g.N g.N, .slice (some ⟨gk, 0, none⟩) n kcap, .int .i64 (v : Nat)] w fun e w' => e = .returned (.slice (some ⟨gk, 0, none⟩) (takeOff v S.stack S.marks).1.length kcap) ∧ MS g H wS w' vc (.slice (some ⟨gk, 0, none⟩) n kcap) vl ⟨S.calls, S.stack, S.list, S.depth, (takeOff v S.stack S.marks).2, S.count⟩ ∧ ∃ a, S.stack = a ++ (takeOff v S.stack S.marks).1 := by
  obtain ⟨y, hy⟩ : ∃ y, n = y + 1 := by
    cases hq : S.stack with
    | nil => rw [hq] at hv; cases hv
    | cons a b => exact ⟨b.length, by rw [hn, hq]; rfl⟩
  have hcap := own_cap (by rw [hn]; rw [hn] at h; exact h.so : w.ownsRow (H + 10) 3 1 (.slice (some ⟨gk, 0, none⟩) n kcap) n (stkCells S.stack))
  have hcap1 := hcap.1
  have hcap2 := hcap.2
  simp only [maxLen] at hcap2
  clear hcap
  have hy1 : IntKind.i64.wrap ((n : Int) - 1) = (y : Int) := wrap_nat (by omega) (by omega)
  have HM : Hid (MS g H wS w vc (.slice (some ⟨gk, 0, none⟩) n kcap) vl S) := h
  have HN : Hid (n = S.stack.length) := hn
  have HY : Hid (n = y + 1) := hy
  have HV : Hid (v ∈ S.stack) := hv
  clear h hn hy hv
  have hnN := HM.out.gk.nN
  go_enter Try.func28, Try.ntmps28
  go_wp2_with fail
  go_loopw [7] (fun a wr => ∃ (t : List Nat) (m : Nat → Nat) (p : List Nat), a = .int .i64 ((t.length - 1 : Nat) : Int) ∧ Hid (S.stack = p ++ t ∧ v ∈ t ∧ takeOff v S.stack S.marks = takeOff v t m) ∧ Hid (MS g H wS wr vc (.slice (some ⟨gk, 0, none⟩) n kcap) vl ⟨S.calls, S.stack, S.list, S.depth, m, S.count⟩)) (fun a _ => (intOf a).toNat)
  case atStart =>
    refine ⟨S.stack, S.marks, [], ?_, ⟨rfl, HV.out, rfl⟩, HM⟩
    have := HN.out; have := HY.out
    rw [show S.stack.length - 1 = y by omega]
  case round =>
    obtain ⟨t, m, p, rfl, HT, HR⟩ := hrel
    obtain ⟨ht1, ht2, ht3⟩ := HT.out
    cases t with
    | nil => cases ht2
    | cons u s =>
      have hcu := HR.out.stkCell ht1
      have hlt := HR.out.lt
      have hun : u < g.N := hs u (by rw [ht1]; simp)
      have hvn : v < g.N := hs v HV.out
      have hsn : s.length < n := by rw [HN.out, ht1]; simp; omega
      have hsc : s.length ≤ kcap := by omega
      have r0 : wr.cell? ⟨H + 5, u, none⟩ = some (.int .i64 (m u : Nat)) := (cell_of_row _ _ u _ _ _ HR.out.b5).trans (mkRow_get _ _ u hun)
      have r1 : wr.frozen? ⟨H + 5, u, none⟩ = false := frozen_of_row _ _ _ _ _ HR.out.b5
      have r2 : wr.cell? ⟨H + 5, v, none⟩ = some (.int .i64 (m v : Nat)) := (cell_of_row _ _ v _ _ _ HR.out.b5).trans (mkRow_get _ _ v hvn)
      have r3 : wr.frozen? ⟨H + 5, v, none⟩ = false := frozen_of_row _ _ _ _ _ HR.out.b5
      have e0 : (u :: s).length - 1 = s.length := by simp
      rw [e0]
      have HT1 : Hid (S.stack = p ++ u :: s) := ht1
      have HT3 : Hid (takeOff v S.stack S.marks = takeOff v (u :: s) m) := ht3
      have HT2 : Hid (v ∈ u :: s) := ht2
      clear ht1 ht2 ht3 HT e0
      by_cases e : u = v
      · subst e
        have HE : Hid (takeOff u S.stack S.marks = (s, upd m u DONE)) := by
          unfold Hid; rw [HT3.out]; simp [takeOff]
        go_wp2_with fail
        go_ret
        have hm := HR.out.setMark u DONE
        rw [HE.out]
        exact ⟨rfl, hm, p ++ [u], by rw [HT1.out]; simp⟩
      · have e1 : ((u : Int) == (v : Int)) = false := by simp; omega
        have e2 : ((u : Int) != (v : Int)) = true := by simp; omega
        have e3 : ¬ (u : Int) = (v : Int) := by omega
        obtain ⟨b, rest, hb⟩ : ∃ b rest, s = b :: rest := by
          cases s with
          | nil => rcases List.mem_cons.1 HT2.out with h | h
                   · exact absurd h.symm e
                   · cases h
          | cons b rest => exact ⟨b, rest, rfl⟩
        have hsl : s.length = rest.length + 1 := by rw [hb]; rfl
        have hz : IntKind.i64.wrap ((s.length : Int) - 1) = (rest.length : Int) := wrap_nat (by omega) (by omega)
        clear hsl
        have HB : Hid (s = b :: rest) := hb
        clear hb
        go_wp2_with fail
        have hm := HR.out.setMark u 0
        refine ⟨⟨s, upd m u 0, p ++ [u], by rw [HB.out]; rfl, ⟨by rw [HT1.out]; simp, ?_, by rw [HT3.out]; simp [takeOff, e]⟩, hm⟩, ?_⟩
        · rcases List.mem_cons.1 HT2.out with h | h
          · exact absurd h.symm e
          · exact h
        · simp only [intOf]; rw [HB.out]; simp
end Go.Proofs.Ytaocomjhepgabaa
