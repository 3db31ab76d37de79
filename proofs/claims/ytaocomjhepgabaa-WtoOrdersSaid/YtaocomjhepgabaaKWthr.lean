import Derived.Test.YtaocomjhepgabaaKWans
set_option linter.unusedVariables false
set_option linter.unusedSimpArgs false
set_option linter.unnecessarySimpa false
/- Wthr -/
namespace Go.Proofs.Ytaocomjhepgabaa
open Go.RowKit
theorem MS.popC {g : GD} {H : Nat} {wS w : World} {vk vl : Value} {S : St Nat} {gc n cap : Nat} {c : Cl Nat} {X : List (Cl Nat)} (h : MS g H wS w (.slice (some ⟨gc, 0, none⟩) n cap) vk vl S) (e : S.calls = c :: X) (hn : n = S.calls.length) :
    MS g H wS (w.setCell ⟨H + 1, 0, none⟩ (.slice (some ⟨gc, 0, none⟩) X.length cap)) (.slice (some ⟨gc, 0, none⟩) X.length cap) vk vl ⟨X, S.stack, S.list, S.depth, S.marks, S.count⟩ := by
  have h1 := h.co
  rw [e] at h1
  have h2 : w.ownsRow (H + 10) 66 5 (.slice (some ⟨gc, 0, none⟩) n cap) n (callCells g X ++ cl5 g c) := by rw [hn, e] at h1 ⊢; exact h1
  exact h.putC (World.grownBy.refl w _) (own_cut h2 (by rw [hn, e]; simp) (callCells_len g X)) (.inl rfl)
theorem MS.popK {g : GD} {H : Nat} {wS w : World} {vc vl : Value} {S : St Nat} {gk n cap : Nat} {a X : List Nat} (h : MS g H wS w vc (.slice (some ⟨gk, 0, none⟩) n cap) vl S) (e : S.stack = a ++ X) (hn : n = S.stack.length) :
    MS g H wS (w.setCell ⟨H + 2, 0, none⟩ (.slice (some ⟨gk, 0, none⟩) X.length cap)) vc (.slice (some ⟨gk, 0, none⟩) X.length cap) vl ⟨S.calls, X, S.list, S.depth, S.marks, S.count⟩ := by
  have h1 := h.so
  rw [e, stk_app] at h1
  have h2 : w.ownsRow (H + 10) 3 1 (.slice (some ⟨gk, 0, none⟩) n cap) n (stkCells X ++ stkCells a) := by rw [hn, e] at h1 ⊢; exact h1
  exact h.putK (World.grownBy.refl w _) (own_cut h2 (by rw [hn, e]; simp) (by rw [stkCells_len]; simp)) (.inl rfl)
theorem thr_second {V : Type} [DecidableEq V] {succ : V → List V} {c : Cl V} {r : List (Cl V)} {S : St V} (h : c.second = true) : through succ c r S = ⟨answered c r, S.stack, (c.v, S.depth, true) :: S.list, S.depth - 1, S.marks, S.count⟩ := by unfold through; rw [if_pos h]
theorem thr_loop {V : Type} [DecidableEq V] {succ : V → List V} {c : Cl V} {r : List (Cl V)} {S : St V} (h : c.second = false) (h2 : c.least = S.marks c.v) (h3 : c.loop = true) : through succ c r S = ⟨⟨c.v, succ c.v, c.least, c.loop, true⟩ :: r, (takeOff c.v S.stack S.marks).1, S.list, S.depth + 1, (takeOff c.v S.stack S.marks).2, S.count⟩ := by unfold through; rw [if_neg (by simp [h]), if_pos h2, if_pos h3]
theorem thr_plain {V : Type} [DecidableEq V] {succ : V → List V} {c : Cl V} {r : List (Cl V)} {S : St V} (h : c.second = false) (h2 : c.least = S.marks c.v) (h3 : c.loop = false) : through succ c r S = ⟨answered c r, (takeOff c.v S.stack S.marks).1, (c.v, S.depth, false) :: S.list, S.depth, (takeOff c.v S.stack S.marks).2, S.count⟩ := by unfold through; rw [if_neg (by simp [h]), if_pos h2, if_neg (by simp [h3])]
theorem thr_left {V : Type} [DecidableEq V] {succ : V → List V} {c : Cl V} {r : List (Cl V)} {S : St V} (h : c.second = false) (h2 : ¬ c.least = S.marks c.v) : through succ c r S = ⟨answered c r, S.stack, S.list, S.depth, S.marks, S.count⟩ := by unfold through; rw [if_neg (by simp [h]), if_neg h2]
set_option maxHeartbeats 4000000 in
theorem thr_any {g : GD} {H : Nat} {wS w : World} {vk vl : Value} {S : St Nat} {gc n cap : Nat} (h : MS g H wS w (.slice (some ⟨gc, 0, none⟩) n cap) vk vl S) {c : Cl Nat} {r : List (Cl Nat)} (e : S.calls = c :: r) (hn : n = S.calls.length) (hl : S.calls.length ≤ 1000000000000) (hv : c.v < g.N)
    (hll : S.list.length ≤ 1000000000000) (hsl : S.stack.length ≤ 1000000000000) (hdl : S.depth ≤ 1000000000000) (hd : c.second = true → 1 ≤ S.depth) (hst : ∀ u ∈ S.stack, u < g.N) (htop : c.second = false → c.v ∈ S.stack) :
    Calls Try.prog 27 #[.pointer (some ⟨gc, r.length * 5, none⟩), .pointer (some ⟨H + 8, 0, none⟩), .pointer (some ⟨H + 4, 0, none⟩), .pointer (some ⟨H + 6, 0, none⟩), .pointer (some ⟨H + 2, 0, none⟩), .pointer (some ⟨H + 9, 0, none⟩), .pointer (some ⟨H + 1, 0, none⟩)] w fun e w' => e = .returned (.tuple #[]) ∧ ∃ vc' vk' vl', MS g H wS w' vc' vk' vl' (through g.succ c r S) := by
  obtain ⟨x0, x1, x2, x3, x4, x5, x6, x7⟩ := h.callCell (p := []) e
  obtain ⟨p0, p1, p2⟩ := box_cell h.b8
  obtain ⟨d0, d1, d2⟩ := box_cell h.b4
  obtain ⟨m0, m1, m2⟩ := box_cell h.b6
  obtain ⟨k0, k1, k2⟩ := box_cell h.b2
  obtain ⟨c0, c1, c2⟩ := box_cell h.b1
  have r0 : w.cell? ⟨H + 5, c.v, none⟩ = some (.int .i64 (S.marks c.v : Nat)) := (cell_of_row _ _ c.v _ _ _ h.b5).trans (mkRow_get _ _ c.v hv)
  have hlt := h.lt
  have hnN := h.gk.nN
  have HM : Hid (MS g H wS w (.slice (some ⟨gc, 0, none⟩) n cap) vk vl S) := h
  have HE : Hid (S.calls = c :: r) := e
  have HN : Hid (n = S.calls.length) := hn
  have HV : Hid (c.second = false → c.v ∈ S.stack) := htop
  have HS : Hid (∀ u ∈ S.stack, u < g.N) := hst
  have HX5 : Hid (∀ k, w.frozen? ⟨gc, k, none⟩ = false) := x5
  clear h e hn htop x5 hst
  cases h2 : c.second with
  | true =>
    have hd1 := hd h2
    obtain ⟨dd, hdd⟩ : ∃ dd, dd = S.depth - 1 := ⟨_, rfl⟩
    have hwr : IntKind.i64.wrap ((S.depth : Int) - 1) = (dd : Int) := wrap_nat (by omega) (by omega)
    have HD : Hid (dd = S.depth - 1) := hdd
    have HT : Hid _ := thr_second (succ := g.succ) (r := r) (S := S) h2
    clear hdd hd1 hd
    rw [h2] at x4
    clear h2
    go_enter Try.func27, Try.ntmps27
    go_wp2_with fail
    go_region_with (go_at_call 24; refine (put_any (MS.below HM.out (by repeat (first | exact Below.refl _ _ | refine Below.alloc ?_ (Nat.le_refl _) _ | refine Below.drew ?_ | refine below_drewN ?_ _))) c.v hv true hll).mono ?_; rintro e w1 ⟨rfl, vl1, hF⟩; have HF : Hid (MS g H wS w1 (.slice (some ⟨gc, 0, none⟩) n cap) vk vl1 ⟨S.calls, S.stack, (c.v, S.depth, true) :: S.list, S.depth, S.marks, S.count⟩) := hF; clear hF)
    all_goals
      clear x0 x1 x2 x3 x4 x6 p0 p1 p2 d0 d1 d2 m0 m1 m2 k0 k1 k2 c0 c1 c2 r0 hlt
      obtain ⟨d0, d1, d2⟩ := box_cell HF.out.b4
      have HF2 : Hid (MS g H wS (w1.setCell ⟨H + 4, 0, none⟩ (.int .i64 (dd : Nat))) (.slice (some ⟨gc, 0, none⟩) n cap) vk vl1 _) := HF.out.setDepth dd
      obtain ⟨c0, c1, c2⟩ := box_cell HF.out.b1
      go_wp2_with (go_at_call 29; refine (ans_any HF2.out (c := c) (r := r) HE.out HN.out hl).mono ?_; rintro e w2 ⟨rfl, hF⟩; have HF3 : Hid (MS g H wS w2 (.slice (some ⟨gc, 0, none⟩) n cap) vk vl1 ⟨c :: answered c r, S.stack, (c.v, S.depth, true) :: S.list, dd, S.marks, S.count⟩) := hF; clear hF d0 d1 d2 c0 c1 c2; obtain ⟨c0, c1, c2⟩ := box_cell HF3.out.b1)
      go_end0
      have hf := HF3.out.popC (c := c) (X := answered c r) rfl (by rw [HN.out, HE.out]; simp [len_answered])
      rw [len_answered] at hf
      rw [HT.out, ← HD.out]
      exact ⟨rfl, _, _, _, hf⟩
  | false =>
    have htop := HV.out h2
    have hx4 := h2
    by_cases h3 : c.least = S.marks c.v
    · have e1 : ((c.least : Int) == (S.marks c.v : Int)) = true := by simp [h3]
      have hpos : 0 < S.stack.length := List.length_pos_of_mem htop
      obtain ⟨gk, kcap, rfl, hgk1, hgk2⟩ := HM.out.so.form hpos
      have HVT : Hid (c.v ∈ S.stack) := htop
      have HL3 : Hid (c.least = S.marks c.v) := h3
      have HT1 : Hid (c.loop = true → _) := fun h4 => thr_loop (succ := g.succ) (r := r) (S := S) h2 h3 h4
      have HT2 : Hid (c.loop = false → _) := fun h4 => thr_plain (succ := g.succ) (r := r) (S := S) h2 h3 h4
      rw [h2] at x4
      rw [h3] at x2
      have e2 : ((S.marks c.v : Int) == (S.marks c.v : Int)) = true := by simp
      clear h2 hx4 htop h3 hd HV e1
      go_enter Try.func27, Try.ntmps27
      go_wp2_with fail
      go_quiet (fail)
      go_wp2_with fail
      go_region_with (go_at_call 28; refine (off_any (MS.below HM.out (by repeat (first | exact Below.refl _ _ | refine Below.alloc ?_ (Nat.le_refl _) _ | refine Below.drew ?_ | refine below_drewN ?_ _))) rfl c.v HVT.out HS.out hsl).mono ?_; rintro e w1 ⟨rfl, hF, hA⟩; have HF : Hid (MS g H wS w1 (.slice (some ⟨gc, 0, none⟩) n cap) (.slice (some ⟨gk, 0, none⟩) S.stack.length kcap) vl ⟨S.calls, S.stack, S.list, S.depth, (takeOff c.v S.stack S.marks).2, S.count⟩) := hF; have HA : Hid (∃ a, S.stack = a ++ (takeOff c.v S.stack S.marks).1) := hA; clear hF hA; obtain ⟨kk0, kk1, kk2⟩ := box_cell HF.out.b2)
      all_goals
        obtain ⟨a, ha⟩ := HA.out
        have HF2 : Hid (MS g H wS (w1.setCell ⟨H + 2, 0, none⟩ (.slice (some ⟨gk, 0, none⟩) (takeOff c.v S.stack S.marks).1.length kcap)) (.slice (some ⟨gc, 0, none⟩) n cap) _ vl ⟨S.calls, (takeOff c.v S.stack S.marks).1, S.list, S.depth, (takeOff c.v S.stack S.marks).2, S.count⟩) := HF.out.popK (a := a) ha rfl
        clear ha a HA HF x0 x1 x2 x3 x4 x6 p0 p1 p2 d0 d1 d2 m0 m1 m2 k0 k1 k2 c0 c1 c2 r0 hlt kk0 kk1 kk2 hgk1 hgk2 HM HX5
        obtain ⟨W, hW⟩ : ∃ W, W = w1.setCell ⟨H + 2, 0, none⟩ (.slice (some ⟨gk, 0, none⟩) (takeOff c.v S.stack S.marks).1.length kcap) := ⟨_, rfl⟩
        rw [← hW] at HF2 ⊢
        clear hW
        obtain ⟨x0, x1, x2, x3, x4, x5, x6, x7⟩ := HF2.out.callCell (p := []) HE.out
        clear x1 x2 x4 x5
        obtain ⟨p0, p1, p2⟩ := box_cell HF2.out.b8
        obtain ⟨k0, k1, k2⟩ := box_cell HF2.out.b9
        obtain ⟨c0, c1, c2⟩ := box_cell HF2.out.b1
        cases h4 : c.loop with
        | true =>
          rw [h4] at x3
          have HT := HT1.out h4
          have HT' : Hid _ := HT
          clear HT HT1 HT2 h4
          go_wp2_with (go_at_call 26; refine (comp_any HF2.out (c := c) (r := r) HE.out hv hdl).mono ?_; rintro e w2 ⟨rfl, hF⟩; have HF3 : Hid _ := hF; clear hF)
          (try simp only [Exit.inBlock, Exit.then])
          refine bodyPost_ret (results_none rfl _ _ _) rfl ?_
          rw [HT'.out]
          exact ⟨rfl, _, _, _, HF3.out⟩
        | false =>
          rw [h4] at x3
          have HT := HT2.out h4
          have HT' : Hid _ := HT
          clear HT HT1 HT2 h4
          go_wp2_with fail
          go_region_with (go_at_call 24; refine (put_any (MS.below HF2.out (by repeat (first | exact Below.refl _ _ | refine Below.alloc ?_ (Nat.le_refl _) _ | refine Below.drew ?_ | refine below_drewN ?_ _))) c.v hv false hll).mono ?_; rintro e w2 ⟨rfl, vl1, hF⟩; have HF : Hid (MS g H wS w2 (.slice (some ⟨gc, 0, none⟩) n cap) _ vl1 ⟨S.calls, (takeOff c.v S.stack S.marks).1, (c.v, S.depth, false) :: S.list, S.depth, (takeOff c.v S.stack S.marks).2, S.count⟩) := hF; clear hF)
          all_goals
            clear x0 x3 x6 p0 p1 p2 k0 k1 k2 c0 c1 c2
            obtain ⟨c0, c1, c2⟩ := box_cell HF.out.b1
            go_wp2_with (go_at_call 29; refine (ans_any HF.out (c := c) (r := r) HE.out HN.out hl).mono ?_; rintro e w3 ⟨rfl, hF⟩; have HF3 : Hid (MS g H wS w3 (.slice (some ⟨gc, 0, none⟩) n cap) _ vl1 ⟨c :: answered c r, (takeOff c.v S.stack S.marks).1, (c.v, S.depth, false) :: S.list, S.depth, (takeOff c.v S.stack S.marks).2, S.count⟩) := hF; clear hF c0 c1 c2; obtain ⟨c0, c1, c2⟩ := box_cell HF3.out.b1)
            go_end0
            have hf := HF3.out.popC (c := c) (X := answered c r) rfl (by rw [HN.out, HE.out]; simp [len_answered])
            rw [len_answered] at hf
            rw [HT'.out]
            exact ⟨rfl, _, _, _, hf⟩
    · have e1 : ((c.least : Int) == (S.marks c.v : Int)) = false := by simp; omega
      have HT' : Hid _ := thr_left (succ := g.succ) (r := r) (S := S) h2 h3
      rw [h2] at x4
      have e3 : ¬ (c.least : Int) = (S.marks c.v : Int) := by omega
      clear h2 hx4 htop h3 hd HV
      go_enter Try.func27, Try.ntmps27
      go_wp2_with fail
      go_quiet (fail)
      go_wp2_with (go_at_call 29; refine (ans_any (MS.below HM.out (by repeat (first | exact Below.refl _ _ | refine Below.alloc ?_ (Nat.le_refl _) _ | refine Below.drew ?_ | refine below_drewN ?_ _))) (c := c) (r := r) HE.out HN.out hl).mono ?_; rintro e w3 ⟨rfl, hF⟩; have HF3 : Hid (MS g H wS w3 (.slice (some ⟨gc, 0, none⟩) n cap) vk vl ⟨c :: answered c r, S.stack, S.list, S.depth, S.marks, S.count⟩) := hF; clear hF c0 c1 c2; obtain ⟨c0, c1, c2⟩ := box_cell HF3.out.b1)
      go_end0
      have hf := HF3.out.popC (c := c) (X := answered c r) rfl (by rw [HN.out, HE.out]; simp [len_answered])
      rw [len_answered] at hf
      rw [HT'.out]
      exact ⟨rfl, _, _, _, hf⟩
end Go.Proofs.Ytaocomjhepgabaa
