import Derived.Test.YtjngjanheoeojaaDoorFit
namespace Go.Proofs.YtjngjanheoeojaaDoor
set_option linter.unusedVariables false
set_option linter.unusedSimpArgs false
open Go.RowKit
/-- A node of the path: its kind, and how many things it holds. -/
abbrev Hold := Nat × Nat
/-- The path at block b. -/
structure PathIs (w : World) (b : Nat) (st : List Hold) (begun : Bool) : Prop where
  lt : b < w.heap.size
  len : st.length ≤ 25
  depth : w.cell? ⟨b, 50, none⟩ = some (.int .i64 st.length)
  begun : w.cell? ⟨b, 51, none⟩ = some (.bool begun)
  kind : ∀ (i : Nat) (h : i < st.length), w.cell? ⟨b, i * 2, none⟩ = some (.int .i64 st[i].1)
  held : ∀ (i : Nat) (h : i < st.length), w.cell? ⟨b, i * 2 + 1, none⟩ = some (.int .i64 st[i].2)
  room : ∀ i, i < 52 → ∃ v, w.cell? ⟨b, i, none⟩ = some v
  warm : ∀ i, w.frozen? ⟨b, i, none⟩ = false
theorem RulesIs.below {w w1 : World} (h : RulesIs w) (hb : Below w.heap.size w w1) : RulesIs w1 := by
  have hc : ∀ o, w1.cell? ⟨0, o, none⟩ = w.cell? ⟨0, o, none⟩ := fun o => hb.cell (p := ⟨0, o, none⟩) h.lt
  have hz := hb.size
  have := h.lt
  constructor
  case lt => omega
  all_goals (intro k hk; rw [hc])
  · exact h.sort k hk
  · exact h.named k hk
  · exact h.most k hk
  · exact h.op0 k hk
  · exact h.op1 k hk
  · exact h.h0 k hk
  · exact h.h1 k hk
  · exact h.h2 k hk
  · exact h.want k hk
theorem PathIs.below {w w1 : World} {b : Nat} {st : List Hold} {g : Bool} (h : PathIs w b st g) (hb : Below w.heap.size w w1) : PathIs w1 b st g := by
  have hc : ∀ o, w1.cell? ⟨b, o, none⟩ = w.cell? ⟨b, o, none⟩ := fun o => hb.cell (p := ⟨b, o, none⟩) h.lt
  have hf : ∀ o, w1.frozen? ⟨b, o, none⟩ = w.frozen? ⟨b, o, none⟩ := fun o => hb.frozen (p := ⟨b, o, none⟩) h.lt
  have hz := hb.size
  have := h.lt
  exact ⟨by omega, h.len, by rw [hc]; exact h.depth, by rw [hc]; exact h.begun, fun i hi => by rw [hc]; exact h.kind i hi, fun i hi => by rw [hc]; exact h.held i hi, fun i hi => by rw [hc]; exact h.room i hi, fun i => by rw [hf]; exact h.warm i⟩
def wantsB (st : List Hold) : Bool := st.any fun h => decide ((h.2 : Int) < rWant h.1)
theorem rWant_bd (k : Nat) : 0 ≤ rWant k ∧ rWant k ≤ 2 := by
  by_cases h : k < 16
  · have : ∀ j : Fin 16, 0 ≤ rWant j ∧ rWant j ≤ 2 := by decide
    exact this ⟨k, h⟩
  · have : rWant k = 0 := by unfold rWant; rw [List.getD_eq_getElem?_getD, List.getElem?_eq_none (by simp; omega)]; rfl
    omega
set_option maxHeartbeats 2000000 in
theorem pwants_any (b n : Nat) (st : List Hold) (g : Bool) (w : World) (hn : n ≤ st.length) (hn2 : n < 25) (hk : ∀ h ∈ st, h.1 < 16) (hR : RulesIs w) (hP : PathIs w b st g) :
    Calls Tryd.prog 18 #[.pointer (some ⟨b, 0, none⟩), .int .i64 n] w fun e w' => e = .returned (.bool (wantsB (st.drop n))) ∧ Below w.heap.size w w' := by
  have c0 := hP.depth
  have hl := hP.len
  have hlt := hP.lt
  have h1 : (st.length : Int) ≤ 25 := by omega
  have h2 : (n : Int) ≤ st.length := by omega
  have h25 : ¬ 25 = n := by omega
  have HK : Hid _ := hk
  have HR : Hid _ := hR
  have HP : Hid _ := hP
  clear hk hR hP
  go_enter Tryd.func18, Tryd.ntmps18
  go_wp2
  go_quiet (fail)
  go_wp2
  clear c0
  go_loopw [17] (fun t wr => ∃ k : Nat, n + k ≤ st.length ∧ t = .int .i64 k ∧ Hid (wantsB (st.drop n) = wantsB (st.drop (n + k))) ∧ Below w.heap.size w wr) (fun t _ => st.length - n - (intOf t).toNat)
  case atStart => exact ⟨0, by omega, rfl, rfl, below_drewN (Below.refl _ _) _⟩
  case round =>
    obtain ⟨k, hk, rfl, hr, hb⟩ := hrel
    by_cases hlt2 : n + k < st.length
    · have hj : k < st.length - n := by omega
      have hz := hb.size
      have HP2 := HP.out.below hb
      have HR2 := HR.out.below hb
      have c1 := HP2.kind (n + k) hlt2
      have c2 := HP2.held (n + k) hlt2
      have hmem : st[n + k] ∈ st := List.getElem_mem _
      have hk16 := HK.out _ hmem
      have c3 := HR2.want _ hk16
      have hbd := rWant_bd st[n + k].1
      have hlt3 := HR2.lt
      have hstep : wantsB (st.drop (n + k)) = (decide ((st[n + k].2 : Int) < rWant st[n + k].1) || wantsB (st.drop (n + (k + 1)))) := by
        rw [List.drop_eq_getElem_cons hlt2]; rfl
      have HST : Hid _ := hstep
      clear hstep hmem HP2 HR2
      generalize st[n + k].1 = kd at *
      generalize st[n + k].2 = hd at *
      rw [Nat.add_mul] at c1 c2
      have hne : ¬ wr.heap.size = 0 := by omega
      have hne2 : ¬ 0 = wr.heap.size := by omega
      have hneb : ¬ b = wr.heap.size := by omega
      have HB : Hid (Below w.heap.size w wr) := hb
      clear hb
      by_cases ht : (hd : Int) < rWant kd
      · have HF : Hid (wantsB (st.drop n) = true) := by
          unfold Hid; rw [hr.out, HST.out, decide_eq_true ht]; rfl
        go_wp2
        go_quiet (fail)
        go_wp2
        go_ret
        exact ⟨ret_bool HF.out.symm, below_drewN (Below.alloc HB.out hz _) _⟩
      · have HF : Hid (wantsB (st.drop n) = wantsB (st.drop (n + (k + 1)))) := by
          unfold Hid; rw [hr.out, HST.out, decide_eq_false ht]; rfl
        have ht2 : rWant kd ≤ (hd : Int) := by omega
        clear ht
        go_wp2
        go_quiet (fail)
        go_wp2
        go_roundw
        case rel => exact ⟨k + 1, by omega, by go_num, HF, below_drewN (Below.alloc HB.out hz _) _⟩
        case measure => simp [intOf]; omega
    · have ek : n + k = st.length := by omega
      have hj : ¬ k < st.length - n := by omega
      have HF : Hid (wantsB (st.drop n) = false) := by
        unfold Hid; rw [hr.out, ek, List.drop_length]; rfl
      have hj2 : st.length - n ≤ k := by omega
      clear ek
      go_wp2
      go_ret
      exact ⟨ret_bool HF.out.symm, hb⟩
/-- May a sort stand right below the first nodes of the path? -/
def takesB (st : List Hold) (g : Bool) (n : Nat) (s : Int) : Bool :=
  if n = 0 then (s == 2 || (s == 1 && !g)) else nextD (st.getD (n - 1) (0, 0)).1 (st.getD (n - 1) (0, 0)).2 == s
set_option maxHeartbeats 2000000 in
theorem takes_any (b n : Nat) (s : Int) (st : List Hold) (g : Bool) (w : World) (hn : n ≤ st.length) (hn2 : n ≤ 25) (hk : ∀ h ∈ st, h.1 < 16 ∧ (h.1 = 9 ∨ h.2 ≤ 3)) (hR : RulesIs w) (hP : PathIs w b st g) :
    Calls Tryd.prog 34 #[.pointer (some ⟨b, 0, none⟩), .int .i64 n, .int .u8 s] w fun e w' => e = .returned (.bool (takesB st g n s)) ∧ Below w.heap.size w w' := by
  by_cases h0 : n = 0
  · subst h0
    have c1 := hP.begun
    have hlt := hP.lt
    clear hk hR hP hn
    go_enter Tryd.func34, Tryd.ntmps34
    cases g
    all_goals
      go_wp2
      all_goals (go_ret; refine ⟨ret_bool ?_, Below.refl _ _⟩; simp_all [takesB])
  · have hl := hP.len
    have hlt := hP.lt
    have hi : n - 1 < st.length := by omega
    have c1 := hP.kind (n - 1) hi
    have c2 := hP.held (n - 1) hi
    have hmem : st[n - 1] ∈ st := List.getElem_mem _
    obtain ⟨hk1, hk2⟩ := hk _ hmem
    have HT : Hid (takesB st g n s = (nextD st[n - 1].1 st[n - 1].2 == s)) := by
      unfold Hid takesB; rw [if_neg h0, List.getD_eq_getElem?_getD, List.getElem?_eq_getElem hi]; rfl
    have HR : Hid _ := hR
    clear hk hR hP hmem
    generalize st[n - 1].1 = kd at *
    generalize st[n - 1].2 = hd at *
    have hn0 : 0 < (n : Int) := by omega
    obtain ⟨m, rfl⟩ : ∃ m, n = m + 1 := ⟨n - 1, by omega⟩
    simp only [Nat.add_sub_cancel] at c1 c2
    clear h0
    go_enter Tryd.func34, Tryd.ntmps34
    go_wp2_with fail
    refine (next_any _ _ hk1 hk2 _ HR.out).mono ?_
    rintro e w1 ⟨rfl, hb⟩
    go_wp2
    go_ret
    exact ⟨ret_bool HT.out.symm, hb⟩
end Go.Proofs.YtjngjanheoeojaaDoor
