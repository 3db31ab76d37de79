import Derived.Maps.OwnSet
import Derived.Test.YtgkbegmaffknbaaGreatTVk
set_option linter.unusedVariables false
set_option linter.unusedSimpArgs false
set_option linter.unnecessarySimpa false
/- Vm Vt -/
namespace Go.Proofs.YtgkbegmaffknbaaGreat
section
open Go.RowKit Go.Maps
theorem mwf_of {v : Int} (h : In64 v) : (Lit.int .i64 v).wf = true := by
  have e1 : IntKind.i64.min = -9223372036854775808 := by decide
  have e2 : IntKind.i64.max = 9223372036854775807 := by decide
  unfold In64 at h
  simp only [Lit.wf, e1, e2]
  simp [h.1, h.2]
theorem mlaw : Keyed Tryz.prog 41 := int_keyed Tryz.underlying41
theorem mzero (w : World) : (zeroValue 41).run Tryz.prog w = .ok (.int .i64 0) w := by kernel_rfl
/-- A map that tells f, of every number. -/
def TIs (D : DataW Unit) (f : Int → Int) : Prop := IsMap D ∧ ∀ v, D.atKey (.int .i64 v) (.lit (.int .i64 0)) = .lit (.int .i64 (f v))
theorem TIs.nil : TIs (.map []) (fun _ => 0) := ⟨⟨[], rfl⟩, fun v => rfl⟩
theorem mkey_lit (v : Int) : WideAt.IsKeyLit (.int .i64 v) := by simp [WideAt.IsKeyLit]
theorem mkey_ne {u v : Int} (h : u ≠ v) : (Lit.int .i64 u) ≠ .int .i64 v := fun e => by injection e with _ e; exact h e
theorem TIs.put {D : DataW Unit} {f : Int → Int} (h : TIs D f) (k u : Int) : TIs (D.put (.int .i64 k) (.lit (.int .i64 u))) (fun v => if v = k then u else f v) := by
  refine ⟨?_, fun v => ?_⟩
  · obtain ⟨es, rfl⟩ := h.1
    exact ⟨_, DataW.put_eq _ _ _⟩
  · show _ = DataW.lit (Lit.int .i64 (if v = k then u else f v))
    by_cases e : v = k
    · subst e
      rw [if_pos rfl]
      exact atKey_put_same h.1 (mkey_lit _) _ _
    · rw [if_neg e, atKey_put_other (mkey_ne e)]
      exact h.2 v
def TMap (w : World) (b N : Nat) (f : Int → Int) : Prop := ∃ n D, n ≤ N ∧ w.ownsMap Tryz.prog 41 (plainElem Tryz.prog 41) b n D ∧ TIs D f
theorem TMap.made (w : World) : TMap (w.alloc (.map #[] 0)) w.heap.size 0 (fun _ => 0) := ⟨0, _, Nat.le_refl _, World.ownsMap_made w Tryz.prog 41 _, TIs.nil⟩
theorem TMap.look {w : World} {b N : Nat} {f : Int → Int} (h : TMap w b N f) {v : Int} (hv : In64 v) :
    (Instr.lookup 59 (.map (some b)) (.int .i64 v) false).run Tryz.prog w = .ok (.int .i64 (f v)) w := by
  obtain ⟨n, D, _, hD, hS⟩ := h
  have hkey : keyOf Tryz.prog 41 (.int .i64 v) = some (.int .i64 v) := keyOf_int_mk Tryz.underlying41 (mwf_of hv)
  obtain ⟨u, ps, hrun, hu⟩ := hD.lookup mlaw Tryz.underlying59 (mzero w) (plainElem_int Tryz.underlying41 (by decide)) hkey
  rw [hS.2 v] at hu
  obtain ⟨a, rfl, e, _⟩ := plainElem_int_inv Tryz.underlying41 hu
  simp only [Prod.mk.injEq, DataW.lit.injEq, Lit.int.injEq, true_and] at e
  rw [hrun]
  first | rw [← e] | rw [e] | rw [e.1]
theorem TMap.put {w : World} {b N : Nat} {f : Int → Int} (h : TMap w b N f) {k u : Int} (hk : In64 k) (hu : In64 u) (hN : N < maxLen) :
    ∃ w', (Instr.mapUpdate 59 (.map (some b)) (.int .i64 k) (.int .i64 u)).run Tryz.prog w = .ok () w' ∧ TMap w' b (N + 1) (fun v => if v = k then u else f v) ∧ w.grownBy w' (some b) := by
  obtain ⟨n, D, hn, hD, hS⟩ := h
  have hkey : keyOf Tryz.prog 41 (.int .i64 k) = some (.int .i64 k) := keyOf_int_mk Tryz.underlying41 (mwf_of hk)
  obtain ⟨w', hrun, hD', hg⟩ := hD.update mlaw Tryz.underlying59 (by omega) hkey (plainElem_int (a := u) Tryz.underlying41 (mwf_of hu))
  exact ⟨w', hrun, ⟨n + 1, _, by omega, hD', hS.put k u⟩, hg⟩
theorem ok_grown {w0 w w' : World} {b : Nat} (h : Ok w0 w) (hg : w.grownBy w' (some b)) (hb : w0.heap.size ≤ b) : Ok w0 w' := by
  obtain ⟨h1, h2, h3, h4, h5⟩ := hg
  refine ⟨h1.trans h.os, h2.trans h.tape, h3.trans h.output, Nat.le_trans h.size h4, fun k hk => ?_⟩
  rw [h5 k (Nat.lt_of_lt_of_le hk h.size) (fun e => by have e2 := Option.some.inj e; omega)]
  exact h.block k hk
/-- What each comparison is with its sides changed about. -/
def backF (v : Int) : Int := if v = 13 then 13 else if v = 12 then 12 else if v = 11 then 9 else if v = 10 then 8 else if v = 9 then 11 else if v = 8 then 10 else 0
theorem back_map (w : World) : ∃ m1 m2 m3 m4 m5 m6 : World, (Instr.mapUpdate 59 (.map (some w.heap.size)) (.int .i64 8) (.int .i64 10)).run Tryz.prog (w.alloc (.map #[] 0)) = .ok () m1 ∧ (Instr.mapUpdate 59 (.map (some w.heap.size)) (.int .i64 9) (.int .i64 11)).run Tryz.prog m1 = .ok () m2 ∧ (Instr.mapUpdate 59 (.map (some w.heap.size)) (.int .i64 10) (.int .i64 8)).run Tryz.prog m2 = .ok () m3 ∧ (Instr.mapUpdate 59 (.map (some w.heap.size)) (.int .i64 11) (.int .i64 9)).run Tryz.prog m3 = .ok () m4 ∧ (Instr.mapUpdate 59 (.map (some w.heap.size)) (.int .i64 12) (.int .i64 12)).run Tryz.prog m4 = .ok () m5 ∧ (Instr.mapUpdate 59 (.map (some w.heap.size)) (.int .i64 13) (.int .i64 13)).run Tryz.prog m5 = .ok () m6 ∧ TMap m6 w.heap.size 6 backF ∧ Ok w m6 := by
  have o0 : Ok w (w.alloc (.map #[] 0)) := (Ok.refl w).alloc _
  obtain ⟨m1, r1, t1, g1⟩ := (TMap.made w).put (k := 8) (u := 10) (by unfold In64; omega) (by unfold In64; omega) (by unfold maxLen; omega)
  have o1 := ok_grown o0 g1 (Nat.le_refl _)
  obtain ⟨m2, r2, t2, g2⟩ := t1.put (k := 9) (u := 11) (by unfold In64; omega) (by unfold In64; omega) (by unfold maxLen; omega)
  have o2 := ok_grown o1 g2 (Nat.le_refl _)
  obtain ⟨m3, r3, t3, g3⟩ := t2.put (k := 10) (u := 8) (by unfold In64; omega) (by unfold In64; omega) (by unfold maxLen; omega)
  have o3 := ok_grown o2 g3 (Nat.le_refl _)
  obtain ⟨m4, r4, t4, g4⟩ := t3.put (k := 11) (u := 9) (by unfold In64; omega) (by unfold In64; omega) (by unfold maxLen; omega)
  have o4 := ok_grown o3 g4 (Nat.le_refl _)
  obtain ⟨m5, r5, t5, g5⟩ := t4.put (k := 12) (u := 12) (by unfold In64; omega) (by unfold In64; omega) (by unfold maxLen; omega)
  have o5 := ok_grown o4 g5 (Nat.le_refl _)
  obtain ⟨m6, r6, t6, g6⟩ := t5.put (k := 13) (u := 13) (by unfold In64; omega) (by unfold In64; omega) (by unfold maxLen; omega)
  have o6 := ok_grown o5 g6 (Nat.le_refl _)
  exact ⟨m1, m2, m3, m4, m5, m6, r1, r2, r3, r4, r5, r6, t6, o6⟩
end
section
open Go.RowKit
theorem clip_mem (a b : Int) {v : Int} (hv : In64 v) : MemN (clipN a b) v ↔ a ≤ v ∧ v ≤ b := by
  unfold clipN
  have hv' := hv
  unfold In64 at hv'
  by_cases h : 9223372036854775807 < a ∨ b < -9223372036854775808
  · rw [if_pos h]
    exact ⟨fun k => absurd k (memN_bot v), fun k => by omega⟩
  · rw [if_neg h, make_mem (by unfold In64; split <;> omega) (by unfold In64; split <;> omega) hv]
    constructor
    · intro k; have k1 := k.1; have k2 := k.2.1; split at k1 <;> split at k2 <;> omega
    · intro k; exact ⟨by split <;> omega, by split <;> omega, all_mem v⟩
theorem meet_const {b : Int × Int × Nat × Nat × Bool} (hb : RawN b) {v : Int} (hv : In64 v) (P : Prop) [Decidable P] (hP : MemN b v ↔ P) : meetN (constN v) b = if P then constN v else botN := by
  have rc := const_raw hv
  by_cases h : P
  · rw [if_pos h]
    refine norm_ext (meetN_norm rc hb) (const_norm hv) (fun u hu => ?_)
    rw [meetN_mem rc hb hu, const_mem hv]
    exact ⟨fun k => k.1, fun k => ⟨k, by rw [k]; exact hP.2 h⟩⟩
  · rw [if_neg h]
    refine norm_ext (meetN_norm rc hb) (Or.inl rfl) (fun u hu => ?_)
    rw [meetN_mem rc hb hu, const_mem hv]
    exact ⟨fun k => absurd (hP.1 (by rw [← k.1]; exact k.2)) h, fun k => absurd k (memN_bot u)⟩
theorem meet_comm2 {x y : Int × Int × Nat × Nat × Bool} (hx : RawN x) (hy : RawN y) : meetN x y = meetN y x := by
  refine norm_ext (meetN_norm hx hy) (meetN_norm hy hx) (fun u hu => ?_)
  rw [meetN_mem hx hy hu, meetN_mem hy hx hu]
  exact ⟨fun k => ⟨k.2, k.1⟩, fun k => ⟨k.2, k.1⟩⟩
theorem ans_swap (l r : Int × Int × Nat × Nat × Bool) : ansN r l = ((ansN l r).2, (ansN l r).1) := by
  unfold ansN
  by_cases h : l.2.2.2.2 = true ∨ r.2.2.2.2 = true
  · rw [if_pos h, if_pos (h.symm)]
  · rw [if_neg h, if_neg (fun k => h k.symm)]
theorem opc_back {op : Int} (h : OpC op) : OpC (backF op) := by
  rcases h with rfl | rfl | rfl | rfl | rfl | rfl
  · exact Or.inr (Or.inr (Or.inl rfl))
  · exact Or.inr (Or.inr (Or.inr (Or.inl rfl)))
  · exact Or.inl rfl
  · exact Or.inr (Or.inl rfl)
  · exact Or.inr (Or.inr (Or.inr (Or.inr (Or.inl rfl))))
  · exact Or.inr (Or.inr (Or.inr (Or.inr (Or.inr rfl))))
theorem opc_none {op : Int} (h : ¬ OpC op) : ¬ OpC (backF op) := by
  have e : backF op = 0 := by
    unfold backF
    rw [if_neg (fun k => h (Or.inr (Or.inr (Or.inr (Or.inr (Or.inr k)))))), if_neg (fun k => h (Or.inr (Or.inr (Or.inr (Or.inr (Or.inl k)))))), if_neg (fun k => h (Or.inr (Or.inr (Or.inr (Or.inl k))))), if_neg (fun k => h (Or.inr (Or.inr (Or.inl k)))), if_neg (fun k => h (Or.inr (Or.inl k))), if_neg (fun k => h (Or.inl k))]
  rw [e]
  rintro (k | k | k | k | k | k) <;> exact absurd k (by decide)
theorem comp_back {op : Int} (ho : OpC op) {x y : Int × Int × Nat × Nat × Bool} (hx : RawN x) (hy : RawN y) : compN (backF op) y x = ((compN op x y).2, (compN op x y).1) := by
  rcases ho with rfl | rfl | rfl | rfl | rfl | rfl
  · exact rfl
  · exact rfl
  · exact rfl
  · exact rfl
  · show (meetN y x, meetN y x) = (meetN x y, meetN x y)
    rw [meet_comm2 hy hx]
  · exact rfl
theorem cmp_back {op : Int} (ho : OpC op) {x y : Int × Int × Nat × Nat × Bool} (hx : RawN x) (hy : RawN y) : cmpA (backF op) y x = ((cmpA op x y).2, (cmpA op x y).1) := by
  unfold cmpA
  by_cases h : x.2.2.2.2 = true ∨ y.2.2.2.2 = true
  · rw [if_pos h, if_pos h.symm]
  · rw [if_neg h, if_neg (fun k => h k.symm), comp_back ho hx hy]
    exact ans_swap _ _
/-- Does the comparison hold? -/
def holdsV (op x y : Int) : Bool := if op = 8 then decide (x < y) else if op = 9 then decide (x ≤ y) else if op = 10 then decide (y < x) else if op = 11 then decide (y ≤ x) else if op = 12 then decide (x = y) else !(decide (x = y))
theorem ans_ite {P : Prop} [Decidable P] {u v : Int} : ansN (if P then constN u else botN) (if P then constN v else botN) = if P then (constN u, constN v) else (botN, botN) := by
  by_cases h : P
  · rw [if_pos h, if_pos h, if_pos h]; rfl
  · rw [if_neg h, if_neg h, if_neg h]; rfl
theorem bel_const {u v : Int} (hu : In64 u) : belN (constN u) v = if u < v then constN u else botN :=
  meet_const (clip_raw _ _) hu _ (by rw [clip_mem _ _ hu]; unfold In64 at hu; omega)
theorem abo_const {u v : Int} (hu : In64 u) : aboN (constN u) v = if v < u then constN u else botN :=
  meet_const (clip_raw _ _) hu _ (by rw [clip_mem _ _ hu]; unfold In64 at hu; omega)
theorem bot_meet (b : Int × Int × Nat × Nat × Bool) : meetN botN b = botN := by
  show meetRaw botN (normN b) = botN
  unfold meetRaw
  exact if_pos (Or.inl rfl)
theorem unl_const {u v : Int} (hu : In64 u) : unlN (constN u) (constN v) = if ¬ u = v then constN u else botN := by
  have one : oneN (constN v) = true := by show (!false && decide (v = v)) = true; simp
  unfold unlN
  rw [if_pos one]
  show (if (if u = v then aboN (constN u) v else constN u).2.1 = v then belN (if u = v then aboN (constN u) v else constN u) v else (if u = v then aboN (constN u) v else constN u)) = _
  by_cases h : u = v
  · subst h
    have e : aboN (constN u) u = botN := by rw [abo_const hu, if_neg (by omega)]
    rw [if_pos rfl, e, if_neg (show ¬ ¬ u = u from fun k => k rfl)]
    by_cases k : botN.2.1 = u
    · rw [if_pos k]; exact bot_meet _
    · rw [if_neg k]
  · rw [if_neg h, if_pos h, if_neg (show ¬ (constN u).2.1 = v from h)]
theorem unl_const2 {u v : Int} (hv : In64 v) : unlN (constN v) (constN u) = if ¬ u = v then constN v else botN := by
  rw [unl_const hv]
  by_cases h : u = v
  · rw [if_neg (fun k => k h.symm), if_neg (fun k => k h)]
  · rw [if_pos (fun k => h k.symm), if_pos h]
theorem cmp_const {op : Int} (ho : OpC op) {u v : Int} (hu : In64 u) (hv : In64 v) : cmpA op (normN (constN u)) (normN (constN v)) = if holdsV op u v = true then (constN u, constN v) else (botN, botN) := by
  rw [normN_id (const_raw hu) (const_norm hu), normN_id (const_raw hv) (const_norm hv)]
  have e : cmpA op (constN u) (constN v) = ansN (compN op (constN u) (constN v)).1 (compN op (constN u) (constN v)).2 := if_neg (by rintro (h | h) <;> exact absurd h (by show ¬ (false = true); simp))
  rw [e]
  rcases ho with rfl | rfl | rfl | rfl | rfl | rfl
  · show ansN (belN (constN u) v) (aboN (constN v) u) = if decide (u < v) = true then _ else _
    rw [bel_const hu, abo_const hv, ans_ite]
    by_cases h : u < v
    · rw [if_pos h, if_pos (by simpa using h)]
    · rw [if_neg h, if_neg (by simpa using h)]
  · show ansN (meetN (constN u) (clipN (-9223372036854775808) v)) (meetN (constN v) (clipN u 9223372036854775807)) = if decide (u ≤ v) = true then _ else _
    rw [meet_const (clip_raw _ _) hu (u ≤ v) (by rw [clip_mem _ _ hu]; unfold In64 at hu; omega), meet_const (clip_raw _ _) hv (u ≤ v) (by rw [clip_mem _ _ hv]; unfold In64 at hv; omega), ans_ite]
    by_cases h : u ≤ v
    · rw [if_pos h, if_pos (by simpa using h)]
    · rw [if_neg h, if_neg (by simpa using h)]
  · show ansN (aboN (constN u) v) (belN (constN v) u) = if decide (v < u) = true then _ else _
    rw [abo_const hu, bel_const hv, ans_ite]
    by_cases h : v < u
    · rw [if_pos h, if_pos (by simpa using h)]
    · rw [if_neg h, if_neg (by simpa using h)]
  · show ansN (meetN (constN u) (clipN v 9223372036854775807)) (meetN (constN v) (clipN (-9223372036854775808) u)) = if decide (v ≤ u) = true then _ else _
    rw [meet_const (clip_raw _ _) hu (v ≤ u) (by rw [clip_mem _ _ hu]; unfold In64 at hu; omega), meet_const (clip_raw _ _) hv (v ≤ u) (by rw [clip_mem _ _ hv]; unfold In64 at hv; omega), ans_ite]
    by_cases h : v ≤ u
    · rw [if_pos h, if_pos (by simpa using h)]
    · rw [if_neg h, if_neg (by simpa using h)]
  · show ansN (meetN (constN u) (constN v)) (meetN (constN u) (constN v)) = if decide (u = v) = true then _ else _
    rw [meet_const (const_raw hv) hu (u = v) (const_mem hv), ans_ite]
    by_cases h : u = v
    · rw [if_pos h, if_pos (by simpa using h), h]
    · rw [if_neg h, if_neg (by simpa using h)]
  · show ansN (unlN (constN u) (constN v)) (unlN (constN v) (constN u)) = if (!(decide (u = v))) = true then _ else _
    rw [unl_const hu, unl_const2 hv, ans_ite]
    by_cases h : u = v
    · rw [if_neg (by simpa using h), if_neg (by simpa using h)]
    · rw [if_pos h, if_pos (by simpa using h)]
end
end Go.Proofs.YtgkbegmaffknbaaGreat
