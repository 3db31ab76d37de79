import Derived.Test.YtaocomjhepgabaaKDe
set_option linter.unusedVariables false
set_option linter.unusedSimpArgs false
set_option linter.unnecessarySimpa false
/- Df -/
namespace Go.Proofs.Ytaocomjhepgabaa
open Go.RowKit Go.Maps Go.ChangeShapes Go.WideShapes
/-- Where Visit stands in its first pass. -/
structure VI (D : DV) (succ : Int → List Int) (U : List Int) (R : Nat → Prop) (T : St Int) (v : Int) (A : List (Int × Nat × Bool)) (w : World) (sv : Value) (k kk h : Nat) (lp : Bool) (s : List Int) (l : List (Int × Nat × Bool)) (lv sv' : Value) (q : Nat) (wr : World) : Prop where
  m : Mid succ T v (iter succ kk (visit succ v T)) ((succ v).drop k) h lp s l
  i : Inv succ U (iter succ kk (visit succ v T))
  n : InvN (iter succ kk (visit succ v T))
  vs : VS D wr (iter succ kk (visit succ v T)) sv'
  pl : PL wr D.W0.heap.size (KK D R wr sv') q lv T.depth (l ++ A)
  fr : Fr D w sv wr sv'
section
variable {D : DV} {succ : Int → List Int} {U : List Int} {R : Nat → Prop} {T : St Int} {v : Int} {A : List (Int × Nat × Bool)} {w : World} {sv : Value} {k kk h : Nat} {lp : Bool} {s : List Int} {l : List (Int × Nat × Bool)} {lv sv' : Value} {q : Nat} {wr : World}
theorem VI.heard (G : GS succ U) (gT : Gd T) (x : VI D succ U R T v A w sv k kk h lp s l lv sv' q wr) {u : Int} (hu : (succ v)[k]? = some u) (h0 : (iter succ kk (visit succ v T)).marks u ≠ 0) :
    ((iter succ kk (visit succ v T)).marks u ≤ h → VI D succ U R T v A w sv (k + 1) (kk + 1) ((iter succ kk (visit succ v T)).marks u) true s l lv sv' q wr) ∧ (h < (iter succ kk (visit succ v T)).marks u → VI D succ U R T v A w sv (k + 1) (kk + 1) h lp s l lv sv' q wr) := by
  have hm := x.m
  rw [drop_cons hu] at hm
  have e1 : iter succ (kk + 1) (visit succ v T) = step succ (iter succ kk (visit succ v T)) := by rw [iter_add]; rfl
  have hst : step succ (iter succ kk (visit succ v T)) = ⟨hear ⟨v, (succ v).drop (k + 1), h, lp, false⟩ ((iter succ kk (visit succ v T)).marks u) :: T.calls, (iter succ kk (visit succ v T)).stack, (iter succ kk (visit succ v T)).list, (iter succ kk (visit succ v T)).depth, (iter succ kk (visit succ v T)).marks, (iter succ kk (visit succ v T)).count⟩ := by
    unfold step
    rw [hm.calls]
    simp only
    rw [if_neg h0]
  have hv : VS D wr (step succ (iter succ kk (visit succ v T))) sv' := by
    rw [hst]
    exact ⟨x.vs.ok, x.vs.hw, x.vs.kp, x.vs.mr, x.vs.mm, x.vs.st⟩
  obtain ⟨h', lp', m2⟩ := mid_hear gT x.n hm h0
  have hc := m2.calls
  rw [hst] at hc
  simp only [List.cons.injEq, and_true] at hc
  constructor
  · intro hle
    rw [hear_yes _ _ _ _ _ hle] at hc
    simp only [Cl.mk.injEq, true_and, and_true] at hc
    obtain ⟨rfl, rfl⟩ := hc
    exact ⟨by rw [e1]; exact m2, by rw [e1]; exact x.i.step G.g, by rw [e1]; exact x.n.step x.i, by rw [e1]; exact hv, x.pl, x.fr⟩
  · intro hgt
    rw [hear_no _ _ _ _ _ hgt] at hc
    simp only [Cl.mk.injEq, true_and, and_true] at hc
    obtain ⟨rfl, rfl⟩ := hc
    exact ⟨by rw [e1]; exact m2, by rw [e1]; exact x.i.step G.g, by rw [e1]; exact x.n.step x.i, by rw [e1]; exact hv, x.pl, x.fr⟩
def vs1 (v : Int) (q : List Int) (h : Nat) (lp : Bool) (T S : St Int) : St Int := ⟨⟨v, q, h, lp, false⟩ :: T.calls, S.stack, S.list, S.depth, S.marks, S.count⟩
theorem VI.call {n : Nat} (G : GS succ U) (gT : Gd T) (hV : VisOk D succ U n) (hmu : mu U T.marks ≤ n) (hvU : v ∈ U) (hR : ∀ b, R b → b < w.heap.size) (hA : A.length ≤ T.list.length) (x : VI D succ U R T v A w sv k kk h lp s l lv sv' q wr) {u : Int} (hu : (succ v)[k]? = some u) (h0 : (iter succ kk (visit succ v T)).marks u = 0) :
    Calls Try.prog 21 #[.pointer (some ⟨D.M, 0, none⟩), .int .i64 u, lv] wr (fun e w' => ∃ (low : Nat) (kk' : Nat) (s' : List Int) (l' : List (Int × Nat × Bool)) (lv' sv'' : Value) (q' : Nat), e = .returned (.tuple #[.int .i64 (low : Nat), lv']) ∧ (low ≤ h → VI D succ U R T v A w sv (k + 1) kk' low true s' l' lv' sv'' q' w') ∧ (h < low → VI D succ U R T v A w sv (k + 1) kk' h lp s' l' lv' sv'' q' w') ∧ IsSl lv') := by
  have hm := x.m
  rw [drop_cons hu] at hm
  obtain ⟨huU, iS1⟩ := x.i.arc G.g hm.calls (u := u) (q := (succ v).drop (k + 1)) rfl
  have hmu2 : mu U (iter succ kk (visit succ v T)).marks < n := Nat.lt_of_lt_of_le (mu_lt hvU hm.keep hm.v0 (by rw [hm.vm]; omega)) hmu
  have hst : step succ (iter succ kk (visit succ v T)) = visit succ u (vs1 v ((succ v).drop (k + 1)) h lp T (iter succ kk (visit succ v T))) := by
    unfold step
    rw [hm.calls]
    simp only
    rw [if_pos h0]
    rfl
  have hvs : VS D wr (vs1 v ((succ v).drop (k + 1)) h lp T (iter succ kk (visit succ v T))) sv' := ⟨x.vs.ok, x.vs.hw, x.vs.kp, x.vs.mr, x.vs.mm, x.vs.st⟩
  have hdep : (vs1 v ((succ v).drop (k + 1)) h lp T (iter succ kk (visit succ v T))).depth = T.depth := hm.depth
  have hlen : (l ++ A).length ≤ (vs1 v ((succ v).drop (k + 1)) h lp T (iter succ kk (visit succ v T))).list.length := by
    show (l ++ A).length ≤ (iter succ kk (visit succ v T)).list.length
    rw [hm.list, List.length_append, List.length_append]; omega
  refine (hV (vs1 v ((succ v).drop (k + 1)) h lp T (iter succ kk (visit succ v T))) u iS1 x.n hmu2 huU h0 R wr sv' lv (l ++ A) q (fun b hb => Nat.lt_of_lt_of_le (hR b hb) x.fr.size) hvs (by rw [hdep]; exact x.pl) hlen).mono ?_
  rintro e w' ⟨k1, c, su, lu, sv2, lv2, q2, c1, c2, c3, c4, rfl, v5, p5, f5⟩
  obtain ⟨h', lp', m2⟩ := mid_visit gT hm h0 c2 c1
  have e1 : iter succ (kk + 1 + k1) (visit succ v T) = iter succ k1 (visit succ u (vs1 v ((succ v).drop (k + 1)) h lp T (iter succ kk (visit succ v T)))) := by
    rw [iter_add, iter_add, ← hst]; rfl
  rw [hdep] at p5
  have hc := m2.calls
  have c1' : (iter succ k1 (visit succ u (vs1 v ((succ v).drop (k + 1)) h lp T (iter succ kk (visit succ v T))))).calls = hear ⟨v, (succ v).drop (k + 1), h, lp, false⟩ c.least :: T.calls := c1
  have hc2 := c1'.symm.trans hc
  simp only [List.cons.injEq, and_true] at hc2
  have p6 : PL w' D.W0.heap.size (KK D R w' sv2) q2 lv2 T.depth ((lu ++ l) ++ A) := by rw [List.append_assoc]; exact p5
  refine ⟨c.least, kk + 1 + k1, su ++ s, lu ++ l, lv2, sv2, q2, rfl, ?_, ?_, p5.sl⟩
  · intro hle
    rw [hear_yes _ _ _ _ _ hle] at hc2
    simp only [Cl.mk.injEq, true_and, and_true] at hc2
    obtain ⟨rfl, rfl⟩ := hc2
    exact ⟨by rw [e1]; exact m2, by rw [e1]; exact c3, by rw [e1]; exact c4, by rw [e1]; exact v5, p6, x.fr.trans f5⟩
  · intro hgt
    rw [hear_no _ _ _ _ _ hgt] at hc2
    simp only [Cl.mk.injEq, true_and, and_true] at hc2
    obtain ⟨rfl, rfl⟩ := hc2
    exact ⟨by rw [e1]; exact m2, by rw [e1]; exact c3, by rw [e1]; exact c4, by rw [e1]; exact v5, p6, x.fr.trans f5⟩
end
/-- Where the popping stands: t is what is left of the stack, m the marks but for v's. -/
structure PI (D : DV) (R : Nat → Prop) (S : St Int) (v : Int) (lp : Bool) (A : List (Int × Nat × Bool)) (d : Nat) (lv : Value) (q : Nat) (w : World) (sv : Value) (t : List Int) (m : Int → Nat) (sv' : Value) (wr : World) : Prop where
  vt : v ∈ t
  tk : takeOff v S.stack S.marks = takeOff v t m
  top : lp = false → ∃ t', t = v :: t'
  vs : VSe D 1 wr ⟨S.calls, t, S.list, S.depth, upd m v DONE, S.count⟩ sv'
  pl : PL wr D.W0.heap.size (KK D R wr sv') q lv d A
  fr : Fr D w sv wr sv'
theorem upd_comm {m : Int → Nat} {u v : Int} (h : u ≠ v) (a b : Nat) : upd (upd m v a) u b = upd (upd m u b) v a := by
  funext x
  unfold upd
  by_cases h1 : x = u
  · subst h1; rw [if_pos rfl, if_neg h, if_pos rfl]
  · rw [if_neg h1, if_neg h1]
theorem VI.open_ {D : DV} {succ : Int → List Int} {U : List Int} {R : Nat → Prop} {T : St Int} {v : Int} {A : List (Int × Nat × Bool)} {w : World} {sv : Value} {k kk h : Nat} {lp : Bool} {s : List Int} {l : List (Int × Nat × Bool)} {lv sv' : Value} {q : Nat} {wr : World} (G : GS succ U) (gT : Gd T) (x : VI D succ U R T v A w sv k kk h lp s l lv sv' q wr) (hm : Mid succ T v (iter succ kk (visit succ v T)) [] h lp s l) (hne : h ≠ T.count + 1) :
    VisPost D succ U R T v A w sv (.returned (.tuple #[.int .i64 (h : Nat), lv])) wr := by
  obtain ⟨b, hc⟩ := mid_open gT hm hne
  have e1 : iter succ (kk + 1) (visit succ v T) = step succ (iter succ kk (visit succ v T)) := by rw [iter_add]; rfl
  have hst : step succ (iter succ kk (visit succ v T)) = ⟨answered ⟨v, [], h, lp, false⟩ T.calls, (iter succ kk (visit succ v T)).stack, (iter succ kk (visit succ v T)).list, (iter succ kk (visit succ v T)).depth, (iter succ kk (visit succ v T)).marks, (iter succ kk (visit succ v T)).count⟩ := by
    unfold step
    rw [hm.calls]
    simp only
    unfold through
    rw [if_neg (by simp), if_neg (by rw [hm.vm]; exact hne)]
  have hv : VS D wr (step succ (iter succ kk (visit succ v T))) sv' := by
    rw [hst]
    exact ⟨x.vs.ok, x.vs.hw, x.vs.kp, x.vs.mr, x.vs.mm, x.vs.st⟩
  exact ⟨kk + 1, ⟨v, [], h, lp, false⟩, s ++ [v], l, sv', lv, q, by rw [e1]; exact hc, by rw [e1]; exact b, by rw [e1]; exact x.i.step G.g, by rw [e1]; exact x.n.step x.i, rfl, by rw [e1]; exact hv, x.pl, x.fr⟩
/-- Behind the popping. -/
structure PE (D : DV) (R : Nat → Prop) (S : St Int) (v : Int) (A : List (Int × Nat × Bool)) (d : Nat) (lv : Value) (q : Nat) (w : World) (sv : Value) (sv' : Value) (wr : World) : Prop where
  vs : VS D wr ⟨S.calls, (takeOff v S.stack S.marks).1, S.list, S.depth, (takeOff v S.stack S.marks).2, S.count⟩ sv'
  pl : PL wr D.W0.heap.size (KK D R wr sv') q lv d A
  fr : Fr D w sv wr sv'
section
variable {D : DV} {succ : Int → List Int} {R : Nat → Prop} {S : St Int} {v : Int} {lp : Bool} {A : List (Int × Nat × Bool)} {d : Nat} {lv : Value} {q : Nat} {w : World} {sv : Value} {t : List Int} {m : Int → Nat} {sv' : Value} {wr w' : World}
theorem PI.below (x : PI D R S v lp A d lv q w sv t m sv' wr) (hD : DOk D succ) (hb : Below wr.heap.size wr w') : PI D R S v lp A d lv q w sv t m sv' w' :=
  ⟨x.vt, x.tk, x.top, x.vs.below hD hb, x.pl.fr hD (Fr.below hb), x.fr.trans (Fr.below hb)⟩
theorem PI.cells {u : Int} {s : List Int} {g cap : Nat} (x : PI D R S v lp A d lv q w sv (u :: s) m (.slice (some ⟨g, 0, none⟩) (s.length + 1) cap) wr) : wr.cell? ⟨g, s.length, none⟩ = some (.int .i64 u) ∧ s.length + 1 ≤ cap ∧ cap ≤ maxLen ∧ g < wr.heap.size ∧ D.W0.heap.size ≤ g := by
  obtain ⟨g', cap', e, h1, h2, h3, h4, h5⟩ := x.vs.top (u := u) (s := s) rfl
  injection e with e1 _ e3
  injection e1 with e1
  injection e1 with e1
  subst e1 e3
  exact ⟨h5, h1, h2, h3, h4⟩
theorem PI.done {s : List Int} {g cap : Nat} (x : PI D R S v lp A d lv q w sv (v :: s) m (.slice (some ⟨g, 0, none⟩) (s.length + 1) cap) wr) (hD : DOk D succ) : PE D R S v A d lv q w sv (.slice (some ⟨g, 0, none⟩) s.length cap) (wr.setCell ⟨D.M, 3, none⟩ (.slice (some ⟨g, 0, none⟩) s.length cap)) := by
  obtain ⟨⟨N, K, hN, hm⟩, k2, k3⟩ := x.vs.popped hD rfl
  have e : takeOff v S.stack S.marks = (s, upd m v DONE) := by rw [x.tk]; simp [takeOff]
  refine ⟨?_, x.pl.fr hD k3, x.fr.trans k3⟩
  rw [e]
  exact ⟨k2.ok, k2.hw, k2.kp, k2.mr, ⟨N, K, by show N + s.length ≤ 2 * S.count + 0; have : N + s.length + 1 ≤ 2 * S.count + 1 := hN; omega, hm⟩, k2.st⟩
theorem PI.pop {u : Int} {s : List Int} {g cap : Nat} (x : PI D R S v lp A d lv q w sv (u :: s) m (.slice (some ⟨g, 0, none⟩) (s.length + 1) cap) wr) (hD : DOk D succ) (hne : u ≠ v) (hu : in64 u) (hc : S.count ≤ 1000000000) :
    ∃ w7, (Instr.mapUpdate 33 (.map (some D.bm)) (.int .i64 u) (.int .i64 0)).run Try.prog (wr.setCell ⟨D.M, 3, none⟩ (.slice (some ⟨g, 0, none⟩) s.length cap)) = .ok () w7 ∧ PI D R S v lp A d lv q w sv s (upd m u 0) (.slice (some ⟨g, 0, none⟩) s.length cap) w7 := by
  obtain ⟨⟨N, K, hN, hm⟩, k2, k3⟩ := x.vs.popped hD rfl
  have hN' : N + s.length + 1 ≤ 2 * S.count + 1 := hN
  obtain ⟨w7, hrun, hm7, hg7⟩ := hm.put hu.1 hu.2 (y := 0) (by decide) (by decide) (by unfold maxLen; omega)
  refine ⟨w7, hrun, ?_⟩
  have hmk := VSe.marked (e' := 1) (k := 0) k2 hD (N := N) (K := K) (v := u) hN' (by rw [mkv_zero]; exact hm7) hg7
  have hvt : v ∈ s := by
    rcases List.mem_cons.1 x.vt with h | h
    · exact absurd h.symm hne
    · exact h
  refine ⟨hvt, by rw [x.tk]; simp [takeOff, hne], ?_, ?_, (x.pl.fr hD k3).fr hD hmk.2, (x.fr.trans k3).trans hmk.2⟩
  · intro hl
    obtain ⟨t', ht⟩ := x.top hl
    injection ht with ht _
    exact absurd ht hne
  · have := hmk.1
    rw [← upd_comm hne]
    exact this
end
end Go.Proofs.Ytaocomjhepgabaa
