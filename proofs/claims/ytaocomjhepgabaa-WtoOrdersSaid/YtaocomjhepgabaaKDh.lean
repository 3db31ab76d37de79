import Derived.Test.YtaocomjhepgabaaKDf
set_option linter.unusedVariables false
set_option linter.unusedSimpArgs false
set_option linter.unnecessarySimpa false
/- Dh -/
namespace Go.Proofs.Ytaocomjhepgabaa
open Go.RowKit Go.Maps Go.ChangeShapes Go.WideShapes
section
variable {D : DV} {succ : Int → List Int} {U : List Int} {R : Nat → Prop} {T : St Int} {v : Int} {A : List (Int × Nat × Bool)} {w : World} {sv : Value} {k kk : Nat} {s : List Int} {l : List (Int × Nat × Bool)} {lv sv' sv2 : Value} {q : Nat} {wr w2 : World}
theorem PL.fresh {e : Nat} {w w' : World} {S : St Int} {n : Nat} {x : Value} {d : Nat} {L : List (Int × Nat × Bool)} (hv : VSe D e w S sv) (hR : ∀ b, R b → b < w.heap.size) (hb : Ok w w') (h : PL w' D.W0.heap.size (fun b => KK D R w sv b ∨ (w.heap.size ≤ b ∧ b < w'.heap.size)) n x d L) : PL w' D.W0.heap.size (KK D R w' sv) n x d L := by
  refine PL.kept (fun b _ => rfl) (fun b hk => ?_) h
  have hw := hv.hw
  rcases hk with hk | ⟨h1, h2⟩
  · exact ⟨hk.1, Nat.lt_of_lt_of_le hk.2.1 hb.le, hk.2.2⟩
  · exact ⟨by omega, h2, fun e => by have := hv.lt.2 b e.symm; omega, fun e => by have := hR b e; omega⟩
theorem alone_end (G : GS succ U) (gT : Gd T) (x : VI D succ U R T v A w sv k kk (T.count + 1) false s l lv sv' q wr) (hm : Mid succ T v (iter succ kk (visit succ v T)) [] (T.count + 1) false s l) (pe : PE D R (iter succ kk (visit succ v T)) v (l ++ A) T.depth lv q w sv sv2 w2) (hD : DOk D succ) {w9 : World} {lv9 : Value} {q9 : Nat} (hb : Ok w2 w9) (hp : PL w9 D.W0.heap.size (KK D R w9 sv2) q9 lv9 T.depth ([(v, T.depth, false)] ++ (l ++ A))) :
    VisPost D succ U R T v A w sv (.returned (.tuple #[.int .i64 ((T.count + 1 : Nat) : Int), lv9])) w9 := by
  obtain ⟨b, hc⟩ := mid_alone gT x.n hm
  have e1 : iter succ (kk + 1) (visit succ v T) = step succ (iter succ kk (visit succ v T)) := by rw [iter_add]; rfl
  have hst : step succ (iter succ kk (visit succ v T)) = ⟨answered ⟨v, [], T.count + 1, false, false⟩ T.calls, (takeOff v (iter succ kk (visit succ v T)).stack (iter succ kk (visit succ v T)).marks).1, (v, (iter succ kk (visit succ v T)).depth, false) :: (iter succ kk (visit succ v T)).list, (iter succ kk (visit succ v T)).depth, (takeOff v (iter succ kk (visit succ v T)).stack (iter succ kk (visit succ v T)).marks).2, (iter succ kk (visit succ v T)).count⟩ := by
    unfold step
    rw [hm.calls]
    simp only
    unfold through
    rw [if_neg (by simp), if_pos (by rw [hm.vm]), if_neg (by simp)]
  have pv := pe.vs.below hD hb
  have hv : VS D w9 (step succ (iter succ kk (visit succ v T))) sv2 := by
    rw [hst]
    exact ⟨pv.ok, pv.hw, pv.kp, pv.mr, pv.mm, pv.st⟩
  exact ⟨kk + 1, ⟨v, [], T.count + 1, false, false⟩, [], (v, T.depth, false) :: l, sv2, lv9, q9, by rw [e1]; exact hc, by rw [e1]; exact b, by rw [e1]; exact x.i.step G.g, by rw [e1]; exact x.n.step x.i, rfl, by rw [e1]; exact hv, hp, pe.fr.trans (Fr.below hb)⟩
/-- Component, called behind the popping. -/
theorem comp_call {n : Nat} (G : GS succ U) (gT : Gd T) (hD : DOk D succ) (hV : VisOk D succ U n) (hmu : mu U T.marks ≤ n) (hvU : v ∈ U) (hR : ∀ b, R b → b < w.heap.size) (x : VI D succ U R T v A w sv k kk (T.count + 1) true s l lv sv' q wr) (hm : Mid succ T v (iter succ kk (visit succ v T)) [] (T.count + 1) true s l) (pe : PE D R (iter succ kk (visit succ v T)) v (l ++ A) T.depth lv q w sv sv2 w2) :
    Calls Try.prog 35 #[.pointer (some ⟨D.M, 0, none⟩), .int .i64 v] w2 (CompPost D succ U R T (step succ (iter succ kk (visit succ v T))) v s l w2 sv2) := by
  have m2 := mid_comp gT x.n hm
  have hst : step succ (iter succ kk (visit succ v T)) = ⟨⟨v, succ v, T.count + 1, true, true⟩ :: T.calls, (takeOff v (iter succ kk (visit succ v T)).stack (iter succ kk (visit succ v T)).marks).1, (iter succ kk (visit succ v T)).list, (iter succ kk (visit succ v T)).depth + 1, (takeOff v (iter succ kk (visit succ v T)).stack (iter succ kk (visit succ v T)).marks).2, (iter succ kk (visit succ v T)).count⟩ := by
    unfold step
    rw [hm.calls]
    simp only
    unfold through
    rw [if_neg (by simp), if_pos (by rw [hm.vm]), if_pos rfl]
  have pv := pe.vs
  have hv : VS D w2 (step succ (iter succ kk (visit succ v T))) sv2 := by
    rw [hst]
    exact ⟨pv.ok, pv.hw, pv.kp, pv.mr, pv.mm, pv.st⟩
  exact rcomp_any G hD hV gT hmu hvU (fun b hb => Nat.lt_of_lt_of_le (hR b hb) pe.fr.size) m2 (x.i.step G.g) (x.n.step x.i) hv
theorem comp_end (G : GS succ U) (gT : Gd T) (hD : DOk D succ) (x : VI D succ U R T v A w sv k kk (T.count + 1) true s l lv sv' q wr) (pe : PE D R (iter succ kk (visit succ v T)) v (l ++ A) T.depth lv q w sv sv2 w2) {k2 : Nat} {l2 : List (Int × Nat × Bool)} {sv3 : Value} {w3 : World}
    (m3 : Mid2 succ T v (iter succ k2 (step succ (iter succ kk (visit succ v T)))) [] s l l2) (i3 : Inv succ U (iter succ k2 (step succ (iter succ kk (visit succ v T))))) (n3 : InvN (iter succ k2 (step succ (iter succ kk (visit succ v T))))) (v3 : VS D w3 (iter succ k2 (step succ (iter succ kk (visit succ v T)))) sv3) (f3 : Fr D w2 sv2 w3 sv3)
    {w9 : World} {lv9 : Value} {q9 : Nat} (hb : Ok w3 w9) (hp : PL w9 D.W0.heap.size (KK D R w9 sv3) q9 lv9 T.depth (((v, T.depth + 1, true) :: l2) ++ (l ++ A))) :
    VisPost D succ U R T v A w sv (.returned (.tuple #[.int .i64 ((T.count + 1 : Nat) : Int), lv9])) w9 := by
  obtain ⟨b, hc⟩ := mid2_end m3
  have e1 : iter succ (kk + (1 + (k2 + 1))) (visit succ v T) = step succ (iter succ k2 (step succ (iter succ kk (visit succ v T)))) := by rw [iter_add, iter_add, iter_add]; rfl
  have hst : step succ (iter succ k2 (step succ (iter succ kk (visit succ v T)))) = ⟨answered ⟨v, [], T.count + 1, true, true⟩ T.calls, (iter succ k2 (step succ (iter succ kk (visit succ v T)))).stack, (v, (iter succ k2 (step succ (iter succ kk (visit succ v T)))).depth, true) :: (iter succ k2 (step succ (iter succ kk (visit succ v T)))).list, (iter succ k2 (step succ (iter succ kk (visit succ v T)))).depth - 1, (iter succ k2 (step succ (iter succ kk (visit succ v T)))).marks, (iter succ k2 (step succ (iter succ kk (visit succ v T)))).count⟩ := by
    generalize iter succ k2 (step succ (iter succ kk (visit succ v T))) = S at m3
    unfold step
    rw [m3.calls]
    simp only
    unfold through
    rw [if_pos rfl]
  have pv := v3.below hD hb
  have hv : VS D w9 (step succ (iter succ k2 (step succ (iter succ kk (visit succ v T))))) sv3 := by
    rw [hst]
    exact ⟨pv.ok, pv.hw, pv.kp, pv.mr, pv.mm, pv.st⟩
  refine ⟨kk + (1 + (k2 + 1)), ⟨v, [], T.count + 1, true, true⟩, [], (v, T.depth + 1, true) :: l2 ++ l, sv3, lv9, q9, by rw [e1]; exact hc, by rw [e1]; exact b, by rw [e1]; exact i3.step G.g, by rw [e1]; exact n3.step i3, rfl, by rw [e1]; exact hv, ?_, (pe.fr.trans f3).trans (Fr.below hb)⟩
  rw [List.append_assoc]
  exact hp
end
end Go.Proofs.Ytaocomjhepgabaa
