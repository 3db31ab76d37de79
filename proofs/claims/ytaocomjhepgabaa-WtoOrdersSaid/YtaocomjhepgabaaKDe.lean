import Derived.Test.YtaocomjhepgabaaKDd
set_option linter.unusedVariables false
set_option linter.unusedSimpArgs false
set_option linter.unnecessarySimpa false
/- De -/
namespace Go.Proofs.Ytaocomjhepgabaa
open Go.RowKit Go.Maps Go.ChangeShapes Go.WideShapes
/-- What visit leaves. -/
def VisPost (D : DV) (succ : Int → List Int) (U : List Int) (R : Nat → Prop) (T : St Int) (v : Int) (A : List (Int × Nat × Bool)) (w : World) (sv : Value) (e : Ending) (w' : World) : Prop :=
  ∃ k c s l sv' lv' q, (iter succ k (visit succ v T)).calls = answered c T.calls ∧ Big succ T v (iter succ k (visit succ v T)) c.least s l ∧ Inv succ U (iter succ k (visit succ v T)) ∧ InvN (iter succ k (visit succ v T)) ∧ e = .returned (.tuple #[.int .i64 (c.least : Nat), lv']) ∧ VS D w' (iter succ k (visit succ v T)) sv' ∧ PL w' D.W0.heap.size (KK D R w' sv') q lv' T.depth (l ++ A) ∧ Fr D w sv w' sv'
/-- visit does what it should, of states with less than n to do. -/
def VisOk (D : DV) (succ : Int → List Int) (U : List Int) (n : Nat) : Prop :=
  ∀ (T : St Int) (v : Int), Inv succ U T → InvN T → mu U T.marks < n → v ∈ U → T.marks v = 0 → ∀ (R : Nat → Prop) (w : World) (sv lv : Value) (A : List (Int × Nat × Bool)) (q : Nat), (∀ b, R b → b < w.heap.size) → VS D w T sv → PL w D.W0.heap.size (KK D R w sv) q lv T.depth A → A.length ≤ T.list.length →
    Calls Try.prog 21 #[.pointer (some ⟨D.M, 0, none⟩), .int .i64 v, lv] w (VisPost D succ U R T v A w sv)
/-- A small graph of numbers. -/
structure GS (succ : Int → List Int) (U : List Int) : Prop where
  g : Gr succ U
  i64 : ∀ x ∈ U, in64 x
  sm : U.length ≤ 10000
  sl : ∀ v, (succ v).length ≤ 10000
theorem GS.cnt {succ : Int → List Int} {U : List Int} (G : GS succ U) {S : St Int} (h : Inv succ U S) : S.count ≤ 1000000000 := by
  have h1 := h.cnt
  have h2 := G.sm
  have h3 : U.length * (U.length + 2) ≤ 10000 * 10002 := Nat.mul_le_mul h2 (by omega)
  omega
theorem GS.mrk {succ : Int → List Int} {U : List Int} (G : GS succ U) {S : St Int} (h : Inv succ U S) (x : Int) : in64 (mkv (S.marks x)) := by
  refine mkv_in ?_
  rcases h.mrk x with e | e
  · left; have := G.cnt h; omega
  · exact .inr e
def CompPost (D : DV) (succ : Int → List Int) (U : List Int) (R : Nat → Prop) (T S : St Int) (v : Int) (s : List Int) (l1 : List (Int × Nat × Bool)) (w : World) (sv : Value) (e : Ending) (w' : World) : Prop :=
  ∃ k l2 In sv' q, Mid2 succ T v (iter succ k S) [] s l1 l2 ∧ Inv succ U (iter succ k S) ∧ InvN (iter succ k S) ∧ e = .returned (.agg #[.int .i64 v, .bool true, In]) ∧ VS D w' (iter succ k S) sv' ∧ PL w' D.W0.heap.size (KK D R w' sv') q In (T.depth + 1) l2 ∧ Fr D w sv w' sv'
/-- Where Component stands. -/
structure CI (D : DV) (succ : Int → List Int) (U : List Int) (R : Nat → Prop) (T S : St Int) (v : Int) (s : List Int) (l1 : List (Int × Nat × Bool)) (w : World) (sv : Value) (k kk : Nat) (l2 : List (Int × Nat × Bool)) (lv sv' : Value) (q : Nat) (wr : World) : Prop where
  m : Mid2 succ T v (iter succ kk S) ((succ v).drop k) s l1 l2
  i : Inv succ U (iter succ kk S)
  n : InvN (iter succ kk S)
  vs : VS D wr (iter succ kk S) sv'
  pl : PL wr D.W0.heap.size (KK D R wr sv') q lv (T.depth + 1) l2
  fr : Fr D w sv wr sv'
theorem drop_cons {l : List Int} {k : Nat} {u : Int} (h : l[k]? = some u) : l.drop k = u :: l.drop (k + 1) := by
  obtain ⟨hk, e⟩ := List.getElem?_eq_some_iff.1 h
  rw [List.drop_eq_getElem_cons hk, e]
/-- Behind an arc to one that is marked. -/
theorem CI.hear {D : DV} {succ : Int → List Int} {U : List Int} {R : Nat → Prop} {T S : St Int} {v : Int} {s : List Int} {l1 : List (Int × Nat × Bool)} {w : World} {sv : Value} {k kk : Nat} {l2 : List (Int × Nat × Bool)} {lv sv' : Value} {q : Nat} {wr : World} (G : GS succ U) (h : CI D succ U R T S v s l1 w sv k kk l2 lv sv' q wr) {u : Int} (hu : (succ v)[k]? = some u) (h0 : (iter succ kk S).marks u ≠ 0) : CI D succ U R T S v s l1 w sv (k + 1) (kk + 1) l2 lv sv' q wr := by
  have hm := h.m
  rw [drop_cons hu] at hm
  have e1 : iter succ (kk + 1) S = step succ (iter succ kk S) := by rw [iter_add]; rfl
  have hst : step succ (iter succ kk S) = ⟨⟨v, (succ v).drop (k + 1), T.count + 1, true, true⟩ :: T.calls, (iter succ kk S).stack, (iter succ kk S).list, (iter succ kk S).depth, (iter succ kk S).marks, (iter succ kk S).count⟩ := by
    unfold step
    rw [hm.calls]
    simp only
    rw [if_neg h0, hear_sec]
  have hv : VS D wr (step succ (iter succ kk S)) sv' := by
    rw [hst]
    exact ⟨h.vs.ok, h.vs.hw, h.vs.kp, h.vs.mr, h.vs.mm, h.vs.st⟩
  exact ⟨by rw [e1]; exact mid2_hear hm h0, by rw [e1]; exact h.i.step G.g, by rw [e1]; exact h.n.step h.i, by rw [e1]; exact hv, h.pl, h.fr⟩
/-- The state in which Component visits. -/
def vst (v : Int) (q : List Int) (T S : St Int) : St Int := ⟨⟨v, q, T.count + 1, true, true⟩ :: T.calls, S.stack, S.list, S.depth, S.marks, S.count⟩
theorem CI.call {D : DV} {succ : Int → List Int} {U : List Int} {R : Nat → Prop} {T S : St Int} {v : Int} {s : List Int} {l1 : List (Int × Nat × Bool)} {w : World} {sv : Value} {k kk : Nat} {l2 : List (Int × Nat × Bool)} {lv sv' : Value} {q n : Nat} {wr : World} (G : GS succ U) (hgT : Gd T) (hV : VisOk D succ U n) (hmu : mu U T.marks ≤ n) (hvU : v ∈ U) (hR : ∀ b, R b → b < w.heap.size) (h : CI D succ U R T S v s l1 w sv k kk l2 lv sv' q wr) {u : Int} (hu : (succ v)[k]? = some u) (h0 : (iter succ kk S).marks u = 0) :
    Calls Try.prog 21 #[.pointer (some ⟨D.M, 0, none⟩), .int .i64 u, lv] wr (fun e w' => ∃ c kk' l2' lv' sv'' q', e = .returned (.tuple #[c, lv']) ∧ CI D succ U R T S v s l1 w sv (k + 1) kk' l2' lv' sv'' q' w') := by
  have hm := h.m
  rw [drop_cons hu] at hm
  obtain ⟨huU, iS1⟩ := h.i.arc G.g hm.calls (u := u) (q := (succ v).drop (k + 1)) rfl
  have hmu2 : mu U (iter succ kk S).marks < n := Nat.lt_of_lt_of_le (mu_lt2 hvU hm.keep hm.v0 hm.vm) hmu
  have hst : step succ (iter succ kk S) = visit succ u (vst v ((succ v).drop (k + 1)) T (iter succ kk S)) := by
    unfold step
    rw [hm.calls]
    simp only
    rw [if_pos h0]
    rfl
  have hvs : VS D wr (vst v ((succ v).drop (k + 1)) T (iter succ kk S)) sv' := ⟨h.vs.ok, h.vs.hw, h.vs.kp, h.vs.mr, h.vs.mm, h.vs.st⟩
  have hdep : (vst v ((succ v).drop (k + 1)) T (iter succ kk S)).depth = T.depth + 1 := hm.depth
  have hlen : l2.length ≤ (vst v ((succ v).drop (k + 1)) T (iter succ kk S)).list.length := by
    show l2.length ≤ (iter succ kk S).list.length
    rw [hm.list, List.length_append]; omega
  refine (hV (vst v ((succ v).drop (k + 1)) T (iter succ kk S)) u iS1 h.n hmu2 huU h0 R wr sv' lv l2 q (fun b hb => Nat.lt_of_lt_of_le (hR b hb) h.fr.size) hvs (by rw [hdep]; exact h.pl) hlen).mono ?_
  rintro e w' ⟨k1, c, su, lu, sv2, lv2, q2, c1, c2, c3, c4, rfl, v5, p5, f5⟩
  have m2 := mid2_visit hgT hm h0 c2 c1
  have e1 : iter succ (kk + 1 + k1) S = iter succ k1 (visit succ u (vst v ((succ v).drop (k + 1)) T (iter succ kk S))) := by
    rw [iter_add, iter_add, ← hst]; rfl
  refine ⟨_, kk + 1 + k1, lu ++ l2, lv2, sv2, q2, rfl, ?_⟩
  rw [hdep] at p5
  exact ⟨by rw [e1]; exact m2, by rw [e1]; exact c3, by rw [e1]; exact c4, by rw [e1]; exact v5, p5, h.fr.trans f5⟩
theorem CI.below {D : DV} {succ : Int → List Int} {U : List Int} {R : Nat → Prop} {T S : St Int} {v : Int} {s : List Int} {l1 : List (Int × Nat × Bool)} {w : World} {sv : Value} {k kk : Nat} {l2 : List (Int × Nat × Bool)} {lv sv' : Value} {q : Nat} {wr w' : World} (h : CI D succ U R T S v s l1 w sv k kk l2 lv sv' q wr) (hD : DOk D succ) (hb : Below wr.heap.size wr w') : CI D succ U R T S v s l1 w sv k kk l2 lv sv' q w' :=
  ⟨h.m, h.i, h.n, h.vs.below hD hb, h.pl.fr hD (Fr.below hb), h.fr.trans (Fr.below hb)⟩
theorem row3_facts {w : World} {g : Nat} {a b c : Value} {t : TypeId} (h : w.heap[g]? = some (.cells #[a, b, c] t (0, 0))) :
    w.cell? ⟨g, 0, none⟩ = some a ∧ w.cell? ⟨g, 1, none⟩ = some b ∧ w.cell? ⟨g, 2, none⟩ = some c ∧ w.frozen? ⟨g, 0, none⟩ = false ∧ w.frozen? ⟨g, 1, none⟩ = false ∧ w.frozen? ⟨g, 2, none⟩ = false := by
  refine ⟨?_, ?_, ?_, frozen_of_row _ _ _ _ _ h, frozen_of_row _ _ _ _ _ h, frozen_of_row _ _ _ _ _ h⟩
  · exact (cell_of_row _ _ 0 _ _ _ h).trans (by simp)
  · exact (cell_of_row _ _ 1 _ _ _ h).trans (by simp)
  · exact (cell_of_row _ _ 2 _ _ _ h).trans (by simp)
theorem row_set3 {w : World} {g : Nat} {a b c : Value} {t : TypeId} (hg : w.heap[g]? = some (.cells #[a, b, c] t (0, 0))) (x y z : Value) : (((w.setCell ⟨g, 0, none⟩ x).setCell ⟨g, 1, none⟩ y).setCell ⟨g, 2, none⟩ z).heap[g]? = some (.cells #[x, y, z] t (0, 0)) := by
  have h1 := heap_setCell_same w g 0 _ t x hg
  have h2 := heap_setCell_same _ g 1 _ t y h1
  have h3 := heap_setCell_same _ g 2 _ t z h2
  simpa using h3
theorem info77 : (Try.prog.info? 77).map (·.size) = some 3 := by kernel_rfl
set_option maxRecDepth 100000 in
set_option maxHeartbeats 8000000 in
theorem rcomp_any {D : DV} {succ : Int → List Int} {U : List Int} {n : Nat} (G : GS succ U) (hD : DOk D succ) (hV : VisOk D succ U n) {T S : St Int} {v : Int} {s : List Int} {l1 : List (Int × Nat × Bool)} (gT : Gd T) (hmu : mu U T.marks ≤ n) (hvU : v ∈ U) {R : Nat → Prop} {w : World} {sv : Value} (hR : ∀ b, R b → b < w.heap.size) (m : Mid2 succ T v S (succ v) s l1 []) (i : Inv succ U S) (nn : InvN S) (hvs : VS D w S sv) :
    Calls Try.prog 35 #[.pointer (some ⟨D.M, 0, none⟩), .int .i64 v] w (CompPost D succ U R T S v s l1 w sv) := by
  have HG : Hid (GS succ U) := G
  have HD : Hid (DOk D succ) := hD
  have HV : Hid (VisOk D succ U n) := hV
  have HT : Hid (Gd T ∧ mu U T.marks ≤ n ∧ v ∈ U) := ⟨gT, hmu, hvU⟩
  have HIN : Hid (in64 v) := G.i64 v hvU
  obtain ⟨W1, hW1⟩ : ∃ W, W = w.alloc (.cells #[.int .i64 0, .bool false, .slice none 0 0] 77) := ⟨_, rfl⟩
  have hb1 : Below w.heap.size w W1 := by rw [hW1]; exact (Ok.refl w).alloc _
  have HRB : Hid (W1.heap[w.heap.size]? = some (.cells #[.int .i64 0, .bool false, .slice none 0 0] 77 (0, 0))) := by unfold Hid; rw [hW1]; exact heap_new0 _ _
  have HSV : Hid (some w.heap.size ≠ sv.ownBlock) := fun e => by have := hvs.lt.2 _ e.symm; omega
  have HW0 : Hid (D.W0.heap.size ≤ w.heap.size) := hvs.hw
  have HRR : Hid (∀ b, (R b ∨ b = w.heap.size) → b < W1.heap.size) := by
    intro b hb
    have := lt_row HRB.out
    rcases hb with hb | hb
    · have := hR b hb; omega
    · omega
  have HC0 : Hid (CI D succ U (fun b => R b ∨ b = w.heap.size) T S v s l1 W1 sv 0 0 [] (.slice none 0 0) sv 0 W1) := ⟨m, i, nn, hvs.below hD hb1, ⟨rfl, rfl⟩, Fr.refl _ _ _⟩
  have HF0 : Hid (Fr D w sv W1 sv) := Fr.below hb1
  have hsl : (succ v).length ≤ 10000 := G.sl v
  obtain ⟨Lv, hLv⟩ : ∃ Lv, Lv = succ v := ⟨_, rfl⟩
  have HLv : Hid (Lv = succ v) := hLv
  rw [← hLv] at hsl
  have HSL : Hid (Lv.length ≤ 10000) := hsl
  clear G hD hV gT hmu hvU hR m i nn hvs hb1 hLv hsl
  go_enter Try.func35, Try.ntmps35
  go_wp2_with fail
  rw [← hW1]
  clear hW1
  go_loopw [5, 6] (fun l i wr => ∃ (k : Nat) (ao : Option Addr) (nn c : Nat), k ≤ Lv.length ∧ l = .slice ao nn c ∧ i = .int .i64 (k : Nat) ∧ Hid (∃ kk l2 sv' q, CI D succ U (fun b => R b ∨ b = w.heap.size) T S v s l1 W1 sv k kk l2 (.slice ao nn c) sv' q wr)) (fun _ i _ => ((Lv.length : Int) - intOf i).toNat)
  case atStart => exact ⟨0, none, 0, 0, Nat.zero_le _, rfl, rfl, ⟨0, [], sv, 0, HC0.out⟩⟩
  case round =>
    obtain ⟨k, ao, nn, c, hk, rfl, rfl, HJ⟩ := hrel
    obtain ⟨kk, l2, sv', q, hci⟩ := HJ.out
    have HCI : Hid (CI D succ U (fun b => R b ∨ b = w.heap.size) T S v s l1 W1 sv k kk l2 (.slice ao nn c) sv' q wr) := hci
    clear hci HJ
    obtain ⟨m0, m1, m2, m3, m4, m5⟩ := HCI.out.vs.cells
    obtain ⟨to, tc, hto0, hrow⟩ := HCI.out.vs.look HD.out HIN.out
    rw [← HLv.out] at hto0 hrow
    have hto := hto0 wr rfl
    have htod := hto0 wr.drew rfl
    clear hto0
    have HROW : Hid _ := hrow
    clear hrow m2 m3 m4 m5
    by_cases hkl : k < Lv.length
    · have hkl' : (k : Int) < (Lv.length : Int) := cast_lt' hkl
      have hkw : IntKind.i64.wrap ((k : Int) + 1) = ((k + 1 : Nat) : Int) := kw_bnd (by have := HSL.out; omega)
      obtain ⟨u, hu⟩ : ∃ u, Lv[k]? = some u := ⟨Lv[k], List.getElem?_eq_getElem hkl⟩
      obtain ⟨g, hg, hgl, hgc⟩ := HROW.out (fun e => by rw [e] at hkl; cases hkl)
      subst hg
      have c0 := hgc k u hu
      clear hgc
      have HU : Hid ((succ v)[k]? = some u) := by unfold Hid; rw [← HLv.out]; exact hu
      have huU : u ∈ U := HG.out.g.cl v HT.out.2.2 u (List.mem_of_getElem? HU.out)
      have hmk := HCI.out.vs.mark (HG.out.i64 u huU)
      have hmkd := (HCI.out.vs.below HD.out (Below.drew (Below.refl _ _))).mark (HG.out.i64 u huU)
      clear huU hu
      by_cases h0 : (iter succ kk S).marks u = 0
      · rw [h0, mkv_zero] at hmk hmkd
        have H0 : Hid ((iter succ kk S).marks u = 0) := h0
        have HCALL : Hid (∀ _ : Unit, Calls Try.prog 21 #[.pointer (some ⟨D.M, 0, none⟩), .int .i64 u, .slice ao nn c] wr.drew (fun e w' => ∃ c kk' l2' lv' sv'' q', e = .returned (.tuple #[c, lv']) ∧ CI D succ U (fun b => R b ∨ b = w.heap.size) T S v s l1 W1 sv (k + 1) kk' l2' lv' sv'' q' w')) := fun _ => (HCI.out.below HD.out (Below.drew (Below.refl _ _))).call HG.out HT.out.1 HV.out HT.out.2.1 HT.out.2.2 HRR.out HU.out h0
        clear h0
        go_wp2_with fail
        go_region_held3 (fun w' => w'.cell? ⟨D.M, 0, none⟩ = some (.map (some D.bt)) ∧ w'.cell? ⟨D.M, 1, none⟩ = some (.map (some D.bm)) ∧ w'.cell? ⟨g, k, none⟩ = some (.int .i64 u) ∧ (Instr.lookup 54 (.map (some D.bt)) (.int .i64 v) false).run Try.prog w' = .ok (.slice (some ⟨g, 0, none⟩) Lv.length tc) w' ∧ (Instr.lookup 33 (.map (some D.bm)) (.int .i64 u) false).run Try.prog w' = .ok (.int .i64 0) w') (go_keep)
          (first | fail)
        go_wp2_with (go_at_call 21; refine Calls.mono (HCALL.out ()) ?_; rintro e w2 ⟨c2, kk2, l22, lv2, sv2, q2, rfl, hci2⟩; have HSL2 : Hid (IsSl lv2) := hci2.pl.sl; have HCI2 : Hid _ := hci2; clear hci2)
        obtain ⟨ao2, n2, c3, e2⟩ := HSL2.out
        subst e2
        go_roundw
        case rel => exact ⟨k + 1, ao2, n2, c3, hkl, rfl, rfl, ⟨kk2, l22, sv2, q2, HCI2.out⟩⟩
        case measure => exact meas hkl
      · have hne : (mkv ((iter succ kk S).marks u) == 0) = false := by
          rw [beq_eq_false_iff_ne]; exact fun e => h0 (mkv_eq0.1 e)
        obtain ⟨y, hy⟩ : ∃ y, y = mkv ((iter succ kk S).marks u) := ⟨_, rfl⟩
        rw [← hy] at hmk hmkd hne
        clear hy
        have HN : Hid _ := (HCI.out.below HD.out (Below.drew (Below.refl _ _))).hear HG.out HU.out h0
        clear h0
        go_wp2_with fail
        go_region_held3 (fun w' => w'.cell? ⟨D.M, 0, none⟩ = some (.map (some D.bt)) ∧ w'.cell? ⟨D.M, 1, none⟩ = some (.map (some D.bm)) ∧ w'.cell? ⟨g, k, none⟩ = some (.int .i64 u) ∧ (Instr.lookup 54 (.map (some D.bt)) (.int .i64 v) false).run Try.prog w' = .ok (.slice (some ⟨g, 0, none⟩) Lv.length tc) w' ∧ (Instr.lookup 33 (.map (some D.bm)) (.int .i64 u) false).run Try.prog w' = .ok (.int .i64 y) w') (go_keep)
          (first | fail)
        go_wp2_with fail
        go_roundw
        case rel => exact ⟨k + 1, ao, nn, c, hkl, rfl, rfl, ⟨kk + 1, l2, sv', q, HN.out⟩⟩
        case measure => exact meas hkl
    · have hkl' : ¬ (k : Int) < (Lv.length : Int) := cast_nlt hkl
      have hke : k = Lv.length := by omega
      have HRB2 : Hid (wr.heap[w.heap.size]? = some (.cells #[.int .i64 0, .bool false, .slice none 0 0] 77 (0, 0))) := (HCI.out.fr.far _ (lt_row HRB.out) (by have := HD.out.uM; have := HD.out.ub; have := HW0.out; omega) (by have := HD.out.um; have := HD.out.ub; have := HW0.out; omega) HSV.out).trans HRB.out
      obtain ⟨r0, r1, r2, r3, r4, r5⟩ := row3_facts HRB2.out
      go_wp2_with fail
      (try simp only [Exit.inBlock, Exit.then]); refine bodyPost_ret (results_cell_row rfl _ _ (w.heap.size) 77 #[_, _, _] (0, 0) _ rfl (row_set3 HRB2.out _ _ _) Try.underlying77 rfl info77) rfl ?_
      have hh := HCI.out
      have hset : ∀ b, b ≠ w.heap.size → (((wr.setCell ⟨w.heap.size, 0, none⟩ (.int .i64 v)).setCell ⟨w.heap.size, 1, none⟩ (.bool true)).setCell ⟨w.heap.size, 2, none⟩ (.slice ao nn c)).heap[b]? = wr.heap[b]? := fun b hb => (heap_setCell_other _ _ _ _ hb).trans ((heap_setCell_other _ _ _ _ hb).trans (heap_setCell_other _ _ _ _ hb))
      have hsv : some w.heap.size ≠ sv'.ownBlock := by
        rcases hh.fr.at_ with e | ⟨b, e, hb⟩
        · rw [e]; exact HSV.out
        · rw [e]; intro e2; injection e2 with e2; have := lt_row HRB.out; omega
      have hmid := hh.m
      rw [hke, HLv.out, List.drop_length] at hmid
      refine ⟨kk, l2, .slice ao nn c, sv', q, hmid, hh.i, hh.n, rfl, ((hh.vs.scratch HD.out HW0.out hsv 0 _).scratch HD.out HW0.out hsv 1 _).scratch HD.out HW0.out hsv 2 _, ?_, ?_⟩
      · exact PL.kept (fun b hb => hset b (fun e => hb.2.2.2 (.inr e))) (fun b hb => ⟨hb.1, by simpa using hb.2.1, hb.2.2.1, fun e => hb.2.2.2 (.inl e)⟩) hh.pl
      · have f1 := HF0.out.trans hh.fr
        exact ⟨by simpa using f1.size, fun b h1 h2 h3 h4 => (hset b (by omega)).trans (f1.far b h1 h2 h3 h4), f1.at_⟩
end Go.Proofs.Ytaocomjhepgabaa
