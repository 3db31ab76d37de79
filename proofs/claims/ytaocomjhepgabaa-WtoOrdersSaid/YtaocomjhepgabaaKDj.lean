import Derived.Deep.RegionLaw
import Derived.Test.YtaocomjhepgabaaKDi
set_option linter.unusedVariables false
set_option linter.unusedSimpArgs false
set_option linter.unnecessarySimpa false
/- Dj -/
namespace Go.Proofs.Ytaocomjhepgabaa
open Go.RowKit Go.Maps Go.ChangeShapes Go.WideShapes
def OW3 (w : World) : World := ((w.alloc (.map #[] 0)).alloc (.map #[] 0)).alloc (.cells #[.map (some w.heap.size), .map (some (w.heap.size + 1)), .int .i64 0, .slice none 0 0] 56)
theorem OW3_bi (w : World) : BI w (w.heap.size + 2) w.heap.size (w.heap.size + 1) (w.heap.size + 3) (OW3 w) [] := by
  have hsz : (OW3 w).heap.size = w.heap.size + 3 := by simp [OW3]
  refine ⟨by unfold OW3; repeat (first | exact Ok.refl _ | refine Ok.alloc ?_ _), by omega, by omega, by omega, by omega, by omega, by omega, by omega, by omega, by omega, by omega, ?_, ?_, ⟨.map [], ?_, toIs_nil⟩⟩
  · unfold OW3; exact (by repeat (first | (refine heap_at _ _ _ ?hx; case hx => (first | (simp; done) | (simp; omega))) | (refine heap_past _ _ _ ?hy ?_; case hy => (first | (simp; done) | (simp; omega))) | fail))
  · unfold OW3; exact (by repeat (first | (refine heap_at _ _ _ ?hx; case hx => (first | (simp; done) | (simp; omega))) | (refine heap_past _ _ _ ?hy ?_; case hy => (first | (simp; done) | (simp; omega))) | fail))
  · have h : (OW3 w).heap[w.heap.size]? = some (.map #[] 0) := by unfold OW3; exact (by repeat (first | (refine heap_at _ _ _ ?hx; case hx => (first | (simp; done) | (simp; omega))) | (refine heap_past _ _ _ ?hy ?_; case hy => (first | (simp; done) | (simp; omega))) | fail))
    exact ⟨#[], 0, h, ⟨by simp, Go.MapKept.stamped_empty 0, by simp⟩, Nat.le_refl _, rfl, by omega, by simp, by simp⟩
/-- What the document's Order leaves. -/
def ROrderIs (w : World) (n : Int) (ars : List (Int × Int)) (root : Int) (e : Ending) (w' : World) : Prop :=
  Ok w w' ∧ ((badV n root || ars.any (badA n)) = true → e = .returned (.tuple #[.slice none 0 0, .int .i64 100])) ∧
    ((badV n root || ars.any (badA n)) = false → ∃ L v, Ends (outs ars) (start (outs ars) root) L ∧ e = .returned (.tuple #[v, .int .i64 0]) ∧ w'.ownsRow w.heap.size 35 3 v L.length (fl (els L)) ∧ L.length ≤ 1000000000000)
theorem arcs_gs (ars : List (Int × Int)) (root : Int) (hl : ars.length ≤ 1000) (hr : in64 root) (hin : ∀ x ∈ ars, in64 x.1 ∧ in64 x.2) : ∃ U, GS (outs ars) U ∧ root ∈ U := by
  have h1 := once_len (root :: ars.map (·.2))
  have h2 : (once (root :: ars.map (·.2))).length ≤ 1001 := by
    simp only [List.length_cons, List.length_map] at h1; omega
  refine ⟨once (root :: ars.map (·.2)), ⟨⟨once_nodup _, fun v _ u hu => ?_, ?_⟩, fun x hx => ?_, by omega, fun v => ?_⟩, mem_once.2 List.mem_cons_self⟩
  · rw [mem_outs] at hu
    exact mem_once.2 (List.mem_cons_of_mem _ (List.mem_map.2 ⟨(v, u), hu, rfl⟩))
  · have h3 := Nat.mul_le_mul h2 (show (once (root :: ars.map (·.2))).length + 2 ≤ 1003 by omega)
    have : (1001 * 1003 : Nat) < DONE := by decide
    omega
  · rcases List.mem_cons.1 (mem_once.1 hx) with rfl | hx
    · exact hr
    · obtain ⟨a, ha, rfl⟩ := List.mem_map.1 hx
      exact (hin a ha).2
  · unfold outs
    rw [List.length_map]
    have := List.length_filter_le (fun a : Int × Int => decide (a.1 = v)) ars
    omega
theorem inv_start {succ : Int → List Int} (U : List Int) : Inv succ U (⟨[], [], [], 0, fun _ => 0, 0⟩ : St Int) := by
  have hf : fresh U (fun _ => 0) = U.length := by unfold fresh; simp
  have hn : nond U (fun _ => 0) = U.length := by
    unfold nond
    have : (fun v : Int => decide ((0 : Nat) ≠ DONE)) = fun _ => true := by funext v; exact decide_eq_true (fun e => DONE_ne e.symm)
    rw [this]; simp
  exact {
    stk := fun u hu => (by cases hu)
    snd := List.nodup_nil
    sub := List.Sublist.refl _
    cls := fun c hc => (by cases hc)
    cnt := by
      show 0 + fresh U (fun _ => 0) + nond U (fun _ => 0) * (U.length + 1) ≤ _
      rw [hf, hn, show U.length + 2 = (U.length + 1) + 1 from rfl, Nat.mul_add U.length (U.length + 1) 1]
      omega
    len := Nat.le_refl _
    stl := Nat.le_refl _
    dep := rfl
    mrk := fun v => Or.inl (Nat.le_refl _) }
set_option maxRecDepth 100000 in
set_option maxHeartbeats 16000000 in
theorem ROrder_any {w : World} {n root : Int} {ro : Option Addr} {cap : Nat} {ars : List (Int × Int)} (hs : SAr w ro ars) (hl : ars.length ≤ 1000) (hr : in64 root) (hin : ∀ x ∈ ars, in64 x.1 ∧ in64 x.2) :
    Calls Try.prog 14 #[.int .i64 n, .slice ro ars.length cap, .int .i64 root] w (ROrderIs w n ars root) := by
  have hmm := @run_makeMap Try.prog
  have HS : Hid (SAr w ro ars) := hs
  have HL : Hid (ars.length ≤ 1000) := hl
  have HR : Hid (in64 root) := hr
  have HIN : Hid (∀ x ∈ ars, in64 x.1 ∧ in64 x.2) := hin
  clear hs hl hr hin
  by_cases b1 : root < 0
  · have HB : Hid ((badV n root || ars.any (badA n)) = true) := by unfold Hid badV; simp [b1]
    go_enter Try.func14, Try.ntmps14
    go_wp2_with fail
    go_ret2
    exact ⟨Ok.refl _, fun _ => rfl, fun h => by rw [HB.out] at h; cases h⟩
  · by_cases b2 : n ≤ root
    · have HB : Hid ((badV n root || ars.any (badA n)) = true) := by unfold Hid badV; simp [b2]
      go_enter Try.func14, Try.ntmps14
      go_wp2_with fail
      go_ret2
      exact ⟨Ok.refl _, fun _ => rfl, fun h => by rw [HB.out] at h; cases h⟩
    · have HB : Hid (badV n root = false) := by unfold Hid badV; simp; omega
      have HBI0 : Hid (BI w (w.heap.size + 2) w.heap.size (w.heap.size + 1) (w.heap.size + 3) (OW3 w) []) := OW3_bi w
      go_enter Try.func14, Try.ntmps14
      go_wp2_with fail
      clear b1 b2 hmm
      obtain ⟨W1, hW1⟩ : ∃ W, W = ((w.alloc (.map #[] 0)).alloc (.map #[] 0)).alloc (.cells #[.map (some w.heap.size), .map (some (w.heap.size + 1)), .int .i64 0, .slice none 0 0] 56) := ⟨_, rfl⟩
      have e1 : OW3 w = W1 := hW1.symm
      rw [← hW1]
      rw [e1] at HBI0
      clear e1 hW1
      go_loopw [9, 10] (fun i a wr => ∃ (k : Nat), k ≤ ars.length ∧ i = .int .i64 (k : Nat) ∧ Hid (BI w (w.heap.size + 2) w.heap.size (w.heap.size + 1) (w.heap.size + 3) wr (ars.take k) ∧ (ars.take k).any (badA n) = false)) (fun i _ _ => ((ars.length : Int) - intOf i).toNat)
      case atStart => exact ⟨0, Nat.zero_le _, rfl, ⟨by simpa using HBI0.out, by simp⟩⟩
      case round =>
        obtain ⟨k, hk, rfl, HK⟩ := hrel
        by_cases hkl : k < ars.length
        · have hkl' : (k : Int) < (ars.length : Int) := cast_lt' hkl
          have hkw : IntKind.i64.wrap ((k : Int) + 1) = ((k + 1 : Nat) : Int) := kw_bnd (by have := HL.out; omega)
          obtain ⟨x, hx⟩ : ∃ x, ars[k]? = some x := ⟨ars[k], List.getElem?_eq_getElem hkl⟩
          obtain ⟨tb, o, hro, htb, hc⟩ := (HS.out.ok HK.out.1.ok) (fun e => by rw [e] at hkl; cases hkl)
          subst hro
          obtain ⟨c0, c1⟩ := hc k x hx
          have hxm : x ∈ ars := List.mem_of_getElem? hx
          have HX : Hid (ars[k]? = some x ∧ in64 x.1 ∧ in64 x.2 ∧ x ∈ ars) := ⟨hx, (HIN.out x hxm).1, (HIN.out x hxm).2, hxm⟩
          have HBAD : Hid (badA n x = true → (badV n root || ars.any (badA n)) = true) := fun h => by
            rw [Bool.or_eq_true]; right; exact List.any_eq_true.2 ⟨x, hxm, h⟩
          clear hc hx hxm
          obtain ⟨x1, x2⟩ := x
          simp only at c0 c1
          by_cases b1 : x1 < 0
          · have HB1 : Hid ((badV n root || ars.any (badA n)) = true) := HBAD.out (by unfold badA badV; simp [b1])
            go_wp2_with fail
            go_ret2
            exact ⟨HK.out.1.ok.alloc _, fun _ => rfl, fun h => by rw [HB1.out] at h; cases h⟩
          · by_cases b2 : n ≤ x1
            · have HB1 : Hid ((badV n root || ars.any (badA n)) = true) := HBAD.out (by unfold badA badV; simp [b2])
              go_wp2_with fail
              go_ret2
              exact ⟨HK.out.1.ok.alloc _, fun _ => rfl, fun h => by rw [HB1.out] at h; cases h⟩
            · by_cases b3 : x2 < 0
              · have HB1 : Hid ((badV n root || ars.any (badA n)) = true) := HBAD.out (by unfold badA badV; simp [b3])
                go_wp2_with fail
                go_ret2
                exact ⟨HK.out.1.ok.alloc _, fun _ => rfl, fun h => by rw [HB1.out] at h; cases h⟩
              · by_cases b4 : n ≤ x2
                · have HB1 : Hid ((badV n root || ars.any (badA n)) = true) := HBAD.out (by unfold badA badV; simp [b4])
                  go_wp2_with fail
                  go_ret2
                  exact ⟨HK.out.1.ok.alloc _, fun _ => rfl, fun h => by rw [HB1.out] at h; cases h⟩
                · have HG1 : Hid (badA n (x1, x2) = false) := by unfold Hid badA badV; simp; omega
                  go_wp2_with fail
                  obtain ⟨X, hX⟩ : ∃ X, X = wr.alloc (.cells #[.int .i64 x1, .int .i64 x2] 29) := ⟨_, rfl⟩
                  have HBX : Hid (BI w (w.heap.size + 2) w.heap.size (w.heap.size + 1) (w.heap.size + 3) X (ars.take k)) := by unfold Hid; rw [hX]; exact HK.out.1.below ((Ok.refl wr).alloc _)
                  have HRA : Hid (X.heap[wr.heap.size]? = some (.cells #[.int .i64 x1, .int .i64 x2] 29 (0, 0))) := by unfold Hid; rw [hX]; exact heap_new0 _ _
                  rw [← hX]
                  have hub := HK.out.1.ub
                  obtain ⟨ba, hba⟩ : ∃ ba, ba = wr.heap.size := ⟨_, rfl⟩
                  rw [← hba] at HRA hub ⊢
                  clear hX hba b1 b2 b3 b4 c0 c1 htb
                  obtain ⟨so, sc, hlk, hown, hzl, hback⟩ := HBX.out.look (x1, x2) HX.out.2.1 HX.out.2.2.1 (by rw [List.length_take]; have := HL.out; omega)
                  simp only at hlk hown hzl hback
                  obtain ⟨N, hN⟩ : ∃ N, N = (outs (ars.take k) x1).length := ⟨_, rfl⟩
                  obtain ⟨zs, hzs⟩ : ∃ zs, zs = (outs (ars.take k) x1).map (Value.int .i64) := ⟨_, rfl⟩
                  rw [← hN, ← hzs] at hown hback
                  rw [← hN] at hlk hzl
                  have hl1 := hlk X.drew rfl
                  have hl2 : ∀ o, (Instr.lookup 54 (.map (some w.heap.size)) (.int .i64 x1) false).run Try.prog (X.alloc o).drew = .ok (.slice so N sc) (X.alloc o).drew := fun o => hlk _ (Below.heap_alloc X _ _ (by have := HBX.out.ub; show w.heap.size < X.heap.size; omega))
                  have HOWN : Hid (X.ownsRow (w.heap.size + 3) 3 1 (.slice so N sc) N zs) := hown
                  have HBACK : Hid _ := hback
                  have HN63 : Hid (N + 1 ≤ maxLen ∧ (N + 1) * 8 ≤ 140737488355328) := by
                    have h1 : (ars.take k).length ≤ 1000 := by rw [List.length_take]; have := HL.out; omega
                    unfold Hid maxLen; omega
                  obtain ⟨a0, a1, a2, a3⟩ := row_facts HRA.out
                  obtain ⟨m0, _, _, _, _, _⟩ := row4_facts HBX.out.mr
                  have hXM := lt_row HBX.out.mr
                  have hXa := lt_row HRA.out
                  obtain ⟨i0, hi0, hy0, hy1, hy2⟩ := info_of Try.info3
                  have hsb : ∀ b, b < w.heap.size + 3 → some b ≠ (Value.slice so N sc).ownBlock := fun b hb e => by have := (HOWN.out.lt b e.symm).1; omega
                  have HSB : Hid _ := hsb
                  have hsa : some ba ≠ (Value.slice so N sc).ownBlock := fun e => by
                    rcases HOWN.out.2 with ⟨e1, _⟩ | ⟨g, cp, cur, e1, _, hg, _⟩
                    · rw [e1] at e; simp [Value.ownBlock] at e
                    · rw [e1] at e
                      simp only [Value.ownBlock, Option.some.injEq] at e
                      subst e
                      rw [HRA.out] at hg
                      injection hg with hg
                      injection hg with _ hg
                      exact absurd hg (by decide)
                  have HSA : Hid _ := hsa
                  clear hlk hown hzl hback hN hzs hsb hsa a2 a3
                  go_region_held3 (fun w' => w'.cell? ⟨w.heap.size + 2, 0, none⟩ = some (.map (some w.heap.size)) ∧ w'.cell? ⟨ba, 0, none⟩ = some (.int .i64 x1) ∧ w'.cell? ⟨ba, 1, none⟩ = some (.int .i64 x2)) (go_keep)
                    (first
                    | (refine step_append_lies _ (by rfl) _ _ _ (by rfl) (w.heap.size + 3) 3 i0 _ 1 8 Try.underlying32 hi0 hy0 hy1 hy2 rfl (by decide) _ N zs (by rfl) (World.ownsRow.kept HOWN.out (grown_below (by repeat (first | exact Below.refl _ _ | refine Below.alloc ?_ (Nat.le_refl _) _ | refine Below.drew ?_))) (Classical.em _)) ⟨X.heap.size, 0, none⟩ 1 1 [.int .i64 x2] (by rfl) (by rfl) (by intro j u hj; exact news_row (heap_new0 _ _) j u hj) (by simp [Value.oneCell']) (by decide) HN63.out.1 HN63.out.2 (by simp; omega) (X.heap.size + 1) (by simp) ?_; intro gg capg w4 hown4 hgrow hat4 hlt4; obtain ⟨w5, hrun5, hbi5, hkp5⟩ := HBACK.out _ w4 gg capg (by repeat (first | exact Below.refl _ _ | refine Below.alloc ?_ (Nat.le_refl _) _ | refine Below.drew ?_)) hgrow hown4 (hat4.imp (fun e => e) (fun e => by omega)); have HBI5 : Hid _ := hbi5; have q0 := (World.cell?_of_block (a := ⟨w.heap.size + 2, 0, none⟩) (hkp5 _ hXM (by omega) (HSB.out _ (by omega))).1).trans m0; have q1 := (World.cell?_of_block (a := ⟨ba, 0, none⟩) (hkp5 _ hXa (by omega) HSA.out).1).trans a0; have q2 := (World.cell?_of_block (a := ⟨ba, 1, none⟩) (hkp5 _ hXa (by omega) HSA.out).1).trans a1; have r0 := (World.cell?_of_block (a := ⟨w.heap.size + 2, 0, none⟩) (hkp5 _ hXM (by omega) (HSB.out _ (by omega))).2).trans m0; have r1 := (World.cell?_of_block (a := ⟨ba, 0, none⟩) (hkp5 _ hXa (by omega) HSA.out).2).trans a0; have r2 := (World.cell?_of_block (a := ⟨ba, 1, none⟩) (hkp5 _ hXa (by omega) HSA.out).2).trans a1; clear hbi5 hkp5 hown4 hgrow hat4)
                    | fail)
                  all_goals
                    go_wp2_with fail
                    go_roundw
                    case rel =>
                      refine ⟨k + 1, hkl, rfl, ⟨?_, ?_⟩⟩
                      · rw [List.take_add_one, HX.out.1]; exact HBI5.out
                      · rw [List.take_add_one, HX.out.1, List.any_append, HK.out.2]; simpa using HG1.out
                    case measure => exact meas hkl
        · have hkl' : ¬ (k : Int) < (ars.length : Int) := cast_nlt hkl
          have hke : ars.take k = ars := List.take_of_length_le (by omega)
          rw [hke] at HK
          have HBF : Hid ((badV n root || ars.any (badA n)) = false) := by unfold Hid; rw [HB.out, HK.out.2]; rfl
          obtain ⟨U, hG, hrU⟩ := arcs_gs ars root HL.out HR.out HIN.out
          have hdok := HK.out.1.dok
          have hvs := HK.out.1.vs
          have HCALL : Hid (∀ _ : Unit, Calls Try.prog 21 #[.pointer (some ⟨w.heap.size + 2, 0, none⟩), .int .i64 root, .slice none 0 0] wr (fun e w' => ∃ (c : Value) (L : List (Int × Nat × Bool)) (lv sv : Value) (q : Nat), e = .returned (.tuple #[c, lv]) ∧ Ends (outs ars) (start (outs ars) root) L ∧ L.length ≤ 1000000000 ∧ Ok w w' ∧ PL w' wr.heap.size (KK ⟨w, wr, w.heap.size + 2, w.heap.size, w.heap.size + 1, w.heap.size + 3⟩ (fun _ => False) w' sv) q lv 0 L)) := fun _ => by
            refine (vis_ok hG hdok _ ⟨[], [], [], 0, fun _ => 0, 0⟩ root (inv_start U) (fun x => Or.inl rfl) (Nat.lt_succ_self _) hrU rfl (fun _ => False) wr (.slice none 0 0) (.slice none 0 0) [] 0 (fun b hb => hb.elim) hvs ⟨rfl, rfl⟩ (Nat.le_refl _)).mono ?_
            rintro e w' ⟨k1, c, s, l, sv', lv', q, c1, b, i1, i2, rfl, v1, p1, f1⟩
            refine ⟨_, l ++ [], lv', sv', q, rfl, ⟨k1, c1, b.list⟩, ?_, v1.ok, p1⟩
            have h1 := i1.len
            have h2 := hG.cnt i1
            rw [b.list] at h1
            have h3 : (l ++ ([] : List (Int × Nat × Bool))).length ≤ (iter (outs ars) k1 (visit (outs ars) root ⟨[], [], [], 0, fun _ => 0, 0⟩)).count := Nat.le_trans (Nat.le_add_right _ _) h1
            omega
          clear hG hrU hdok hvs hke hkl
          go_wp2_with (go_at_call 21; refine Calls.mono (HCALL.out ()) ?_; rintro e w2 ⟨c2, L, lv, sv, q, rfl, hE, hLn, hok, hpl⟩; have HE : Hid (Ends (outs ars) (start (outs ars) root) L) := hE; have HLN : Hid (L.length ≤ 1000000000) := hLn; have HOK : Hid (Ok w w2) := hok; have HPL : Hid (PL w2 wr.heap.size (KK ⟨w, wr, w.heap.size + 2, w.heap.size, w.heap.size + 1, w.heap.size + 3⟩ (fun _ => False) w2 sv) q lv 0 L) := hpl; clear hE hLn hok hpl)
          have hflat := flat_any q (B2 := w.heap.size) (O := []) HPL.out (fun b hb => hb.2.1) (World.ownsRow_nil _ _ _ _) HOK.out.le (fun b hb => by simp [Value.ownBlock] at hb) (by have := HLN.out; omega) (by have := HLN.out; simp only [List.length_nil]; omega)
          unfold FlatAt at hflat
          refine Calls.mono hflat ?_
          rintro e w3 ⟨o3, rfl, ho3, hg3⟩
          clear hflat
          have HO3 : Hid (w3.ownsRow w.heap.size 35 3 o3 (([] : List (Int × Int × Bool)).length + L.length) (fl ([] ++ els L))) := ho3
          have HG3 : Hid _ := hg3
          clear ho3 hg3
          go_wp2_with fail
          go_ret2
          refine ⟨Below.grown HOK.out HG3.out.gr HOK.out.le (fun k e => by simp [Value.ownBlock] at e), (fun h => by rw [HBF.out] at h; cases h), fun _ => ⟨L, o3, HE.out, rfl, ?_, by have := HLN.out; omega⟩⟩
          have := HO3.out
          simpa using this
end Go.Proofs.Ytaocomjhepgabaa
