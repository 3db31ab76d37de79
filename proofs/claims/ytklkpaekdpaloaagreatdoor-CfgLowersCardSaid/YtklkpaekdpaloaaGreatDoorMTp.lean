import Derived.Test.YtklkpaekdpaloaaGreatDoorMTp0
set_option linter.unusedVariables false
set_option linter.unusedSimpArgs false
set_option linter.unnecessarySimpa false
namespace Go.Proofs.YtklkpaekdpaloaaGreatDoor
open Go.RowKit
theorem own_SL8 {w : World} {B : Nat} {ev : Value} {es : List Ed} (h : w.ownsRow B 53 6 ev es.length (edL es)) : SL w 6 ev es.length (edL es) := by
 obtain ⟨ao, cap, rfl⟩ := own_form h
 refine ⟨h.1, edL_one' es, ao, cap, rfl, ?_⟩
 by_cases c : es.length = 0
 ·exact .inl c
 ·right
  obtain ⟨g, cp, e, _⟩ := h.form (by omega)
  injection e with e1 e2 e3
  subst e1
  exact ⟨g, 0, rfl, (h.lt g rfl).2, fun j u hj => by have := h.cells (g := g) rfl j u hj; rw [add_off] at this; exact this⟩
set_option maxRecDepth 100000 in
set_option maxHeartbeats 8000000 in
theorem asked_ok (o0 o1 o2 o3 o4 o5 v0 v1 v2 v3 v4 v5 : Value) (ns : List Nd) (l : Ls) (w : World) (hR : RulesIs w) (hS : StepsIs w) (hq : ProgIs w o0 o1 o2 o3 o4 o5 ns l) (hp : ProgIs w v0 v1 v2 v3 v4 v5 ns l) (hok : ∀ n ∈ ns, n.Ok)
  (hw : ∀ W, Ok w W → Calls Tryz.prog 14 #[.agg #[o0, o1, o2, o3, o4, o5], .agg #[v0, v1, v2, v3, v4, v5]] W fun e w' => e = .returned (.bool true) ∧ Ok W w') :
  Calls Tryz.prog 7 #[.agg #[o0, o1, o2, o3, o4, o5], .agg #[v0, v1, v2, v3, v4, v5]] w fun e w' => e = .returned (.bool true) ∧ Ok w w' := by
 have HR : Hid (RulesIs w) := hR
 have HS : Hid (StepsIs w) := hS
 have HQ : Hid (ProgIs w o0 o1 o2 o3 o4 o5 ns l) := hq
 have HP : Hid (ProgIs w v0 v1 v2 v3 v4 v5 ns l) := hp
 have HOK : Hid (∀ n ∈ ns, n.Ok) := hok
 have HW : Hid (∀ W, Ok w W → Calls Tryz.prog 14 #[.agg #[o0, o1, o2, o3, o4, o5], .agg #[v0, v1, v2, v3, v4, v5]] W fun e w' => e = .returned (.bool true) ∧ Ok W w') := hw
 obtain ⟨_, x0, y0, rfl, _⟩ := hq.nodes
 obtain ⟨_, X0, Y0, rfl, _⟩ := hp.nodes
 obtain ⟨_, _, x1, y1, rfl, _⟩ := hq.lists.sc.sl
 obtain ⟨_, _, X1, Y1, rfl, _⟩ := hp.lists.sc.sl
 obtain ⟨_, _, x2, y2, rfl, _⟩ := hq.lists.ar.sl
 obtain ⟨_, _, X2, Y2, rfl, _⟩ := hp.lists.ar.sl
 obtain ⟨_, _, x3, y3, rfl, _⟩ := hq.lists.sy.sl
 obtain ⟨_, _, X3, Y3, rfl, _⟩ := hp.lists.sy.sl
 obtain ⟨_, _, x4, y4, rfl, _⟩ := hq.lists.si.sl
 obtain ⟨_, _, X4, Y4, rfl, _⟩ := hp.lists.si.sl
 obtain ⟨_, _, x5, y5, rfl, _⟩ := hq.lists.so.sl
 obtain ⟨_, _, X5, Y5, rfl, _⟩ := hp.lists.so.sl
 clear hR hS hq hp hw hok
 go_enter Tryz.func7, Tryz.ntmps7
 go_wp2_with fail
 obtain ⟨w0, hw0⟩ : ∃ x, x = (w.alloc (Obj.cells #[Value.slice x0 ns.length y0, Value.slice x1 l.sc.length y1, Value.slice x2 l.ar.length y2, Value.slice x3 l.sy.length y3, Value.slice x4 l.si.length y4, Value.slice x5 l.so.length y5] 27)).alloc (Obj.cells #[Value.slice X0 ns.length Y0, Value.slice X1 l.sc.length Y1, Value.slice X2 l.ar.length Y2, Value.slice X3 l.sy.length Y3, Value.slice X4 l.si.length Y4, Value.slice X5 l.so.length Y5] 27) := ⟨_, rfl⟩
 obtain ⟨b1, hb1⟩ : ∃ x, x = w.heap.size + 1 := ⟨_, rfl⟩
 obtain ⟨b0, hb0⟩ : ∃ x, x = w.heap.size := ⟨_, rfl⟩
 rw [← hw0, ← hb1, ← hb0]
 have HK0 : Hid (Ok w w0) := by unfold Hid; rw [hw0]; exact ((Ok.refl w).alloc _).alloc _
 have HX0 : Hid (∀ W, Ok w0 W → PC W b0 (.slice x0 ns.length y0) (.slice x1 l.sc.length y1) (.slice x2 l.ar.length y2) (.slice x3 l.sy.length y3) (.slice x4 l.si.length y4) (.slice x5 l.so.length y5) ∧ PC W b1 (.slice X0 ns.length Y0) (.slice X1 l.sc.length Y1) (.slice X2 l.ar.length Y2) (.slice X3 l.sy.length Y3) (.slice X4 l.si.length Y4) (.slice X5 l.so.length Y5)) := fun W hW => by
  have h1 : Six w0 b0 (.slice x0 ns.length y0) (.slice x1 l.sc.length y1) (.slice x2 l.ar.length y2) (.slice x3 l.sy.length y3) (.slice x4 l.si.length y4) (.slice x5 l.so.length y5) := by rw [hw0, hb0]; exact (Six.new w _ _ _ _ _ _).below ((Ok.refl _).alloc _)
  have h2 : Six w0 b1 (.slice X0 ns.length Y0) (.slice X1 l.sc.length Y1) (.slice X2 l.ar.length Y2) (.slice X3 l.sy.length Y3) (.slice X4 l.si.length Y4) (.slice X5 l.so.length Y5) := by
   rw [hw0, hb1]
   have := Six.new (w.alloc (Obj.cells #[Value.slice x0 ns.length y0, Value.slice x1 l.sc.length y1, Value.slice x2 l.ar.length y2, Value.slice x3 l.sy.length y3, Value.slice x4 l.si.length y4, Value.slice x5 l.so.length y5] 27)) (.slice X0 ns.length Y0) (.slice X1 l.sc.length Y1) (.slice X2 l.ar.length Y2) (.slice X3 l.sy.length Y3) (.slice X4 l.si.length Y4) (.slice X5 l.so.length Y5)
   rw [show (w.alloc (Obj.cells #[Value.slice x0 ns.length y0, Value.slice x1 l.sc.length y1, Value.slice x2 l.ar.length y2, Value.slice x3 l.sy.length y3, Value.slice x4 l.si.length y4, Value.slice x5 l.so.length y5] 27)).heap.size = w.heap.size + 1 from by simp] at this
   exact this
  exact ⟨(h1.below hW).pc, (h2.below hW).pc⟩
 clear hw0 hb1 hb0
 have HAT : Hid (∀ W, Ok w0 W → ∀ x, (Calls Tryz.prog 16 #[.agg #[Value.slice x0 ns.length y0, Value.slice x1 l.sc.length y1, Value.slice x2 l.ar.length y2, Value.slice x3 l.sy.length y3, Value.slice x4 l.si.length y4, Value.slice x5 l.so.length y5], .int .i64 x] W fun e w' => e = .returned (.int .i64 (cAt ns l x)) ∧ Ok W w') ∧ (Calls Tryz.prog 17 #[.agg #[Value.slice X0 ns.length Y0, Value.slice X1 l.sc.length Y1, Value.slice X2 l.ar.length Y2, Value.slice X3 l.sy.length Y3, Value.slice X4 l.si.length Y4, Value.slice X5 l.so.length Y5], .int .i64 x] W fun e w' => e = .returned (.int .i64 (cAt ns l x)) ∧ Ok W w')) := fun W hW x => ⟨at_any _ _ _ _ _ _ ns l x W (HR.out.below (HK0.out.step hW)) (HS.out.below (HK0.out.step hW)) (HQ.out.below (HK0.out.step hW)), rat_any _ _ _ _ _ _ ns l x W (HP.out.below (HK0.out.step hW))⟩
 have HLM : Hid (ns.length ≤ 9223372036854775807) := HP.out.lists.sc |> fun _ => by have := HP.out.nodes.2; obtain ⟨_, _, _, h, _⟩ := this; unfold Hid maxLen at *; omega
 cases hgd : goodD ns l with
 | false =>
  refine (lower_bad _ _ _ _ _ _ ns l w0 (HR.out.below HK0.out) (HQ.out.below HK0.out) hgd).mono ?_
  rintro e w1 ⟨rfl, hk1⟩
  have HK1 : Hid (Ok w0 w1) := hk1
  clear hk1
  obtain ⟨⟨z1, c0, c1, c2, c3, c4, c5⟩, ⟨Z1, C0, C1, C2, C3, C4, C5⟩⟩ := HX0.out w1 HK1.out
  go_wp2_with fail
  obtain ⟨gg, hgg⟩ : ∃ x, x = w1.heap.size := ⟨_, rfl⟩
  obtain ⟨w1a, hwa⟩ : ∃ x, x = w1.alloc (Obj.cells #[Value.slice none 0 0, Value.slice none 0 0, Value.slice none 0 0, Value.slice none 0 0, Value.slice none 0 0, Value.slice none 0 0, Value.int .i64 0, Value.int .i64 0, Value.slice none 0 0] 42) := ⟨_, rfl⟩
  rw [← hgg, ← hwa]
  have HG1 : Hid (w1a.heap[gg]? = some (.cells #[Value.slice none 0 0, Value.slice none 0 0, Value.slice none 0 0, Value.slice none 0 0, Value.slice none 0 0, Value.slice none 0 0, Value.int .i64 0, Value.int .i64 0, Value.slice none 0 0] 42 (0, 0))) := by unfold Hid; rw [hwa, hgg]; exact heap_new0 _ _
  have HKa : Hid (Ok w0 w1a) := by unfold Hid; rw [hwa]; exact HK1.out.alloc _
  clear hgg hwa z1 c0 c1 c2 c3 c4 c5 Z1 C0 C1 C2 C3 C4 C5
  refine (rlower_bad _ _ _ _ _ _ ns l w1a (HP.out.below (HK0.out.step HKa.out)) hgd).mono ?_
  rintro e w2 ⟨rfl, hk2⟩
  have HK2 : Hid (Ok w0 w2) := HKa.out.step hk2
  have HG2 : Hid _ := Ok.row' hk2 HG1.out
  have HSM : Hid (∀ W, Ok w2 W → Calls Tryz.prog 12 #[.agg #[Value.slice none 0 0, Value.slice none 0 0, Value.slice none 0 0, Value.slice none 0 0, Value.slice none 0 0, Value.slice none 0 0, Value.int .i64 0, Value.int .i64 0, Value.slice none 0 0], .agg #[Value.slice none 0 0, Value.slice none 0 0, Value.slice none 0 0, Value.slice none 0 0, Value.slice none 0 0, Value.slice none 0 0, Value.int .i64 0, Value.int .i64 0, Value.slice none 0 0]] W fun e w' => e = .returned (.bool true) ∧ Ok W w') := fun W _ => same_ok _ _ _ _ _ _ _ _ _ _ _ _ _ _ 0 0 [] ⟨[], [], [], [], []⟩ ⟨[], [], [], [], []⟩ [] W (prog_none W) (prog_none W) rfl (sl_none W) (sl_none W) (by simp)
  clear hk2 hgd
  have r0 : w2.cell? ⟨gg, 0, none⟩ = some (.slice none 0 0) := (cell_of_row _ _ 0 _ _ _ HG2.out).trans (by simp)
  have r1 : w2.cell? ⟨gg, 1, none⟩ = some (.slice none 0 0) := (cell_of_row _ _ 1 _ _ _ HG2.out).trans (by simp)
  have r2 : w2.cell? ⟨gg, 2, none⟩ = some (.slice none 0 0) := (cell_of_row _ _ 2 _ _ _ HG2.out).trans (by simp)
  have r3 : w2.cell? ⟨gg, 3, none⟩ = some (.slice none 0 0) := (cell_of_row _ _ 3 _ _ _ HG2.out).trans (by simp)
  have r4 : w2.cell? ⟨gg, 4, none⟩ = some (.slice none 0 0) := (cell_of_row _ _ 4 _ _ _ HG2.out).trans (by simp)
  have r5 : w2.cell? ⟨gg, 5, none⟩ = some (.slice none 0 0) := (cell_of_row _ _ 5 _ _ _ HG2.out).trans (by simp)
  have r6 : w2.cell? ⟨gg, 6, none⟩ = some (.int .i64 0) := (cell_of_row _ _ 6 _ _ _ HG2.out).trans (by simp)
  have r7 : w2.cell? ⟨gg, 7, none⟩ = some (.int .i64 0) := (cell_of_row _ _ 7 _ _ _ HG2.out).trans (by simp)
  have r8 : w2.cell? ⟨gg, 8, none⟩ = some (.slice none 0 0) := (cell_of_row _ _ 8 _ _ _ HG2.out).trans (by simp)
  have lgg := lt_row HG2.out
  obtain ⟨⟨z1, c0, c1, c2, c3, c4, c5⟩, ⟨Z1, C0, C1, C2, C3, C4, C5⟩⟩ := HX0.out w2 HK2.out
  go_wp2_with (first
   | (go_at_call 12; refine (HSM.out _ ((Ok.refl _).alloc _)).mono ?_; rintro e w3 ⟨rfl, hk3⟩; have HK3 : Hid (Ok w0 w3) := (HK2.out.alloc _).step hk3; clear z1 c0 c1 c2 c3 c4 c5 Z1 C0 C1 C2 C3 C4 C5; obtain ⟨⟨z1, c0, c1, c2, c3, c4, c5⟩, ⟨Z1, C0, C1, C2, C3, C4, C5⟩⟩ := HX0.out w3 HK3.out; clear hk3 r0 r1 r2 r3 r4 r5 r6 r7 r8)
   | (go_at_call 14; refine (HW.out _ (HK0.out.step HK3.out)).mono ?_; rintro e w4 ⟨rfl, hk4⟩; have HK4 : Hid (Ok w0 w4) := HK3.out.step hk4; clear z1 c0 c1 c2 c3 c4 c5 Z1 C0 C1 C2 C3 C4 C5; obtain ⟨⟨z1, c0, c1, c2, c3, c4, c5⟩, ⟨Z1, C0, C1, C2, C3, C4, C5⟩⟩ := HX0.out w4 HK4.out; clear hk4)
   | fail)
  go_loopw [9] (fun t wr => ∃ k : Nat, t = .int .i64 ((k : Int) - 1) ∧ k ≤ 401 ∧ Hid (Ok w0 wr)) (fun t _ => (401 - (intOf t + 1)).toNat)
  case atStart => exact ⟨0, rfl, by omega, HK4.out⟩
  case round =>
   obtain ⟨k, rfl, hk1, HJ⟩ := hrel
   clear z1 c0 c1 c2 c3 c4 c5 Z1 C0 C1 C2 C3 C4 C5
   obtain ⟨x, hx⟩ : ∃ x : Int, x = (k : Int) - 1 := ⟨_, rfl⟩
   rw [← hx]
   have HXK : Hid (x = (k : Int) - 1) := hx
   obtain ⟨⟨z1, c0, c1, c2, c3, c4, c5⟩, ⟨Z1, C0, C1, C2, C3, C4, C5⟩⟩ := HX0.out wr HJ.out
   by_cases h1 : x ≤ (ns.length : Int)
   ·have h1d : decide (x ≤ (ns.length : Int)) = true := decide_eq_true h1
    by_cases h2 : x < 400
    ·have h2d : decide (x < 400) = true := decide_eq_true h2
     have HB4 : Hid (k + 1 ≤ 401) := by unfold Hid; omega
     have hxw : IntKind.i64.wrap (x + 1) = x + 1 := by rw [IntKind.wrap_i64]; omega
     have hxw2 : wrap64 (x + 1) = x + 1 := by unfold wrap64; omega
     have HSS : Hid (∀ X, Ok w0 X → X.cell? ⟨b0, 0, none⟩ = some (.slice x0 ns.length y0) ∧ X.cell? ⟨b0, 1, none⟩ = some (.slice x1 l.sc.length y1) ∧ X.cell? ⟨b0, 2, none⟩ = some (.slice x2 l.ar.length y2) ∧ X.cell? ⟨b0, 3, none⟩ = some (.slice x3 l.sy.length y3) ∧ X.cell? ⟨b0, 4, none⟩ = some (.slice x4 l.si.length y4) ∧ X.cell? ⟨b0, 5, none⟩ = some (.slice x5 l.so.length y5) ∧ X.cell? ⟨b1, 0, none⟩ = some (.slice X0 ns.length Y0) ∧ X.cell? ⟨b1, 1, none⟩ = some (.slice X1 l.sc.length Y1) ∧ X.cell? ⟨b1, 2, none⟩ = some (.slice X2 l.ar.length Y2) ∧ X.cell? ⟨b1, 3, none⟩ = some (.slice X3 l.sy.length Y3) ∧ X.cell? ⟨b1, 4, none⟩ = some (.slice X4 l.si.length Y4) ∧ X.cell? ⟨b1, 5, none⟩ = some (.slice X5 l.so.length Y5)) := fun X hX => by obtain ⟨⟨z1, c0, c1, c2, c3, c4, c5⟩, ⟨Z1, C0, C1, C2, C3, C4, C5⟩⟩ := HX0.out X hX; exact ⟨c0, c1, c2, c3, c4, c5, C0, C1, C2, C3, C4, C5⟩
     have K0 := HSS.out wr.drew (HJ.out.step (Below.drew (Ok.refl _)))
     obtain ⟨av, hav⟩ : ∃ y, y = cAt ns l x := ⟨_, rfl⟩
     have HAV : Hid (av = cAt ns l x) := hav
     have avv : (av == av) = true := by simp
     have avn : (av != av) = false := by simp
     clear hav hx hk1
     go_wp2_with fail
     go_region_held3 (fun w' => w'.cell? ⟨b0, 0, none⟩ = some (.slice x0 ns.length y0) ∧ w'.cell? ⟨b0, 1, none⟩ = some (.slice x1 l.sc.length y1) ∧ w'.cell? ⟨b0, 2, none⟩ = some (.slice x2 l.ar.length y2) ∧ w'.cell? ⟨b0, 3, none⟩ = some (.slice x3 l.sy.length y3) ∧ w'.cell? ⟨b0, 4, none⟩ = some (.slice x4 l.si.length y4) ∧ w'.cell? ⟨b0, 5, none⟩ = some (.slice x5 l.so.length y5) ∧ w'.cell? ⟨b1, 0, none⟩ = some (.slice X0 ns.length Y0) ∧ w'.cell? ⟨b1, 1, none⟩ = some (.slice X1 l.sc.length Y1) ∧ w'.cell? ⟨b1, 2, none⟩ = some (.slice X2 l.ar.length Y2) ∧ w'.cell? ⟨b1, 3, none⟩ = some (.slice X3 l.sy.length Y3) ∧ w'.cell? ⟨b1, 4, none⟩ = some (.slice X4 l.si.length Y4) ∧ w'.cell? ⟨b1, 5, none⟩ = some (.slice X5 l.so.length Y5))
      (first | (with_reducible exact d02) | (with_reducible exact d01) | (with_reducible exact K0) | go_keep)
      (first
      | (go_at_call 16; refine (Calls.mono ((HAT.out _ (HJ.out.step (Below.drew (Ok.refl _))) x).1) ?_); rintro e w5 ⟨rfl, hk5⟩; have HK5 : Hid (Ok w0 w5) := Ok.step (HJ.out.step (Below.drew (Ok.refl _))) hk5; have d01 := HSS.out w5 HK5.out; rw [← HAV.out]; clear hk5)
      | (go_at_call 17; refine (Calls.mono ((HAT.out _ HK5.out x).2) ?_); rintro e w6 ⟨rfl, hk6⟩; have HK6 : Hid (Ok w0 w6) := HK5.out.step hk6; have d02 := HSS.out w6 HK6.out; rw [← HAV.out]; clear hk6)
      | fail)
     go_wp2_with fail
     go_roundw
     case rel => exact ⟨k + 1, by rw [HXK.out]; congr 1; omega, HB4.out, HK6.out⟩
     case measure => simp only [intOf]; clear hxw hxw2; omega
    ·have h2d : decide (x < 400) = false := decide_eq_false h2
     clear hx
     go_wp2_with (first
      | (go_at_call 14; refine (HW.out _ (HK0.out.step HJ.out)).mono ?_; rintro e w7 ⟨rfl, hk7⟩; have HK7 : Hid (Ok w0 w7) := HJ.out.step hk7; clear hk7)
      | fail)
     go_ret
     exact ⟨rfl, HK0.out.step HK7.out⟩
   ·have h1d : decide (x ≤ (ns.length : Int)) = false := decide_eq_false h1
    clear hx
    go_wp2_with (first
     | (go_at_call 14; refine (HW.out _ (HK0.out.step HJ.out)).mono ?_; rintro e w7 ⟨rfl, hk7⟩; have HK7 : Hid (Ok w0 w7) := HJ.out.step hk7; clear hk7)
     | fail)
    go_ret
    exact ⟨rfl, HK0.out.step HK7.out⟩
 | true =>
  refine (lower_good _ _ _ _ _ _ ns l w0 (HR.out.below HK0.out) (HS.out.below HK0.out) (HQ.out.below HK0.out) hgd).mono ?_
  rintro e w1 ⟨u, ev, rfl, hu, hev, hk1⟩
  have HK1 : Hid (Ok w0 w1) := hk1
  obtain ⟨m, hm⟩ : ∃ x, x = lsOf (readD ns rd0).2.2 := ⟨_, rfl⟩
  have HSL : Hid (sameLs m l = true) := by unfold Hid; rw [hm]; exact good_same hgd
  rw [← hm] at hu
  have HV1 : Hid (PrIs w1 0 u ns m) := fun k hk => own_base (hu k hk) (Nat.zero_le _)
  obtain ⟨N, hN⟩ : ∃ x, x = ptF ns ns.length := ⟨_, rfl⟩
  obtain ⟨L, hL⟩ : ∃ x, x = (elF ns).length := ⟨_, rfl⟩
  have HNL : Hid (N = ptF ns ns.length ∧ L = (elF ns).length ∧ L ≤ 1000000) := ⟨hN, hL, by have h1 := elF_len (tree_of (read_shape (good_read hgd))); have h2 := ptF_le ns ns.length; have h3 := (readD_len ns (good_read hgd)).2; omega⟩
  have HEV1 : Hid (w1.ownsRow 0 53 6 ev (elF ns).length (edL (elF ns))) := own_base hev (Nat.zero_le _)
  obtain ⟨eo, ec, rfl⟩ := own_form hev
  obtain ⟨a0, q0, e0⟩ := own_form (HV1.out 0 (by decide))
  obtain ⟨a1, q1, e1⟩ := own_form (HV1.out 1 (by decide))
  obtain ⟨a2, q2, e2⟩ := own_form (HV1.out 2 (by decide))
  obtain ⟨a3, q3, e3⟩ := own_form (HV1.out 3 (by decide))
  obtain ⟨a4, q4, e4⟩ := own_form (HV1.out 4 (by decide))
  obtain ⟨a5, q5, e5⟩ := own_form (HV1.out 5 (by decide))
  rw [e0, e1, e2, e3, e4, e5]
  obtain ⟨m0, hm0⟩ : ∃ x, x = nOf ns.length m 0 := ⟨_, rfl⟩
  obtain ⟨m1, hm1⟩ : ∃ x, x = nOf ns.length m 1 := ⟨_, rfl⟩
  obtain ⟨m2, hm2⟩ : ∃ x, x = nOf ns.length m 2 := ⟨_, rfl⟩
  obtain ⟨m3, hm3⟩ : ∃ x, x = nOf ns.length m 3 := ⟨_, rfl⟩
  obtain ⟨m4, hm4⟩ : ∃ x, x = nOf ns.length m 4 := ⟨_, rfl⟩
  obtain ⟨m5, hm5⟩ : ∃ x, x = nOf ns.length m 5 := ⟨_, rfl⟩
  rw [← hm0] at e0
  rw [← hm1] at e1
  rw [← hm2] at e2
  rw [← hm3] at e3
  rw [← hm4] at e4
  rw [← hm5] at e5
  rw [← hm0, ← hm1, ← hm2, ← hm3, ← hm4, ← hm5]
  have HVE : Hid (u 0 = .slice a0 m0 q0 ∧ u 1 = .slice a1 m1 q1 ∧ u 2 = .slice a2 m2 q2 ∧ u 3 = .slice a3 m3 q3 ∧ u 4 = .slice a4 m4 q4 ∧ u 5 = .slice a5 m5 q5) := ⟨e0, e1, e2, e3, e4, e5⟩
  rw [← hN, ← hL]
  clear hk1 hu hev e0 e1 e2 e3 e4 e5 hm0 hm1 hm2 hm3 hm4 hm5 hN hL hm
  obtain ⟨⟨z1, c0, c1, c2, c3, c4, c5⟩, ⟨Z1, C0, C1, C2, C3, C4, C5⟩⟩ := HX0.out w1 HK1.out
  go_wp2_with fail
  obtain ⟨gg, hgg⟩ : ∃ x, x = w1.heap.size := ⟨_, rfl⟩
  obtain ⟨w1a, hwa⟩ : ∃ x, x = w1.alloc (Obj.cells #[Value.slice a0 m0 q0, Value.slice a1 m1 q1, Value.slice a2 m2 q2, Value.slice a3 m3 q3, Value.slice a4 m4 q4, Value.slice a5 m5 q5, Value.int .i64 ((N : Int) + 1), Value.int .i64 (N : Nat), Value.slice eo L ec] 42) := ⟨_, rfl⟩
  rw [← hgg, ← hwa]
  have hka : Ok w1 w1a := by rw [hwa]; exact (Ok.refl _).alloc _
  have HG1 : Hid (w1a.heap[gg]? = some (.cells #[Value.slice a0 m0 q0, Value.slice a1 m1 q1, Value.slice a2 m2 q2, Value.slice a3 m3 q3, Value.slice a4 m4 q4, Value.slice a5 m5 q5, Value.int .i64 ((N : Int) + 1), Value.int .i64 (N : Nat), Value.slice eo L ec] 42 (0, 0))) := by unfold Hid; rw [hwa, hgg]; exact heap_new0 _ _
  have HKa : Hid (Ok w0 w1a) := HK1.out.step hka
  have HKb : Hid (Ok w1 w1a) := hka
  clear hgg hwa hka z1 c0 c1 c2 c3 c4 c5 Z1 C0 C1 C2 C3 C4 C5
  refine (rlower_good _ _ _ _ _ _ ns l w1a (HP.out.below (HK0.out.step HKa.out)) hgd).mono ?_
  rintro e w2 ⟨fv, rfl, hfv, hk2⟩
  have HK2 : Hid (Ok w0 w2) := HKa.out.step hk2
  have HG2 : Hid _ := Ok.row' hk2 HG1.out
  have HKc : Hid (Ok w1 w2) := HKb.out.step hk2
  have HFV : Hid (w2.ownsRow 0 53 6 fv (elF ns).length (edL (elF ns))) := own_base hfv (Nat.zero_le _)
  obtain ⟨fo, fc, rfl⟩ := own_form hfv
  rw [← HNL.out.1, ← HNL.out.2.1]
  have HSM : Hid (∀ W, Ok w2 W → Calls Tryz.prog 12 #[.agg #[Value.slice a0 m0 q0, Value.slice a1 m1 q1, Value.slice a2 m2 q2, Value.slice a3 m3 q3, Value.slice a4 m4 q4, Value.slice a5 m5 q5, Value.int .i64 ((N : Int) + 1), Value.int .i64 (N : Nat), Value.slice eo L ec], .agg #[Value.slice X0 ns.length Y0, Value.slice X1 l.sc.length Y1, Value.slice X2 l.ar.length Y2, Value.slice X3 l.sy.length Y3, Value.slice X4 l.si.length Y4, Value.slice X5 l.so.length Y5, Value.int .i64 ((N : Int) + 1), Value.int .i64 (N : Nat), Value.slice fo L fc]] W fun e w' => e = .returned (.bool true) ∧ Ok W w') := fun W hW => by
   have h1 : PrIs W 0 u ns m := fun k hk => own_ok (HV1.out k hk) (HKc.out.step hW)
   have h2 := h1.prog HOK.out
   obtain ⟨e0, e1, e2, e3, e4, e5⟩ := HVE.out
   rw [e0, e1, e2, e3, e4, e5] at h2
   have h3 := own_SL8 (own_ok HEV1.out (HKc.out.step hW))
   have h4 := own_SL8 (own_ok HFV.out hW)
   have h5 := HNL.out.2.2
   rw [HNL.out.2.1] at h5 ⊢
   exact same_ok _ _ _ _ _ _ _ _ _ _ _ _ _ _ _ _ ns m l (elF ns) W h2 (HP.out.below (HK0.out.step (HK2.out.step hW))) HSL.out h3 h4 h5
  clear hk2 hfv hgd
  have r0 : w2.cell? ⟨gg, 0, none⟩ = some (.slice a0 m0 q0) := (cell_of_row _ _ 0 _ _ _ HG2.out).trans (by simp)
  have r1 : w2.cell? ⟨gg, 1, none⟩ = some (.slice a1 m1 q1) := (cell_of_row _ _ 1 _ _ _ HG2.out).trans (by simp)
  have r2 : w2.cell? ⟨gg, 2, none⟩ = some (.slice a2 m2 q2) := (cell_of_row _ _ 2 _ _ _ HG2.out).trans (by simp)
  have r3 : w2.cell? ⟨gg, 3, none⟩ = some (.slice a3 m3 q3) := (cell_of_row _ _ 3 _ _ _ HG2.out).trans (by simp)
  have r4 : w2.cell? ⟨gg, 4, none⟩ = some (.slice a4 m4 q4) := (cell_of_row _ _ 4 _ _ _ HG2.out).trans (by simp)
  have r5 : w2.cell? ⟨gg, 5, none⟩ = some (.slice a5 m5 q5) := (cell_of_row _ _ 5 _ _ _ HG2.out).trans (by simp)
  have r6 : w2.cell? ⟨gg, 6, none⟩ = some (.int .i64 ((N : Int) + 1)) := (cell_of_row _ _ 6 _ _ _ HG2.out).trans (by simp)
  have r7 : w2.cell? ⟨gg, 7, none⟩ = some (.int .i64 (N : Nat)) := (cell_of_row _ _ 7 _ _ _ HG2.out).trans (by simp)
  have r8 : w2.cell? ⟨gg, 8, none⟩ = some (.slice eo L ec) := (cell_of_row _ _ 8 _ _ _ HG2.out).trans (by simp)
  have lgg := lt_row HG2.out
  obtain ⟨⟨z1, c0, c1, c2, c3, c4, c5⟩, ⟨Z1, C0, C1, C2, C3, C4, C5⟩⟩ := HX0.out w2 HK2.out
  go_wp2_with (first
   | (go_at_call 12; refine (HSM.out _ ((Ok.refl _).alloc _)).mono ?_; rintro e w3 ⟨rfl, hk3⟩; have HK3 : Hid (Ok w0 w3) := (HK2.out.alloc _).step hk3; clear z1 c0 c1 c2 c3 c4 c5 Z1 C0 C1 C2 C3 C4 C5; obtain ⟨⟨z1, c0, c1, c2, c3, c4, c5⟩, ⟨Z1, C0, C1, C2, C3, C4, C5⟩⟩ := HX0.out w3 HK3.out; clear hk3 r0 r1 r2 r3 r4 r5 r6 r7 r8)
   | (go_at_call 14; refine (HW.out _ (HK0.out.step HK3.out)).mono ?_; rintro e w4 ⟨rfl, hk4⟩; have HK4 : Hid (Ok w0 w4) := HK3.out.step hk4; clear z1 c0 c1 c2 c3 c4 c5 Z1 C0 C1 C2 C3 C4 C5; obtain ⟨⟨z1, c0, c1, c2, c3, c4, c5⟩, ⟨Z1, C0, C1, C2, C3, C4, C5⟩⟩ := HX0.out w4 HK4.out; clear hk4)
   | fail)
  go_loopw [9] (fun t wr => ∃ k : Nat, t = .int .i64 ((k : Int) - 1) ∧ k ≤ 401 ∧ Hid (Ok w0 wr)) (fun t _ => (401 - (intOf t + 1)).toNat)
  case atStart => exact ⟨0, rfl, by omega, HK4.out⟩
  case round =>
   obtain ⟨k, rfl, hk1, HJ⟩ := hrel
   clear z1 c0 c1 c2 c3 c4 c5 Z1 C0 C1 C2 C3 C4 C5
   obtain ⟨x, hx⟩ : ∃ x : Int, x = (k : Int) - 1 := ⟨_, rfl⟩
   rw [← hx]
   have HXK : Hid (x = (k : Int) - 1) := hx
   obtain ⟨⟨z1, c0, c1, c2, c3, c4, c5⟩, ⟨Z1, C0, C1, C2, C3, C4, C5⟩⟩ := HX0.out wr HJ.out
   by_cases h1 : x ≤ (ns.length : Int)
   ·have h1d : decide (x ≤ (ns.length : Int)) = true := decide_eq_true h1
    by_cases h2 : x < 400
    ·have h2d : decide (x < 400) = true := decide_eq_true h2
     have HB4 : Hid (k + 1 ≤ 401) := by unfold Hid; omega
     have hxw : IntKind.i64.wrap (x + 1) = x + 1 := by rw [IntKind.wrap_i64]; omega
     have hxw2 : wrap64 (x + 1) = x + 1 := by unfold wrap64; omega
     have HSS : Hid (∀ X, Ok w0 X → X.cell? ⟨b0, 0, none⟩ = some (.slice x0 ns.length y0) ∧ X.cell? ⟨b0, 1, none⟩ = some (.slice x1 l.sc.length y1) ∧ X.cell? ⟨b0, 2, none⟩ = some (.slice x2 l.ar.length y2) ∧ X.cell? ⟨b0, 3, none⟩ = some (.slice x3 l.sy.length y3) ∧ X.cell? ⟨b0, 4, none⟩ = some (.slice x4 l.si.length y4) ∧ X.cell? ⟨b0, 5, none⟩ = some (.slice x5 l.so.length y5) ∧ X.cell? ⟨b1, 0, none⟩ = some (.slice X0 ns.length Y0) ∧ X.cell? ⟨b1, 1, none⟩ = some (.slice X1 l.sc.length Y1) ∧ X.cell? ⟨b1, 2, none⟩ = some (.slice X2 l.ar.length Y2) ∧ X.cell? ⟨b1, 3, none⟩ = some (.slice X3 l.sy.length Y3) ∧ X.cell? ⟨b1, 4, none⟩ = some (.slice X4 l.si.length Y4) ∧ X.cell? ⟨b1, 5, none⟩ = some (.slice X5 l.so.length Y5)) := fun X hX => by obtain ⟨⟨z1, c0, c1, c2, c3, c4, c5⟩, ⟨Z1, C0, C1, C2, C3, C4, C5⟩⟩ := HX0.out X hX; exact ⟨c0, c1, c2, c3, c4, c5, C0, C1, C2, C3, C4, C5⟩
     have K0 := HSS.out wr.drew (HJ.out.step (Below.drew (Ok.refl _)))
     obtain ⟨av, hav⟩ : ∃ y, y = cAt ns l x := ⟨_, rfl⟩
     have HAV : Hid (av = cAt ns l x) := hav
     have avv : (av == av) = true := by simp
     have avn : (av != av) = false := by simp
     clear hav hx hk1
     go_wp2_with fail
     go_region_held3 (fun w' => w'.cell? ⟨b0, 0, none⟩ = some (.slice x0 ns.length y0) ∧ w'.cell? ⟨b0, 1, none⟩ = some (.slice x1 l.sc.length y1) ∧ w'.cell? ⟨b0, 2, none⟩ = some (.slice x2 l.ar.length y2) ∧ w'.cell? ⟨b0, 3, none⟩ = some (.slice x3 l.sy.length y3) ∧ w'.cell? ⟨b0, 4, none⟩ = some (.slice x4 l.si.length y4) ∧ w'.cell? ⟨b0, 5, none⟩ = some (.slice x5 l.so.length y5) ∧ w'.cell? ⟨b1, 0, none⟩ = some (.slice X0 ns.length Y0) ∧ w'.cell? ⟨b1, 1, none⟩ = some (.slice X1 l.sc.length Y1) ∧ w'.cell? ⟨b1, 2, none⟩ = some (.slice X2 l.ar.length Y2) ∧ w'.cell? ⟨b1, 3, none⟩ = some (.slice X3 l.sy.length Y3) ∧ w'.cell? ⟨b1, 4, none⟩ = some (.slice X4 l.si.length Y4) ∧ w'.cell? ⟨b1, 5, none⟩ = some (.slice X5 l.so.length Y5))
      (first | (with_reducible exact d02) | (with_reducible exact d01) | (with_reducible exact K0) | go_keep)
      (first
      | (go_at_call 16; refine (Calls.mono ((HAT.out _ (HJ.out.step (Below.drew (Ok.refl _))) x).1) ?_); rintro e w5 ⟨rfl, hk5⟩; have HK5 : Hid (Ok w0 w5) := Ok.step (HJ.out.step (Below.drew (Ok.refl _))) hk5; have d01 := HSS.out w5 HK5.out; rw [← HAV.out]; clear hk5)
      | (go_at_call 17; refine (Calls.mono ((HAT.out _ HK5.out x).2) ?_); rintro e w6 ⟨rfl, hk6⟩; have HK6 : Hid (Ok w0 w6) := HK5.out.step hk6; have d02 := HSS.out w6 HK6.out; rw [← HAV.out]; clear hk6)
      | fail)
     go_wp2_with fail
     go_roundw
     case rel => exact ⟨k + 1, by rw [HXK.out]; congr 1; omega, HB4.out, HK6.out⟩
     case measure => simp only [intOf]; clear hxw hxw2; omega
    ·have h2d : decide (x < 400) = false := decide_eq_false h2
     clear hx
     go_wp2_with (first
      | (go_at_call 14; refine (HW.out _ (HK0.out.step HJ.out)).mono ?_; rintro e w7 ⟨rfl, hk7⟩; have HK7 : Hid (Ok w0 w7) := HJ.out.step hk7; clear hk7)
      | fail)
     go_ret
     exact ⟨rfl, HK0.out.step HK7.out⟩
   ·have h1d : decide (x ≤ (ns.length : Int)) = false := decide_eq_false h1
    clear hx
    go_wp2_with (first
     | (go_at_call 14; refine (HW.out _ (HK0.out.step HJ.out)).mono ?_; rintro e w7 ⟨rfl, hk7⟩; have HK7 : Hid (Ok w0 w7) := HJ.out.step hk7; clear hk7)
     | fail)
    go_ret
    exact ⟨rfl, HK0.out.step HK7.out⟩
end Go.Proofs.YtklkpaekdpaloaaGreatDoor
