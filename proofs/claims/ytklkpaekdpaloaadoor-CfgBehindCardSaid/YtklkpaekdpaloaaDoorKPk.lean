import Derived.Test.YtklkpaekdpaloaaDoorKPk0
set_option linter.unusedVariables false
set_option linter.unusedSimpArgs false
set_option linter.unnecessarySimpa false
namespace Go.Proofs.YtklkpaekdpaloaaDoor
open Go.RowKit
set_option maxRecDepth 100000 in
set_option maxHeartbeats 4000000 in
theorem owned_any (v0 v1 v2 v3 v4 v5 : Value) (ns : List Nd) (l : Ls) (w : World) (h : PL6 w v0 v1 v2 v3 v4 v5 ns l) (hb : Bd6 ns l) :
  Calls Tryd.prog 18 #[.agg #[v0, v1, v2, v3, v4, v5]] w fun e w' => ∃ u : Nat → Value, e = .returned (.agg #[u 0, u 1, u 2, u 3, u 4, u 5]) ∧ PrIs w' w.heap.size u ns l ∧ Ok w w' := by
 have HB : Hid (Bd6 ns l) := hb
 have HP : Hid (PL6 w v0 v1 v2 v3 v4 v5 ns l) := h
 clear h hb
 obtain ⟨w0, hw0⟩ : ∃ w0, w0 = (w.alloc (Obj.cells #[v0, v1, v2, v3, v4, v5] 28)).alloc (Obj.cells #[.slice none 0 0, .slice none 0 0, .slice none 0 0, .slice none 0 0, .slice none 0 0, .slice none 0 0] 28) := ⟨_, rfl⟩
 have HW0 : Hid (Ok w w0) := by unfold Hid; rw [hw0]; exact ((Ok.refl w).alloc _).alloc _
 have HA0 : Hid (PC w0 w.heap.size v0 v1 v2 v3 v4 v5) := by unfold Hid; rw [hw0]; exact (PC.new w v0 v1 v2 v3 v4 v5).below ((Below.refl _ _).alloc (Nat.le_refl _) _)
 have HX0 : Hid (Six w0 (w.heap.size + 1) (.slice none 0 0) (.slice none 0 0) (.slice none 0 0) (.slice none 0 0) (.slice none 0 0) (.slice none 0 0)) := by
  have := Six.new (w.alloc (Obj.cells #[v0, v1, v2, v3, v4, v5] 28)) (.slice none 0 0) (.slice none 0 0) (.slice none 0 0) (.slice none 0 0) (.slice none 0 0) (.slice none 0 0)
  rw [show (w.alloc (Obj.cells #[v0, v1, v2, v3, v4, v5] 28)).heap.size = w.heap.size + 1 from by simp] at this
  unfold Hid; rw [hw0]; exact this
 go_enter Tryd.func18, Tryd.ntmps18
 go_wp2_with fail
 rw [← hw0]
 clear hw0
 have HO0 : Hid (Ok w w0) := HW0.out
 have HW2 : Hid (w.heap.size + 2 ≤ w0.heap.size) := HX0.out.lt
 have HQ0 : Hid (Ok w0 w0) := Ok.refl w0
 obtain ⟨cl, c0, c1, c2, c3, c4, c5⟩ := HA0.out
 go_region_held3 (fun w' => w'.cell? ⟨w.heap.size, 0, none⟩ = some v0 ∧ w'.cell? ⟨w.heap.size, 1, none⟩ = some v1 ∧ w'.cell? ⟨w.heap.size, 2, none⟩ = some v2 ∧ w'.cell? ⟨w.heap.size, 3, none⟩ = some v3 ∧ w'.cell? ⟨w.heap.size, 4, none⟩ = some v4 ∧ w'.cell? ⟨w.heap.size, 5, none⟩ = some v5)
  (first | (with_reducible exact ⟨d0, d1, d2, d3, d4, d5⟩) | (with_reducible exact ⟨c0, c1, c2, c3, c4, c5⟩) | go_keep)
  (first
  | (go_at_call 37; refine (Calls.mono (freshN_any _ _ _ _ (HP.out.nd.below (by repeat (first | exact HO0.out | refine Ok.alloc ?_ _ | refine Below.drew ?_))) (by have := HB.out.nd; omega)) ?_); rintro e x0 ⟨u0, rfl, hu, hk⟩; have HO1 : Hid (Ok w x0) := Ok.step (by repeat (first | exact HO0.out | refine Ok.alloc ?_ _ | refine Below.drew ?_)) hk; have HU0 : Hid (x0.ownsRow w.heap.size 58 6 u0 ns.length (ndL ns)) := own_base hu (Ok.le (by repeat (first | exact HO0.out | refine Ok.alloc ?_ _ | refine Below.drew ?_))); have HPC : Hid (PC x0 w.heap.size v0 v1 v2 v3 v4 v5) := HA0.out.below (Ok.step (w0 := w0) (by repeat (first | exact HQ0.out | refine Ok.alloc ?_ _ | refine Below.drew ?_)) hk); have HQ1 : Hid (Ok w0 x0) := Ok.step (by repeat (first | exact HQ0.out | refine Ok.alloc ?_ _ | refine Below.drew ?_)) hk; obtain ⟨ao0, cp0, rfl⟩ := own_form hu; obtain ⟨dl, d0, d1, d2, d3, d4, d5⟩ := HPC.out; have HN0 : Hid (Ok w0 x0) := Ok.step (by repeat (first | exact Ok.refl _ | refine Ok.alloc ?_ _ | refine Below.drew ?_)) hk; have KR0 : Hid _ := (fun (g : Nat) (o : Obj) (h : _ = some o) => Ok.row' (g := g) hk h); clear hu hk HPC)
  | (go_at_call 38; refine (Calls.mono (freshS_any _ _ _ _ (HP.out.sc.below (by repeat (first | exact HO1.out | refine Ok.alloc ?_ _ | refine Below.drew ?_))) (by have := HB.out.sc; omega)) ?_); rintro e x1 ⟨u1, rfl, hu, hk⟩; have HO2 : Hid (Ok w x1) := Ok.step (by repeat (first | exact HO1.out | refine Ok.alloc ?_ _ | refine Below.drew ?_)) hk; have HU1 : Hid (x1.ownsRow w.heap.size 9 1 u1 l.sc.length (l.sc.map fun s => .string s)) := own_base hu (Ok.le (by repeat (first | exact HO1.out | refine Ok.alloc ?_ _ | refine Below.drew ?_))); have HPC : Hid (PC x1 w.heap.size v0 v1 v2 v3 v4 v5) := HA0.out.below (Ok.step (w0 := w0) (by repeat (first | exact HQ1.out | refine Ok.alloc ?_ _ | refine Below.drew ?_)) hk); have HQ2 : Hid (Ok w0 x1) := Ok.step (by repeat (first | exact HQ1.out | refine Ok.alloc ?_ _ | refine Below.drew ?_)) hk; obtain ⟨ao1, cp1, rfl⟩ := own_form hu; obtain ⟨dl, d0, d1, d2, d3, d4, d5⟩ := HPC.out; have HN1 : Hid (Ok x0 x1) := Ok.step (by repeat (first | exact Ok.refl _ | refine Ok.alloc ?_ _ | refine Below.drew ?_)) hk; have KR1 : Hid _ := (fun (g : Nat) (o : Obj) (h : _ = some o) => Ok.row' (g := g) hk h); clear hu hk HPC)
  | (go_at_call 39; refine (Calls.mono (freshA_any _ _ _ _ (HP.out.ar.below (by repeat (first | exact HO2.out | refine Ok.alloc ?_ _ | refine Below.drew ?_))) (by have := HB.out.ar; omega)) ?_); rintro e x2 ⟨u2, rfl, hu, hk⟩; have HO3 : Hid (Ok w x2) := Ok.step (by repeat (first | exact HO2.out | refine Ok.alloc ?_ _ | refine Below.drew ?_)) hk; have HU2 : Hid (x2.ownsRow w.heap.size 64 2 u2 l.ar.length (l.ar.flatMap fun a => [.string a.1, .int .i64 a.2])) := own_base hu (Ok.le (by repeat (first | exact HO2.out | refine Ok.alloc ?_ _ | refine Below.drew ?_))); have HPC : Hid (PC x2 w.heap.size v0 v1 v2 v3 v4 v5) := HA0.out.below (Ok.step (w0 := w0) (by repeat (first | exact HQ2.out | refine Ok.alloc ?_ _ | refine Below.drew ?_)) hk); have HQ3 : Hid (Ok w0 x2) := Ok.step (by repeat (first | exact HQ2.out | refine Ok.alloc ?_ _ | refine Below.drew ?_)) hk; obtain ⟨ao2, cp2, rfl⟩ := own_form hu; obtain ⟨dl, d0, d1, d2, d3, d4, d5⟩ := HPC.out; have HN2 : Hid (Ok x1 x2) := Ok.step (by repeat (first | exact Ok.refl _ | refine Ok.alloc ?_ _ | refine Below.drew ?_)) hk; have KR2 : Hid _ := (fun (g : Nat) (o : Obj) (h : _ = some o) => Ok.row' (g := g) hk h); clear hu hk HPC)
  | (go_at_call_of 40 (v3); refine (Calls.mono (freshI_any _ _ _ _ (HP.out.sy.below (by repeat (first | exact HO3.out | refine Ok.alloc ?_ _ | refine Below.drew ?_))) (by have := HB.out.sy; omega)) ?_); rintro e x3 ⟨u3, rfl, hu, hk⟩; have HO4 : Hid (Ok w x3) := Ok.step (by repeat (first | exact HO3.out | refine Ok.alloc ?_ _ | refine Below.drew ?_)) hk; have HU3 : Hid (x3.ownsRow w.heap.size 3 1 u3 l.sy.length (l.sy.map fun s => .int .i64 s)) := own_base hu (Ok.le (by repeat (first | exact HO3.out | refine Ok.alloc ?_ _ | refine Below.drew ?_))); have HPC : Hid (PC x3 w.heap.size v0 v1 v2 v3 v4 v5) := HA0.out.below (Ok.step (w0 := w0) (by repeat (first | exact HQ3.out | refine Ok.alloc ?_ _ | refine Below.drew ?_)) hk); have HQ4 : Hid (Ok w0 x3) := Ok.step (by repeat (first | exact HQ3.out | refine Ok.alloc ?_ _ | refine Below.drew ?_)) hk; obtain ⟨ao3, cp3, rfl⟩ := own_form hu; obtain ⟨dl, d0, d1, d2, d3, d4, d5⟩ := HPC.out; have HN3 : Hid (Ok x2 x3) := Ok.step (by repeat (first | exact Ok.refl _ | refine Ok.alloc ?_ _ | refine Below.drew ?_)) hk; have KR3 : Hid _ := (fun (g : Nat) (o : Obj) (h : _ = some o) => Ok.row' (g := g) hk h); clear hu hk HPC)
  | (go_at_call_of 40 (v4); refine (Calls.mono (freshI_any _ _ _ _ (HP.out.si.below (by repeat (first | exact HO4.out | refine Ok.alloc ?_ _ | refine Below.drew ?_))) (by have := HB.out.si; omega)) ?_); rintro e x4 ⟨u4, rfl, hu, hk⟩; have HO5 : Hid (Ok w x4) := Ok.step (by repeat (first | exact HO4.out | refine Ok.alloc ?_ _ | refine Below.drew ?_)) hk; have HU4 : Hid (x4.ownsRow w.heap.size 3 1 u4 l.si.length (l.si.map fun s => .int .i64 s)) := own_base hu (Ok.le (by repeat (first | exact HO4.out | refine Ok.alloc ?_ _ | refine Below.drew ?_))); have HPC : Hid (PC x4 w.heap.size v0 v1 v2 v3 v4 v5) := HA0.out.below (Ok.step (w0 := w0) (by repeat (first | exact HQ4.out | refine Ok.alloc ?_ _ | refine Below.drew ?_)) hk); have HQ5 : Hid (Ok w0 x4) := Ok.step (by repeat (first | exact HQ4.out | refine Ok.alloc ?_ _ | refine Below.drew ?_)) hk; obtain ⟨ao4, cp4, rfl⟩ := own_form hu; obtain ⟨dl, d0, d1, d2, d3, d4, d5⟩ := HPC.out; have HN4 : Hid (Ok x3 x4) := Ok.step (by repeat (first | exact Ok.refl _ | refine Ok.alloc ?_ _ | refine Below.drew ?_)) hk; have KR4 : Hid _ := (fun (g : Nat) (o : Obj) (h : _ = some o) => Ok.row' (g := g) hk h); clear hu hk HPC)
  | (go_at_call_of 40 (v5); refine (Calls.mono (freshI_any _ _ _ _ (HP.out.so.below (by repeat (first | exact HO5.out | refine Ok.alloc ?_ _ | refine Below.drew ?_))) (by have := HB.out.so; omega)) ?_); rintro e x5 ⟨u5, rfl, hu, hk⟩; have HO6 : Hid (Ok w x5) := Ok.step (by repeat (first | exact HO5.out | refine Ok.alloc ?_ _ | refine Below.drew ?_)) hk; have HU5 : Hid (x5.ownsRow w.heap.size 3 1 u5 l.so.length (l.so.map fun s => .int .i64 s)) := own_base hu (Ok.le (by repeat (first | exact HO5.out | refine Ok.alloc ?_ _ | refine Below.drew ?_))); have HPC : Hid (PC x5 w.heap.size v0 v1 v2 v3 v4 v5) := HA0.out.below (Ok.step (w0 := w0) (by repeat (first | exact HQ5.out | refine Ok.alloc ?_ _ | refine Below.drew ?_)) hk); have HQ6 : Hid (Ok w0 x5) := Ok.step (by repeat (first | exact HQ5.out | refine Ok.alloc ?_ _ | refine Below.drew ?_)) hk; obtain ⟨ao5, cp5, rfl⟩ := own_form hu; obtain ⟨dl, d0, d1, d2, d3, d4, d5⟩ := HPC.out; have HN5 : Hid (Ok x4 x5) := Ok.step (by repeat (first | exact Ok.refl _ | refine Ok.alloc ?_ _ | refine Below.drew ?_)) hk; have KR5 : Hid _ := (fun (g : Nat) (o : Obj) (h : _ = some o) => Ok.row' (g := g) hk h); (first | (have HSX : Hid (Six x5 w0.heap.size (.slice none 0 0) (.slice none 0 0) (.slice none 0 0) (.slice none 0 0) (.slice none 0 0) (.slice none 0 0)) := ⟨(KR5.out _ _ (KR4.out _ _ (KR3.out _ _ (KR2.out _ _ (KR1.out _ _ (KR0.out _ _ (by with_reducible exact heap_new _ _)))))))⟩; have hne1 : ¬ w.heap.size = w0.heap.size := (by have h1 := HA0.out.lt; have h2 := HQ0.out.le; omega); have hne2 : ¬ w0.heap.size = w.heap.size := (by have h1 := HA0.out.lt; have h2 := HQ0.out.le; omega); have wf := HSX.out.warm; obtain ⟨sl, g0, g1, g2, g3, g4, g5⟩ := HSX.out.pc) | (have HSX : Hid (Six x5 x0.heap.size (.slice none 0 0) (.slice none 0 0) (.slice none 0 0) (.slice none 0 0) (.slice none 0 0) (.slice none 0 0)) := ⟨(KR5.out _ _ (KR4.out _ _ (KR3.out _ _ (KR2.out _ _ (KR1.out _ _ (by with_reducible exact heap_new0 _ _))))))⟩; have hne1 : ¬ w.heap.size = x0.heap.size := (by have h1 := HA0.out.lt; have h2 := HQ1.out.le; omega); have hne2 : ¬ x0.heap.size = w.heap.size := (by have h1 := HA0.out.lt; have h2 := HQ1.out.le; omega); have wf := HSX.out.warm; obtain ⟨sl, g0, g1, g2, g3, g4, g5⟩ := HSX.out.pc) | (have HSX : Hid (Six x5 x1.heap.size (.slice none 0 0) (.slice none 0 0) (.slice none 0 0) (.slice none 0 0) (.slice none 0 0) (.slice none 0 0)) := ⟨(KR5.out _ _ (KR4.out _ _ (KR3.out _ _ (KR2.out _ _ (by with_reducible exact heap_new0 _ _)))))⟩; have hne1 : ¬ w.heap.size = x1.heap.size := (by have h1 := HA0.out.lt; have h2 := HQ2.out.le; omega); have hne2 : ¬ x1.heap.size = w.heap.size := (by have h1 := HA0.out.lt; have h2 := HQ2.out.le; omega); have wf := HSX.out.warm; obtain ⟨sl, g0, g1, g2, g3, g4, g5⟩ := HSX.out.pc) | (have HSX : Hid (Six x5 x2.heap.size (.slice none 0 0) (.slice none 0 0) (.slice none 0 0) (.slice none 0 0) (.slice none 0 0) (.slice none 0 0)) := ⟨(KR5.out _ _ (KR4.out _ _ (KR3.out _ _ (by with_reducible exact heap_new0 _ _))))⟩; have hne1 : ¬ w.heap.size = x2.heap.size := (by have h1 := HA0.out.lt; have h2 := HQ3.out.le; omega); have hne2 : ¬ x2.heap.size = w.heap.size := (by have h1 := HA0.out.lt; have h2 := HQ3.out.le; omega); have wf := HSX.out.warm; obtain ⟨sl, g0, g1, g2, g3, g4, g5⟩ := HSX.out.pc) | (have HSX : Hid (Six x5 x3.heap.size (.slice none 0 0) (.slice none 0 0) (.slice none 0 0) (.slice none 0 0) (.slice none 0 0) (.slice none 0 0)) := ⟨(KR5.out _ _ (KR4.out _ _ (by with_reducible exact heap_new0 _ _)))⟩; have hne1 : ¬ w.heap.size = x3.heap.size := (by have h1 := HA0.out.lt; have h2 := HQ4.out.le; omega); have hne2 : ¬ x3.heap.size = w.heap.size := (by have h1 := HA0.out.lt; have h2 := HQ4.out.le; omega); have wf := HSX.out.warm; obtain ⟨sl, g0, g1, g2, g3, g4, g5⟩ := HSX.out.pc) | (have HSX : Hid (Six x5 x4.heap.size (.slice none 0 0) (.slice none 0 0) (.slice none 0 0) (.slice none 0 0) (.slice none 0 0) (.slice none 0 0)) := ⟨(KR5.out _ _ (by with_reducible exact heap_new0 _ _))⟩; have hne1 : ¬ w.heap.size = x4.heap.size := (by have h1 := HA0.out.lt; have h2 := HQ5.out.le; omega); have hne2 : ¬ x4.heap.size = w.heap.size := (by have h1 := HA0.out.lt; have h2 := HQ5.out.le; omega); have wf := HSX.out.warm; obtain ⟨sl, g0, g1, g2, g3, g4, g5⟩ := HSX.out.pc) | skip); clear hu hk HPC)
  | fail)
 all_goals have HRS : Hid (Six x5 (w.heap.size + 1) (.slice none 0 0) (.slice none 0 0) (.slice none 0 0) (.slice none 0 0) (.slice none 0 0) (.slice none 0 0)) := HX0.out.below HQ6.out
 all_goals (first
  | (obtain ⟨Y, hY⟩ : ∃ Y, Y = ((((((x5.setCell ⟨w0.heap.size, 0, none⟩ (.slice ao0 ns.length cp0)).setCell ⟨w0.heap.size, 1, none⟩ (.slice ao1 l.sc.length cp1)).setCell ⟨w0.heap.size, 2, none⟩ (.slice ao2 l.ar.length cp2)).setCell ⟨w0.heap.size, 3, none⟩ (.slice ao3 l.sy.length cp3)).setCell ⟨w0.heap.size, 4, none⟩ (.slice ao4 l.si.length cp4)).setCell ⟨w0.heap.size, 5, none⟩ (.slice ao5 l.so.length cp5)) := ⟨_, rfl⟩; rw [← hY]; have HY : Hid (OwF w Y w0.heap.size (.slice ao0 ns.length cp0) (.slice ao1 l.sc.length cp1) (.slice ao2 l.ar.length cp2) (.slice ao3 l.sy.length cp3) (.slice ao4 l.si.length cp4) (.slice ao5 l.so.length cp5) ns l) := (by unfold Hid; rw [hY]; exact ⟨⟨six_set HSX.out.heap _ _ _ _ _ _⟩, six_six6 HRS.out (by have h1 := HW2.out; have h2 := HQ0.out.le; omega) _ _ _ _ _ _, (by have h1 := HW2.out; have h2 := HQ0.out.le; omega), (by have h1 := HW2.out; have h2 := HQ0.out.le; omega), six_below HO6.out (by have h1 := HW2.out; have h2 := HQ0.out.le; omega) _ _ _ _ _ _, PrIs.of6 (own_six6 (own_ok (own_ok (own_ok (own_ok (own_ok HU0.out HN1.out) HN2.out) HN3.out) HN4.out) HN5.out) (by decide) HSX.out _ _ _ _ _ _) (own_six6 (own_ok (own_ok (own_ok (own_ok HU1.out HN2.out) HN3.out) HN4.out) HN5.out) (by decide) HSX.out _ _ _ _ _ _) (own_six6 (own_ok (own_ok (own_ok HU2.out HN3.out) HN4.out) HN5.out) (by decide) HSX.out _ _ _ _ _ _) (own_six6 (own_ok (own_ok HU3.out HN4.out) HN5.out) (by decide) HSX.out _ _ _ _ _ _) (own_six6 (own_ok HU4.out HN5.out) (by decide) HSX.out _ _ _ _ _ _) (own_six6 HU5.out (by decide) HSX.out _ _ _ _ _ _)⟩); obtain ⟨gq, hgq⟩ : ∃ g, g = w0.heap.size := ⟨_, rfl⟩; rw [← hgq] at HY ⊢)
  | (obtain ⟨Y, hY⟩ : ∃ Y, Y = ((((((x5.setCell ⟨x0.heap.size, 0, none⟩ (.slice ao0 ns.length cp0)).setCell ⟨x0.heap.size, 1, none⟩ (.slice ao1 l.sc.length cp1)).setCell ⟨x0.heap.size, 2, none⟩ (.slice ao2 l.ar.length cp2)).setCell ⟨x0.heap.size, 3, none⟩ (.slice ao3 l.sy.length cp3)).setCell ⟨x0.heap.size, 4, none⟩ (.slice ao4 l.si.length cp4)).setCell ⟨x0.heap.size, 5, none⟩ (.slice ao5 l.so.length cp5)) := ⟨_, rfl⟩; rw [← hY]; have HY : Hid (OwF w Y x0.heap.size (.slice ao0 ns.length cp0) (.slice ao1 l.sc.length cp1) (.slice ao2 l.ar.length cp2) (.slice ao3 l.sy.length cp3) (.slice ao4 l.si.length cp4) (.slice ao5 l.so.length cp5) ns l) := (by unfold Hid; rw [hY]; exact ⟨⟨six_set HSX.out.heap _ _ _ _ _ _⟩, six_six6 HRS.out (by have h1 := HW2.out; have h2 := HQ1.out.le; omega) _ _ _ _ _ _, (by have h1 := HW2.out; have h2 := HQ1.out.le; omega), (by have h1 := HW2.out; have h2 := HQ1.out.le; omega), six_below HO6.out (by have h1 := HW2.out; have h2 := HQ1.out.le; omega) _ _ _ _ _ _, PrIs.of6 (own_six6 (own_ok (own_ok (own_ok (own_ok (own_ok HU0.out HN1.out) HN2.out) HN3.out) HN4.out) HN5.out) (by decide) HSX.out _ _ _ _ _ _) (own_six6 (own_ok (own_ok (own_ok (own_ok HU1.out HN2.out) HN3.out) HN4.out) HN5.out) (by decide) HSX.out _ _ _ _ _ _) (own_six6 (own_ok (own_ok (own_ok HU2.out HN3.out) HN4.out) HN5.out) (by decide) HSX.out _ _ _ _ _ _) (own_six6 (own_ok (own_ok HU3.out HN4.out) HN5.out) (by decide) HSX.out _ _ _ _ _ _) (own_six6 (own_ok HU4.out HN5.out) (by decide) HSX.out _ _ _ _ _ _) (own_six6 HU5.out (by decide) HSX.out _ _ _ _ _ _)⟩); obtain ⟨gq, hgq⟩ : ∃ g, g = x0.heap.size := ⟨_, rfl⟩; rw [← hgq] at HY ⊢)
  | (obtain ⟨Y, hY⟩ : ∃ Y, Y = ((((((x5.setCell ⟨x1.heap.size, 0, none⟩ (.slice ao0 ns.length cp0)).setCell ⟨x1.heap.size, 1, none⟩ (.slice ao1 l.sc.length cp1)).setCell ⟨x1.heap.size, 2, none⟩ (.slice ao2 l.ar.length cp2)).setCell ⟨x1.heap.size, 3, none⟩ (.slice ao3 l.sy.length cp3)).setCell ⟨x1.heap.size, 4, none⟩ (.slice ao4 l.si.length cp4)).setCell ⟨x1.heap.size, 5, none⟩ (.slice ao5 l.so.length cp5)) := ⟨_, rfl⟩; rw [← hY]; have HY : Hid (OwF w Y x1.heap.size (.slice ao0 ns.length cp0) (.slice ao1 l.sc.length cp1) (.slice ao2 l.ar.length cp2) (.slice ao3 l.sy.length cp3) (.slice ao4 l.si.length cp4) (.slice ao5 l.so.length cp5) ns l) := (by unfold Hid; rw [hY]; exact ⟨⟨six_set HSX.out.heap _ _ _ _ _ _⟩, six_six6 HRS.out (by have h1 := HW2.out; have h2 := HQ2.out.le; omega) _ _ _ _ _ _, (by have h1 := HW2.out; have h2 := HQ2.out.le; omega), (by have h1 := HW2.out; have h2 := HQ2.out.le; omega), six_below HO6.out (by have h1 := HW2.out; have h2 := HQ2.out.le; omega) _ _ _ _ _ _, PrIs.of6 (own_six6 (own_ok (own_ok (own_ok (own_ok (own_ok HU0.out HN1.out) HN2.out) HN3.out) HN4.out) HN5.out) (by decide) HSX.out _ _ _ _ _ _) (own_six6 (own_ok (own_ok (own_ok (own_ok HU1.out HN2.out) HN3.out) HN4.out) HN5.out) (by decide) HSX.out _ _ _ _ _ _) (own_six6 (own_ok (own_ok (own_ok HU2.out HN3.out) HN4.out) HN5.out) (by decide) HSX.out _ _ _ _ _ _) (own_six6 (own_ok (own_ok HU3.out HN4.out) HN5.out) (by decide) HSX.out _ _ _ _ _ _) (own_six6 (own_ok HU4.out HN5.out) (by decide) HSX.out _ _ _ _ _ _) (own_six6 HU5.out (by decide) HSX.out _ _ _ _ _ _)⟩); obtain ⟨gq, hgq⟩ : ∃ g, g = x1.heap.size := ⟨_, rfl⟩; rw [← hgq] at HY ⊢)
  | (obtain ⟨Y, hY⟩ : ∃ Y, Y = ((((((x5.setCell ⟨x2.heap.size, 0, none⟩ (.slice ao0 ns.length cp0)).setCell ⟨x2.heap.size, 1, none⟩ (.slice ao1 l.sc.length cp1)).setCell ⟨x2.heap.size, 2, none⟩ (.slice ao2 l.ar.length cp2)).setCell ⟨x2.heap.size, 3, none⟩ (.slice ao3 l.sy.length cp3)).setCell ⟨x2.heap.size, 4, none⟩ (.slice ao4 l.si.length cp4)).setCell ⟨x2.heap.size, 5, none⟩ (.slice ao5 l.so.length cp5)) := ⟨_, rfl⟩; rw [← hY]; have HY : Hid (OwF w Y x2.heap.size (.slice ao0 ns.length cp0) (.slice ao1 l.sc.length cp1) (.slice ao2 l.ar.length cp2) (.slice ao3 l.sy.length cp3) (.slice ao4 l.si.length cp4) (.slice ao5 l.so.length cp5) ns l) := (by unfold Hid; rw [hY]; exact ⟨⟨six_set HSX.out.heap _ _ _ _ _ _⟩, six_six6 HRS.out (by have h1 := HW2.out; have h2 := HQ3.out.le; omega) _ _ _ _ _ _, (by have h1 := HW2.out; have h2 := HQ3.out.le; omega), (by have h1 := HW2.out; have h2 := HQ3.out.le; omega), six_below HO6.out (by have h1 := HW2.out; have h2 := HQ3.out.le; omega) _ _ _ _ _ _, PrIs.of6 (own_six6 (own_ok (own_ok (own_ok (own_ok (own_ok HU0.out HN1.out) HN2.out) HN3.out) HN4.out) HN5.out) (by decide) HSX.out _ _ _ _ _ _) (own_six6 (own_ok (own_ok (own_ok (own_ok HU1.out HN2.out) HN3.out) HN4.out) HN5.out) (by decide) HSX.out _ _ _ _ _ _) (own_six6 (own_ok (own_ok (own_ok HU2.out HN3.out) HN4.out) HN5.out) (by decide) HSX.out _ _ _ _ _ _) (own_six6 (own_ok (own_ok HU3.out HN4.out) HN5.out) (by decide) HSX.out _ _ _ _ _ _) (own_six6 (own_ok HU4.out HN5.out) (by decide) HSX.out _ _ _ _ _ _) (own_six6 HU5.out (by decide) HSX.out _ _ _ _ _ _)⟩); obtain ⟨gq, hgq⟩ : ∃ g, g = x2.heap.size := ⟨_, rfl⟩; rw [← hgq] at HY ⊢)
  | (obtain ⟨Y, hY⟩ : ∃ Y, Y = ((((((x5.setCell ⟨x3.heap.size, 0, none⟩ (.slice ao0 ns.length cp0)).setCell ⟨x3.heap.size, 1, none⟩ (.slice ao1 l.sc.length cp1)).setCell ⟨x3.heap.size, 2, none⟩ (.slice ao2 l.ar.length cp2)).setCell ⟨x3.heap.size, 3, none⟩ (.slice ao3 l.sy.length cp3)).setCell ⟨x3.heap.size, 4, none⟩ (.slice ao4 l.si.length cp4)).setCell ⟨x3.heap.size, 5, none⟩ (.slice ao5 l.so.length cp5)) := ⟨_, rfl⟩; rw [← hY]; have HY : Hid (OwF w Y x3.heap.size (.slice ao0 ns.length cp0) (.slice ao1 l.sc.length cp1) (.slice ao2 l.ar.length cp2) (.slice ao3 l.sy.length cp3) (.slice ao4 l.si.length cp4) (.slice ao5 l.so.length cp5) ns l) := (by unfold Hid; rw [hY]; exact ⟨⟨six_set HSX.out.heap _ _ _ _ _ _⟩, six_six6 HRS.out (by have h1 := HW2.out; have h2 := HQ4.out.le; omega) _ _ _ _ _ _, (by have h1 := HW2.out; have h2 := HQ4.out.le; omega), (by have h1 := HW2.out; have h2 := HQ4.out.le; omega), six_below HO6.out (by have h1 := HW2.out; have h2 := HQ4.out.le; omega) _ _ _ _ _ _, PrIs.of6 (own_six6 (own_ok (own_ok (own_ok (own_ok (own_ok HU0.out HN1.out) HN2.out) HN3.out) HN4.out) HN5.out) (by decide) HSX.out _ _ _ _ _ _) (own_six6 (own_ok (own_ok (own_ok (own_ok HU1.out HN2.out) HN3.out) HN4.out) HN5.out) (by decide) HSX.out _ _ _ _ _ _) (own_six6 (own_ok (own_ok (own_ok HU2.out HN3.out) HN4.out) HN5.out) (by decide) HSX.out _ _ _ _ _ _) (own_six6 (own_ok (own_ok HU3.out HN4.out) HN5.out) (by decide) HSX.out _ _ _ _ _ _) (own_six6 (own_ok HU4.out HN5.out) (by decide) HSX.out _ _ _ _ _ _) (own_six6 HU5.out (by decide) HSX.out _ _ _ _ _ _)⟩); obtain ⟨gq, hgq⟩ : ∃ g, g = x3.heap.size := ⟨_, rfl⟩; rw [← hgq] at HY ⊢)
  | (obtain ⟨Y, hY⟩ : ∃ Y, Y = ((((((x5.setCell ⟨x4.heap.size, 0, none⟩ (.slice ao0 ns.length cp0)).setCell ⟨x4.heap.size, 1, none⟩ (.slice ao1 l.sc.length cp1)).setCell ⟨x4.heap.size, 2, none⟩ (.slice ao2 l.ar.length cp2)).setCell ⟨x4.heap.size, 3, none⟩ (.slice ao3 l.sy.length cp3)).setCell ⟨x4.heap.size, 4, none⟩ (.slice ao4 l.si.length cp4)).setCell ⟨x4.heap.size, 5, none⟩ (.slice ao5 l.so.length cp5)) := ⟨_, rfl⟩; rw [← hY]; have HY : Hid (OwF w Y x4.heap.size (.slice ao0 ns.length cp0) (.slice ao1 l.sc.length cp1) (.slice ao2 l.ar.length cp2) (.slice ao3 l.sy.length cp3) (.slice ao4 l.si.length cp4) (.slice ao5 l.so.length cp5) ns l) := (by unfold Hid; rw [hY]; exact ⟨⟨six_set HSX.out.heap _ _ _ _ _ _⟩, six_six6 HRS.out (by have h1 := HW2.out; have h2 := HQ5.out.le; omega) _ _ _ _ _ _, (by have h1 := HW2.out; have h2 := HQ5.out.le; omega), (by have h1 := HW2.out; have h2 := HQ5.out.le; omega), six_below HO6.out (by have h1 := HW2.out; have h2 := HQ5.out.le; omega) _ _ _ _ _ _, PrIs.of6 (own_six6 (own_ok (own_ok (own_ok (own_ok (own_ok HU0.out HN1.out) HN2.out) HN3.out) HN4.out) HN5.out) (by decide) HSX.out _ _ _ _ _ _) (own_six6 (own_ok (own_ok (own_ok (own_ok HU1.out HN2.out) HN3.out) HN4.out) HN5.out) (by decide) HSX.out _ _ _ _ _ _) (own_six6 (own_ok (own_ok (own_ok HU2.out HN3.out) HN4.out) HN5.out) (by decide) HSX.out _ _ _ _ _ _) (own_six6 (own_ok (own_ok HU3.out HN4.out) HN5.out) (by decide) HSX.out _ _ _ _ _ _) (own_six6 (own_ok HU4.out HN5.out) (by decide) HSX.out _ _ _ _ _ _) (own_six6 HU5.out (by decide) HSX.out _ _ _ _ _ _)⟩); obtain ⟨gq, hgq⟩ : ∃ g, g = x4.heap.size := ⟨_, rfl⟩; rw [← hgq] at HY ⊢)
  | (obtain ⟨Y, hY⟩ : ∃ Y, Y = x5.alloc (Obj.cells #[.slice ao0 ns.length cp0, .slice ao1 l.sc.length cp1, .slice ao2 l.ar.length cp2, .slice ao3 l.sy.length cp3, .slice ao4 l.si.length cp4, .slice ao5 l.so.length cp5] 28) := ⟨_, rfl⟩; rw [← hY]; have HY : Hid (OwF w Y x5.heap.size (.slice ao0 ns.length cp0) (.slice ao1 l.sc.length cp1) (.slice ao2 l.ar.length cp2) (.slice ao3 l.sy.length cp3) (.slice ao4 l.si.length cp4) (.slice ao5 l.so.length cp5) ns l) := (by unfold Hid; rw [hY]; exact ⟨Six.new _ _ _ _ _ _ _, HRS.out.below ((Ok.refl _).alloc _), (by have h1 := HW2.out; have h2 := HQ6.out.le; omega), (by have h1 := HW2.out; have h2 := HQ6.out.le; omega), HO6.out.alloc _, PrIs.of6 (World.ownsRow.alloc (own_ok (own_ok (own_ok (own_ok (own_ok HU0.out HN1.out) HN2.out) HN3.out) HN4.out) HN5.out) _) (World.ownsRow.alloc (own_ok (own_ok (own_ok (own_ok HU1.out HN2.out) HN3.out) HN4.out) HN5.out) _) (World.ownsRow.alloc (own_ok (own_ok (own_ok HU2.out HN3.out) HN4.out) HN5.out) _) (World.ownsRow.alloc (own_ok (own_ok HU3.out HN4.out) HN5.out) _) (World.ownsRow.alloc (own_ok HU4.out HN5.out) _) (World.ownsRow.alloc HU5.out _)⟩); obtain ⟨gq, hgq⟩ : ∃ g, g = x5.heap.size := ⟨_, rfl⟩; rw [← hgq] at HY ⊢))
 all_goals
  clear hY hgq HRS
  (try clear HSX wf sl g0 g1 g2 g3 g4 g5 hne1 hne2)
  clear HO0 HO1 HO2 HO3 HO4 HO5 HO6 HQ0 HQ1 HQ2 HQ3 HQ4 HQ5 HQ6 HN0 HN1 HN2 HN3 HN4 HN5 KR0 KR1 KR2 KR3 KR4 KR5 HU0 HU1 HU2 HU3 HU4 HU5 d0 d1 d2 d3 d4 d5 dl
  obtain ⟨z1, c0, c1, c2, c3, c4, c5⟩ := HY.out.six.pc
  go_wp2_with fail
  clear z1 c0 c1 c2 c3 c4 c5
  go_loopw [32] (fun t wr => ∃ k : Nat, k ≤ ns.length ∧ t = .int .i64 k ∧ Hid (Ok Y wr)) (fun t _ => ns.length - (intOf t).toNat)
  case atStart => exact ⟨0, Nat.zero_le _, rfl, Ok.refl _⟩
  case round =>
   obtain ⟨k, hk, rfl, HV⟩ := hrel
   have HSV : Hid _ := HY.out.six.below HV.out
   obtain ⟨z1, c0, c1, c2, c3, c4, c5⟩ := HSV.out.pc
   by_cases hlt : k < ns.length
   ·have hlt' : (k : Int) < (ns.length : Int) := cast_lt' hlt
    have hkw : IntKind.i64.wrap ((k : Int) + 1) = ((k + 1 : Nat) : Int) := wrap_nat (by omega) (by have := HB.out.nd; omega)
    have HP0 : Hid (wr.ownsRow w.heap.size 58 6 (.slice ao0 ns.length cp0) ns.length (ndL ns)) := own_ok (PrIs.nd0 HY.out.pr) HV.out
    obtain ⟨n, hn⟩ : ∃ n, ns[k]? = some n := ⟨ns[k], List.getElem?_eq_getElem hlt⟩
    obtain ⟨g, hg⟩ : ∃ g, ao0 = some ⟨g, 0, none⟩ := by
     obtain ⟨g, c, e, _⟩ := HP0.out.form (by omega)
     injection e with e1
     exact ⟨g, e1⟩
    subst hg
    obtain ⟨q0, q1, q2, q3, q4, q5⟩ := ndL_get hn
    have y0 := HP0.out.cells (g := g) rfl _ _ q0
    have y1 := HP0.out.cells (g := g) rfl _ _ q1
    have y2 := HP0.out.cells (g := g) rfl _ _ q2
    have y3 := HP0.out.cells (g := g) rfl _ _ q3
    have y4 := HP0.out.cells (g := g) rfl _ _ q4
    have y5 := HP0.out.cells (g := g) rfl _ _ q5
    rw [add_off, Nat.zero_add] at y0 y1 y2 y3 y4 y5
    have hgl := (HP0.out.lt g rfl).2
    have hgq : ¬ g = gq := own_ne6 HP0.out (by decide) HSV.out rfl
    have hgq2 : ¬ gq = g := fun e => hgq e.symm
    have HSZ : Hid (n.name.size ≤ 281474976710656) := HB.out.nm n (List.mem_of_getElem? hn)
    clear q0 q1 q2 q3 q4 q5 hn
    go_wp2_with fail
    obtain ⟨V, hV⟩ : ∃ V, V = wr.alloc (Obj.cells #[.int .i64 n.depth, .int .i64 n.kind, .string n.name, .int .i64 n.num, .int .i64 n.op, .int .i64 n.pos] 58) := ⟨_, rfl⟩
    rw [← hV]
    obtain ⟨rn, hrn⟩ : ∃ r, r = wr.heap.size := ⟨_, rfl⟩
    rw [← hrn]
    have HOV : Hid (Ok wr V) := by unfold Hid; rw [hV]; exact (Ok.refl wr).alloc _
    have e1 : V.cell? ⟨rn, 2, none⟩ = some (.string n.name) := by rw [hV, hrn]; exact (row6_facts (heap_new0 _ _)).2.2.1
    have e0 := (HSV.out.below HOV.out).pc.c0
    have hrV : rn < V.heap.size := by rw [hV, hrn]; simp
    have hgr : ¬ g = rn := by omega
    have hgr2 : ¬ rn = g := by omega
    have k0 : V.drew.cell? ⟨gq, 0, none⟩ = some (.slice (some ⟨g, 0, none⟩) ns.length cp0) := e0
    have k1 : V.drew.cell? ⟨rn, 2, none⟩ = some (.string n.name) := e1
    have HRN : Hid (rn = wr.heap.size) := hrn
    clear hV hrn z1 c0 c1 c2 c3 c4 c5 y0 y1 y3 y4 y5
    go_region_held3 (fun w' => w'.cell? ⟨gq, 0, none⟩ = some (.slice (some ⟨g, 0, none⟩) ns.length cp0) ∧ w'.cell? ⟨rn, 2, none⟩ = some (.string n.name))
     (first | (with_reducible exact ⟨d0, d1⟩) | (with_reducible exact ⟨k0, k1⟩) | go_keep)
     (first
     | (go_at_call 41; refine (Calls.mono (sclone_any _ _ HSZ.out) ?_); rintro e x ⟨rfl, hk⟩; have HX : Hid (Ok V x) := Ok.step (by repeat (first | exact Ok.refl _ | refine Below.drew ?_)) hk; have d0 := HX.out.cell (p := ⟨gq, 0, none⟩) (HSV.out.below HOV.out).lt e0; have d1 := HX.out.cell (p := ⟨rn, 2, none⟩) hrV e1; have HXW : Hid (Ok wr x) := HOV.out.step HX.out; have dy := HXW.out.cell (p := ⟨g, k * 6 + 2, none⟩) hgl y2; have df := (own_ok HP0.out HXW.out).frozenAt (k * 6 + 2); have HDY : Hid (x.cell? ⟨g, k * 6 + 2, none⟩ = some (.string n.name)) := dy; clear hk)
     | fail)
    go_wp2_with fail
    exact ⟨⟨k + 1, hlt, by go_num, (by unfold Hid; rw [setCell_same HDY.out]; exact HV.out.step HXW.out)⟩, by simp [intOf]; omega⟩
   ·have hlt' : ¬ (k : Int) < (ns.length : Int) := cast_nlt hlt
    go_wp2_with fail
    clear z1 c0 c1 c2 c3 c4 c5 hlt hlt' hk HSV
    obtain ⟨Y2, hY2⟩ : ∃ Y2, Y2 = wr := ⟨_, rfl⟩
    subst hY2
    go_loopw [49] (fun t wr => ∃ k : Nat, k ≤ l.sc.length ∧ t = .int .i64 k ∧ Hid (Ok Y wr)) (fun t _ => l.sc.length - (intOf t).toNat)
    case atStart => exact ⟨0, Nat.zero_le _, rfl, HV⟩
    case round =>
     clear HV
     obtain ⟨k, hk, rfl, HV⟩ := hrel
     have HSV : Hid _ := HY.out.six.below HV.out
     obtain ⟨z1, c0, c1, c2, c3, c4, c5⟩ := HSV.out.pc
     by_cases hlt : k < l.sc.length
     ·have hlt' : (k : Int) < (l.sc.length : Int) := cast_lt' hlt
      have hkw : IntKind.i64.wrap ((k : Int) + 1) = ((k + 1 : Nat) : Int) := wrap_nat (by omega) (by have := HB.out.sc; omega)
      have HP1 : Hid (wr.ownsRow w.heap.size 9 1 (.slice ao1 l.sc.length cp1) l.sc.length (l.sc.map fun s => .string s)) := own_ok (HY.out.pr 1 (by decide)) HV.out
      obtain ⟨n, hn⟩ : ∃ n, l.sc[k]? = some n := ⟨l.sc[k], List.getElem?_eq_getElem hlt⟩
      obtain ⟨g, hg⟩ : ∃ g, ao1 = some ⟨g, 0, none⟩ := by
       obtain ⟨g, c, e, _⟩ := HP1.out.form (by omega)
       injection e with e1
       exact ⟨g, e1⟩
      subst hg
      have y2 := HP1.out.cells (g := g) rfl k (.string n) (by rw [List.getElem?_map, hn]; rfl)
      rw [add_off, Nat.zero_add] at y2
      have hgl := (HP1.out.lt g rfl).2
      have hgq : ¬ g = gq := own_ne6 HP1.out (by decide) HSV.out rfl
      have hgq2 : ¬ gq = g := fun e => hgq e.symm
      have HSZ : Hid (n.size ≤ 281474976710656) := HB.out.sn n (List.mem_of_getElem? hn)
      clear hn
      have k0 : wr.drew.cell? ⟨gq, 1, none⟩ = some (.slice (some ⟨g, 0, none⟩) l.sc.length cp1) := c1
      have HLT : Hid (gq < wr.heap.size) := z1
      go_wp2_with fail
      go_region_held3 (fun w' => w'.cell? ⟨gq, 1, none⟩ = some (.slice (some ⟨g, 0, none⟩) l.sc.length cp1))
       (first | (with_reducible exact d0) | (with_reducible exact k0) | go_keep)
       (first
       | (go_at_call 41; refine (Calls.mono (sclone_any _ _ HSZ.out) ?_); rintro e x ⟨rfl, hk⟩; have HXW : Hid (Ok wr x) := Ok.step (by repeat (first | exact Ok.refl _ | refine Below.drew ?_)) hk; have d0 := HXW.out.cell (p := ⟨gq, 1, none⟩) HLT.out c1; have dy := HXW.out.cell (p := ⟨g, k, none⟩) hgl y2; have df := (own_ok HP1.out HXW.out).frozenAt k; have HDY : Hid (x.cell? ⟨g, k, none⟩ = some (.string n)) := dy; clear hk)
       | fail)
      go_wp2_with fail
      exact ⟨⟨k + 1, hlt, by go_num, (by unfold Hid; rw [setCell_same HDY.out]; exact HV.out.step HXW.out)⟩, by simp [intOf]; omega⟩
     ·have hlt' : ¬ (k : Int) < (l.sc.length : Int) := cast_nlt hlt
      go_wp2_with fail
      clear z1 c0 c1 c2 c3 c4 c5 hlt hlt' hk HSV
      obtain ⟨Y3, hY3⟩ : ∃ Y3, Y3 = wr := ⟨_, rfl⟩
      subst hY3
      go_loopw [64] (fun t wr => ∃ k : Nat, k ≤ l.ar.length ∧ t = .int .i64 k ∧ Hid (Ok Y wr)) (fun t _ => l.ar.length - (intOf t).toNat)
      case atStart => exact ⟨0, Nat.zero_le _, rfl, HV⟩
      case round =>
       clear HV
       obtain ⟨k, hk, rfl, HV⟩ := hrel
       have HSV : Hid _ := HY.out.six.below HV.out
       obtain ⟨z1, c0, c1, c2, c3, c4, c5⟩ := HSV.out.pc
       by_cases hlt : k < l.ar.length
       ·have hlt' : (k : Int) < (l.ar.length : Int) := cast_lt' hlt
        have hkw : IntKind.i64.wrap ((k : Int) + 1) = ((k + 1 : Nat) : Int) := wrap_nat (by omega) (by have := HB.out.ar; omega)
        have HP2 : Hid (wr.ownsRow w.heap.size 64 2 (.slice ao2 l.ar.length cp2) l.ar.length (l.ar.flatMap fun a => [.string a.1, .int .i64 a.2])) := own_ok (HY.out.pr 2 (by decide)) HV.out
        obtain ⟨n, hn⟩ : ∃ n, l.ar[k]? = some n := ⟨l.ar[k], List.getElem?_eq_getElem hlt⟩
        obtain ⟨g, hg⟩ : ∃ g, ao2 = some ⟨g, 0, none⟩ := by
         obtain ⟨g, c, e, _⟩ := HP2.out.form (by omega)
         injection e with e1
         exact ⟨g, e1⟩
        subst hg
        have y2 := HP2.out.cells (g := g) rfl _ _ (arr_get hn).1
        have y3 := HP2.out.cells (g := g) rfl _ _ (arr_get hn).2
        rw [add_off, Nat.zero_add] at y2 y3
        have hgl := (HP2.out.lt g rfl).2
        have hgq : ¬ g = gq := own_ne6 HP2.out (by decide) HSV.out rfl
        have hgq2 : ¬ gq = g := fun e => hgq e.symm
        have HSZ : Hid (n.1.size ≤ 281474976710656) := HB.out.an n (List.mem_of_getElem? hn)
        obtain ⟨nm, ln⟩ := n
        simp only at y2 y3 HSZ
        clear hn
        go_wp2_with fail
        obtain ⟨V, hV⟩ : ∃ V, V = wr.alloc (Obj.cells #[.string nm, .int .i64 ln] 64) := ⟨_, rfl⟩
        rw [← hV]
        obtain ⟨rn, hrn⟩ : ∃ r, r = wr.heap.size := ⟨_, rfl⟩
        rw [← hrn]
        have HOV : Hid (Ok wr V) := by unfold Hid; rw [hV]; exact (Ok.refl wr).alloc _
        have e1 : V.cell? ⟨rn, 0, none⟩ = some (.string nm) := by rw [hV, hrn]; exact (row_facts (heap_new0 _ _)).1
        have e0 := (HSV.out.below HOV.out).pc.c2
        have hrV : rn < V.heap.size := by rw [hV, hrn]; simp
        have hgr : ¬ g = rn := by omega
        have hgr2 : ¬ rn = g := by omega
        have k0 : V.drew.cell? ⟨gq, 2, none⟩ = some (.slice (some ⟨g, 0, none⟩) l.ar.length cp2) := e0
        have k1 : V.drew.cell? ⟨rn, 0, none⟩ = some (.string nm) := e1
        have HRN : Hid (rn = wr.heap.size) := hrn
        clear hV hrn z1 c0 c1 c2 c3 c4 c5 y3
        go_region_held3 (fun w' => w'.cell? ⟨gq, 2, none⟩ = some (.slice (some ⟨g, 0, none⟩) l.ar.length cp2) ∧ w'.cell? ⟨rn, 0, none⟩ = some (.string nm))
         (first | (with_reducible exact ⟨d0, d1⟩) | (with_reducible exact ⟨k0, k1⟩) | go_keep)
         (first
         | (go_at_call 41; refine (Calls.mono (sclone_any _ _ HSZ.out) ?_); rintro e x ⟨rfl, hk⟩; have HX : Hid (Ok V x) := Ok.step (by repeat (first | exact Ok.refl _ | refine Below.drew ?_)) hk; have d0 := HX.out.cell (p := ⟨gq, 2, none⟩) (HSV.out.below HOV.out).lt e0; have d1 := HX.out.cell (p := ⟨rn, 0, none⟩) hrV e1; have HXW : Hid (Ok wr x) := HOV.out.step HX.out; have dy := HXW.out.cell (p := ⟨g, k * 2, none⟩) hgl y2; have df := (own_ok HP2.out HXW.out).frozenAt (k * 2); have HDY : Hid (x.cell? ⟨g, k * 2, none⟩ = some (.string nm)) := dy; clear hk)
         | fail)
        go_wp2_with fail
        exact ⟨⟨k + 1, hlt, by go_num, (by unfold Hid; rw [setCell_same HDY.out]; exact HV.out.step HXW.out)⟩, by simp [intOf]; omega⟩
       ·have hlt' : ¬ (k : Int) < (l.ar.length : Int) := cast_nlt hlt
        have HRV : Hid _ := HY.out.res.below HV.out
        obtain ⟨z9, r0, r1, r2, r3, r4, r5⟩ := HRV.out.pc
        have wf := HRV.out.warm
        have hne : ¬ gq = w.heap.size + 1 := HY.out.ne
        have hne2 : ¬ w.heap.size + 1 = gq := fun e => hne e.symm
        go_wp2_with fail
        try simp only [Exit.inBlock, Exit.then]
        refine bodyPost_ret (results_cell_row rfl _ _ (w.heap.size + 1) 28 _ (0, 0) _ rfl (six_set HRV.out.heap _ _ _ _ _ _) Tryd.underlying28 rfl Tryd.info28) rfl ?_
        refine ⟨sixF (.slice ao0 ns.length cp0) (.slice ao1 l.sc.length cp1) (.slice ao2 l.ar.length cp2) (.slice ao3 l.sy.length cp3) (.slice ao4 l.si.length cp4) (.slice ao5 l.so.length cp5), rfl, ?_, six_below (HY.out.ok.step HV.out) (Nat.le_succ _) _ _ _ _ _ _⟩
        intro j hj
        exact own_six6 (own_ok (HY.out.pr j hj) HV.out) (TY_ne j hj) HRV.out _ _ _ _ _ _
end Go.Proofs.YtklkpaekdpaloaaDoor
