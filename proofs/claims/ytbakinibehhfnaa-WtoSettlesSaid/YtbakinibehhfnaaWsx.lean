import Derived.Test.YtbakinibehhfnaaWsw
set_option linter.unusedVariables false
set_option linter.unusedSimpArgs false
set_option linter.unnecessarySimpa false
/- WtoSettles: the ways where a root or an arc is bad. -/
namespace Go.Proofs.Ytbakinibehhfnaa
open Go.RowKit Go.Maps
set_option maxRecDepth 100000 in
set_option maxHeartbeats 8000000 in
theorem set_Bbad {w : World} {n root : Int} {ro mo : Option Addr} {cap mcap : Nat} {ars ts : List (Int × Int)} {ms : List Int} (HST : Hid (SAr w ro ts)) (HAO : Hid (ro = none → cap = 0)) (hlc : ars.length ≤ cap) (HMS : Hid (SIn w mo ms)) (HMI : Hid (∀ x ∈ ms, in64 x)) (HR : Hid (in64 root)) (HIN : Hid (∀ x ∈ ts, in64 x.1 ∧ in64 x.2)) (HTL : Hid (ts.length ≤ 120)) (hc : cap ≤ 140737488355328) (h120 : ¬ (120 : Int) < (ars.length : Int)) (HML : Hid (ts.length = ars.length)) (hb : (badV n root || ts.any (badA n)) = true) :
    Calls Try.prog 4 #[.int .i64 n, .slice ro ars.length cap, .int .i64 root, .slice mo ms.length mcap] w fun e w' => e = .returned (.bool true) ∧ Ok w w' := by
  have HB : Hid ((badV n root || ts.any (badA n)) = true) := hb
  clear hb
  have h120n : ¬ 120 < ars.length := by omega
  go_enter Try.func4, Try.ntmps4
  go_wp2_with (first
    | (at_builtin; refine wpList_append_arcs rfl _ _ rfl w.heap.size (.slice (some ⟨w.heap.size, 0, none⟩) 0 0) 0 [] (by rfl) (own_empty w) ro cap ts (by rw [HML.out]; rfl) (HST.out.ok ((Ok.refl _).alloc _)) HAO.out (by have := HTL.out; omega) (by simp) ?_; intro v1 w1 hown1 hgrow1; have HO1 : Hid (w1.ownsRow w.heap.size 29 2 v1 ts.length (pr ts)) := (by rw [Nat.zero_add] at hown1; exact hown1); have HK1 : Hid (Ok w w1) := Below.grown ((Ok.refl w).alloc _) hgrow1 (by simp) (fun k e => by simp [Value.ownBlock] at e; omega); clear hown1 hgrow1; obtain ⟨_, ao1, cap1, hv1, hS1⟩ := SAr.of HO1.out; subst hv1; have HS1 : Hid (SAr w1 ao1 ts) := hS1; clear hS1)
    | (go_at_call 7; refine (Calls.mono (Order_any (n := n) (root := root) (cap := cap1) HS1.out (by have := HTL.out; omega) HR.out.1 HR.out.2 (fun x hx => HIN.out x hx)) ?_); rintro e w2 ⟨hk2, hbad, hgood⟩; have HK2 : Hid (Ok w w2) := HK1.out.step hk2; have he := hbad HB.out; subst he; clear hk2 hbad hgood HS1 HO1 HK1)
    | (go_at_call 8; refine (Calls.mono (taken_any _) ?_); rintro e w3 ⟨rfl, hk⟩; have HK3 : Hid (Ok w w3) := HK2.out.step hk; clear hk)
    | fail)
  go_ret
  exact ⟨rfl, HK3.out⟩
set_option maxRecDepth 100000 in
set_option maxHeartbeats 8000000 in
theorem set_Abad {w : World} {n root : Int} {ro mo : Option Addr} {cap mcap : Nat} {ars ts : List (Int × Int)} {ms : List Int} (HST : Hid (SAr w ro ts)) (HAO : Hid (ro = none → cap = 0)) (hlc : ars.length ≤ cap) (HMS : Hid (SIn w mo ms)) (HMI : Hid (∀ x ∈ ms, in64 x)) (HR : Hid (in64 root)) (HIN : Hid (∀ x ∈ ts, in64 x.1 ∧ in64 x.2)) (HTL : Hid (ts.length ≤ 120)) (hc : cap ≤ 140737488355328) (h120 : (120 : Int) < (ars.length : Int)) (HML : Hid (ts.length = 120)) (hcc : 120 ≤ cap) (hb : (badV n root || ts.any (badA n)) = true) :
    Calls Try.prog 4 #[.int .i64 n, .slice ro ars.length cap, .int .i64 root, .slice mo ms.length mcap] w fun e w' => e = .returned (.bool true) ∧ Ok w w' := by
  have HB : Hid ((badV n root || ts.any (badA n)) = true) := hb
  clear hb
  have h120n : 120 < ars.length := by omega
  have hcc2 : (120 : Int) ≤ (cap : Int) := by omega
  go_enter Try.func4, Try.ntmps4
  go_wp2_with (first
    | (at_builtin; refine wpList_append_arcs rfl _ _ rfl w.heap.size (.slice (some ⟨w.heap.size, 0, none⟩) 0 0) 0 [] (by rfl) (own_empty w) ro cap ts (by rw [HML.out]; rfl) (HST.out.ok ((Ok.refl _).alloc _)) HAO.out (by have := HTL.out; omega) (by simp) ?_; intro v1 w1 hown1 hgrow1; have HO1 : Hid (w1.ownsRow w.heap.size 29 2 v1 ts.length (pr ts)) := (by rw [Nat.zero_add] at hown1; exact hown1); have HK1 : Hid (Ok w w1) := Below.grown ((Ok.refl w).alloc _) hgrow1 (by simp) (fun k e => by simp [Value.ownBlock] at e; omega); clear hown1 hgrow1; obtain ⟨_, ao1, cap1, hv1, hS1⟩ := SAr.of HO1.out; subst hv1; have HS1 : Hid (SAr w1 ao1 ts) := hS1; clear hS1)
    | (go_at_call 7; refine (Calls.mono (Order_any (n := n) (root := root) (cap := cap1) HS1.out (by have := HTL.out; omega) HR.out.1 HR.out.2 (fun x hx => HIN.out x hx)) ?_); rintro e w2 ⟨hk2, hbad, hgood⟩; have HK2 : Hid (Ok w w2) := HK1.out.step hk2; have he := hbad HB.out; subst he; clear hk2 hbad hgood HS1 HO1 HK1)
    | (go_at_call 8; refine (Calls.mono (taken_any _) ?_); rintro e w3 ⟨rfl, hk⟩; have HK3 : Hid (Ok w w3) := HK2.out.step hk; clear hk)
    | fail)
  go_ret
  exact ⟨rfl, HK3.out⟩
end Go.Proofs.Ytbakinibehhfnaa
