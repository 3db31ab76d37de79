import Derived.Test.YtegolobjeahhjaaWfh
set_option linter.unusedVariables false
set_option linter.unusedSimpArgs false
set_option linter.unnecessarySimpa false
/- WtoFar: a way of its walk. -/
namespace Go.Proofs.Ytegolobjeahhjaa
open Go.RowKit
set_option maxRecDepth 100000 in
set_option maxHeartbeats 8000000 in
theorem far_Apos {w : World} {n root more : Int} {ro : Option Addr} {cap : Nat} {ars ts : List (Int × Int)} (HST : Hid (SAr w ro ts)) (HAO : Hid (ro = none → cap = 0)) (hlc : ars.length ≤ cap) (hn1 : -9223372036854775808 ≤ n) (hn2 : n ≤ 9223372036854775807) (HR : Hid (in64 root)) (hm1 : -9223372036854775808 ≤ more) (hm2 : more ≤ 9223372036854775807) (HIN : Hid (∀ x ∈ ts, in64 x.1 ∧ in64 x.2)) (HTL : Hid (ts.length ≤ 600)) (hc : cap ≤ 140737488355328) (h600 : (600 : Int) < (ars.length : Int)) (HML : Hid (ts.length = 600)) (hcc : 600 ≤ cap) (hb : (badV n root || ts.any (badA n)) = false) (hbig : ¬ 1099511627776 < n) (hmore : ¬ more < 0) :
    Calls Try.prog 3 #[.int .i64 n, .slice ro ars.length cap, .int .i64 root, .int .i64 more] w fun e w' => e = .returned (.bool true) ∧ Ok w w' := by
  have HB : Hid ((badV n root || ts.any (badA n)) = false) := hb
  clear hb
  have HNR : Hid (0 ≤ root ∧ root < n ∧ ∀ x ∈ ts, (0 ≤ x.1 ∧ x.1 < n) ∧ (0 ≤ x.2 ∧ x.2 < n)) := in_of HB.out
  have hnr := HNR.out.1
  have hnr2 := HNR.out.2.1
  have hnb : n ≤ 1099511627776 := by omega
  have hmk : 0 ≤ more.tmod 1099511627776 ∧ more.tmod 1099511627776 < 1099511627776 := ⟨Int.tmod_nonneg _ (by omega), Int.tmod_lt_of_pos _ (by decide)⟩
  have hmy : 0 ≤ more := by omega
  obtain ⟨G, hG⟩ : ∃ G, G = n + 2 := ⟨_, rfl⟩
  obtain ⟨K, hK⟩ : ∃ K, K = more.tmod 1099511627776 := ⟨_, rfl⟩
  obtain ⟨F, hF⟩ : ∃ F, F = G + K := ⟨_, rfl⟩
  have w1' : IntKind.i64.wrap (n + 2) = G := by rw [IntKind.wrap_i64]; omega
  rw [← hK] at hmk
  have hmK : more.tmod 1099511627776 = K := hK.symm
  have hwK : IntKind.i64.wrap K = K := by rw [IntKind.wrap_i64]; omega
  have hw2 : IntKind.i64.wrap (G + K) = F := by rw [IntKind.wrap_i64]; omega
  have hw3 : IntKind.i64.wrap (F - 1) = F - 1 := by rw [IntKind.wrap_i64]; omega
  have hw4 : IntKind.i64.wrap (F - 2) = F - 2 := by rw [IntKind.wrap_i64]; omega
  have HF : Hid (n + 2 ≤ F ∧ F ≤ 2199023255555) := by unfold Hid; omega
  clear hF hnr hnr2 hn1 hn2 hm1 hm2
  clear hG hK hmk
  have h600n : 600 < ars.length := by omega
  go_enter Try.func3, Try.ntmps3
  go_wp2_with (first
    | (at_builtin; revert HK2; intro HK2; refine wpList_append_arcs rfl _ _ rfl w2.heap.size (.slice (some ⟨w2.heap.size, 0, none⟩) 3 3) 3 [(F - 1, root), (F - 2, F - 1), (F - 1, F - 2)] (by rfl) (own_three w2 _ _ _ _ _ _) ro cap ts (by rw [HML.out]; rfl) (HST.out.ok (HK2.out.alloc _)) HAO.out (by have := HTL.out; omega) (by simp) ?_; intro v3 w3 hown3 hgrow3; have HO3 : Hid (w3.ownsRow w2.heap.size 29 2 v3 (3 + ts.length) (pr ([(F - 1, root), (F - 2, F - 1), (F - 1, F - 2)] ++ ts))) := hown3; have HK3 : Hid (Ok w2 w3) := Below.grown ((Ok.refl w2).alloc _) hgrow3 (by simp) (fun k e => by simp [Value.ownBlock] at e; omega); clear hown3 hgrow3; obtain ⟨l3, hl3⟩ : ∃ l3, l3 = [(F - 1, root), (F - 2, F - 1), (F - 1, F - 2)] ++ ts := ⟨_, rfl⟩; rw [← hl3] at HO3; have HL3 : Hid (l3 = [(F - 1, root), (F - 2, F - 1), (F - 1, F - 2)] ++ ts) := hl3; clear hl3; obtain ⟨_, ao3, cap3, hv3, hS3⟩ := SAr.of HO3.out; subst hv3; have HS3 : Hid (SAr w3 ao3 l3) := hS3; clear hS3)
    | (at_builtin; refine wpList_append_arcs rfl _ _ rfl w.heap.size (.slice (some ⟨w.heap.size, 0, none⟩) 0 0) 0 [] (by rfl) (own_empty w) ro cap ts (by rw [HML.out]; rfl) (HST.out.ok ((Ok.refl _).alloc _)) HAO.out (by have := HTL.out; omega) (by simp) ?_; intro v1 w1 hown1 hgrow1; have HO1 : Hid (w1.ownsRow w.heap.size 29 2 v1 ts.length (pr ts)) := (by rw [Nat.zero_add] at hown1; exact hown1); have HK1 : Hid (Ok w w1) := Below.grown ((Ok.refl w).alloc _) hgrow1 (by simp) (fun k e => by simp [Value.ownBlock] at e; omega); clear hown1 hgrow1; obtain ⟨_, ao1, cap1, hv1, hS1⟩ := SAr.of HO1.out; subst hv1; have HS1 : Hid (SAr w1 ao1 ts) := hS1; clear hS1)
    | (go_at_call 7; revert HK3; intro HK3; refine (Calls.mono (Order_any (n := F) (root := root) (cap := cap3) (ars := l3) HS3.out (by rw [HL3.out]; have := HTL.out; simp; omega) HR.out.1 HR.out.2 (by rw [HL3.out]; exact far_in HF.out HNR.out HIN.out)) ?_); rintro e w4 ⟨hk4, _, hgood⟩; have hgg := hgood (by rw [HL3.out]; exact far_good HF.out HNR.out); rw [HL3.out] at hgg; obtain ⟨L4, v4, hL4, he4, ho4, hll4⟩ := hgg; have hLe : L4 = L := far_same HF.out HNR.out HL.out hL4; subst hLe; subst he4; have HK4 : Hid (Ok w2 w4) := HK3.out.step hk4; obtain ⟨_, ao4, cap4, hv4, hS4⟩ := SEl.of ho4; subst hv4; have HS4 : Hid (SEl w4 ao4 (els L4)) := hS4; clear hk4 hgood hL4 ho4 hll4 hS4)
    | (go_at_call 7; refine (Calls.mono (Order_any (n := n) (root := root) (cap := cap1) HS1.out (by have := HTL.out; omega) HR.out.1 HR.out.2 (fun x hx => HIN.out x hx)) ?_); rintro e w2 ⟨hk2, hbad, hgood⟩; have HK2 : Hid (Ok w w2) := HK1.out.step hk2; obtain ⟨L, v2, hL, he, ho2, hll⟩ := hgood HB.out; subst he; have HL : Hid (Ends (outs ts) (start (outs ts) root) L) := hL; obtain ⟨_, ao2, cap2, hv2, hS2⟩ := SEl.of ho2; subst hv2; have HS2 : Hid (SEl w2 ao2 (els L)) := hS2; have HLL : Hid ((els L).length ≤ 1000000000000) := (by unfold Hid els; rw [List.length_map]; exact hll); clear hk2 hbad hgood HS1 HO1 HK1 hL ho2 hll hS2)
    | (go_at_call 9; refine (Calls.mono (same_yes (HS2.out.ok HK4.out) HS4.out HLL.out) ?_); rintro e w5 ⟨rfl, hk5⟩; have HK5 : Hid (Ok w2 w5) := HK4.out.step hk5; clear hk5)
    | (go_at_call 8; refine (Calls.mono (taken_any _) ?_); rintro e w6 ⟨rfl, hk6⟩; have HK6 : Hid (Ok w2 w6) := HK5.out.step hk6; clear hk6)
    | fail)
  go_ret
  exact ⟨rfl, HK2.out.step HK6.out⟩
end Go.Proofs.Ytegolobjeahhjaa
