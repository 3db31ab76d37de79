import Derived.Test.YtdhpdhgplnncoaaWfh
import Derived.Test.YtdhpdhgplnncoaaWhr
import Derived.Test.YtdhpdhgplnncoaaWhe
set_option linter.unusedVariables false
set_option linter.unusedSimpArgs false
set_option linter.unnecessarySimpa false
/- WtoHolds: a way of its walk: bad arcs or a bad root. -/
namespace Go.Proofs.Ytdhpdhgplnncoaa
open Go.RowKit Go.Maps
theorem any_take {f : Int × Int → Bool} {ts : List (Int × Int)} {k : Nat} {x : Int × Int} (h : ts[k]? = some x) : (ts.take (k + 1)).any f = ((ts.take k).any f || f x) := by
  obtain ⟨hk, rfl⟩ := List.getElem?_eq_some_iff.1 h
  rw [List.take_succ_eq_append_getElem hk, List.any_append]
  simp
set_option maxRecDepth 100000 in
set_option maxHeartbeats 8000000 in
theorem hold_Bbad {w : World} {n root : Int} {ro : Option Addr} {cap : Nat} {ars ts : List (Int × Int)} (HST : Hid (SAr w ro ts)) (HAO : Hid (ro = none → cap = 0)) (hlc : ars.length ≤ cap) (hn1 : -9223372036854775808 ≤ n) (hn2 : n ≤ 9223372036854775807) (HR : Hid (in64 root)) (HIN : Hid (∀ x ∈ ts, in64 x.1 ∧ in64 x.2)) (HTL : Hid (ts.length ≤ 200)) (hc : cap ≤ 140737488355328) (h200 : ¬ (200 : Int) < (ars.length : Int)) (HML : Hid (ts.length = ars.length)) (hb : (badV n root || ts.any (badA n)) = true) :
    Calls Try.prog 5 #[.int .i64 n, .slice ro ars.length cap, .int .i64 root] w fun e w' => e = .returned (.bool true) ∧ Ok w w' := by
  have HB : Hid ((badV n root || ts.any (badA n)) = true) := hb
  clear hb
  have h200n : ¬ 200 < ars.length := by omega
  by_cases q1 : root < 0
  · have HBV : Hid ((true || ts.any (badA n)) = true) := rfl
    go_enter Try.func5, Try.ntmps5
    go_wp2_with (first
      | (at_builtin; refine wpList_append_arcs rfl _ _ rfl w.heap.size (.slice (some ⟨w.heap.size, 0, none⟩) 0 0) 0 [] (by rfl) (own_empty w) ro cap ts (by rw [HML.out]; rfl) (HST.out.ok ((Ok.refl _).alloc _)) HAO.out (by have := HTL.out; omega) (by simp) ?_; intro v1 w1 hown1 hgrow1; have HO1 : Hid (w1.ownsRow w.heap.size 29 2 v1 ts.length (pr ts)) := (by rw [Nat.zero_add] at hown1; exact hown1); have HK1 : Hid (Ok w w1) := Below.grown ((Ok.refl w).alloc _) hgrow1 (by simp) (fun k e => by simp [Value.ownBlock] at e; omega); clear hown1 hgrow1; obtain ⟨_, ao1, cap1, hv1, hS1⟩ := SAr.of HO1.out; subst hv1; have HS1 : Hid (SAr w1 ao1 ts) := hS1; clear hS1)
      | (go_at_call 7; refine (Calls.mono (Order_any (n := n) (root := root) (cap := cap1) HS1.out (by have := HTL.out; omega) HR.out.1 HR.out.2 (fun x hx => HIN.out x hx)) ?_); rintro e w2 ⟨hk2, hbad, hgood⟩; have HK2 : Hid (Ok w w2) := HK1.out.step hk2; have he := hbad HB.out; subst he; clear hk2 hbad hgood HS1 HO1 HK1)
      | (go_at_call 8; refine (Calls.mono (taken_any _) ?_); rintro e w3 ⟨rfl, hk⟩; have HK3 : Hid (Ok w w3) := HK2.out.step hk; clear hk)
      | fail)
    have HKw : Hid (Ok w w3) := HK3
    clear HK2 HK3
    have ML := HML.out
    have TL := HTL.out
    go_loopw [9, 10] (fun b i wr => ∃ (k : Nat), k ≤ ts.length ∧ i = .int .i64 k ∧ b = .bool (true || (ts.take k).any (badA n)) ∧ Hid (Ok w wr)) (fun _ i _ => (ts.length - intOf i).toNat)
    case atStart => exact ⟨0, by omega, rfl, (by first | (simp; done) | (simp; omega)), HKw⟩
    case round =>
      obtain ⟨k, hk, rfl, rfl, HKr⟩ := hrel
      clear HKw
      have HKw : Hid (Ok w wr) := HKr
      clear HKr
      by_cases hk1 : k < ts.length
      · have hk2 : (k : Int) < (ars.length : Int) := by omega
        obtain ⟨x, hx⟩ : ∃ x, ts[k]? = some x := ⟨ts[k], List.getElem?_eq_getElem hk1⟩
        obtain ⟨tb, o, hro, htb, hcc⟩ := HST.out (fun e => by rw [e] at hk1; simp at hk1)
        subst hro
        have c0 := HKw.out.cell (p := ⟨tb, o + k * 2, none⟩) htb (hcc k x hx).1
        have c1 := HKw.out.cell (p := ⟨tb, o + k * 2 + 1, none⟩) htb (hcc k x hx).2
        obtain ⟨x1, x2⟩ := x
        simp only at c0 c1
        have EN0 : Hid ((true || (ts.take (k + 1)).any (badA n)) = ((true || (ts.take k).any (badA n)) || badA n (x1, x2))) := by unfold Hid; rw [any_take hx, Bool.or_assoc]
        clear hcc hx htb
        generalize (true || (ts.take k).any (badA n)) = cur at *
        cases cur
        · by_cases p1 : x1 < 0
          · have EN : Hid ((true || (ts.take (k + 1)).any (badA n)) = true) := by unfold Hid; rw [EN0.out]; unfold badA badV; simp [p1]
            go_wp2_with fail
            go_roundw
            case rel => exact ⟨k + 1, by have := HTL.out; omega, rfl, by rw [EN.out], HKw⟩
            case measure => simp only [intOf]; omega
          · by_cases p2 : n ≤ x1
            · have EN : Hid ((true || (ts.take (k + 1)).any (badA n)) = true) := by unfold Hid; rw [EN0.out]; unfold badA badV; simp [p2]
              go_wp2_with fail
              go_roundw
              case rel => exact ⟨k + 1, by have := HTL.out; omega, rfl, by rw [EN.out], HKw⟩
              case measure => simp only [intOf]; omega
            · by_cases p3 : x2 < 0
              · have EN : Hid ((true || (ts.take (k + 1)).any (badA n)) = true) := by unfold Hid; rw [EN0.out]; unfold badA badV; simp [p3]
                go_wp2_with fail
                go_roundw
                case rel => exact ⟨k + 1, by have := HTL.out; omega, rfl, by rw [EN.out], HKw⟩
                case measure => simp only [intOf]; omega
              · have EN : Hid ((true || (ts.take (k + 1)).any (badA n)) = decide (n ≤ x2)) := by unfold Hid; rw [EN0.out]; unfold badA badV; simp [p1, p2, p3]
                go_wp2_with fail
                go_roundw
                case rel => exact ⟨k + 1, by have := HTL.out; omega, rfl, by rw [EN.out], HKw⟩
                case measure => simp only [intOf]; omega
        · have EN : Hid ((true || (ts.take (k + 1)).any (badA n)) = true) := by unfold Hid; rw [EN0.out]; rfl
          go_wp2_with fail
          go_roundw
          case rel => exact ⟨k + 1, by have := HTL.out; omega, rfl, by rw [EN.out], HKw⟩
          case measure => simp only [intOf]; omega
      · have hke : k = ts.length := by omega
        have EB : (true || (ts.take k).any (badA n)) = true := by rw [hke, List.take_length]; exact HBV.out
        rw [EB]
        have hk2 : ¬ (k : Int) < (ars.length : Int) := by omega
        clear EB
        go_wp2_with fail
        go_ret
        exact ⟨rfl, HKw.out⟩
  · by_cases q2 : n ≤ root
    · have HBV : Hid ((true || ts.any (badA n)) = true) := rfl
      go_enter Try.func5, Try.ntmps5
      go_wp2_with (first
        | (at_builtin; refine wpList_append_arcs rfl _ _ rfl w.heap.size (.slice (some ⟨w.heap.size, 0, none⟩) 0 0) 0 [] (by rfl) (own_empty w) ro cap ts (by rw [HML.out]; rfl) (HST.out.ok ((Ok.refl _).alloc _)) HAO.out (by have := HTL.out; omega) (by simp) ?_; intro v1 w1 hown1 hgrow1; have HO1 : Hid (w1.ownsRow w.heap.size 29 2 v1 ts.length (pr ts)) := (by rw [Nat.zero_add] at hown1; exact hown1); have HK1 : Hid (Ok w w1) := Below.grown ((Ok.refl w).alloc _) hgrow1 (by simp) (fun k e => by simp [Value.ownBlock] at e; omega); clear hown1 hgrow1; obtain ⟨_, ao1, cap1, hv1, hS1⟩ := SAr.of HO1.out; subst hv1; have HS1 : Hid (SAr w1 ao1 ts) := hS1; clear hS1)
        | (go_at_call 7; refine (Calls.mono (Order_any (n := n) (root := root) (cap := cap1) HS1.out (by have := HTL.out; omega) HR.out.1 HR.out.2 (fun x hx => HIN.out x hx)) ?_); rintro e w2 ⟨hk2, hbad, hgood⟩; have HK2 : Hid (Ok w w2) := HK1.out.step hk2; have he := hbad HB.out; subst he; clear hk2 hbad hgood HS1 HO1 HK1)
        | (go_at_call 8; refine (Calls.mono (taken_any _) ?_); rintro e w3 ⟨rfl, hk⟩; have HK3 : Hid (Ok w w3) := HK2.out.step hk; clear hk)
        | fail)
      have HKw : Hid (Ok w w3) := HK3
      clear HK2 HK3
      have ML := HML.out
      have TL := HTL.out
      go_loopw [9, 10] (fun b i wr => ∃ (k : Nat), k ≤ ts.length ∧ i = .int .i64 k ∧ b = .bool (true || (ts.take k).any (badA n)) ∧ Hid (Ok w wr)) (fun _ i _ => (ts.length - intOf i).toNat)
      case atStart => exact ⟨0, by omega, rfl, (by first | (simp; done) | (simp; omega)), HKw⟩
      case round =>
        obtain ⟨k, hk, rfl, rfl, HKr⟩ := hrel
        clear HKw
        have HKw : Hid (Ok w wr) := HKr
        clear HKr
        by_cases hk1 : k < ts.length
        · have hk2 : (k : Int) < (ars.length : Int) := by omega
          obtain ⟨x, hx⟩ : ∃ x, ts[k]? = some x := ⟨ts[k], List.getElem?_eq_getElem hk1⟩
          obtain ⟨tb, o, hro, htb, hcc⟩ := HST.out (fun e => by rw [e] at hk1; simp at hk1)
          subst hro
          have c0 := HKw.out.cell (p := ⟨tb, o + k * 2, none⟩) htb (hcc k x hx).1
          have c1 := HKw.out.cell (p := ⟨tb, o + k * 2 + 1, none⟩) htb (hcc k x hx).2
          obtain ⟨x1, x2⟩ := x
          simp only at c0 c1
          have EN0 : Hid ((true || (ts.take (k + 1)).any (badA n)) = ((true || (ts.take k).any (badA n)) || badA n (x1, x2))) := by unfold Hid; rw [any_take hx, Bool.or_assoc]
          clear hcc hx htb
          generalize (true || (ts.take k).any (badA n)) = cur at *
          cases cur
          · by_cases p1 : x1 < 0
            · have EN : Hid ((true || (ts.take (k + 1)).any (badA n)) = true) := by unfold Hid; rw [EN0.out]; unfold badA badV; simp [p1]
              go_wp2_with fail
              go_roundw
              case rel => exact ⟨k + 1, by have := HTL.out; omega, rfl, by rw [EN.out], HKw⟩
              case measure => simp only [intOf]; omega
            · by_cases p2 : n ≤ x1
              · have EN : Hid ((true || (ts.take (k + 1)).any (badA n)) = true) := by unfold Hid; rw [EN0.out]; unfold badA badV; simp [p2]
                go_wp2_with fail
                go_roundw
                case rel => exact ⟨k + 1, by have := HTL.out; omega, rfl, by rw [EN.out], HKw⟩
                case measure => simp only [intOf]; omega
              · by_cases p3 : x2 < 0
                · have EN : Hid ((true || (ts.take (k + 1)).any (badA n)) = true) := by unfold Hid; rw [EN0.out]; unfold badA badV; simp [p3]
                  go_wp2_with fail
                  go_roundw
                  case rel => exact ⟨k + 1, by have := HTL.out; omega, rfl, by rw [EN.out], HKw⟩
                  case measure => simp only [intOf]; omega
                · have EN : Hid ((true || (ts.take (k + 1)).any (badA n)) = decide (n ≤ x2)) := by unfold Hid; rw [EN0.out]; unfold badA badV; simp [p1, p2, p3]
                  go_wp2_with fail
                  go_roundw
                  case rel => exact ⟨k + 1, by have := HTL.out; omega, rfl, by rw [EN.out], HKw⟩
                  case measure => simp only [intOf]; omega
          · have EN : Hid ((true || (ts.take (k + 1)).any (badA n)) = true) := by unfold Hid; rw [EN0.out]; rfl
            go_wp2_with fail
            go_roundw
            case rel => exact ⟨k + 1, by have := HTL.out; omega, rfl, by rw [EN.out], HKw⟩
            case measure => simp only [intOf]; omega
        · have hke : k = ts.length := by omega
          have EB : (true || (ts.take k).any (badA n)) = true := by rw [hke, List.take_length]; exact HBV.out
          rw [EB]
          have hk2 : ¬ (k : Int) < (ars.length : Int) := by omega
          clear EB
          go_wp2_with fail
          go_ret
          exact ⟨rfl, HKw.out⟩
    · have HBV : Hid ((false || ts.any (badA n)) = true) := by
        have := HB.out
        unfold Hid
        rw [show badV n root = false by unfold badV; rw [decide_eq_false q1, decide_eq_false q2]; rfl] at this
        exact this
      go_enter Try.func5, Try.ntmps5
      go_wp2_with (first
        | (at_builtin; refine wpList_append_arcs rfl _ _ rfl w.heap.size (.slice (some ⟨w.heap.size, 0, none⟩) 0 0) 0 [] (by rfl) (own_empty w) ro cap ts (by rw [HML.out]; rfl) (HST.out.ok ((Ok.refl _).alloc _)) HAO.out (by have := HTL.out; omega) (by simp) ?_; intro v1 w1 hown1 hgrow1; have HO1 : Hid (w1.ownsRow w.heap.size 29 2 v1 ts.length (pr ts)) := (by rw [Nat.zero_add] at hown1; exact hown1); have HK1 : Hid (Ok w w1) := Below.grown ((Ok.refl w).alloc _) hgrow1 (by simp) (fun k e => by simp [Value.ownBlock] at e; omega); clear hown1 hgrow1; obtain ⟨_, ao1, cap1, hv1, hS1⟩ := SAr.of HO1.out; subst hv1; have HS1 : Hid (SAr w1 ao1 ts) := hS1; clear hS1)
        | (go_at_call 7; refine (Calls.mono (Order_any (n := n) (root := root) (cap := cap1) HS1.out (by have := HTL.out; omega) HR.out.1 HR.out.2 (fun x hx => HIN.out x hx)) ?_); rintro e w2 ⟨hk2, hbad, hgood⟩; have HK2 : Hid (Ok w w2) := HK1.out.step hk2; have he := hbad HB.out; subst he; clear hk2 hbad hgood HS1 HO1 HK1)
        | (go_at_call 8; refine (Calls.mono (taken_any _) ?_); rintro e w3 ⟨rfl, hk⟩; have HK3 : Hid (Ok w w3) := HK2.out.step hk; clear hk)
        | fail)
      have HKw : Hid (Ok w w3) := HK3
      clear HK2 HK3
      have ML := HML.out
      have TL := HTL.out
      go_loopw [9, 10] (fun b i wr => ∃ (k : Nat), k ≤ ts.length ∧ i = .int .i64 k ∧ b = .bool (false || (ts.take k).any (badA n)) ∧ Hid (Ok w wr)) (fun _ i _ => (ts.length - intOf i).toNat)
      case atStart => exact ⟨0, by omega, rfl, (by first | (simp; done) | (simp; omega)), HKw⟩
      case round =>
        obtain ⟨k, hk, rfl, rfl, HKr⟩ := hrel
        clear HKw
        have HKw : Hid (Ok w wr) := HKr
        clear HKr
        by_cases hk1 : k < ts.length
        · have hk2 : (k : Int) < (ars.length : Int) := by omega
          obtain ⟨x, hx⟩ : ∃ x, ts[k]? = some x := ⟨ts[k], List.getElem?_eq_getElem hk1⟩
          obtain ⟨tb, o, hro, htb, hcc⟩ := HST.out (fun e => by rw [e] at hk1; simp at hk1)
          subst hro
          have c0 := HKw.out.cell (p := ⟨tb, o + k * 2, none⟩) htb (hcc k x hx).1
          have c1 := HKw.out.cell (p := ⟨tb, o + k * 2 + 1, none⟩) htb (hcc k x hx).2
          obtain ⟨x1, x2⟩ := x
          simp only at c0 c1
          have EN0 : Hid ((false || (ts.take (k + 1)).any (badA n)) = ((false || (ts.take k).any (badA n)) || badA n (x1, x2))) := by unfold Hid; rw [any_take hx, Bool.or_assoc]
          clear hcc hx htb
          generalize (false || (ts.take k).any (badA n)) = cur at *
          cases cur
          · by_cases p1 : x1 < 0
            · have EN : Hid ((false || (ts.take (k + 1)).any (badA n)) = true) := by unfold Hid; rw [EN0.out]; unfold badA badV; simp [p1]
              go_wp2_with fail
              go_roundw
              case rel => exact ⟨k + 1, by have := HTL.out; omega, rfl, by rw [EN.out], HKw⟩
              case measure => simp only [intOf]; omega
            · by_cases p2 : n ≤ x1
              · have EN : Hid ((false || (ts.take (k + 1)).any (badA n)) = true) := by unfold Hid; rw [EN0.out]; unfold badA badV; simp [p2]
                go_wp2_with fail
                go_roundw
                case rel => exact ⟨k + 1, by have := HTL.out; omega, rfl, by rw [EN.out], HKw⟩
                case measure => simp only [intOf]; omega
              · by_cases p3 : x2 < 0
                · have EN : Hid ((false || (ts.take (k + 1)).any (badA n)) = true) := by unfold Hid; rw [EN0.out]; unfold badA badV; simp [p3]
                  go_wp2_with fail
                  go_roundw
                  case rel => exact ⟨k + 1, by have := HTL.out; omega, rfl, by rw [EN.out], HKw⟩
                  case measure => simp only [intOf]; omega
                · have EN : Hid ((false || (ts.take (k + 1)).any (badA n)) = decide (n ≤ x2)) := by unfold Hid; rw [EN0.out]; unfold badA badV; simp [p1, p2, p3]
                  go_wp2_with fail
                  go_roundw
                  case rel => exact ⟨k + 1, by have := HTL.out; omega, rfl, by rw [EN.out], HKw⟩
                  case measure => simp only [intOf]; omega
          · have EN : Hid ((false || (ts.take (k + 1)).any (badA n)) = true) := by unfold Hid; rw [EN0.out]; rfl
            go_wp2_with fail
            go_roundw
            case rel => exact ⟨k + 1, by have := HTL.out; omega, rfl, by rw [EN.out], HKw⟩
            case measure => simp only [intOf]; omega
        · have hke : k = ts.length := by omega
          have EB : (false || (ts.take k).any (badA n)) = true := by rw [hke, List.take_length]; exact HBV.out
          rw [EB]
          have hk2 : ¬ (k : Int) < (ars.length : Int) := by omega
          clear EB
          go_wp2_with fail
          go_ret
          exact ⟨rfl, HKw.out⟩
set_option maxRecDepth 100000 in
set_option maxHeartbeats 8000000 in
theorem hold_Abad {w : World} {n root : Int} {ro : Option Addr} {cap : Nat} {ars ts : List (Int × Int)} (HST : Hid (SAr w ro ts)) (HAO : Hid (ro = none → cap = 0)) (hlc : ars.length ≤ cap) (hn1 : -9223372036854775808 ≤ n) (hn2 : n ≤ 9223372036854775807) (HR : Hid (in64 root)) (HIN : Hid (∀ x ∈ ts, in64 x.1 ∧ in64 x.2)) (HTL : Hid (ts.length ≤ 200)) (hc : cap ≤ 140737488355328) (h200 : (200 : Int) < (ars.length : Int)) (HML : Hid (ts.length = 200)) (hcc : 200 ≤ cap) (hb : (badV n root || ts.any (badA n)) = true) :
    Calls Try.prog 5 #[.int .i64 n, .slice ro ars.length cap, .int .i64 root] w fun e w' => e = .returned (.bool true) ∧ Ok w w' := by
  have HB : Hid ((badV n root || ts.any (badA n)) = true) := hb
  clear hb
  have h200n : 200 < ars.length := by omega
  have hcc2 : (200 : Int) ≤ (cap : Int) := by omega
  by_cases q1 : root < 0
  · have HBV : Hid ((true || ts.any (badA n)) = true) := rfl
    go_enter Try.func5, Try.ntmps5
    go_wp2_with (first
      | (at_builtin; refine wpList_append_arcs rfl _ _ rfl w.heap.size (.slice (some ⟨w.heap.size, 0, none⟩) 0 0) 0 [] (by rfl) (own_empty w) ro cap ts (by rw [HML.out]; rfl) (HST.out.ok ((Ok.refl _).alloc _)) HAO.out (by have := HTL.out; omega) (by simp) ?_; intro v1 w1 hown1 hgrow1; have HO1 : Hid (w1.ownsRow w.heap.size 29 2 v1 ts.length (pr ts)) := (by rw [Nat.zero_add] at hown1; exact hown1); have HK1 : Hid (Ok w w1) := Below.grown ((Ok.refl w).alloc _) hgrow1 (by simp) (fun k e => by simp [Value.ownBlock] at e; omega); clear hown1 hgrow1; obtain ⟨_, ao1, cap1, hv1, hS1⟩ := SAr.of HO1.out; subst hv1; have HS1 : Hid (SAr w1 ao1 ts) := hS1; clear hS1)
      | (go_at_call 7; refine (Calls.mono (Order_any (n := n) (root := root) (cap := cap1) HS1.out (by have := HTL.out; omega) HR.out.1 HR.out.2 (fun x hx => HIN.out x hx)) ?_); rintro e w2 ⟨hk2, hbad, hgood⟩; have HK2 : Hid (Ok w w2) := HK1.out.step hk2; have he := hbad HB.out; subst he; clear hk2 hbad hgood HS1 HO1 HK1)
      | (go_at_call 8; refine (Calls.mono (taken_any _) ?_); rintro e w3 ⟨rfl, hk⟩; have HK3 : Hid (Ok w w3) := HK2.out.step hk; clear hk)
      | fail)
    have HKw : Hid (Ok w w3) := HK3
    clear HK2 HK3
    have ML := HML.out
    have TL := HTL.out
    go_loopw [9, 10] (fun b i wr => ∃ (k : Nat), k ≤ ts.length ∧ i = .int .i64 k ∧ b = .bool (true || (ts.take k).any (badA n)) ∧ Hid (Ok w wr)) (fun _ i _ => (ts.length - intOf i).toNat)
    case atStart => exact ⟨0, by omega, rfl, (by first | (simp; done) | (simp; omega)), HKw⟩
    case round =>
      obtain ⟨k, hk, rfl, rfl, HKr⟩ := hrel
      clear HKw
      have HKw : Hid (Ok w wr) := HKr
      clear HKr
      by_cases hk1 : k < ts.length
      · have hk2 : (k : Int) < (200 : Int) := by omega
        obtain ⟨x, hx⟩ : ∃ x, ts[k]? = some x := ⟨ts[k], List.getElem?_eq_getElem hk1⟩
        obtain ⟨tb, o, hro, htb, hcc⟩ := HST.out (fun e => by rw [e] at hk1; simp at hk1)
        subst hro
        have c0 := HKw.out.cell (p := ⟨tb, o + k * 2, none⟩) htb (hcc k x hx).1
        have c1 := HKw.out.cell (p := ⟨tb, o + k * 2 + 1, none⟩) htb (hcc k x hx).2
        obtain ⟨x1, x2⟩ := x
        simp only at c0 c1
        have EN0 : Hid ((true || (ts.take (k + 1)).any (badA n)) = ((true || (ts.take k).any (badA n)) || badA n (x1, x2))) := by unfold Hid; rw [any_take hx, Bool.or_assoc]
        clear hcc hx htb
        generalize (true || (ts.take k).any (badA n)) = cur at *
        cases cur
        · by_cases p1 : x1 < 0
          · have EN : Hid ((true || (ts.take (k + 1)).any (badA n)) = true) := by unfold Hid; rw [EN0.out]; unfold badA badV; simp [p1]
            go_wp2_with fail
            go_roundw
            case rel => exact ⟨k + 1, by have := HTL.out; omega, rfl, by rw [EN.out], HKw⟩
            case measure => simp only [intOf]; omega
          · by_cases p2 : n ≤ x1
            · have EN : Hid ((true || (ts.take (k + 1)).any (badA n)) = true) := by unfold Hid; rw [EN0.out]; unfold badA badV; simp [p2]
              go_wp2_with fail
              go_roundw
              case rel => exact ⟨k + 1, by have := HTL.out; omega, rfl, by rw [EN.out], HKw⟩
              case measure => simp only [intOf]; omega
            · by_cases p3 : x2 < 0
              · have EN : Hid ((true || (ts.take (k + 1)).any (badA n)) = true) := by unfold Hid; rw [EN0.out]; unfold badA badV; simp [p3]
                go_wp2_with fail
                go_roundw
                case rel => exact ⟨k + 1, by have := HTL.out; omega, rfl, by rw [EN.out], HKw⟩
                case measure => simp only [intOf]; omega
              · have EN : Hid ((true || (ts.take (k + 1)).any (badA n)) = decide (n ≤ x2)) := by unfold Hid; rw [EN0.out]; unfold badA badV; simp [p1, p2, p3]
                go_wp2_with fail
                go_roundw
                case rel => exact ⟨k + 1, by have := HTL.out; omega, rfl, by rw [EN.out], HKw⟩
                case measure => simp only [intOf]; omega
        · have EN : Hid ((true || (ts.take (k + 1)).any (badA n)) = true) := by unfold Hid; rw [EN0.out]; rfl
          go_wp2_with fail
          go_roundw
          case rel => exact ⟨k + 1, by have := HTL.out; omega, rfl, by rw [EN.out], HKw⟩
          case measure => simp only [intOf]; omega
      · have hke : k = ts.length := by omega
        have EB : (true || (ts.take k).any (badA n)) = true := by rw [hke, List.take_length]; exact HBV.out
        rw [EB]
        have hk2 : ¬ (k : Int) < (200 : Int) := by omega
        clear EB
        go_wp2_with fail
        go_ret
        exact ⟨rfl, HKw.out⟩
  · by_cases q2 : n ≤ root
    · have HBV : Hid ((true || ts.any (badA n)) = true) := rfl
      go_enter Try.func5, Try.ntmps5
      go_wp2_with (first
        | (at_builtin; refine wpList_append_arcs rfl _ _ rfl w.heap.size (.slice (some ⟨w.heap.size, 0, none⟩) 0 0) 0 [] (by rfl) (own_empty w) ro cap ts (by rw [HML.out]; rfl) (HST.out.ok ((Ok.refl _).alloc _)) HAO.out (by have := HTL.out; omega) (by simp) ?_; intro v1 w1 hown1 hgrow1; have HO1 : Hid (w1.ownsRow w.heap.size 29 2 v1 ts.length (pr ts)) := (by rw [Nat.zero_add] at hown1; exact hown1); have HK1 : Hid (Ok w w1) := Below.grown ((Ok.refl w).alloc _) hgrow1 (by simp) (fun k e => by simp [Value.ownBlock] at e; omega); clear hown1 hgrow1; obtain ⟨_, ao1, cap1, hv1, hS1⟩ := SAr.of HO1.out; subst hv1; have HS1 : Hid (SAr w1 ao1 ts) := hS1; clear hS1)
        | (go_at_call 7; refine (Calls.mono (Order_any (n := n) (root := root) (cap := cap1) HS1.out (by have := HTL.out; omega) HR.out.1 HR.out.2 (fun x hx => HIN.out x hx)) ?_); rintro e w2 ⟨hk2, hbad, hgood⟩; have HK2 : Hid (Ok w w2) := HK1.out.step hk2; have he := hbad HB.out; subst he; clear hk2 hbad hgood HS1 HO1 HK1)
        | (go_at_call 8; refine (Calls.mono (taken_any _) ?_); rintro e w3 ⟨rfl, hk⟩; have HK3 : Hid (Ok w w3) := HK2.out.step hk; clear hk)
        | fail)
      have HKw : Hid (Ok w w3) := HK3
      clear HK2 HK3
      have ML := HML.out
      have TL := HTL.out
      go_loopw [9, 10] (fun b i wr => ∃ (k : Nat), k ≤ ts.length ∧ i = .int .i64 k ∧ b = .bool (true || (ts.take k).any (badA n)) ∧ Hid (Ok w wr)) (fun _ i _ => (ts.length - intOf i).toNat)
      case atStart => exact ⟨0, by omega, rfl, (by first | (simp; done) | (simp; omega)), HKw⟩
      case round =>
        obtain ⟨k, hk, rfl, rfl, HKr⟩ := hrel
        clear HKw
        have HKw : Hid (Ok w wr) := HKr
        clear HKr
        by_cases hk1 : k < ts.length
        · have hk2 : (k : Int) < (200 : Int) := by omega
          obtain ⟨x, hx⟩ : ∃ x, ts[k]? = some x := ⟨ts[k], List.getElem?_eq_getElem hk1⟩
          obtain ⟨tb, o, hro, htb, hcc⟩ := HST.out (fun e => by rw [e] at hk1; simp at hk1)
          subst hro
          have c0 := HKw.out.cell (p := ⟨tb, o + k * 2, none⟩) htb (hcc k x hx).1
          have c1 := HKw.out.cell (p := ⟨tb, o + k * 2 + 1, none⟩) htb (hcc k x hx).2
          obtain ⟨x1, x2⟩ := x
          simp only at c0 c1
          have EN0 : Hid ((true || (ts.take (k + 1)).any (badA n)) = ((true || (ts.take k).any (badA n)) || badA n (x1, x2))) := by unfold Hid; rw [any_take hx, Bool.or_assoc]
          clear hcc hx htb
          generalize (true || (ts.take k).any (badA n)) = cur at *
          cases cur
          · by_cases p1 : x1 < 0
            · have EN : Hid ((true || (ts.take (k + 1)).any (badA n)) = true) := by unfold Hid; rw [EN0.out]; unfold badA badV; simp [p1]
              go_wp2_with fail
              go_roundw
              case rel => exact ⟨k + 1, by have := HTL.out; omega, rfl, by rw [EN.out], HKw⟩
              case measure => simp only [intOf]; omega
            · by_cases p2 : n ≤ x1
              · have EN : Hid ((true || (ts.take (k + 1)).any (badA n)) = true) := by unfold Hid; rw [EN0.out]; unfold badA badV; simp [p2]
                go_wp2_with fail
                go_roundw
                case rel => exact ⟨k + 1, by have := HTL.out; omega, rfl, by rw [EN.out], HKw⟩
                case measure => simp only [intOf]; omega
              · by_cases p3 : x2 < 0
                · have EN : Hid ((true || (ts.take (k + 1)).any (badA n)) = true) := by unfold Hid; rw [EN0.out]; unfold badA badV; simp [p3]
                  go_wp2_with fail
                  go_roundw
                  case rel => exact ⟨k + 1, by have := HTL.out; omega, rfl, by rw [EN.out], HKw⟩
                  case measure => simp only [intOf]; omega
                · have EN : Hid ((true || (ts.take (k + 1)).any (badA n)) = decide (n ≤ x2)) := by unfold Hid; rw [EN0.out]; unfold badA badV; simp [p1, p2, p3]
                  go_wp2_with fail
                  go_roundw
                  case rel => exact ⟨k + 1, by have := HTL.out; omega, rfl, by rw [EN.out], HKw⟩
                  case measure => simp only [intOf]; omega
          · have EN : Hid ((true || (ts.take (k + 1)).any (badA n)) = true) := by unfold Hid; rw [EN0.out]; rfl
            go_wp2_with fail
            go_roundw
            case rel => exact ⟨k + 1, by have := HTL.out; omega, rfl, by rw [EN.out], HKw⟩
            case measure => simp only [intOf]; omega
        · have hke : k = ts.length := by omega
          have EB : (true || (ts.take k).any (badA n)) = true := by rw [hke, List.take_length]; exact HBV.out
          rw [EB]
          have hk2 : ¬ (k : Int) < (200 : Int) := by omega
          clear EB
          go_wp2_with fail
          go_ret
          exact ⟨rfl, HKw.out⟩
    · have HBV : Hid ((false || ts.any (badA n)) = true) := by
        have := HB.out
        unfold Hid
        rw [show badV n root = false by unfold badV; rw [decide_eq_false q1, decide_eq_false q2]; rfl] at this
        exact this
      go_enter Try.func5, Try.ntmps5
      go_wp2_with (first
        | (at_builtin; refine wpList_append_arcs rfl _ _ rfl w.heap.size (.slice (some ⟨w.heap.size, 0, none⟩) 0 0) 0 [] (by rfl) (own_empty w) ro cap ts (by rw [HML.out]; rfl) (HST.out.ok ((Ok.refl _).alloc _)) HAO.out (by have := HTL.out; omega) (by simp) ?_; intro v1 w1 hown1 hgrow1; have HO1 : Hid (w1.ownsRow w.heap.size 29 2 v1 ts.length (pr ts)) := (by rw [Nat.zero_add] at hown1; exact hown1); have HK1 : Hid (Ok w w1) := Below.grown ((Ok.refl w).alloc _) hgrow1 (by simp) (fun k e => by simp [Value.ownBlock] at e; omega); clear hown1 hgrow1; obtain ⟨_, ao1, cap1, hv1, hS1⟩ := SAr.of HO1.out; subst hv1; have HS1 : Hid (SAr w1 ao1 ts) := hS1; clear hS1)
        | (go_at_call 7; refine (Calls.mono (Order_any (n := n) (root := root) (cap := cap1) HS1.out (by have := HTL.out; omega) HR.out.1 HR.out.2 (fun x hx => HIN.out x hx)) ?_); rintro e w2 ⟨hk2, hbad, hgood⟩; have HK2 : Hid (Ok w w2) := HK1.out.step hk2; have he := hbad HB.out; subst he; clear hk2 hbad hgood HS1 HO1 HK1)
        | (go_at_call 8; refine (Calls.mono (taken_any _) ?_); rintro e w3 ⟨rfl, hk⟩; have HK3 : Hid (Ok w w3) := HK2.out.step hk; clear hk)
        | fail)
      have HKw : Hid (Ok w w3) := HK3
      clear HK2 HK3
      have ML := HML.out
      have TL := HTL.out
      go_loopw [9, 10] (fun b i wr => ∃ (k : Nat), k ≤ ts.length ∧ i = .int .i64 k ∧ b = .bool (false || (ts.take k).any (badA n)) ∧ Hid (Ok w wr)) (fun _ i _ => (ts.length - intOf i).toNat)
      case atStart => exact ⟨0, by omega, rfl, (by first | (simp; done) | (simp; omega)), HKw⟩
      case round =>
        obtain ⟨k, hk, rfl, rfl, HKr⟩ := hrel
        clear HKw
        have HKw : Hid (Ok w wr) := HKr
        clear HKr
        by_cases hk1 : k < ts.length
        · have hk2 : (k : Int) < (200 : Int) := by omega
          obtain ⟨x, hx⟩ : ∃ x, ts[k]? = some x := ⟨ts[k], List.getElem?_eq_getElem hk1⟩
          obtain ⟨tb, o, hro, htb, hcc⟩ := HST.out (fun e => by rw [e] at hk1; simp at hk1)
          subst hro
          have c0 := HKw.out.cell (p := ⟨tb, o + k * 2, none⟩) htb (hcc k x hx).1
          have c1 := HKw.out.cell (p := ⟨tb, o + k * 2 + 1, none⟩) htb (hcc k x hx).2
          obtain ⟨x1, x2⟩ := x
          simp only at c0 c1
          have EN0 : Hid ((false || (ts.take (k + 1)).any (badA n)) = ((false || (ts.take k).any (badA n)) || badA n (x1, x2))) := by unfold Hid; rw [any_take hx, Bool.or_assoc]
          clear hcc hx htb
          generalize (false || (ts.take k).any (badA n)) = cur at *
          cases cur
          · by_cases p1 : x1 < 0
            · have EN : Hid ((false || (ts.take (k + 1)).any (badA n)) = true) := by unfold Hid; rw [EN0.out]; unfold badA badV; simp [p1]
              go_wp2_with fail
              go_roundw
              case rel => exact ⟨k + 1, by have := HTL.out; omega, rfl, by rw [EN.out], HKw⟩
              case measure => simp only [intOf]; omega
            · by_cases p2 : n ≤ x1
              · have EN : Hid ((false || (ts.take (k + 1)).any (badA n)) = true) := by unfold Hid; rw [EN0.out]; unfold badA badV; simp [p2]
                go_wp2_with fail
                go_roundw
                case rel => exact ⟨k + 1, by have := HTL.out; omega, rfl, by rw [EN.out], HKw⟩
                case measure => simp only [intOf]; omega
              · by_cases p3 : x2 < 0
                · have EN : Hid ((false || (ts.take (k + 1)).any (badA n)) = true) := by unfold Hid; rw [EN0.out]; unfold badA badV; simp [p3]
                  go_wp2_with fail
                  go_roundw
                  case rel => exact ⟨k + 1, by have := HTL.out; omega, rfl, by rw [EN.out], HKw⟩
                  case measure => simp only [intOf]; omega
                · have EN : Hid ((false || (ts.take (k + 1)).any (badA n)) = decide (n ≤ x2)) := by unfold Hid; rw [EN0.out]; unfold badA badV; simp [p1, p2, p3]
                  go_wp2_with fail
                  go_roundw
                  case rel => exact ⟨k + 1, by have := HTL.out; omega, rfl, by rw [EN.out], HKw⟩
                  case measure => simp only [intOf]; omega
          · have EN : Hid ((false || (ts.take (k + 1)).any (badA n)) = true) := by unfold Hid; rw [EN0.out]; rfl
            go_wp2_with fail
            go_roundw
            case rel => exact ⟨k + 1, by have := HTL.out; omega, rfl, by rw [EN.out], HKw⟩
            case measure => simp only [intOf]; omega
        · have hke : k = ts.length := by omega
          have EB : (false || (ts.take k).any (badA n)) = true := by rw [hke, List.take_length]; exact HBV.out
          rw [EB]
          have hk2 : ¬ (k : Int) < (200 : Int) := by omega
          clear EB
          go_wp2_with fail
          go_ret
          exact ⟨rfl, HKw.out⟩
end Go.Proofs.Ytdhpdhgplnncoaa
