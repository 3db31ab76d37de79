import Derived.Test.YtjngjanheoeojaaDoorText
import Derived.OwnWalk
import Derived.Laws.OwnMore
namespace Go.Proofs.YtjngjanheoeojaaDoor
set_option linter.unusedVariables false
set_option linter.unusedSimpArgs false
open Go.RowKit
/-- From i on up to j: a node and what it holds. -/
structure Cut (ns : List Nd) (i j : Nat) : Prop where
  lt : i < ns.length
  up : i < j
  le : j ≤ ns.length
  deep : ∀ k (h1 : i < k) (h2 : k < j), (ns[i]'lt).depth < (ns[k]'(by omega)).depth
  stop : ∀ (h : j < ns.length), (ns[j]).depth ≤ (ns[i]'lt).depth
set_option maxHeartbeats 1000000 in
theorem end_any (b o cap i j : Nat) (ns : List Nd) (w : World) (hC : Cut ns i j) (hN : NodesAt w b o ns) (hlen : ns.length ≤ 300) :
    Calls Tryd.prog 14 #[.slice (some ⟨b, o, none⟩) ns.length cap, .int .i64 i] w fun y w' => y = .returned (.int .i64 j) ∧ Below w.heap.size w w' := by
  have hlt := hC.lt
  have hle := hC.le
  have hup := hC.up
  have hi1 : (i : Int) < ns.length := by omega
  have hl3 : (ns.length : Int) ≤ 300 := by omega
  have hdi : w.cell? ⟨b, o + i * 6, none⟩ = some (.int .i64 (ns[i]'hlt).depth) := hN.c0 i hlt
  have HC : Hid _ := hC
  have HN : Hid _ := hN
  clear hC hN
  go_enter Tryd.func14, Tryd.ntmps14
  go_wp2_with fail
  go_loopw [5] (fun t wr => ∃ k : Nat, i < k ∧ k ≤ j ∧ t = .int .i64 k ∧ Hid (Below w.heap.size w wr)) (fun t _ => j - (intOf t).toNat)
  case atStart => exact ⟨i + 1, by omega, by omega, by go_num, Below.refl _ _⟩
  case round =>
    obtain ⟨k, hk1, hk2, rfl, HB⟩ := hrel
    have c1 : wr.cell? ⟨b, o + i * 6, none⟩ = some (.int .i64 (ns[i]'hlt).depth) := (HN.out.below HB.out).c0 i hlt
    generalize hdd : (ns[i]'hlt).depth = di at *
    by_cases hkj : k < j
    · have hkl : k < ns.length := by omega
      have c2 : wr.cell? ⟨b, o + k * 6, none⟩ = some (.int .i64 (ns[k]'hkl).depth) := (HN.out.below HB.out).c0 k hkl
      have hd : di < (ns[k]'hkl).depth := by rw [← hdd]; exact HC.out.deep k hk1 hkj
      generalize (ns[k]'hkl).depth = dk at *
      have hk3 : (k : Int) < ns.length := by omega
      clear hdd
      go_wp2_with fail
      go_quiet (fail)
      go_wp2_with fail
      go_roundw
      case rel => exact ⟨k + 1, by omega, by omega, by go_num, below_drewN HB.out _⟩
      case measure => simp [intOf]; omega
    · have hkj' : k = j := by omega
      subst hkj'
      by_cases hkl : k < ns.length
      · have c2 : wr.cell? ⟨b, o + k * 6, none⟩ = some (.int .i64 (ns[k]'hkl).depth) := (HN.out.below HB.out).c0 k hkl
        have hd : ¬ di < (ns[k]'hkl).depth := by rw [← hdd]; have := HC.out.stop hkl; omega
        generalize (ns[k]'hkl).depth = dk at *
        have hk3 : (k : Int) < ns.length := by omega
        have hd2 : decide (di < dk) = false := decide_eq_false hd
        clear hdd
        go_wp2_with fail
        go_quiet (fail)
        go_wp2_with fail
        go_ret
        exact ⟨rfl, below_drewN HB.out _⟩
      · have hk3 : ¬ (k : Int) < ns.length := by omega
        have hk4 : decide ((k : Int) < ns.length) = false := decide_eq_false hk3
        clear hdd
        go_wp2_with fail
        go_quiet (fail)
        go_wp2_with fail
        go_ret
        exact ⟨rfl, below_drewN HB.out _⟩
/-- The places of what stands between two places. -/
def Chain (ns : List Nd) (E : Nat) : Nat → List Nat → Prop
  | s, [] => s = E
  | s, a :: ks => a = s ∧ s < E ∧ ∃ t, Cut ns s t ∧ Chain ns E t ks
theorem Chain.nil {ns : List Nd} {E : Nat} : Chain ns E E [] := rfl
theorem Chain.cons {ns : List Nd} {E : Nat} (s t : Nat) (ks : List Nat) (h : s < E) (hc : Cut ns s t) (hk : Chain ns E t ks) : Chain ns E s (s :: ks) := ⟨rfl, h, t, hc, hk⟩
theorem Tryd.info3 : (Tryd.prog.info? 3).map (fun i => (i.zero, i.size, i.bytes)) = some (some (.int .i64 0), 1, 8) := by kernel_rfl
def ints (ks : List Nat) : List Value := ks.map fun (k : Nat) => Value.int .i64 (k : Int)
theorem Chain.le {ns : List Nd} {E s : Nat} {ks : List Nat} (h : Chain ns E s ks) : s ≤ E := by
  cases ks with
  | nil => exact Nat.le_of_eq h
  | cons a ks => exact Nat.le_of_lt h.2.1
theorem own_below {w w1 : World} {B : Nat} {e : TypeId} {size : Nat} {v : Value} {n : Nat} {xs : List Value} (h : w.ownsRow B e size v n xs) (hb : Below w.heap.size w w1) : w1.ownsRow B e size v n xs := by
  refine ⟨h.1, ?_⟩
  rcases h.2 with hn | ⟨g, cap, cur, hv, hB, hg, rest⟩
  · exact .inl hn
  · exact .inr ⟨g, cap, cur, hv, hB, (hb.block g (Array.getElem?_eq_some_iff.1 hg).1).trans hg, rest⟩
theorem own_base {w : World} {B : Nat} {e : TypeId} {size : Nat} {v : Value} {n : Nat} {xs : List Value} (h : w.ownsRow B e size v n xs) : ∀ k, v.ownBlock = some k → B ≤ k := fun k hk => (World.ownsRow.lt h k hk).1
set_option maxHeartbeats 2000000 in
theorem held_any (b o cap i E : Nat) (ks : List Nat) (ns : List Nd) (w : World) (hC : Cut ns i E) (hK : Chain ns E (i + 1) ks) (hN : NodesAt w b o ns) (hlen : ns.length ≤ 300) :
    Calls Tryd.prog 30 #[.slice (some ⟨b, o, none⟩) ns.length cap, .int .i64 i] w fun y w' => ∃ v, y = .returned v ∧ w'.ownsRow w.heap.size 3 1 v ks.length (ints ks) ∧ Below w.heap.size w w' := by
  have hlt := hC.lt
  have hle := hC.le
  have hl3 : (ns.length : Int) ≤ 300 := by omega
  have HC : Hid _ := hC
  have HK : Hid _ := hK
  have HN : Hid _ := hN
  clear hC hN hK
  go_enter Tryd.func30, Tryd.ntmps30
  go_wp2_with fail
  go_loopw [5, 6] (fun v t wr => ∃ (s : Nat) (k1 k2 : List Nat), t = .int .i64 s ∧ k1.length ≤ s ∧ Hid (ks = k1 ++ k2) ∧ Hid (Chain ns E s k2) ∧ Hid (wr.ownsRow w.heap.size 3 1 v k1.length (ints k1)) ∧ Hid (Below w.heap.size w wr)) (fun _ t _ => E - (intOf t).toNat)
  case atStart => exact ⟨i + 1, [], ks, by go_num, by simp, rfl, HK, ⟨rfl, .inl ⟨rfl, rfl⟩⟩, Below.refl _ _⟩
  case round =>
    obtain ⟨s, k1, k2, rfl, hk1, HKK, HCH, HO, HB⟩ := hrel
    have hsE := HCH.out.le
    have hs3 : (s : Int) ≤ 300 := by omega
    go_wp2_with fail
    refine (end_any b o cap i E ns wr HC.out (HN.out.below HB.out) hlen).mono ?_
    rintro y w1 ⟨rfl, hb1⟩
    have hz0 := HB.out.size
    have HB1 : Hid (Below w.heap.size w w1) := HB.out.trans (hb1.mono hz0)
    have HO1 : Hid _ := own_below HO.out hb1
    have hz1 := HB1.out.size
    clear hb1
    obtain ⟨s', hs'⟩ : ∃ s', s' = s := ⟨_, rfl⟩
    cases h2 : k2 with
    | nil =>
      rw [h2] at HCH HKK
      have e : s = E := HCH.out
      have hnl : ¬ (s : Int) < E := by omega
      go_wp2_with fail
      go_ret
      refine ⟨_, rfl, ?_, HB1.out⟩
      have h9 := HO1.out
      have e2 : ks = k1 := by rw [HKK.out, List.append_nil]
      rw [e2]
      exact h9
    | cons a k3 =>
      rw [h2] at HCH HKK
      obtain ⟨t, ha, hlt', hcut, hch⟩ : ∃ t, a = s ∧ s < E ∧ Cut ns s t ∧ Chain ns E t k3 := by
        obtain ⟨q0, q1, t, q2, q3⟩ := HCH.out
        exact ⟨t, q0, q1, q2, q3⟩
      subst ha
      have hnl : (a : Int) < E := by omega
      have htE := hch.le
      have hat := hcut.up
      have HCU : Hid _ := hcut
      have HCH2 : Hid _ := hch
      clear hcut hch hs'
      obtain ⟨i0, hi0, hz0', hz1', hz2'⟩ := info_parts Tryd.info3
      go_wp2_with (at_builtin; refine wpList_append_own _ rfl _ _ 39 rfl w.heap.size 3 i0 (.int .i64 0) 1 8 Tryd.underlying39 hi0 hz0' hz1' hz2' rfl (by decide) _ _ _ rfl (own_below HO1.out ((Below.refl _ _).alloc (Nat.le_refl _) _)) ⟨w1.heap.size, 0, none⟩ 1 1 [.int .i64 a] rfl rfl ?ap1 ?ap2 ?ap3 ?ap4 ?ap5 ?_)
      case ap1 =>
        intro j u hj
        match j, hj with
        | 0, hj => simp at hj; subst hj; simp [Addr.add, go_sem]
      case ap2 => intro u hu; simp at hu; subst hu; rfl
      case ap3 => simp [maxLen]; omega
      case ap4 => omega
      case ap5 => simp; omega
      intro v' w2 hown' hgrow _
      have HO2 : Hid _ := hown'
      have HB2 : Hid (Below w.heap.size w w2) := (HB1.out.alloc (by omega) _).grown hgrow (by simp; omega) (own_base HO1.out)
      clear hown' hgrow
      go_wp2_with fail
      refine (end_any b o cap a t ns w2 HCU.out (HN.out.below HB2.out) hlen).mono ?_
      rintro y w3 ⟨rfl, hb3⟩
      have HB3 : Hid (Below w.heap.size w w3) := HB2.out.trans (hb3.mono HB2.out.size)
      have HO3 : Hid _ := own_below HO2.out hb3
      clear hb3
      go_wp2_with fail
      go_roundw
      case rel =>
        refine ⟨t, k1 ++ [a], k3, rfl, by simp; omega, ?_, HCH2, ?_, HB3⟩
        · unfold Hid; rw [HKK.out]; simp
        · unfold Hid
          have h9 := HO3.out
          rw [List.length_append]
          unfold ints at h9 ⊢
          rw [List.map_append]
          exact h9
      case measure => simp [intOf]; omega
end Go.Proofs.YtjngjanheoeojaaDoor
