import Derived.Test.YtbkblijoimmdeaaKEj
import Derived.Test.YtbkblijoimmdeaaKEl
import Derived.Test.YtbkblijoimmdeaaKEn
import Derived.Test.YtbkblijoimmdeaaKEopen
set_option linter.unusedVariables false
set_option linter.unusedSimpArgs false
/- Eops Eall -/
namespace Go.Proofs.Ytbkblijoimmdeaa
section
open Go.RowKit Go.Deep Go.WideShapes Go.ChangeShapes
theorem ebytesS : Try.prog.bytesOf 25 = 24 := by kernel_rfl
theorem ocellsT : Try.prog.cellsOf 25 = 1 := by kernel_rfl
theorem ocellsU2 : Try.prog.cellsOf 26 = 1 := by kernel_rfl
theorem ocellsSt : Try.prog.cellsOf 28 = 2 := by kernel_rfl
section
variable {H : Type} {enc : TypeId × Value → H} {w : World}
theorem weights_mem {t : TypeId} : ∀ {l : List (DataW H)} {d : DataW H}, (DataW.weightsAll Try.prog t l).all (· ≤ reachBytes) = true → d ∈ l → (DataW.weights Try.prog t d).all (· ≤ reachBytes) = true
  | [], _, _, h => by cases h
  | x :: l, d, hk, h => by
    simp only [DataW.weightsAll, List.all_append, Bool.and_eq_true] at hk
    rcases List.mem_cons.1 h with rfl | h
    · exact hk.1
    · exact weights_mem hk.2 h
theorem in_sis {fuel : Nat} {cs : List Value} {x : DataW H × List MemPlace} (h : DataW.trod enc Try.prog w 0 (fun _ => true) true fuel 25 cs = some x) (hk : (DataW.weights Try.prog 25 x.1).all (· ≤ reachBytes) = true) :
    ∃ (eo : Option Addr) (ec : Nat) (ts : List Int), cs = [.slice eo ts.length ec] ∧ SIs w eo ts ∧ ts.length ≤ 17592186044416 ∧ ∀ t ∈ ts, In64 t := by
  rcases oopen_nums (x := x) h with ⟨hcs, hx⟩ | ⟨a, len, cap, ns, hcs, hl, hcm, hnl, hwf, hat, hx⟩
  · exact ⟨none, 0, [], hcs, fun h => absurd rfl h, by simp, by simp⟩
  · rw [hx] at hk
    have hb9 : ((ns.take len).map (onumData (H := H))).length + ((ns.drop len).map (onumData (H := H))).length ≤ 17592186044416 := by
      simp only [DataW.weights, Try.underlying25, ebytesN, List.all_cons, Bool.and_eq_true, reachBytes] at hk
      have := of_decide_eq_true hk.1
      omega
    simp only [List.length_map, List.length_take, List.length_drop] at hb9
    have hlen : (ns.take len).length = len := by rw [List.length_take]; omega
    refine ⟨some a, cap, ns.take len, by rw [hlen]; exact hcs, ?_, by rw [hlen]; omega, fun t ht => hwf t (List.mem_of_mem_take ht)⟩
    intro hne
    have h0 : len ≠ 0 := by intro h; apply hne; apply List.length_eq_zero_iff.1; omega
    obtain ⟨b, o, rfl, hlt9, hc9⟩ := hat (by omega)
    refine ⟨b, o, rfl, hlt9, fun i hi => ?_⟩
    rw [List.getElem_take]
    exact hc9 i (by rw [hlen] at hi; omega)
theorem in_sss {fuel : Nat} {cs : List Value} {x : DataW H × List MemPlace} (h : DataW.trod enc Try.prog w 0 (fun _ => true) true fuel 26 cs = some x) (hk : (DataW.weights Try.prog 26 x.1).all (· ≤ reachBytes) = true) :
    ∃ (eo : Option Addr) (ec : Nat) (sa : List (List Int)), cs = [.slice eo sa.length ec] ∧ SSs w eo sa ∧ sa.length ≤ 17592186044416 ∧ ∀ l ∈ sa, ∀ t ∈ l, In64 t := by
  rcases open_slice1 Try.underlying26 ocellsT h with ⟨hcs, _⟩ | ⟨a, len, cap, m, n, V, D, Pl, hcs, _, hl, hcm, hme, hx, hel⟩
  · exact ⟨none, 0, [], hcs, fun h => absurd rfl h, by simp, by simp⟩
  simp only [if_true] at hme
  subst hme
  rw [hx] at hk
  simp only [DataW.weights, Try.underlying26, ebytesS, List.all_cons, List.all_append, Bool.and_eq_true, List.length_map, List.length_range] at hk
  have hb9 : len ≤ 17592186044416 := by
    have := of_decide_eq_true hk.1
    simp only [reachBytes] at this
    omega
  have hex : ∀ i, ∃ q : Option Addr × Nat × List Int, i < len → w.cell? (a.add i) = some (.slice q.1 q.2.2.length q.2.1) ∧ SIs w q.1 q.2.2 ∧ q.2.2.length ≤ 17592186044416 ∧ ∀ t ∈ q.2.2, In64 t := by
    intro i
    by_cases hi : i < len
    · obtain ⟨h1, h2⟩ := hel i (by omega)
      obtain ⟨eo, ec, ts, e1, e2, e3, e4⟩ := in_sis h2 (weights_mem hk.2.1 (List.mem_map.2 ⟨i, List.mem_range.2 hi, rfl⟩))
      refine ⟨(eo, ec, ts), fun _ => ⟨?_, e2, e3, e4⟩⟩
      rw [h1]
      simpa using e1
    · exact ⟨(none, 0, []), fun hh => absurd hh hi⟩
  obtain ⟨f, hf⟩ := Classical.axiomOfChoice hex
  have hg : ∀ i (hi : i < ((List.range len).map (fun i => (f i).2.2)).length), ((List.range len).map (fun i => (f i).2.2))[i] = (f i).2.2 := by intro i hi; simp
  refine ⟨some a, m, (List.range len).map (fun i => (f i).2.2), by simpa using hcs, ?_, by simpa using hb9, ?_⟩
  · intro hne
    have hpos : 0 < len := by
      rcases Nat.eq_zero_or_pos len with e | e
      · subst e; simp at hne
      · exact e
    have h00 := (hf 0 hpos).1
    obtain ⟨b, o, y⟩ := a
    have hy : y = none := by simpa [Addr.add] using World.cell?_spot h00
    subst hy
    have key : ∀ i, i < len → w.cell? ⟨b, o + i, none⟩ = some (.slice (f i).1 (f i).2.2.length (f i).2.1) := fun i hi => by
      have h9 := (hf i hi).1
      rw [Go.WideShapes.add_plain] at h9
      exact h9
    refine ⟨b, o, rfl, ocells_lt (key 0 hpos), fun i hi => ?_⟩
    have hi2 : i < len := by simpa using hi
    refine ⟨(f i).1, (f i).2.1, ?_, ?_, ?_⟩
    · rw [hg i hi]; exact key i hi2
    · rw [hg i hi]; exact (hf i hi2).2.1
    · rw [hg i hi]; exact (hf i hi2).2.2.1
  · intro l hl
    obtain ⟨i, hi, rfl⟩ := List.mem_map.1 hl
    exact (hf i (List.mem_range.1 hi)).2.2.2
set_option maxRecDepth 100000 in
/-- A store that comes in. -/
theorem open_store {r : Reach} {b0 : Nat} {v : Value} {d : DataW H} {ps : List MemPlace} (hval : Value.okWide Try.prog w r b0 28 v) (hd : DataW.Trod enc Try.prog w 0 (fun _ => true) true 28 v d ps) (hk : (DataW.weights Try.prog 28 d).all (· ≤ reachBytes) = true) :
    ∃ (sv : List Int) (sa : List (List Int)), StIs w v sv sa ∧ (∀ t ∈ sv, In64 t) ∧ ∀ l ∈ sa, ∀ t ∈ l, In64 t := by
  obtain ⟨cs, rfl, hcs⟩ := okWide_struct Try.underlying28 hval
  obtain ⟨fuel, hf⟩ := hd
  obtain ⟨xs, m, _, hxx, hl, hlen, hg⟩ := DataW.trod_struct Try.underlying28 hf
  have hl2 : cs.toList.length = 2 := by rw [ocellsSt] at hcs; simpa using hcs
  have hcc : (Value.agg cs).cells.toList = cs.toList := by simp [Value.cells]
  obtain ⟨L, hL⟩ : ∃ L, L = cs.toList := ⟨_, rfl⟩
  have hca : cs = L.toArray := by rw [hL]
  rw [← hL] at hl2 hcc
  match xs, hlen, L, hl2 with
  | [y0, y1], _, [c0, c1], _ =>
    have h0 : DataW.trod enc Try.prog w 0 (fun _ => true) true m 25 (((Value.agg cs).cells.toList.drop 0).take (Try.prog.cellsOf 25)) = some y0 := hg 0 _ rfl
    have h1 : DataW.trod enc Try.prog w 0 (fun _ => true) true m 26 (((Value.agg cs).cells.toList.drop (Try.prog.cellsOf 25)).take (Try.prog.cellsOf 26)) = some y1 := hg 1 _ rfl
    rw [hcc, ocellsT] at h0
    rw [hcc, ocellsT, ocellsU2] at h1
    have hd : d = .agg [y0.1, y1.1] := by injection hxx
    rw [hd] at hk
    simp only [DataW.weights, Try.underlying28, List.map_cons, List.map_nil] at hk
    simp only [DataW.weightsEach, List.all_append, Bool.and_eq_true] at hk
    obtain ⟨so, sc, sv, e0, s0, n0, i0⟩ := in_sis h0 hk.1
    obtain ⟨ao, ac, sa, e1, s1, n1, i1⟩ := in_sss h1 hk.2.1
    have e0' : c0 = .slice so sv.length sc := by simpa using e0
    have e1' : c1 = .slice ao sa.length ac := by simpa using e1
    refine ⟨sv, sa, ⟨so, sc, ao, ac, ?_, s0, s1, n0, n1⟩, i0, i1⟩
    rw [hca, e0', e1']
end
end
section
theorem eall : True := trivial
end
end Go.Proofs.Ytbkblijoimmdeaa
