import Derived.Test.YtbkblijoimmdeaaKEb
import Derived.Test.YtbkblijoimmdeaaKNopr
set_option linter.unusedVariables false
set_option linter.unusedSimpArgs false
/- Eopen -/
namespace Go.Proofs.Ytbkblijoimmdeaa
open Go.RowKit Go.Deep Go.WideShapes Go.ChangeShapes
theorem ebytesN : Try.prog.bytesOf 2 = 8 := by kernel_rfl
theorem ebytesM : Try.prog.bytesOf 46 = 40 := by kernel_rfl
theorem ocellsE : Try.prog.cellsOf 24 = 3 := by kernel_rfl
theorem ocellsS : Try.prog.cellsOf 22 = 1 := by kernel_rfl
section
variable {H : Type} {enc : TypeId × Value → H} {w : World}
/-- A list of Nums that comes in, of a weight within reach. -/
theorem in_ns {fuel : Nat} {c : Value} {x : DataW H × List MemPlace} (h : DataW.trod enc Try.prog w 0 (fun _ => true) true fuel 22 [c] = some x) (hk : (DataW.weights Try.prog 22 x.1).all (· ≤ reachBytes) = true) :
    ∃ (a : Option Addr) (cap : Nat) (rs : List (Int × Int × Nat × Nat × Bool)), c = .slice a rs.length cap ∧ rs.length ≤ 3518437208883 ∧ SNs 0 w a rs ∧ (∀ p ∈ rs, RawN p) := by
  rcases oopen_ns (x := x) h with ⟨hcs, hx⟩ | ⟨a', len, cap', ns, hcs, hl, hcm, hnl, hwf, hat, hx⟩
  · exact ⟨none, 0, [], by simpa using hcs, by simp, fun h => absurd rfl h, by simp⟩
  · rw [hx] at hk
    have hb9 : ((ns.take len).map (onData (H := H))).length + ((ns.drop len).map (onData (H := H))).length ≤ 3518437208883 := by
      simp only [DataW.weights, Try.underlying22, ebytesM, List.all_cons, Bool.and_eq_true, reachBytes] at hk
      have := of_decide_eq_true hk.1
      omega
    simp only [List.length_map, List.length_take, List.length_drop] at hb9
    have hlen : (ns.take len).length = len := by rw [List.length_take]; omega
    refine ⟨some a', cap', ns.take len, by rw [hlen]; simpa using hcs, by rw [hlen]; omega, ?_, fun p hp => hwf p (List.mem_of_mem_take hp)⟩
    intro hne
    have h0 : len ≠ 0 := by intro h; apply hne; apply List.length_eq_zero_iff.1; omega
    obtain ⟨b, o, rfl, hlt9, hc9⟩ := hat (by omega)
    refine ⟨b, o, rfl, Nat.zero_le _, hlt9, ?_⟩
    intro i hi
    rw [List.getElem_take]
    exact hc9 i (by rw [hlen] at hi; omega)
/-- A list of numbers that comes in. -/
theorem in_nums {fuel : Nat} {c : Value} {x : DataW H × List MemPlace} (h : DataW.trod enc Try.prog w 0 (fun _ => true) true fuel 25 [c] = some x) (hk : (DataW.weights Try.prog 25 x.1).all (· ≤ reachBytes) = true) :
    ∃ ts : List Int, SInts w c ts ∧ ts.length ≤ 17592186044416 ∧ ∀ t ∈ ts, In64 t := by
  rcases oopen_nums (x := x) h with ⟨hcs, hx⟩ | ⟨a, len, cap, ns, hcs, hl, hcm, hnl, hwf, hat, hx⟩
  · exact ⟨[], Or.inr ⟨none, 0, by simpa using hcs, rfl⟩, by simp, by simp⟩
  · rw [hx] at hk
    have hb9 : ((ns.take len).map (onumData (H := H))).length + ((ns.drop len).map (onumData (H := H))).length ≤ 17592186044416 := by
      simp only [DataW.weights, Try.underlying25, ebytesN, List.all_cons, Bool.and_eq_true, reachBytes] at hk
      have := of_decide_eq_true hk.1
      omega
    simp only [List.length_map, List.length_take, List.length_drop] at hb9
    have hlen : (ns.take len).length = len := by rw [List.length_take]; omega
    have hc : c = .slice (some a) len cap := by simpa using hcs
    refine ⟨ns.take len, ?_, by rw [hlen]; omega, fun t ht => hwf t (List.mem_of_mem_take ht)⟩
    by_cases h0 : len = 0
    · subst h0
      exact Or.inr ⟨some a, cap, hc, by simp⟩
    · obtain ⟨b, o, rfl, hlt9, hc9⟩ := hat (by omega)
      refine Or.inl ⟨b, o, cap, by rw [hlen]; exact hc, ?_, hlt9, by rw [hlen]; omega⟩
      intro i hi
      rw [List.getElem_take]
      exact hc9 i (by rw [hlen] at hi; omega)
set_option maxRecDepth 100000 in
/-- An Env that comes in. -/
theorem open_env {r : Reach} {b0 : Nat} {v : Value} {d : DataW H} {ps : List MemPlace} (hval : Value.okWide Try.prog w r b0 24 v) (hd : DataW.Trod enc Try.prog w 0 (fun _ => true) true 24 v d ps) (hk : (DataW.weights Try.prog 24 d).all (· ≤ reachBytes) = true) :
    ∃ e : ET, EnvIs 0 w v e ∧ RawE e := by
  obtain ⟨cs, rfl, hcs⟩ := okWide_struct Try.underlying24 hval
  obtain ⟨fuel, hf⟩ := hd
  obtain ⟨xs, m, _, hxx, hl, hlen, hg⟩ := DataW.trod_struct Try.underlying24 hf
  have hl2 : cs.toList.length = 3 := by rw [ocellsE] at hcs; simpa using hcs
  have hcc : (Value.agg cs).cells.toList = cs.toList := by simp [Value.cells]
  obtain ⟨L, hL⟩ : ∃ L, L = cs.toList := ⟨_, rfl⟩
  have hca : cs = L.toArray := by rw [hL]
  rw [← hL] at hl2 hcc
  match xs, hlen, L, hl2 with
  | [y0, y1, y2], _, [c0, c1, c2], _ =>
    have h0 : DataW.trod enc Try.prog w 0 (fun _ => true) true m 4 (((Value.agg cs).cells.toList.drop 0).take (Try.prog.cellsOf 4)) = some y0 := hg 0 _ rfl
    have h1 : DataW.trod enc Try.prog w 0 (fun _ => true) true m 22 (((Value.agg cs).cells.toList.drop (Try.prog.cellsOf 4)).take (Try.prog.cellsOf 22)) = some y1 := hg 1 _ rfl
    have h2 : DataW.trod enc Try.prog w 0 (fun _ => true) true m 22 (((Value.agg cs).cells.toList.drop (Try.prog.cellsOf 4 + Try.prog.cellsOf 22)).take (Try.prog.cellsOf 22)) = some y2 := hg 2 _ rfl
    rw [hcc, ocellsB] at h0
    rw [hcc, ocellsB, ocellsS] at h1 h2
    have hd : d = .agg [y0.1, y1.1, y2.1] := by injection hxx
    rw [hd] at hk
    simp only [DataW.weights, Try.underlying24, List.map_cons, List.map_nil] at hk
    simp only [DataW.weightsEach, List.all_append, Bool.and_eq_true] at hk
    obtain ⟨b, e0, r0⟩ := DataW.trod_bool Try.underlying4 h0
    obtain ⟨va, vc, vs, ev, lv, sv, rv⟩ := in_ns (c := c1) h1 hk.2.1
    obtain ⟨aa, ac, us, ea, la, sa, ra⟩ := in_ns (c := c2) h2 hk.2.2.1
    have e0' : c0 = .bool b := by simpa using e0
    refine ⟨(b, vs, us), ⟨va, vc, aa, ac, ?_, sv, sa, lv, la⟩, rv, ra⟩
    rw [hca, e0', ev, ea]
end
end Go.Proofs.Ytbkblijoimmdeaa
