import Derived.Test.YtbkblijoimmdeaaKEp
import Derived.Test.YtbkblijoimmdeaaRows
set_option linter.unusedVariables false
set_option linter.unusedSimpArgs false
/- What comes in: lists of Envs, of a bulk within bounds. -/
namespace Go.Proofs.Ytbkblijoimmdeaa
open Go.RowKit Go.Deep Go.WideShapes Go.ChangeShapes
section
variable {H : Type} {enc : TypeId × Value → H} {w : World}
theorem bulk_pos (d : DataW H) : 1 ≤ Rows.uptoBulk d := by
  cases d with
  | lit l => cases l <;> simp [Rows.uptoBulk]
  | _ => simp [Rows.uptoBulk]
theorem bulk_len : ∀ l : List (DataW H), l.length ≤ Rows.uptoBulkAll l
  | [] => Nat.zero_le _
  | d :: l => by
    have := bulk_pos d
    have := bulk_len l
    simp only [Rows.uptoBulkAll, List.length_cons]
    omega
theorem bulk_mem : ∀ {l : List (DataW H)} {d : DataW H}, d ∈ l → Rows.uptoBulk d ≤ Rows.uptoBulkAll l
  | [], _, h => by cases h
  | x :: l, d, h => by
    simp only [Rows.uptoBulkAll]
    rcases List.mem_cons.1 h with rfl | h
    · omega
    · have := bulk_mem h
      omega
theorem in_ns2 {fuel : Nat} {cs : List Value} {x : DataW H × List MemPlace} (h : DataW.trod enc Try.prog w 0 (fun _ => true) true fuel 22 cs = some x) (hk : (DataW.weights Try.prog 22 x.1).all (· ≤ reachBytes) = true) :
    ∃ (a : Option Addr) (cap : Nat) (rs : List (Int × Int × Nat × Nat × Bool)), cs = [.slice a rs.length cap] ∧ rs.length ≤ 3518437208883 ∧ SNs 0 w a rs ∧ (∀ p ∈ rs, RawN p) ∧ rs.length ≤ Rows.uptoBulk x.1 := by
  rcases oopen_ns (x := x) h with ⟨hcs, hx⟩ | ⟨a', len, cap', ns, hcs, hl, hcm, hnl, hwf, hat, hx⟩
  · exact ⟨none, 0, [], hcs, by simp, fun h => absurd rfl h, by simp, Nat.zero_le _⟩
  · rw [hx] at hk
    have hb9 : ((ns.take len).map (onData (H := H))).length + ((ns.drop len).map (onData (H := H))).length ≤ 3518437208883 := by
      simp only [DataW.weights, Try.underlying22, ebytesM, List.all_cons, Bool.and_eq_true, reachBytes] at hk
      have := of_decide_eq_true hk.1
      omega
    simp only [List.length_map, List.length_take, List.length_drop] at hb9
    have hlen : (ns.take len).length = len := by rw [List.length_take]; omega
    refine ⟨some a', cap', ns.take len, by rw [hlen]; exact hcs, by rw [hlen]; omega, ?_, fun p hp => hwf p (List.mem_of_mem_take hp), ?_⟩
    · intro hne
      have h0 : len ≠ 0 := by intro h; apply hne; apply List.length_eq_zero_iff.1; omega
      obtain ⟨b, o, rfl, hlt9, hc9⟩ := hat (by omega)
      refine ⟨b, o, rfl, Nat.zero_le _, hlt9, ?_⟩
      intro i hi
      rw [List.getElem_take]
      exact hc9 i (by rw [hlen] at hi; omega)
    · rw [hx]
      have := bulk_len ((ns.take len).map (onData (H := H)))
      simp only [List.length_map] at this
      simp only [Rows.uptoBulk]
      omega
set_option maxRecDepth 100000 in
theorem in_env {fuel : Nat} {cs : List Value} {x : DataW H × List MemPlace} (h : DataW.trod enc Try.prog w 0 (fun _ => true) true fuel 24 cs = some x) (hk : (DataW.weights Try.prog 24 x.1).all (· ≤ reachBytes) = true) :
    ∃ (e : ET) (po pp : Option Addr) (pc pd : Nat), cs = [.bool e.1, .slice po e.2.1.length pc, .slice pp e.2.2.length pd] ∧ EnvIs 0 w (.agg #[.bool e.1, .slice po e.2.1.length pc, .slice pp e.2.2.length pd]) e ∧ RawE e ∧ lenE e ≤ Rows.uptoBulk x.1 := by
  obtain ⟨xs, m, _, hxx, hl, hlen, hg⟩ := DataW.trod_struct Try.underlying24 h
  rw [ocellsE] at hl
  match xs, hlen, cs, hl with
  | [y0, y1, y2], _, [c0, c1, c2], _ =>
    have h0 : DataW.trod enc Try.prog w 0 (fun _ => true) true m 4 (([c0, c1, c2].drop 0).take (Try.prog.cellsOf 4)) = some y0 := hg 0 _ rfl
    have h1 : DataW.trod enc Try.prog w 0 (fun _ => true) true m 22 (([c0, c1, c2].drop (Try.prog.cellsOf 4)).take (Try.prog.cellsOf 22)) = some y1 := hg 1 _ rfl
    have h2 : DataW.trod enc Try.prog w 0 (fun _ => true) true m 22 (([c0, c1, c2].drop (Try.prog.cellsOf 4 + Try.prog.cellsOf 22)).take (Try.prog.cellsOf 22)) = some y2 := hg 2 _ rfl
    rw [ocellsB] at h0
    rw [ocellsB, ocellsS] at h1 h2
    have hd : x.1 = .agg [y0.1, y1.1, y2.1] := by rw [hxx]; rfl
    rw [hd] at hk ⊢
    simp only [DataW.weights, Try.underlying24, List.map_cons, List.map_nil] at hk
    simp only [DataW.weightsEach, List.all_append, Bool.and_eq_true] at hk
    obtain ⟨b, e0, r0⟩ := DataW.trod_bool Try.underlying4 h0
    obtain ⟨va, vc, vs, ev, lv, sv, rv, bv⟩ := in_ns2 h1 hk.2.1
    obtain ⟨aa, ac, us, ea, la, sa, ra, ba⟩ := in_ns2 h2 hk.2.2.1
    have e0' : c0 = .bool b := by simpa using e0
    have ev' : c1 = .slice va vs.length vc := by simpa using ev
    have ea' : c2 = .slice aa us.length ac := by simpa using ea
    refine ⟨(b, vs, us), va, aa, vc, ac, by rw [e0', ev', ea'], ⟨va, vc, aa, ac, rfl, sv, sa, lv, la⟩, ⟨rv, ra⟩, ?_⟩
    simp only [Rows.uptoBulk, Rows.uptoBulkAll, lenE]
    omega
set_option maxRecDepth 100000 in
theorem open_env2 {r : Reach} {b0 : Nat} {v : Value} {d : DataW H} {ps : List MemPlace} (hval : Value.okWide Try.prog w r b0 24 v) (hd : DataW.Trod enc Try.prog w 0 (fun _ => true) true 24 v d ps) (hk : (DataW.weights Try.prog 24 d).all (· ≤ reachBytes) = true) :
    ∃ e : ET, EnvIs 0 w v e ∧ RawE e ∧ lenE e ≤ Rows.uptoBulk d := by
  obtain ⟨cs, rfl, hcs⟩ := okWide_struct Try.underlying24 hval
  obtain ⟨fuel, hf⟩ := hd
  obtain ⟨e, po, pp, pc, pd, hc, h1, h2, h3⟩ := in_env (x := (d, ps)) hf hk
  have : cs = #[.bool e.1, .slice po e.2.1.length pc, .slice pp e.2.2.length pd] := by
    have hcc : (Value.agg cs).cells.toList = cs.toList := by simp [Value.cells]
    rw [hcc] at hc
    rw [← Array.toList_inj, hc]
  rw [this]
  exact ⟨e, h1, h2, h3⟩
theorem ebytesE : Try.prog.bytesOf 24 = 56 := by kernel_rfl
theorem in_envs {fuel : Nat} {cs : List Value} {x : DataW H × List MemPlace} (h : DataW.trod enc Try.prog w 0 (fun _ => true) true fuel 37 cs = some x) (hk : (DataW.weights Try.prog 37 x.1).all (· ≤ reachBytes) = true) (hb : Rows.uptoBulk x.1 ≤ 1048576) :
    ∃ (lo : Option Addr) (lc : Nat) (es : List ET), cs = [.slice lo es.length lc] ∧ SEs w lo es ∧ (∀ e ∈ es, RawE e) ∧ (∀ e ∈ es, lenE e ≤ 1048576) ∧ es.length ≤ 1048576 := by
  rcases open_slice Try.underlying37 h with ⟨hcs, _⟩ | ⟨a, len, cap, m, n, D, Pl, hcs, _, hl, hcm, hme, hx, hel⟩
  · exact ⟨none, 0, [], hcs, fun h => absurd rfl h, by simp, by simp, by simp⟩
  simp only [if_true] at hme
  subst hme
  rw [ocellsE] at hel
  rw [hx] at hk hb
  simp only [Rows.uptoBulk] at hb
  simp only [DataW.weights, Try.underlying37, List.all_cons, List.all_append, Bool.and_eq_true] at hk
  have hlb := bulk_len ((List.range len).map D)
  simp only [List.length_map, List.length_range] at hlb
  have hex : ∀ i, ∃ q : ET × Option Addr × Option Addr × Nat × Nat, i < len → w.cells? 0 (a.add (i * 3)) 3 = some [.bool q.1.1, .slice q.2.1 q.1.2.1.length q.2.2.2.1, .slice q.2.2.1 q.1.2.2.length q.2.2.2.2] ∧ EnvIs 0 w (.agg #[.bool q.1.1, .slice q.2.1 q.1.2.1.length q.2.2.2.1, .slice q.2.2.1 q.1.2.2.length q.2.2.2.2]) q.1 ∧ RawE q.1 ∧ lenE q.1 ≤ 1048576 := by
    intro i
    by_cases hi : i < len
    · obtain ⟨cs', h1, h2⟩ := hel i (by omega)
      have hmem : D i ∈ (List.range len).map D := List.mem_map.2 ⟨i, List.mem_range.2 hi, rfl⟩
      have hki : (DataW.weights Try.prog 24 (D i)).all (· ≤ reachBytes) = true := by
        have : ∀ {l : List (DataW H)} {d : DataW H}, (DataW.weightsAll Try.prog 24 l).all (· ≤ reachBytes) = true → d ∈ l → (DataW.weights Try.prog 24 d).all (· ≤ reachBytes) = true := by
          intro l
          induction l with
          | nil => intro d _ h; cases h
          | cons y l ih =>
            intro d hk h
            simp only [DataW.weightsAll, List.all_append, Bool.and_eq_true] at hk
            rcases List.mem_cons.1 h with rfl | h
            · exact hk.1
            · exact ih hk.2 h
        exact this hk.2.1 hmem
      obtain ⟨e, po, pp, pc, pd, e1, e2, e3, e4⟩ := in_env h2 hki
      have := bulk_mem hmem
      have e4' : lenE e ≤ Rows.uptoBulk (D i) := e4
      have e5 : lenE e ≤ 1048576 := by omega
      exact ⟨(e, po, pp, pc, pd), fun _ => ⟨by rw [h1, e1], e2, e3, e5⟩⟩
    · exact ⟨(dedE, none, none, 0, 0), fun hh => absurd hh hi⟩
  obtain ⟨f, hf⟩ := Classical.axiomOfChoice hex
  have hg : ∀ i (hi : i < ((List.range len).map (fun i => (f i).1)).length), ((List.range len).map (fun i => (f i).1))[i] = (f i).1 := by intro i hi; simp
  refine ⟨some a, m, (List.range len).map (fun i => (f i).1), by simpa using hcs, ?_, ?_, ?_, by simp; omega⟩
  · intro hne
    have hpos : 0 < len := by
      rcases Nat.eq_zero_or_pos len with e | e
      · subst e; simp at hne
      · exact e
    have hc : ∀ i, i < len → ∀ j, j < 3 → w.cell? ((a.add (i * 3)).add j) = ([.bool (f i).1.1, .slice (f i).2.1 (f i).1.2.1.length (f i).2.2.2.1, .slice (f i).2.2.1 (f i).1.2.2.length (f i).2.2.2.2] : List Value)[j]? := fun i hi j hj => (World.cells?_some (hf i hi).1).2.2 j hj
    have h00 := hc 0 hpos 0 (by decide)
    obtain ⟨b, o, y⟩ := a
    have h01 : w.cell? ((({ block := b, off := o, spot := y } : Addr).add (0 * 3)).add 0) = some (.bool (f 0).1.1) := h00
    have hy : y = none := by simpa [Addr.add] using World.cell?_spot h01
    subst hy
    have key : ∀ i, i < len → ∀ j, j < 3 → w.cell? ⟨b, o + i * 3 + j, none⟩ = ([.bool (f i).1.1, .slice (f i).2.1 (f i).1.2.1.length (f i).2.2.2.1, .slice (f i).2.2.1 (f i).1.2.2.length (f i).2.2.2.2] : List Value)[j]? := fun i hi j hj => by
      have h9 := hc i hi j hj
      rw [Go.WideShapes.add_plain, Go.WideShapes.add_plain] at h9
      exact h9
    have k00 : w.cell? ⟨b, o + 0 * 3 + 0, none⟩ = some (.bool (f 0).1.1) := key 0 hpos 0 (by decide)
    refine ⟨b, o, rfl, ocells_lt k00, fun i hi => ?_⟩
    have hi2 : i < len := by simpa using hi
    refine ⟨(f i).2.1, (f i).2.2.2.1, (f i).2.2.1, (f i).2.2.2.2, ?_⟩
    rw [hg i hi]
    exact ⟨key i hi2 0 (by decide), key i hi2 1 (by decide), key i hi2 2 (by decide), (hf i hi2).2.1⟩
  · intro e he
    obtain ⟨i, hi, rfl⟩ := List.mem_map.1 he
    exact (hf i (List.mem_range.1 hi)).2.2.1
  · intro e he
    obtain ⟨i, hi, rfl⟩ := List.mem_map.1 he
    exact (hf i (List.mem_range.1 hi)).2.2.2
theorem in_nums2 {fuel : Nat} {c : Value} {x : DataW H × List MemPlace} (h : DataW.trod enc Try.prog w 0 (fun _ => true) true fuel 25 [c] = some x) (hk : (DataW.weights Try.prog 25 x.1).all (· ≤ reachBytes) = true) :
    ∃ ts : List Int, SInts w c ts ∧ ts.length ≤ Rows.uptoBulk x.1 := by
  obtain ⟨ts, h1, h2, _⟩ := in_nums h hk
  rcases oopen_nums (x := x) h with ⟨hcs, hx⟩ | ⟨a, len, cap, ns, hcs, hl, hcm, hnl, hwf, hat, hx⟩
  · have hc : c = .slice none 0 0 := by simpa using hcs
    rw [hc] at h1
    have := sints_len h1
    exact ⟨ts, by rw [hc]; exact h1, by omega⟩
  · have hc : c = .slice (some a) len cap := by simpa using hcs
    rw [hc] at h1
    have e := sints_len h1
    refine ⟨ts, by rw [hc]; exact h1, ?_⟩
    have hb := bulk_len ((ns.take len).map (onumData (H := H)))
    have hlen : (ns.take len).length = len := by rw [List.length_take]; omega
    simp only [List.length_map, hlen] at hb
    rw [hx]
    simp only [Rows.uptoBulk]
    omega
end
end Go.Proofs.Ytbkblijoimmdeaa
