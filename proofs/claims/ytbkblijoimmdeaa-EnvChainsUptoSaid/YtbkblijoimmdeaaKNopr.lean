import Derived.Deep.Slices
import Derived.Lib.SmallJoins
import Derived.ProofKit
import Derived.OpenShut
import Derived.Test.YtbkblijoimmdeaaKNopen
set_option linter.unusedVariables false
set_option linter.unusedSimpArgs false
/- Nopr -/
namespace Go.Proofs.Ytbkblijoimmdeaa
open Go.RowKit Go.Deep Go.WideShapes Go.ChangeShapes
section
variable {H : Type} {enc : TypeId × Value → H} {w : World}
theorem ocells_lt {b o : Nat} {u : Value} (h : w.cell? ⟨b, o, none⟩ = some u) : b < w.heap.size := by
  rcases Nat.lt_or_ge b w.heap.size with hh | hh
  · exact hh
  · simp [World.cell?, Array.getElem?_eq_none hh] at h
def onumData {H : Type} (v : Int) : DataW H := .lit (.int .i64 v)
theorem oopen_nums {fuel : Nat} {held : Bool} {cs : List Value} {x : DataW H × List MemPlace} (h : DataW.trod enc Try.prog w 0 (fun _ => true) held fuel 25 cs = some x) :
    (cs = [.slice none 0 0] ∧ x = (.nil, [])) ∨ ∃ (a : Addr) (len cap : Nat) (ts : List Int), cs = [.slice (some a) len cap] ∧ len ≤ cap ∧ cap ≤ maxLen ∧ ts.length = cap ∧ (∀ t ∈ ts, In64 t) ∧
      (0 < cap → ∃ b o, a = ⟨b, o, none⟩ ∧ b < w.heap.size ∧ ∀ i (hi : i < ts.length), w.cell? ⟨b, o + i, none⟩ = some (.int .i64 ts[i])) ∧ x.1 = .slice ((ts.take len).map onumData) ((ts.drop len).map onumData) := by
  rcases open_slice Try.underlying25 h with h0 | ⟨a, len, cap, m, n, D, Pl, rfl, _, hl, hm, hme, hx, hel⟩
  · exact .inl h0
  right
  simp only [if_true] at hme
  subst hme
  rw [ocellsN] at hel
  have hex : ∀ i, ∃ t : Int, i < m → w.cells? 0 (a.add (i * 1)) 1 = some [.int .i64 t] ∧ D i = onumData t ∧ In64 t := by
    intro i
    by_cases hi : i < m
    · obtain ⟨cs', h1, h2⟩ := hel i hi
      obtain ⟨t, rfl, h3, h4⟩ := DataW.trod_int Try.underlying2 h2
      exact ⟨t, fun _ => ⟨h1, by injection h3, owf64 h4⟩⟩
    · exact ⟨0, fun hh => absurd hh hi⟩
  obtain ⟨f, hf⟩ := Classical.axiomOfChoice hex
  have hg : ∀ i (hi : i < ((List.range m).map f).length), ((List.range m).map f)[i] = f i := by intro i hi; simp
  refine ⟨a, len, m, (List.range m).map f, rfl, hl, hm, by simp, ?_, ?_, ?_⟩
  · intro nd hnd
    obtain ⟨i, hi, rfl⟩ := List.mem_map.1 hnd
    exact (hf i (by simpa using hi)).2.2
  · intro hpos
    have hc : ∀ i, i < m → w.cell? ((a.add (i * 1)).add 0) = some (.int .i64 (f i)) := fun i hi => (World.cells?_some (hf i hi).1).2.2 0 (by decide)
    have h00 := hc 0 hpos
    obtain ⟨b, o, y⟩ := a
    have hy : y = none := by simpa [Addr.add] using World.cell?_spot h00
    subst hy
    have key : ∀ i, i < m → w.cell? ⟨b, o + i, none⟩ = some (.int .i64 (f i)) := fun i hi => by
      have h9 := hc i hi
      rw [Go.WideShapes.add_plain, Go.WideShapes.add_plain, Nat.mul_one, Nat.add_zero] at h9
      exact h9
    exact ⟨b, o, rfl, ocells_lt (key 0 hpos), fun i hi => by rw [hg i hi]; exact key i (by simpa using hi)⟩
  · rw [hx]
    show DataW.slice _ _ = _
    congr 1
    · apply List.ext_getElem
      · simp; omega
      · intro i h1 h2
        simp at h1 h2 ⊢
        exact (hf i (by omega)).2.1
    · apply List.ext_getElem
      · simp
      · intro i h1 h2
        simp at h1 h2 ⊢
        exact (hf _ (by omega)).2.1
/-- A slice of Nums that comes in. -/
theorem oopen_ns {fuel : Nat} {held : Bool} {cs : List Value} {x : DataW H × List MemPlace} (h : DataW.trod enc Try.prog w 0 (fun _ => true) held fuel 22 cs = some x) :
    (cs = [.slice none 0 0] ∧ x = (.nil, [])) ∨ ∃ (a : Addr) (len cap : Nat) (ts : List (Int × Int × Nat × Nat × Bool)), cs = [.slice (some a) len cap] ∧ len ≤ cap ∧ cap ≤ maxLen ∧ ts.length = cap ∧ (∀ t ∈ ts, RawN t) ∧
      (0 < cap → ∃ b o, a = ⟨b, o, none⟩ ∧ b < w.heap.size ∧ ∀ i (hi : i < ts.length), w.cell? ⟨b, o + i * 5, none⟩ = some (.bool ts[i].2.2.2.2) ∧ w.cell? ⟨b, o + i * 5 + 1, none⟩ = some (.int .i64 ts[i].1) ∧ w.cell? ⟨b, o + i * 5 + 2, none⟩ = some (.int .i64 ts[i].2.1) ∧ w.cell? ⟨b, o + i * 5 + 3, none⟩ = some (.int .u64 (ts[i].2.2.1 : Int)) ∧ w.cell? ⟨b, o + i * 5 + 4, none⟩ = some (.int .u64 (ts[i].2.2.2.1 : Int))) ∧ x.1 = .slice ((ts.take len).map onData) ((ts.drop len).map onData) := by
  rcases open_slice Try.underlying22 h with h0 | ⟨a, len, cap, m, n, D, Pl, rfl, _, hl, hm, hme, hx, hel⟩
  · exact .inl h0
  right
  simp only [if_true] at hme
  subst hme
  rw [ocellsM] at hel
  have hex : ∀ i, ∃ t : Int × Int × Nat × Nat × Bool, i < m → w.cells? 0 (a.add (i * 5)) 5 = some (onCells t) ∧ D i = onData t ∧ RawN t := by
    intro i
    by_cases hi : i < m
    · obtain ⟨cs', h1, h2⟩ := hel i hi
      obtain ⟨t, rfl, h3, h4⟩ := oopen_nc h2
      exact ⟨t, fun _ => ⟨h1, by injection h3, h4⟩⟩
    · exact ⟨botN, fun hh => absurd hh hi⟩
  obtain ⟨f, hf⟩ := Classical.axiomOfChoice hex
  have hg : ∀ i (hi : i < ((List.range m).map f).length), ((List.range m).map f)[i] = f i := by intro i hi; simp
  refine ⟨a, len, m, (List.range m).map f, rfl, hl, hm, by simp, ?_, ?_, ?_⟩
  · intro nd hnd
    obtain ⟨i, hi, rfl⟩ := List.mem_map.1 hnd
    exact (hf i (by simpa using hi)).2.2
  · intro hpos
    have hc : ∀ i, i < m → ∀ j, j < 5 → w.cell? ((a.add (i * 5)).add j) = (onCells (f i))[j]? := fun i hi j hj => (World.cells?_some (hf i hi).1).2.2 j hj
    have h00 := hc 0 hpos 0 (by decide)
    obtain ⟨b, o, y⟩ := a
    have h01 : w.cell? ((({ block := b, off := o, spot := y } : Addr).add (0 * 5)).add 0) = some (.bool (f 0).2.2.2.2) := h00
    have hy : y = none := by simpa [Addr.add] using World.cell?_spot h01
    subst hy
    have key : ∀ i, i < m → ∀ j, j < 5 → w.cell? ⟨b, o + i * 5 + j, none⟩ = (onCells (f i))[j]? := fun i hi j hj => by
      have h9 := hc i hi j hj
      rw [Go.WideShapes.add_plain, Go.WideShapes.add_plain] at h9
      exact h9
    refine ⟨b, o, rfl, ocells_lt (key 0 hpos 0 (by decide)), fun i hi => ?_⟩
    rw [hg i hi]
    exact ⟨key i (by simpa using hi) 0 (by decide), key i (by simpa using hi) 1 (by decide), key i (by simpa using hi) 2 (by decide), key i (by simpa using hi) 3 (by decide), key i (by simpa using hi) 4 (by decide)⟩
  · rw [hx]
    show DataW.slice _ _ = _
    congr 1
    · apply List.ext_getElem
      · simp; omega
      · intro i h1 h2
        simp at h1 h2 ⊢
        exact (hf i (by omega)).2.1
    · apply List.ext_getElem
      · simp
      · intro i h1 h2
        simp at h1 h2 ⊢
        exact (hf _ (by omega)).2.1
end
end Go.Proofs.Ytbkblijoimmdeaa
