import Derived.Test.YtbakinibehhfnaaWopn
set_option linter.unusedVariables false
set_option linter.unusedSimpArgs false
/- What comes in: a slice of ints. -/
namespace Go.Proofs.Ytbakinibehhfnaa
open Go.RowKit Go.Deep Go.WideShapes Go.ChangeShapes
section
variable {H : Type} {enc : TypeId × Value → H} {w : World}
def nData {H : Type} (v : Int) : DataW H := .lit (.int .i64 v)
/-- A slice of numbers that comes in. -/
theorem open_nums {fuel : Nat} {held : Bool} {cs : List Value} {x : DataW H × List MemPlace} (h : DataW.trod enc Try.prog w 0 (fun _ => true) held fuel 32 cs = some x) :
    (cs = [.slice none 0 0] ∧ x = (.nil, [])) ∨ ∃ (a : Addr) (len cap : Nat) (ts : List Int), cs = [.slice (some a) len cap] ∧ len ≤ cap ∧ cap ≤ maxLen ∧ ts.length = cap ∧ (∀ t ∈ ts, in64 t) ∧
      (0 < cap → ∃ b o, a = ⟨b, o, none⟩ ∧ b < w.heap.size ∧ ∀ i (hi : i < ts.length), w.cell? ⟨b, o + i, none⟩ = some (.int .i64 ts[i])) ∧ x.1 = .slice ((ts.take len).map nData) ((ts.drop len).map nData) := by
  rcases open_slice Try.underlying32 h with h0 | ⟨a, len, cap, m, n, D, Pl, rfl, _, hl, hm, hme, hx, hel⟩
  · exact .inl h0
  right
  simp only [if_true] at hme
  subst hme
  rw [cellsN] at hel
  have hex : ∀ i, ∃ t : Int, i < m → w.cells? 0 (a.add (i * 1)) 1 = some [.int .i64 t] ∧ D i = nData t ∧ in64 t := by
    intro i
    by_cases hi : i < m
    · obtain ⟨cs', h1, h2⟩ := hel i hi
      obtain ⟨t, rfl, h3, h4⟩ := DataW.trod_int Try.underlying3 h2
      exact ⟨t, fun _ => ⟨h1, by injection h3, wf64 h4⟩⟩
    · exact ⟨0, fun hh => absurd hh hi⟩
  obtain ⟨f, hf⟩ := Classical.axiomOfChoice hex
  have hg : ∀ i (hi : i < ((List.range m).map f).length), ((List.range m).map f)[i] = f i := by intro i hi; simp
  refine ⟨a, len, m, (List.range m).map f, rfl, hl, hm, by simp, ?_, ?_, ?_⟩
  · intro nd hnd
    obtain ⟨i, hi, rfl⟩ := List.mem_map.1 hnd
    exact (hf i (by simpa using hi)).2.2
  · intro hpos
    have hc : ∀ i, i < m → w.cell? ((a.add (i * 1)).add 0) = some (.int .i64 (f i)) := fun i hi => (World.cells?_some (hf i hi).1).2.2 0 (by decide)
    have h00 := hc 0 hpos
    obtain ⟨b, o, y⟩ := a
    have hy : y = none := by simpa [Addr.add] using World.cell?_spot h00
    subst hy
    have key : ∀ i, i < m → w.cell? ⟨b, o + i, none⟩ = some (.int .i64 (f i)) := fun i hi => by
      have h9 := hc i hi
      rw [Go.WideShapes.add_plain, Go.WideShapes.add_plain, Nat.mul_one, Nat.add_zero] at h9
      exact h9
    exact ⟨b, o, rfl, cells_lt (key 0 hpos), fun i hi => by rw [hg i hi]; exact key i (by simpa using hi)⟩
  · rw [hx]
    show DataW.slice _ _ = _
    congr 1
    · apply List.ext_getElem
      · simp; omega
      · intro i h1 h2
        simp at h1 h2 ⊢
        exact (hf i (by omega)).2.1
    · apply List.ext_getElem
      · simp
      · intro i h1 h2
        simp at h1 h2 ⊢
        exact (hf _ (by omega)).2.1
end
end Go.Proofs.Ytbakinibehhfnaa
