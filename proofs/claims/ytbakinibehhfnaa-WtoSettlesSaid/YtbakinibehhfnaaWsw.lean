import Derived.Test.YtbakinibehhfnaaWtk
import Derived.Test.YtbakinibehhfnaaWfh
import Derived.Deep.RegionHeld3
import Derived.Test.YtbakinibehhfnaaWvm
import Derived.Test.YtbakinibehhfnaaWhe
import Derived.Test.YtbakinibehhfnaaWfh
set_option linter.unusedVariables false
set_option linter.unusedSimpArgs false
set_option linter.unnecessarySimpa false
/- WtoSettles: bounds and rows of the walk. -/
namespace Go.Proofs.Ytbakinibehhfnaa
open Go.RowKit Go.Maps
/-- Numbers, whatever their address. -/
def SIn (w : World) (mo : Option Addr) (ms : List Int) : Prop := ms ≠ [] → ∃ b o, mo = some ⟨b, o, none⟩ ∧ b < w.heap.size ∧ ∀ (i : Nat) (x : Int), ms[i]? = some x → w.cell? ⟨b, o + i, none⟩ = some (.int .i64 x)
/-- The marks in a world, a sweep under way. -/
def SS (w2 wr : World) (bv N : Nat) (vs : List Int) (f : Int → Int) (T : List (Int × Int × Int)) (mb : Bool) : Prop :=
  ∃ g K, Ok w2 wr ∧ VMap wr bv N g K ∧ (∀ v ∈ K, v ∈ vs) ∧ (∀ v, in64 (g v)) ∧ SW vs f T g mb
/-- The marks in a world. -/
def SM (w2 wr : World) (bv N : Nat) (vs : List Int) (g : Int → Int) : Prop :=
  Ok w2 wr ∧ (∃ K, VMap wr bv N g K ∧ ∀ v ∈ K, v ∈ vs) ∧ ∀ v, in64 (g v)
theorem in64_zero : in64 0 := ⟨by omega, by omega⟩
theorem addK_sub {K vs : List Int} {v : Int} (h : ∀ u ∈ K, u ∈ vs) (hv : v ∈ vs) : ∀ u ∈ addK K v, u ∈ vs := by
  intro u hu
  rcases mem_addK.1 hu with h1 | h1
  · exact h u h1
  · rw [h1]; exact hv
theorem updF_in {g : Int → Int} {v y : Int} (h : ∀ v, in64 (g v)) (hy : in64 y) : ∀ u, in64 (updF g v y u) := by
  intro u
  unfold updF
  split
  · exact hy
  · exact h u
theorem SM.put {w2 wr w' : World} {bv N : Nat} {vs K : List Int} {g : Int → Int} {v y : Int} (hok : Ok w2 wr) (hb : bv = w2.heap.size) (hK : ∀ u ∈ K, u ∈ vs) (hi : ∀ u, in64 (g u)) (hv : v ∈ vs) (hy : in64 y) (hm : VMap w' bv (N + 1) (updF g v y) (addK K v)) (hg : wr.grownBy w' (some bv)) : SM w2 w' bv (N + 1) vs (updF g v y) :=
  ⟨Below.grown hok hg hok.le (fun k e => by injection e with e; rw [← e, hb]; exact Nat.le_refl _), ⟨_, hm, addK_sub hK hv⟩, updF_in hi hy⟩
theorem SM.more {w2 wr : World} {bv N M : Nat} {vs : List Int} {g : Int → Int} (h : SM w2 wr bv N vs g) (hm : N ≤ M) : SM w2 wr bv M vs g := by
  obtain ⟨h1, ⟨K, h2, h3⟩, h4⟩ := h; exact ⟨h1, ⟨K, h2.more hm, h3⟩, h4⟩
theorem SM.ok {w2 wr w' : World} {bv N : Nat} {vs : List Int} {g : Int → Int} (h : SM w2 wr bv N vs g) (hk : Ok wr w') : SM w2 w' bv N vs g := by
  obtain ⟨h1, ⟨K, h2, h3⟩, h4⟩ := h; exact ⟨h1.step hk, ⟨K, h2.ok hk, h3⟩, h4⟩
def SN (w2 wr : World) (bv N : Nat) (vs : List Int) (f : Int → Int) (T : List (Int × Int × Int)) (mb : Bool) : Prop := ∃ g, SM w2 wr bv N vs g ∧ SW vs f T g mb
theorem SN.zero {w2 wr : World} {bv N : Nat} {vs : List Int} {f : Int → Int} (h : SM w2 wr bv N vs f) : SN w2 wr bv N vs f [] false := ⟨f, h, SW.zero vs f⟩
theorem SN.more {w2 wr : World} {bv N M : Nat} {vs : List Int} {f : Int → Int} {T : List (Int × Int × Int)} {mb : Bool} (h : SN w2 wr bv N vs f T mb) (hm : N ≤ M) : SN w2 wr bv M vs f T mb := by
  obtain ⟨g, h1, h2⟩ := h; exact ⟨g, h1.more hm, h2⟩
def cntH (L : List (Int × Nat × Bool)) (k : Nat) : Nat := (L.take k).countP (fun e => e.2.2)
theorem cntH_zero (L : List (Int × Nat × Bool)) : cntH L 0 = 0 := rfl
theorem cntH_step {L : List (Int × Nat × Bool)} {k : Nat} {e : Int × Nat × Bool} (h : L[k]? = some e) : cntH L (k + 1) = cntH L k + (if e.2.2 = true then 1 else 0) := by
  obtain ⟨hk, he⟩ := List.getElem?_eq_some_iff.1 h
  unfold cntH
  rw [List.take_succ_eq_append_getElem hk, he, List.countP_append]
  simp [List.countP_cons]
theorem cntH_le (L : List (Int × Nat × Bool)) (k : Nat) : cntH L k ≤ L.length := by
  unfold cntH
  exact Nat.le_trans List.countP_le_length (by rw [List.length_take]; omega)
theorem cntH_all {L : List (Int × Nat × Bool)} {k : Nat} (h : k = L.length) : cntH L k = L.countP (fun e => e.2.2) := by unfold cntH; rw [h, List.take_length]
theorem vs_of {xs : List (Int × Int × Bool)} {L : List (Int × Nat × Bool)} (h : xs = els L) : vsX xs = lv L := by
  rw [h]; unfold vsX els lv; rw [List.map_map]; rfl
theorem Weak.in64s {ts : List (Int × Int)} {root : Int} {L : List (Int × Nat × Bool)} (hw : Weak ts root L) (hr : in64 root) (hi : ∀ x ∈ ts, in64 x.1 ∧ in64 x.2) : ∀ v ∈ lv L, in64 v := hw.rch in64 hr (fun x hx _ => (hi x hx).2)
theorem small_k {k l : Nat} (h : k < l) (hl : l ≤ 121) : k < 1000000000000 := by omega
theorem cw_bnd {c l : Nat} (h : c ≤ l) (hl : l ≤ 121) : IntKind.i64.wrap ((c : Int) + 1) = ((c + 1 : Nat) : Int) := kw_bnd (by omega)
theorem cw2_bnd {s c l : Nat} (h : s ≤ c + 2) (hc : c ≤ l) (hl : l ≤ 121) : IntKind.i64.wrap ((s : Int) + 1) = ((s + 1 : Nat) : Int) := kw_bnd (by omega)
theorem not_over {s c : Nat} (h : s ≤ c + 1) : ¬ ((c + 1 : Nat) : Int) < (s : Int) := by omega
theorem meas2 {s c : Nat} (h : s ≤ c + 1) : ((c : Int) + 3 - ((s + 1 : Nat) : Int)).toNat < ((c : Int) + 3 - (s : Int)).toNat := by omega
theorem n_max {s c i k l t : Nat} (hs : s ≤ c + 1) (hc : c ≤ l) (hl : l ≤ 121) (hi : i < l) (hk : k < t) (ht : t ≤ 120) : 121 + s * 14520 + i * 120 + k < maxLen := by unfold maxLen; omega
theorem n_row {s i k t : Nat} (hk : k = t) (ht : t ≤ 120) : 121 + s * 14520 + i * 120 + k ≤ 121 + s * 14520 + (i + 1) * 120 := by omega
theorem n_sweep {s i l : Nat} (hi : i = l) (hl : l ≤ 121) : 121 + s * 14520 + i * 120 ≤ 121 + (s + 1) * 14520 := by omega
theorem n_first {k l : Nat} (hk : k = l) (hl : l ≤ 121) : k ≤ 121 + 0 * 14520 := by omega
theorem k_max2 {k l : Nat} (h : k < l) (hl : l ≤ 121) : k < maxLen := k_max (small_k h hl)
end Go.Proofs.Ytbakinibehhfnaa
