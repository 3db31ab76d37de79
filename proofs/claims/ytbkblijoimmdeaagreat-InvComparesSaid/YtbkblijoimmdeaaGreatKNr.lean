import Derived.Deep.RegionHeld3
import Derived.Test.YtbkblijoimmdeaaGreatKNm
set_option linter.unusedVariables false
set_option linter.unusedSimpArgs false
/- Nr -/
namespace Go.Proofs.YtbkblijoimmdeaaGreat
open Go.RowKit
theorem cnt_set : ∀ (l : List Bool) (i : Nat), l[i]? = some false → (l.set i true).count false + 1 = l.count false
  | [], i, h => by simp at h
  | b :: l, 0, h => by
    simp at h
    subst h
    simp
  | b :: l, i + 1, h => by
    have h' : l[i]? = some false := by simpa using h
    have := cnt_set l i h'
    cases b <;> simp_all <;> omega
theorem getD_false {l : Array Bool} {i : Nat} (h : l.getD i true = false) : l.toList[i]? = some false := by
  rw [Array.getElem?_toList]
  rw [Array.getD_eq_getD_getElem?] at h
  cases e : l[i]? with
  | none => rw [e] at h; cases h
  | some b => rw [e] at h; simp at h; rw [h]
section
variable {P : Program} {ops : Array Oper} {Q : Exit → Act → World → Prop} {md : Region.Mode}
theorem wpAny_inv {I : Array Bool → Act → World → Prop}
    (step : ∀ (l : Array Bool) (a : Act) (w : World) (i : Nat), I l a w → i ∈ Region.ready md ops l → ∀ K : Act → World → Prop, (∀ a' w', I (l.setIfInBounds i true) a' w' → K a' w') → wpOp P ops Q i K a w)
    (fin : ∀ (l : Array Bool) (a : Act) (w : World), I l a w → Region.ready md ops l = [] → Q .normal a w) :
    ∀ (fuel : Nat) (l : Array Bool) (a : Act) (w : World), I l a w → l.toList.count false ≤ fuel → wpAny P md ops Q fuel l a w
  | 0, l, a, w, h, hf => by
    have e : Region.ready md ops l = [] := by
      apply List.eq_nil_iff_forall_not_mem.2
      intro i hi
      have := List.count_pos_iff.2 (List.mem_of_getElem? (getD_false (mem_ready.1 hi).1))
      omega
    exact ⟨e, fin l a w h e⟩
  | fuel + 1, l, a, w, h, hf => by
    refine ⟨fin l a w h, fun i hi => step l a w i h hi _ (fun a' w' h' => wpAny_inv step fin fuel _ a' w' h' ?_)⟩
    have := cnt_set l.toList i (getD_false (mem_ready.1 hi).1)
    rw [Array.toList_setIfInBounds]
    omega
/-- Edges go back: nothing is ready when all is listed alone. -/
def Back (md : Region.Mode) (ops : Array Oper) : Bool := (List.range ops.size).all fun i => ((ops[i]?).map (·.after.all fun e => !Region.binds md e || decide (e.on < i))).getD true
theorem all_listed (hb : Back md ops = true) {l : Array Bool} (hs : l.size = ops.size) (hr : Region.ready md ops l = []) : ∀ i, i < ops.size → l.getD i true = true := by
  intro i
  induction i using Nat.strongRecOn with
  | _ i ih =>
    intro hi
    cases c : l.getD i true with
    | true => rfl
    | false =>
      exfalso
      have hn : i ∉ Region.ready md ops l := by rw [hr]; simp
      apply hn
      rw [mem_ready]
      refine ⟨c, ops[i], Array.getElem?_eq_getElem hi, fun e he hbd => ?_⟩
      have hb' := List.all_eq_true.1 hb i (List.mem_range.2 hi)
      rw [Array.getElem?_eq_getElem hi] at hb'
      simp only [Option.map_some, Option.getD_some, Array.all_eq_true_iff_forall_mem] at hb'
      have h1 := hb' e he
      rw [hbd] at h1
      have hlt : e.on < i := by simpa using h1
      have h2 := ih e.on hlt (by omega)
      rw [Array.getD_eq_getD_getElem?, Array.getElem?_eq_getElem (by omega)] at h2 ⊢
      simpa using h2
theorem wp_region_inv {id : Nat} {F : Act} {W : World} (hm : P.follows .mixedOrders = true) (hg : ops.all (·.guard.isNone) = true) (I : Act → Array Bool → Act → World → Prop)
    (start : I F (Array.replicate ops.size false) F { W with drawn := W.drawn + 1 })
    (step : ∀ (l : Array Bool) (a : Act) (w : World) (i : Nat) (o : Oper), I F l a w → l.getD i true = false → ops[i]? = some o → (∀ e ∈ o.after, Region.binds .any e = true → l.getD e.on false = true) → ∀ K' : Act → World → Prop, Shut (∀ a' w', I F (l.setIfInBounds i true) a' w' → K' a' w') → Oper.wp P o a w K' Q)
    (fin : ∀ (l : Array Bool) (a : Act) (w : World), I F l a w → Region.ready .any ops l = [] → Q .normal a w) : (Code.region id ops true).wp P Q F W := by
  refine wp_region_any hm (wpAny_inv (I := I F) (fun l a w i h hi K hK => ?_) fin _ _ _ _ start ?_)
  · obtain ⟨h0, o, ho, hd⟩ := mem_ready.1 hi
    refine wpOp_step ho (fun K' hK' => ?_)
    have hn : o.guard = none := by
      have := Array.all_eq_true_iff_forall_mem.1 hg o (Array.mem_of_getElem? ho)
      simpa using this
    rw [if_pos (by unfold Region.wanted; rw [hn])]
    exact step l a w i o h h0 ho hd K' (fun a' w' h' => hK' a' w' (hK a' w' h'))
  · simp
end
/-- A new block that holds cells. -/
def PR (W w : World) (s : Value) (cs : Array Value) (t : TypeId) : Prop := ∃ g, s = .pointer (some ⟨g, 0, none⟩) ∧ W.heap.size ≤ g ∧ w.heap[g]? = some (.cells cs t (0, 0))
theorem PR.elim {C : Prop} {W w : World} {s : Value} {cs : Array Value} {t : TypeId} (h : PR W w s cs t) (k : ∀ g, s = .pointer (some ⟨g, 0, none⟩) → W.heap.size ≤ g → w.heap[g]? = some (.cells cs t (0, 0)) → C) : C := by
  obtain ⟨g, e, l, r⟩ := h
  exact k g e l r
theorem PR.step {W w w' : World} {s : Value} {cs : Array Value} {t : TypeId} (h : PR W w s cs t) (hb : Ok w w') : PR W w' s cs t := by
  obtain ⟨g, e, l, r⟩ := h
  exact ⟨g, e, l, Ok.row' hb r⟩
theorem PR.new {W w : World} {cs : Array Value} {t : TypeId} (h : Ok W w) : PR W (w.alloc (.cells cs t (0, 0))) (.pointer (some ⟨w.heap.size, 0, none⟩)) cs t := ⟨w.heap.size, rfl, h.le, heap_new0 _ _⟩
theorem PR.keep {W w w' : World} {s : Value} {cs : Array Value} {t : TypeId} {g : Nat} (h : PR W w s cs t) (hs : s ≠ .pointer (some ⟨g, 0, none⟩)) (k : ∀ (h : Nat) (o : Obj), h ≠ g → w.heap[h]? = some o → w'.heap[h]? = some o) : PR W w' s cs t := by
  obtain ⟨h1, e, l, r⟩ := h
  refine ⟨h1, e, l, k _ _ (fun c => hs ?_) r⟩
  rw [e, c]
end Go.Proofs.YtbkblijoimmdeaaGreat
