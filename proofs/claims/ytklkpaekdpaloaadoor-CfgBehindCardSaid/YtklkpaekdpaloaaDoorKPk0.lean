import Derived.Test.YtklkpaekdpaloaaDoorKPj
set_option linter.unusedVariables false
set_option linter.unusedSimpArgs false
set_option linter.unnecessarySimpa false
namespace Go.Proofs.YtklkpaekdpaloaaDoor
open Go.RowKit
structure PL6 (w : World) (v0 v1 v2 v3 v4 v5 : Value) (ns : List Nd) (l : Ls) : Prop where
 nd : SL w 6 v0 ns.length (ndL ns)
 sc : SL w 1 v1 l.sc.length (l.sc.map fun s => .string s)
 ar : SL w 2 v2 l.ar.length (l.ar.flatMap fun a => [.string a.1, .int .i64 a.2])
 sy : SL w 1 v3 l.sy.length (l.sy.map fun s => .int .i64 s)
 si : SL w 1 v4 l.si.length (l.si.map fun s => .int .i64 s)
 so : SL w 1 v5 l.so.length (l.so.map fun s => .int .i64 s)
theorem PL6.below {w w1 : World} {v0 v1 v2 v3 v4 v5 : Value} {ns : List Nd} {l : Ls} (h : PL6 w v0 v1 v2 v3 v4 v5 ns l) (hb : Ok w w1) : PL6 w1 v0 v1 v2 v3 v4 v5 ns l := ⟨h.nd.below hb, h.sc.below hb, h.ar.below hb, h.sy.below hb, h.si.below hb, h.so.below hb⟩
structure Bd6 (ns : List Nd) (l : Ls) : Prop where
 nd : ns.length ≤ 1000
 sc : l.sc.length ≤ 1000
 ar : l.ar.length ≤ 1000
 sy : l.sy.length ≤ 1000
 si : l.si.length ≤ 1000
 so : l.so.length ≤ 1000
 nm : ∀ n ∈ ns, n.name.size ≤ 281474976710656
 sn : ∀ s ∈ l.sc, s.size ≤ 281474976710656
 an : ∀ a ∈ l.ar, a.1.size ≤ 281474976710656
theorem setCell_same {w : World} {b o : Nat} {u : Value} (h : w.cell? ⟨b, o, none⟩ = some u) : w.setCell ⟨b, o, none⟩ u = w := by
 have hh : (w.setCell ⟨b, o, none⟩ u).heap = w.heap := by
  apply Array.ext_getElem?
  intro i
  by_cases e : i = b
  ·subst e
   unfold World.cell? at h
   simp only [World.setCell, Array.getElem?_modify, if_true]
   cases e2 : w.heap[i]? with
   | none => rfl
   | some x =>
    rw [e2] at h
    cases x with
    | cells c elem frozen =>
     simp only [Option.isSome_none, Bool.false_eq_true, if_false] at h
     obtain ⟨h3, h4⟩ := Array.getElem?_eq_some_iff.1 h
     have hc : c.setIfInBounds o u = c := by
      apply Array.ext_getElem?
      intro j
      rw [Array.getElem?_setIfInBounds]
      split
      ·next e3 =>
       subst e3
       first | exact h.symm | (rw [if_pos h3, h])
      ·rfl
     simp [hc]
    | _ => rfl
  ·exact Below.heap_setCell _ _ _ _ e
 cases w
 unfold World.setCell at hh ⊢
 simp only at hh ⊢
 rw [hh]
theorem sclone_any (s : ByteArray) (w : World) (hs : s.size ≤ 281474976710656) : Calls Tryd.prog 41 #[.string s] w fun e w' => e = .returned (.string s) ∧ Ok w w' := by
 go_enter Tryd.func41, Tryd.ntmps41
 go_wp2_with (first | (go_at_call 67; refine (Tryd.stringslite_Clone s _ hs).mono ?_; rintro e w1 ⟨rfl, hb⟩; have HB : Hid (Ok w w1) := hb; clear hb) | fail)
 go_ret
 exact ⟨rfl, HB.out⟩
def sixF (u0 u1 u2 u3 u4 u5 : Value) (k : Nat) : Value := if k = 0 then u0 else if k = 1 then u1 else if k = 2 then u2 else if k = 3 then u3 else if k = 4 then u4 else u5
theorem PrIs.of6 {w : World} {B : Nat} {u0 u1 u2 u3 u4 u5 : Value} {ns : List Nd} {l : Ls} (h0 : w.ownsRow B 58 6 u0 ns.length (ndL ns)) (h1 : w.ownsRow B 9 1 u1 l.sc.length (l.sc.map fun s => .string s)) (h2 : w.ownsRow B 64 2 u2 l.ar.length (l.ar.flatMap fun a => [.string a.1, .int .i64 a.2])) (h3 : w.ownsRow B 3 1 u3 l.sy.length (l.sy.map fun s => .int .i64 s)) (h4 : w.ownsRow B 3 1 u4 l.si.length (l.si.map fun s => .int .i64 s)) (h5 : w.ownsRow B 3 1 u5 l.so.length (l.so.map fun s => .int .i64 s)) : PrIs w B (sixF u0 u1 u2 u3 u4 u5) ns l := by
 intro k hk
 have e : xOf ns ns.length l 0 = ndL ns := by unfold xOf; rw [if_pos rfl, List.take_length]; rfl
 rcases (show k = 0 ∨ k = 1 ∨ k = 2 ∨ k = 3 ∨ k = 4 ∨ k = 5 by omega) with rfl | rfl | rfl | rfl | rfl | rfl
 ·rw [e]; exact h0
 ·exact h1
 ·exact h2
 ·exact h3
 ·exact h4
 ·exact h5
theorem own_six6 {x : World} {B gq : Nat} {e : TypeId} {s n : Nat} {v : Value} {xs : List Value} {a0 a1 a2 a3 a4 a5 : Value} (h : x.ownsRow B e s v n xs) (he : e ≠ 28) (hs : Six x gq a0 a1 a2 a3 a4 a5) (b0 b1 b2 b3 b4 b5 : Value) :
  ((((((x.setCell ⟨gq, 0, none⟩ b0).setCell ⟨gq, 1, none⟩ b1).setCell ⟨gq, 2, none⟩ b2).setCell ⟨gq, 3, none⟩ b3).setCell ⟨gq, 4, none⟩ b4).setCell ⟨gq, 5, none⟩ b5).ownsRow B e s v n xs := by
 refine own_same h fun b hb => ?_
 have hne : b ≠ gq := by
  intro e'
  subst e'
  rcases h.2 with ⟨rfl, _⟩ | ⟨g, cap, cur, rfl, _, hg, _⟩
  ·cases hb
  ·have : b = g := by
    have := Option.some.inj hb
    exact this.symm
   subst this
   have h2 := hg.symm.trans hs.heap
   injection h2 with h2
   injection h2 with _ h3 _
   exact he h3
 rw [Below.heap_setCell _ ⟨gq, 5, none⟩ b5 b hne, Below.heap_setCell _ ⟨gq, 4, none⟩ b4 b hne, Below.heap_setCell _ ⟨gq, 3, none⟩ b3 b hne, Below.heap_setCell _ ⟨gq, 2, none⟩ b2 b hne, Below.heap_setCell _ ⟨gq, 1, none⟩ b1 b hne, Below.heap_setCell _ ⟨gq, 0, none⟩ b0 b hne]
theorem six_six6 {x : World} {gr gq : Nat} {c0 c1 c2 c3 c4 c5 : Value} (h : Six x gr c0 c1 c2 c3 c4 c5) (hne : gr ≠ gq) (b0 b1 b2 b3 b4 b5 : Value) :
  Six ((((((x.setCell ⟨gq, 0, none⟩ b0).setCell ⟨gq, 1, none⟩ b1).setCell ⟨gq, 2, none⟩ b2).setCell ⟨gq, 3, none⟩ b3).setCell ⟨gq, 4, none⟩ b4).setCell ⟨gq, 5, none⟩ b5) gr c0 c1 c2 c3 c4 c5 := by
 constructor
 rw [Below.heap_setCell _ ⟨gq, 5, none⟩ b5 gr hne, Below.heap_setCell _ ⟨gq, 4, none⟩ b4 gr hne, Below.heap_setCell _ ⟨gq, 3, none⟩ b3 gr hne, Below.heap_setCell _ ⟨gq, 2, none⟩ b2 gr hne, Below.heap_setCell _ ⟨gq, 1, none⟩ b1 gr hne, Below.heap_setCell _ ⟨gq, 0, none⟩ b0 gr hne]
 exact h.heap
theorem TY_ne (k : Nat) (hk : k < 6) : TY k ≠ 28 := by
 rcases (show k = 0 ∨ k = 1 ∨ k = 2 ∨ k = 3 ∨ k = 4 ∨ k = 5 by omega) with rfl | rfl | rfl | rfl | rfl | rfl <;> decide
theorem PrIs.nd0 {w : World} {B : Nat} {u0 u1 u2 u3 u4 u5 : Value} {ns : List Nd} {l : Ls} (h : PrIs w B (sixF u0 u1 u2 u3 u4 u5) ns l) : w.ownsRow B 58 6 u0 ns.length (ndL ns) := by
 have := h 0 (by decide)
 have e : xOf ns ns.length l 0 = ndL ns := by unfold xOf; rw [if_pos rfl, List.take_length]; rfl
 rw [e] at this
 exact this
theorem own_ne6 {x : World} {B gq b : Nat} {e : TypeId} {s n : Nat} {v : Value} {xs : List Value} {a0 a1 a2 a3 a4 a5 : Value} (h : x.ownsRow B e s v n xs) (he : e ≠ 28) (hs : Six x gq a0 a1 a2 a3 a4 a5) (hb : v.ownBlock = some b) : ¬ b = gq := by
 intro e'
 subst e'
 rcases h.2 with ⟨rfl, _⟩ | ⟨g, cap, cur, rfl, _, hg, _⟩
 ·cases hb
 ·have : b = g := by
   have := Option.some.inj hb
   exact this.symm
  subst this
  have h2 := hg.symm.trans hs.heap
  injection h2 with h2
  injection h2 with _ h3 _
  exact he h3
structure OwF (w Y : World) (gq : Nat) (u0 u1 u2 u3 u4 u5 : Value) (ns : List Nd) (l : Ls) : Prop where
 six : Six Y gq u0 u1 u2 u3 u4 u5
 res : Six Y (w.heap.size + 1) (.slice none 0 0) (.slice none 0 0) (.slice none 0 0) (.slice none 0 0) (.slice none 0 0) (.slice none 0 0)
 ne : gq ≠ w.heap.size + 1
 ge : w.heap.size ≤ gq
 ok : Ok w Y
 pr : PrIs Y w.heap.size (sixF u0 u1 u2 u3 u4 u5) ns l
end Go.Proofs.YtklkpaekdpaloaaDoor
