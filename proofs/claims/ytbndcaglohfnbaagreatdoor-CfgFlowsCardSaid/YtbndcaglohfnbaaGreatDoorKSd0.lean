import Derived.Test.YtbndcaglohfnbaaGreatDoorKSc
set_option linter.unusedVariables false
set_option linter.unusedSimpArgs false
set_option linter.unnecessarySimpa false
/- Sd0 -/
namespace Go.Proofs.YtbndcaglohfnbaaGreatDoor
open Go.RowKit
theorem six_cases {P : Nat → Prop} (h0 : P 0) (h1 : P 1) (h2 : P 2) (h3 : P 3) (h4 : P 4) (h5 : P 5) : ∀ k, k < 6 → P k := by
  intro k hk
  rcases (show k = 0 ∨ k = 1 ∨ k = 2 ∨ k = 3 ∨ k = 4 ∨ k = 5 by omega) with rfl | rfl | rfl | rfl | rfl | rfl
  · exact h0
  · exact h1
  · exact h2
  · exact h3
  · exact h4
  · exact h5
theorem pr_past {w : World} {B g : Nat} {u : Nat → Value} {ns : List Nd} {l : Ls} (h : PrIs w B u ns l) (hb : ∀ k, k < 6 → ∀ b, (u k).ownBlock = some b → b ≠ g) (i : Nat) (v : Value) : PrIs (w.setCell ⟨g, i, none⟩ v) B u ns l := fun k hk => own_same (h k hk) fun b hbb => Below.heap_setCell _ _ _ _ (hb k hk b hbb)
/-- The rows of a copy. -/
def CRows (w : World) (B : Nat) (g d : Nat → Nat) (ns : List Nd) (m : Ls) : Prop := ∀ k, k < 6 → w.ownsRow B (TY k) (SZ k) (.slice (some ⟨g k, 0, none⟩) (nOf ns.length m k + 1) (d k)) (nOf ns.length m k + 1) (xOf ns ns.length m k ++ mkOf k)
theorem CRows.pr {w : World} {B : Nat} {g d : Nat → Nat} {ns : List Nd} {m : Ls} (h : CRows w B g d ns m) : PrIs w B (cpV ns m g d) ns m := fun k hk => own_cut (h k hk) (xOf_len ns m k hk) (Nat.le_succ _)
theorem xOf_zero (ns : List Nd) (l : Ls) : xOf ns ns.length l 0 = ndL ns := by unfold xOf; rw [if_pos rfl, List.take_length]; rfl
theorem cut_so {w : World} {B : Nat} {g d : Nat → Nat} {ns : List Nd} {m : Ls} {p : Nat} (h : CRows w B g d ns m) (hp : p ≤ m.so.length) : PrIs w B (putAt (cpV ns m g d) 5 (.slice (some ⟨g 5, 0, none⟩) p (d 5))) ns { m with so := m.so.take p } := by
  have hr := h.pr
  refine six_cases (hr 0 (by decide)) (hr 1 (by decide)) (hr 2 (by decide)) (hr 3 (by decide)) (hr 4 (by decide)) ?_
  have h5 := h 5 (by decide)
  have e : nOf ns.length { m with so := m.so.take p } 5 = p := by show (m.so.take p).length = p; rw [List.length_take]; omega
  have ex : xOf ns ns.length m 5 ++ mkOf 5 = ((m.so.take p).map fun s => Value.int IntKind.i64 s) ++ (((m.so.drop p).map fun s => Value.int IntKind.i64 s) ++ mkOf 5) := by
    rw [← List.append_assoc, ← List.map_append, List.take_append_drop]; rfl
  rw [ex] at h5
  rw [e]
  exact own_cut h5 (by show ((m.so.take p).map fun s => Value.int IntKind.i64 s).length = p * 1; rw [List.length_map, List.length_take]; omega) (by show p ≤ m.so.length + 1; omega)
theorem ndL_split (ns : List Nd) (p : Nat) : ndL ns = ndL (ns.take p) ++ ndL (ns.drop p) := by rw [← ndL_app, List.take_append_drop]
theorem cut_nd {w : World} {B : Nat} {g d : Nat → Nat} {ns : List Nd} {m : Ls} {p : Nat} (h : CRows w B g d ns m) (hp : p ≤ ns.length) : PrIs w B (putAt (cpV ns m g d) 0 (.slice (some ⟨g 0, 0, none⟩) p (d 0))) (ns.take p) m := by
  have hr := h.pr
  refine six_cases ?_ (hr 1 (by decide)) (hr 2 (by decide)) (hr 3 (by decide)) (hr 4 (by decide)) (hr 5 (by decide))
  have h5 := h 0 (by decide)
  rw [xOf_zero] at h5
  have hl : (ns.take p).length = p := by rw [List.length_take]; omega
  rw [xOf_zero, show nOf (ns.take p).length m 0 = p from hl]
  rw [ndL_split ns p, List.append_assoc] at h5
  exact own_cut h5 (by rw [ndL_len, hl]; rfl) (by show p ≤ ns.length + 1; omega)
theorem put_sc {w : World} {B : Nat} {g d : Nat → Nat} {ns : List Nd} {m : Ls} {v : Value} (hr : ∀ k, k < 6 → k ≠ 1 → w.ownsRow B (TY k) (SZ k) (cpV ns m g d k) (nOf ns.length m k) (xOf ns ns.length m k)) (h1 : w.ownsRow B 9 1 v (m.sc.length + 1) ((m.sc.map fun s => Value.string s) ++ [.string ⟨#[]⟩])) : PrIs w B (putAt (cpV ns m g d) 1 v) ns { m with sc := m.sc ++ [⟨#[]⟩] } := by
  refine six_cases (hr 0 (by decide) (by decide)) ?_ (hr 2 (by decide) (by decide)) (hr 3 (by decide) (by decide)) (hr 4 (by decide) (by decide)) (hr 5 (by decide) (by decide))
  have e1 : nOf ns.length { m with sc := m.sc ++ [⟨#[]⟩] } 1 = m.sc.length + 1 := by show (m.sc ++ [(⟨#[]⟩ : ByteArray)]).length = _; simp
  have e2 : xOf ns ns.length { m with sc := m.sc ++ [⟨#[]⟩] } 1 = (m.sc.map fun s => Value.string s) ++ [.string ⟨#[]⟩] := by show (m.sc ++ [(⟨#[]⟩ : ByteArray)]).map (fun s => Value.string s) = _; simp
  rw [e1, e2]
  exact h1
theorem set_sy {w : World} {B : Nat} {g d : Nat → Nat} {ns : List Nd} {m : Ls} {p : Nat} (h : CRows w B g d ns m) (up : ∀ j k, j < k → k < 6 → g j < g k) (y : Int) : PrIs (w.setCell ⟨g 3, p, none⟩ (.int .i64 y)) B (cpV ns m g d) ns { m with sy := m.sy.set p y } := by
  have hr := h.pr
  have keep : ∀ k, k < 6 → k ≠ 3 → (w.setCell ⟨g 3, p, none⟩ (.int .i64 y)).ownsRow B (TY k) (SZ k) (cpV ns m g d k) (nOf ns.length m k) (xOf ns ns.length m k) := fun k hk hne => own_same (hr k hk) fun b hb => Below.heap_setCell _ _ _ _ (by
    have e : g k = b := Option.some.inj hb
    show b ≠ g 3
    rcases Nat.lt_or_ge k 3 with c | c
    · have := up k 3 c (by decide); omega
    · have := up 3 k (by omega) hk; omega)
  refine six_cases (keep 0 (by decide) (by decide)) (keep 1 (by decide) (by decide)) (keep 2 (by decide) (by decide)) ?_ (keep 4 (by decide) (by decide)) (keep 5 (by decide) (by decide))
  have h3 := (World.ownsRow.stored (hr 3 (by decide)) p (.int .i64 y)).1
  have e1 : nOf ns.length { m with sy := m.sy.set p y } 3 = nOf ns.length m 3 := by show (m.sy.set p y).length = m.sy.length; simp
  have e2 : xOf ns ns.length { m with sy := m.sy.set p y } 3 = (xOf ns ns.length m 3).set p (.int .i64 y) := by show (m.sy.set p y).map _ = (m.sy.map _).set p _; rw [List.map_set]
  rw [e1, e2]
  exact h3
theorem CRows.room {w : World} {B : Nat} {g d : Nat → Nat} {ns : List Nd} {m : Ls} (h : CRows w B g d ns m) (k : Nat) (hk : k < 6) : nOf ns.length m k + 1 ≤ d k ∧ d k ≤ maxLen := own_room (h k hk)
theorem CRows.ok {w w' : World} {B : Nat} {g d : Nat → Nat} {ns : List Nd} {m : Ls} (h : CRows w B g d ns m) (hk : Ok w w') : CRows w' B g d ns m := fun k h6 => own_ok (h k h6) hk
end Go.Proofs.YtbndcaglohfnbaaGreatDoor
