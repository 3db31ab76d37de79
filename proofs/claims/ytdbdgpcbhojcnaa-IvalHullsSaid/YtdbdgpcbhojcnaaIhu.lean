import Derived.Test.YtdbdgpcbhojcnaaIask
import Derived.Test.YtdbdgpcbhojcnaaIdh
set_option linter.unusedVariables false
set_option linter.unusedSimpArgs false
/- What IvalHulls gathers, number by number, is the answer: plain mathematics. -/
namespace Go.Proofs.Ytdbdgpcbhojcnaa
open Go.RowKit
/-- One result more: the hull so far, and whether one wrapped. -/
def stepH (s : Int × Int × Bool) (d : Int × Bool × Bool) : Int × Int × Bool :=
  if d.2.1 = true then ((if s.2.1 < s.1 then d.1 else min s.1 d.1), (if s.2.1 < s.1 then d.1 else max s.2.1 d.1), s.2.2 || d.2.2) else s
def ResD (D : Int × Bool × Bool → Prop) (r : Int) : Prop := ∃ d, D d ∧ d.2.1 = true ∧ r = d.1
def GotD (D : Int × Bool × Bool → Prop) (s : Int × Int × Bool) : Prop :=
  Hull (ResD D) s.1 s.2.1 ∧ (s.2.2 = true ↔ ∃ d, D d ∧ d.2.1 = true ∧ d.2.2 = true)
theorem GotD.congr {D E : Int × Bool × Bool → Prop} {s : Int × Int × Bool} (h : GotD D s) (e : ∀ d, D d ↔ E d) : GotD E s := by
  have : D = E := funext fun d => propext (e d)
  exact this ▸ h
theorem GotD.step {D : Int × Bool × Bool → Prop} {s : Int × Int × Bool} (h : GotD D s) (d : Int × Bool × Bool) : GotD (fun e => D e ∨ e = d) (stepH s d) := by
  obtain ⟨h1, h2⟩ := h
  unfold stepH
  by_cases t : d.2.1 = true
  · rw [if_pos t]
    refine ⟨?_, ?_⟩
    · have here : ResD (fun e => D e ∨ e = d) d.1 := ⟨d, Or.inr rfl, t, rfl⟩
      have old : ∀ r, ResD D r → ResD (fun e => D e ∨ e = d) r := fun r ⟨e, a, b, c⟩ => ⟨e, Or.inl a, b, c⟩
      have back : ∀ r, ResD (fun e => D e ∨ e = d) r → ResD D r ∨ r = d.1 := by
        rintro r ⟨e, a | a, b, c⟩
        · exact Or.inl ⟨e, a, b, c⟩
        · subst a; exact Or.inr c
      rcases h1 with ⟨a, b, c⟩ | ⟨a, b, c⟩
      · refine Or.inr ?_
        simp only
        rw [if_pos (by omega), if_pos (by omega)]
        refine ⟨here, here, fun v hv => ?_⟩
        rcases back v hv with h | h
        · exact absurd h (c v)
        · omega
      · have := c _ a
        refine Or.inr ?_
        simp only
        rw [if_neg (by omega), if_neg (by omega)]
        refine ⟨min_or (old _ a) here, max_or (old _ b) here, fun v hv => ?_⟩
        rcases back v hv with h | h
        · have := c v h; omega
        · omega
    · simp only [Bool.or_eq_true]
      constructor
      · rintro (h | h)
        · obtain ⟨e, a, b, c⟩ := h2.1 h; exact ⟨e, Or.inl a, b, c⟩
        · exact ⟨d, Or.inr rfl, t, h⟩
      · rintro ⟨e, a | a, b, c⟩
        · exact Or.inl (h2.2 ⟨e, a, b, c⟩)
        · subst a; exact Or.inr c
  · rw [if_neg t]
    refine ⟨h1.congr fun v => ⟨fun ⟨e, a, b, c⟩ => ⟨e, Or.inl a, b, c⟩, ?_⟩, h2.trans ⟨fun ⟨e, a, b, c⟩ => ⟨e, Or.inl a, b, c⟩, ?_⟩⟩
    · rintro ⟨e, a | a, b, c⟩
      · exact ⟨e, a, b, c⟩
      · subst a; exact absurd b t
    · rintro ⟨e, a | a, b, c⟩
      · exact ⟨e, a, b, c⟩
      · subst a; exact absurd b t
theorem GotD.row {f : Int → Int × Bool × Bool} (bs : List Int) : ∀ {D : Int × Bool × Bool → Prop} {s : Int × Int × Bool}, GotD D s → GotD (fun e => D e ∨ ∃ y, y ∈ bs ∧ e = f y) (bs.foldl (fun s y => stepH s (f y)) s) := by
  induction bs with
  | nil => intro D s h; exact h.congr fun d => ⟨Or.inl, fun h => h.elim id fun ⟨y, a, _⟩ => absurd a List.not_mem_nil⟩
  | cons y bs ih =>
    intro D s h
    refine (ih (h.step (f y))).congr fun d => ?_
    constructor
    · rintro ((a | a) | ⟨z, a, b⟩)
      · exact Or.inl a
      · exact Or.inr ⟨y, List.mem_cons_self, a⟩
      · exact Or.inr ⟨z, List.mem_cons_of_mem _ a, b⟩
    · rintro (a | ⟨z, a, b⟩)
      · exact Or.inl (Or.inl a)
      · rcases List.mem_cons.1 a with rfl | c
        · exact Or.inl (Or.inr b)
        · exact Or.inr ⟨z, c, b⟩
theorem GotD.all {f : Int → Int → Int × Bool × Bool} (bs us : List Int) : ∀ {D : Int × Bool × Bool → Prop} {s : Int × Int × Bool}, GotD D s → GotD (fun e => D e ∨ ∃ x, x ∈ us ∧ ∃ y, y ∈ bs ∧ e = f x y) (us.foldl (fun s x => bs.foldl (fun s y => stepH s (f x y)) s) s) := by
  induction us with
  | nil => intro D s h; exact h.congr fun d => ⟨Or.inl, fun h => h.elim id fun ⟨y, a, _⟩ => absurd a List.not_mem_nil⟩
  | cons x us ih =>
    intro D s h
    refine (ih (GotD.row (f := f x) bs h)).congr fun d => ?_
    constructor
    · rintro ((a | a) | ⟨z, a, b⟩)
      · exact Or.inl a
      · exact Or.inr ⟨x, List.mem_cons_self, a⟩
      · exact Or.inr ⟨z, List.mem_cons_of_mem _ a, b⟩
    · rintro (a | ⟨z, a, b⟩)
      · exact Or.inl (Or.inl a)
      · rcases List.mem_cons.1 a with rfl | c
        · exact Or.inl (Or.inr b)
        · exact Or.inr ⟨z, c, b⟩
theorem GotD.none : GotD (fun _ => False) (1, 0, false) := by
  refine ⟨Or.inl ⟨rfl, rfl, fun v ⟨d, h, _⟩ => h⟩, ?_⟩
  simp
def allD (k : Nat) (us bs : List Int) : Int × Int × Bool := us.foldl (fun s x => bs.foldl (fun s y => stepH s (dnK k x y)) s) (1, 0, false)
theorem bool_not {a b : Bool} (h : a = true ↔ ¬ b = true) : a = !b := by cases a <;> cases b <;> simp at *
set_option maxHeartbeats 1000000 in
theorem hullK {k : Nat} (hk : k < 6) {al ah bl bh : Int} {s : Int × Int × Bool} (ha1 : In64 al) (ha2 : In64 ah) (hb1 : In64 bl) (hb2 : In64 bh) (e1 : al ≤ ah) (e2 : bl ≤ bh)
    (hs : GotD (fun e => ∃ x, Mem al ah x ∧ ∃ y, Mem bl bh y ∧ e = dnK k x y) s) :
    (opK k al ah bl bh).2.2 = !s.2.2 ∧
    ((k ≠ 3 ∨ s.2.2 = false) → k ≠ 5 → (opK k al ah bl bh).1 = s.1 ∧ (opK k al ah bl bh).2.1 = s.2.1) ∧
    (s.1 ≤ s.2.1 → (opK k al ah bl bh).1 ≤ s.1 ∧ s.2.1 ≤ (opK k al ah bl bh).2.1) ∧
    (s.2.1 < s.1 → (opK k al ah bl bh).1 = s.1 ∧ (opK k al ah bl bh).2.1 = s.2.1) := by
  obtain ⟨hh, hw⟩ := hs
  have ma : Mem al ah al := by unfold Mem; omega
  have mb : Mem bl bh bl := by unfold Mem; omega
  have E : (opK k al ah bl bh).2.2 = !s.2.2 := by
    refine bool_not ?_
    rw [hw]
    match k, hk with
    | 0, _ =>
      refine (neg_exact al ah).trans ⟨?_, ?_⟩
      · rintro h ⟨d, ⟨x, hx, y, hy, rfl⟩, _, h3⟩
        simp [dnK, h x hx] at h3
      · intro h x hx
        refine Classical.byContradiction fun c => h ⟨_, ⟨x, hx, bl, mb, rfl⟩, rfl, ?_⟩
        simp [dnK, c]
    | 1, _ =>
      refine (add_exact al ah bl bh).trans ⟨?_, ?_⟩
      · rintro h ⟨d, ⟨x, hx, y, hy, rfl⟩, _, h3⟩
        simp [dnK, h x y hx hy] at h3
      · intro h x y hx hy
        refine Classical.byContradiction fun c => h ⟨_, ⟨x, hx, y, hy, rfl⟩, rfl, ?_⟩
        simp [dnK, c]
    | 2, _ =>
      refine (sub_exact al ah bl bh).trans ⟨?_, ?_⟩
      · rintro h ⟨d, ⟨x, hx, y, hy, rfl⟩, _, h3⟩
        simp [dnK, h x y hx hy] at h3
      · intro h x y hx hy
        refine Classical.byContradiction fun c => h ⟨_, ⟨x, hx, y, hy, rfl⟩, rfl, ?_⟩
        simp [dnK, c]
    | 3, _ =>
      refine (mul_exact al ah bl bh).trans ⟨?_, ?_⟩
      · rintro h ⟨d, ⟨x, hx, y, hy, rfl⟩, _, h3⟩
        simp [dnK, h x y hx hy] at h3
      · intro h x y hx hy
        refine Classical.byContradiction fun c => h ⟨_, ⟨x, hx, y, hy, rfl⟩, rfl, ?_⟩
        simp [dnK, c]
    | 4, _ =>
      refine (div_exact hb1 hb2 ha1 ha2).trans ⟨?_, ?_⟩
      · rintro h ⟨d, ⟨x, hx, y, hy, rfl⟩, h2, h3⟩
        by_cases h0 : y = 0
        · simp [dnK, h0] at h2
        · simp [dnK, h0, h x y hx hy h0] at h3
      · intro h x y hx hy h0
        refine Classical.byContradiction fun c => h ⟨_, ⟨x, hx, y, hy, rfl⟩, ?_, ?_⟩
        · simp [dnK, h0]
        · simp [dnK, h0, c]
    | 5, _ =>
      refine ⟨?_, fun _ => rem_exact al ah bl bh⟩
      rintro _ ⟨d, ⟨x, hx, y, hy, rfl⟩, h2, h3⟩
      by_cases h0 : y = 0
      · simp [dnK, h0] at h2
      · simp [dnK, h0] at h3
  have Q : (k ≠ 3 ∨ s.2.2 = false) → k ≠ 5 → (opK k al ah bl bh).1 = s.1 ∧ (opK k al ah bl bh).2.1 = s.2.1 := by
    intro h3 h5
    have hk' : k = 0 ∨ k = 1 ∨ k = 2 ∨ k = 3 ∨ k = 4 := by omega
    rcases hk' with rfl | rfl | rfl | rfl | rfl
    · show (negI al ah).1 = s.1 ∧ (negI al ah).2.1 = s.2.1
      refine (neg_hull al ah).uniq (hh.congr fun v => ⟨?_, ?_⟩)
      · rintro ⟨d, ⟨x, hx, y, hy, rfl⟩, _, rfl⟩; exact ⟨x, hx, rfl⟩
      · rintro ⟨x, hx, rfl⟩; exact ⟨_, ⟨x, hx, bl, mb, rfl⟩, rfl, rfl⟩
    · show (addI al ah bl bh).1 = s.1 ∧ (addI al ah bl bh).2.1 = s.2.1
      refine (add_hull al ah bl bh).uniq (hh.congr fun v => ⟨?_, ?_⟩)
      · rintro ⟨d, ⟨x, hx, y, hy, rfl⟩, _, rfl⟩; exact ⟨x, y, hx, hy, rfl⟩
      · rintro ⟨x, y, hx, hy, rfl⟩; exact ⟨_, ⟨x, hx, y, hy, rfl⟩, rfl, rfl⟩
    · show (subI al ah bl bh).1 = s.1 ∧ (subI al ah bl bh).2.1 = s.2.1
      refine (sub_hull al ah bl bh).uniq (hh.congr fun v => ⟨?_, ?_⟩)
      · rintro ⟨d, ⟨x, hx, y, hy, rfl⟩, _, rfl⟩; exact ⟨x, y, hx, hy, rfl⟩
      · rintro ⟨x, y, hx, hy, rfl⟩; exact ⟨_, ⟨x, hx, y, hy, rfl⟩, rfl, rfl⟩
    · show (mulI al ah bl bh).1 = s.1 ∧ (mulI al ah bl bh).2.1 = s.2.1
      have e : (mulI al ah bl bh).2.2 = true := by
        rcases h3 with h | h
        · omega
        · have E' : (mulI al ah bl bh).2.2 = !s.2.2 := E
          rw [h] at E'; exact E'
      refine (mul_hull e).uniq (hh.congr fun v => ⟨?_, ?_⟩)
      · rintro ⟨d, ⟨x, hx, y, hy, rfl⟩, _, rfl⟩; exact ⟨x, y, hx, hy, rfl⟩
      · rintro ⟨x, y, hx, hy, rfl⟩; exact ⟨_, ⟨x, hx, y, hy, rfl⟩, rfl, rfl⟩
    · show (divI al ah bl bh).1 = s.1 ∧ (divI al ah bl bh).2.1 = s.2.1
      refine (div_hull ha1 ha2 hb1 hb2).uniq (hh.congr fun v => ⟨?_, ?_⟩)
      · rintro ⟨d, ⟨x, hx, y, hy, rfl⟩, h2, rfl⟩
        by_cases h0 : y = 0
        · simp [dnK, h0] at h2
        · exact ⟨x, y, hx, hy, h0, by simp [dnK, h0]⟩
      · rintro ⟨x, y, hx, hy, h0, rfl⟩; exact ⟨_, ⟨x, hx, y, hy, rfl⟩, by simp [dnK, h0], by simp [dnK, h0]⟩
  refine ⟨E, Q, fun h => ?_, fun h => ?_⟩
  · rcases hh with ⟨a, b, _⟩ | ⟨⟨d, ⟨x, hx, y, hy, rfl⟩, h2, h3⟩, ⟨d', ⟨x', hx', y', hy', rfl⟩, h2', h3'⟩, _⟩
    · omega
    · have p := (holdK ha1 ha2 hb1 hb2 hx hy h2).1
      have q := (holdK ha1 ha2 hb1 hb2 hx' hy' h2').1
      rw [← h3] at p; rw [← h3'] at q
      unfold Mem at p q
      exact ⟨p.1, q.2⟩
  · rcases hh with ⟨a, b, c⟩ | ⟨a, b, c⟩
    · by_cases h5 : k = 5
      · subst h5
        have hz : ∀ y, Mem bl bh y → y = 0 := fun y hy => Classical.byContradiction fun h0 => c _ ⟨_, ⟨al, ma, y, hy, rfl⟩, by simp [dnK, h0], rfl⟩
        have := rem_zero (al := al) (ah := ah) hz
        show (remI al ah bl bh).1 = _ ∧ (remI al ah bl bh).2.1 = _
        rw [this, a, b]; exact ⟨rfl, rfl⟩
      · by_cases h3 : k = 3
        · subst h3
          exact absurd ⟨_, ⟨al, ma, bl, mb, rfl⟩, rfl, rfl⟩ (c (dnK 3 al bl).1)
        · exact Q (Or.inl h3) h5
    · have := c _ a; omega
end Go.Proofs.Ytdbdgpcbhojcnaa
