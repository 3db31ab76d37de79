import Derived.Test.YtbkblijoimmdeaaKNmath
set_option linter.unusedVariables false
set_option linter.unusedSimpArgs false
/- Nset -/
namespace Go.Proofs.Ytbkblijoimmdeaa
open Go.RowKit
/-- As it may come in: numbers of 64 bits. -/
def RawN (a : Int × Int × Nat × Nat × Bool) : Prop := In64 a.1 ∧ In64 a.2.1 ∧ U64 a.2.2.1 ∧ U64 a.2.2.2.1
theorem in_zero : In64 0 := by unfold In64; omega
theorem u_zero : U64 0 := by unfold U64; omega
theorem bot_raw : RawN botN := ⟨in_zero, in_zero, u_zero, u_zero⟩
theorem const_raw {v : Int} (h : In64 v) : RawN (constN v) := ⟨h, h, u_zero, bitsN_u64 _⟩
theorem make_raw {lo hi : Int} {M R : Nat} (hl : In64 lo) (hh : In64 hi) (hM : U64 M) (hR : U64 R) : RawN (makeN lo hi M R) := by
  have n := make_norm (M := M) (R := R) hl hh
  have u : ∀ {x : Int}, In64 x → RawN (constN x) := fun h => const_raw h
  unfold makeN at n ⊢
  split
  · exact bot_raw
  · rename_i h0
    rw [if_neg h0] at n
    split
    · exact bot_raw
    · rename_i h1
      rw [if_neg h1] at n
      split
      · rename_i h2
        rw [if_pos h2] at n
        rcases n with n | n
        · have := congrArg (fun a => a.2.2.2.2) n
          cases this
        · exact const_raw n.2.1
      · rename_i h2
        rw [if_neg h2] at n
        rcases n with n | n
        · have := congrArg (fun a => a.2.2.2.2) n
          cases this
        · exact ⟨n.2.1, n.2.2.1, (normC_u64 hM hR).1, (normC_u64 hM hR).2⟩
def normN (a : Int × Int × Nat × Nat × Bool) : Int × Int × Nat × Nat × Bool := if a.2.2.2.2 = true then botN else makeN a.1 a.2.1 a.2.2.1 a.2.2.2.1
theorem normN_mem {a : Int × Int × Nat × Nat × Bool} (h : RawN a) {v : Int} (hv : In64 v) : MemN (normN a) v ↔ MemN a v := by
  unfold normN
  by_cases b : a.2.2.2.2 = true
  · rw [if_pos b]
    exact ⟨fun x => absurd x (memN_bot v), fun x => by have := x.1; rw [b] at this; cases this⟩
  · rw [if_neg b, make_mem h.1 h.2.1 hv]
    have b' : a.2.2.2.2 = false := by simpa using b
    exact ⟨fun x => ⟨b', x⟩, fun x => x.2⟩
theorem normN_norm {a : Int × Int × Nat × Nat × Bool} (h : RawN a) : NormN (normN a) := by
  unfold normN
  split
  · exact Or.inl rfl
  · exact make_norm h.1 h.2.1
theorem normN_raw {a : Int × Int × Nat × Nat × Bool} (h : RawN a) : RawN (normN a) := by
  unfold normN
  split
  · exact bot_raw
  · exact make_raw h.1 h.2.1 h.2.2.1 h.2.2.2
/-- A normal form is its own. -/
theorem normN_id {a : Int × Int × Nat × Nat × Bool} (h : RawN a) (n : NormN a) : normN a = a := norm_ext (normN_norm h) n (fun v hv => normN_mem h hv)
theorem norm_some {a : Int × Int × Nat × Nat × Bool} (n : NormN a) (h : a.2.2.2.2 = false) : a.1 ≤ a.2.1 := by
  rcases n with rfl | n
  · cases h
  · exact n.2.2.2.1
def joinRaw (a b : Int × Int × Nat × Nat × Bool) : Int × Int × Nat × Nat × Bool :=
  if a.2.2.2.2 = true then b else if b.2.2.2.2 = true then a
  else makeN (joinI a.1 a.2.1 b.1 b.2.1).1 (joinI a.1 a.2.1 b.1 b.2.1).2 (joinC a.2.2.1 a.2.2.2.1 b.2.2.1 b.2.2.2.1).1 (joinC a.2.2.1 a.2.2.2.1 b.2.2.1 b.2.2.2.1).2
def joinN (a b : Int × Int × Nat × Nat × Bool) : Int × Int × Nat × Nat × Bool := joinRaw (normN a) (normN b)
theorem joinI_in {al ah bl bh : Int} (h1 : In64 al) (h2 : In64 ah) (h3 : In64 bl) (h4 : In64 bh) : In64 (joinI al ah bl bh).1 ∧ In64 (joinI al ah bl bh).2 := by
  unfold joinI normI
  unfold In64 at *
  split
  · split <;> (simp only; omega)
  · split <;> (simp only; omega)
theorem meetI_in {al ah bl bh : Int} (h1 : In64 al) (h2 : In64 ah) (h3 : In64 bl) (h4 : In64 bh) : In64 (meetI al ah bl bh).1 ∧ In64 (meetI al ah bl bh).2 := by
  unfold meetI normI
  unfold In64 at *
  split <;> (simp only; omega)
theorem joinRaw_mem {a b : Int × Int × Nat × Nat × Bool} (ha : RawN a) (hb : RawN b) {v : Int} (hv : In64 v) (h : MemN a v ∨ MemN b v) : MemN (joinRaw a b) v := by
  unfold joinRaw
  by_cases x : a.2.2.2.2 = true
  · rw [if_pos x]
    rcases h with h | h
    · have := h.1; rw [x] at this; cases this
    · exact h
  · rw [if_neg x]
    by_cases y : b.2.2.2.2 = true
    · rw [if_pos y]
      rcases h with h | h
      · exact h
      · have := h.1; rw [y] at this; cases this
    · have i := joinI_in ha.1 ha.2.1 hb.1 hb.2.1
      rw [if_neg y, make_mem i.1 i.2 hv]
      have m := joinI_mem (al := a.1) (ah := a.2.1) (bl := b.1) (bh := b.2.1) (v := v) (by
        rcases h with h | h
        · exact Or.inl ⟨h.2.1, h.2.2.1⟩
        · exact Or.inr ⟨h.2.1, h.2.2.1⟩)
      refine ⟨m.1, m.2, ?_⟩
      rcases h with h | h
      · exact join_left h.2.2.2
      · exact join_right h.2.2.2
theorem joinN_mem {a b : Int × Int × Nat × Nat × Bool} (ha : RawN a) (hb : RawN b) {v : Int} (hv : In64 v) (h : MemN a v ∨ MemN b v) : MemN (joinN a b) v :=
  joinRaw_mem (normN_raw ha) (normN_raw hb) hv (by rw [normN_mem ha hv, normN_mem hb hv]; exact h)
/-- Join is below what is above both. -/
theorem joinN_least {a b c : Int × Int × Nat × Nat × Bool} (ha : RawN a) (hb : RawN b) (hc : RawN c) (nc : NormN c) (h1 : ∀ v, In64 v → MemN a v → MemN c v) (h2 : ∀ v, In64 v → MemN b v → MemN c v) {v : Int} (hv : In64 v) (h : MemN (joinN a b) v) : MemN c v := by
  have ra := normN_raw ha
  have rb := normN_raw hb
  have na := normN_norm ha
  have nb := normN_norm hb
  have l1 := (leqN_iff na nc ra.2.2.2 hc.2.2.2).2 (fun v hv m => h1 v hv ((normN_mem ha hv).1 m))
  have l2 := (leqN_iff nb nc rb.2.2.2 hc.2.2.2).2 (fun v hv m => h2 v hv ((normN_mem hb hv).1 m))
  unfold joinN joinRaw at h
  by_cases x : (normN a).2.2.2.2 = true
  · rw [if_pos x] at h
    exact h2 v hv ((normN_mem hb hv).1 h)
  rw [if_neg x] at h
  by_cases y : (normN b).2.2.2.2 = true
  · rw [if_pos y] at h
    exact h1 v hv ((normN_mem ha hv).1 h)
  have i := joinI_in ra.1 ra.2.1 rb.1 rb.2.1
  rw [if_neg y, make_mem i.1 i.2 hv] at h
  have x' : (normN a).2.2.2.2 = false := by simpa using x
  have y' : (normN b).2.2.2.2 = false := by simpa using y
  have sa := norm_some na x'
  have sb := norm_some nb y'
  have cb : c.2.2.2.2 = false := by
    rcases na with na | na
    · rw [na] at x'; cases x'
    · exact (h1 _ na.2.1 ((normN_mem ha na.2.1).1 (norm_ends na).1)).1
  have q : ¬ ((normN a).2.2.2.2 = true ∨ c.2.2.2.2 = true) := by rw [x', cb]; simp
  have r : ¬ ((normN b).2.2.2.2 = true ∨ c.2.2.2.2 = true) := by rw [y', cb]; simp
  unfold leqN at l1 l2
  rw [if_neg q, Bool.and_eq_true, decide_eq_true_iff, leqC_iff ra.2.2.2 hc.2.2.2] at l1
  rw [if_neg r, Bool.and_eq_true, decide_eq_true_iff, leqC_iff rb.2.2.2 hc.2.2.2] at l2
  refine ⟨cb, ?_, ?_, join_least l1.2 l2.2 h.2.2⟩
  · have a1 := h.1
    unfold joinI at a1
    rw [if_neg (by omega), if_neg (by omega)] at a1
    simp only at a1
    omega
  · have a1 := h.2.1
    unfold joinI at a1
    rw [if_neg (by omega), if_neg (by omega)] at a1
    simp only at a1
    omega
def meetRaw (a b : Int × Int × Nat × Nat × Bool) : Int × Int × Nat × Nat × Bool :=
  if a.2.2.2.2 = true ∨ b.2.2.2.2 = true then botN
  else if (meetC a.2.2.1 a.2.2.2.1 b.2.2.1 b.2.2.2.1).2.2 = false then botN
  else makeN (meetI a.1 a.2.1 b.1 b.2.1).1 (meetI a.1 a.2.1 b.1 b.2.1).2 (meetC a.2.2.1 a.2.2.2.1 b.2.2.1 b.2.2.2.1).1 (meetC a.2.2.1 a.2.2.2.1 b.2.2.1 b.2.2.2.1).2.1
def meetN (a b : Int × Int × Nat × Nat × Bool) : Int × Int × Nat × Nat × Bool := meetRaw (normN a) (normN b)
theorem meetRaw_mem {a b : Int × Int × Nat × Nat × Bool} (ha : RawN a) (hb : RawN b) {v : Int} (hv : In64 v) : MemN (meetRaw a b) v ↔ MemN a v ∧ MemN b v := by
  unfold meetRaw
  have m := meet_mem (cM := a.2.2.1) (dM := b.2.2.1) ha.2.2.2 hb.2.2.2 hv
  by_cases x : a.2.2.2.2 = true ∨ b.2.2.2.2 = true
  · rw [if_pos x]
    refine ⟨fun h => absurd h (memN_bot v), fun h => ?_⟩
    rcases x with x | x
    · have := h.1.1; rw [x] at this; cases this
    · have := h.2.1; rw [x] at this; cases this
  rw [if_neg x]
  have xa : a.2.2.2.2 = false := by
    cases h : a.2.2.2.2
    · rfl
    · exact absurd (Or.inl h) x
  have xb : b.2.2.2.2 = false := by
    cases h : b.2.2.2.2
    · rfl
    · exact absurd (Or.inr h) x
  by_cases y : (meetC a.2.2.1 a.2.2.2.1 b.2.2.1 b.2.2.2.1).2.2 = false
  · rw [if_pos y]
    refine ⟨fun h => absurd h (memN_bot v), fun h => ?_⟩
    have := (m.2 ⟨h.1.2.2.2, h.2.2.2.2⟩).1
    rw [y] at this; cases this
  · have y' : (meetC a.2.2.1 a.2.2.2.1 b.2.2.1 b.2.2.2.1).2.2 = true := by simpa using y
    have i := meetI_in ha.1 ha.2.1 hb.1 hb.2.1
    rw [if_neg y, make_mem i.1 i.2 hv]
    have k := meetI_mem a.1 a.2.1 b.1 b.2.1 v
    constructor
    · intro h
      have p := k.1 ⟨h.1, h.2.1⟩
      have q := m.1 ⟨y', h.2.2⟩
      exact ⟨⟨xa, p.1.1, p.1.2, q.1⟩, ⟨xb, p.2.1, p.2.2, q.2⟩⟩
    · intro h
      have p := k.2 ⟨⟨h.1.2.1, h.1.2.2.1⟩, ⟨h.2.2.1, h.2.2.2.1⟩⟩
      exact ⟨p.1, p.2, (m.2 ⟨h.1.2.2.2, h.2.2.2.2⟩).2⟩
theorem meetN_mem {a b : Int × Int × Nat × Nat × Bool} (ha : RawN a) (hb : RawN b) {v : Int} (hv : In64 v) : MemN (meetN a b) v ↔ MemN a v ∧ MemN b v := by
  unfold meetN
  rw [meetRaw_mem (normN_raw ha) (normN_raw hb) hv, normN_mem ha hv, normN_mem hb hv]
end Go.Proofs.Ytbkblijoimmdeaa
