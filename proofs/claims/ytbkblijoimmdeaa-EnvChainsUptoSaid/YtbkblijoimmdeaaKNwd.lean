import Derived.Test.YtbkblijoimmdeaaKIwm
import Derived.Test.YtbkblijoimmdeaaKNset
set_option linter.unusedVariables false
set_option linter.unusedSimpArgs false
/- Nwd -/
namespace Go.Proofs.Ytbkblijoimmdeaa
open Go.RowKit
def keepC (aM aR bM bR : Nat) : Nat × Nat := if leqC bM bR aM aR = true then (aM, aR) else (1, 0)
def widRaw (a b : Int × Int × Nat × Nat × Bool) (ts : List Int) : Int × Int × Nat × Nat × Bool :=
  if a.2.2.2.2 = true then b else if b.2.2.2.2 = true then a
  else makeN (widenI a.1 a.2.1 b.1 b.2.1 ts).1 (widenI a.1 a.2.1 b.1 b.2.1 ts).2 (keepC a.2.2.1 a.2.2.2.1 b.2.2.1 b.2.2.2.1).1 (keepC a.2.2.1 a.2.2.2.1 b.2.2.1 b.2.2.2.1).2
def widenN (a b : Int × Int × Nat × Nat × Bool) (ts : List Int) : Int × Int × Nat × Nat × Bool := widRaw (normN a) (normN b) ts
theorem wLo_ge (bl : Int) (ts : List Int) : -9223372036854775808 ≤ wLo bl ts := by
  unfold wLo
  have key : ∀ (ts : List Int) (m : Int), m ≤ ts.foldl (stLo bl) m := by
    intro ts
    induction ts with
    | nil => intro m; exact Int.le_refl _
    | cons t ts ih =>
      intro m
      rw [List.foldl_cons]
      have := ih (stLo bl m t)
      have : m ≤ stLo bl m t := by unfold stLo; split <;> omega
      omega
  exact key ts _
theorem wHi_le (bh : Int) (ts : List Int) : wHi bh ts ≤ 9223372036854775807 := by
  unfold wHi
  have key : ∀ (ts : List Int) (m : Int), ts.foldl (stHi bh) m ≤ m := by
    intro ts
    induction ts with
    | nil => intro m; exact Int.le_refl _
    | cons t ts ih =>
      intro m
      rw [List.foldl_cons]
      have := ih (stHi bh m t)
      have : stHi bh m t ≤ m := by unfold stHi; split <;> omega
      omega
  exact key ts _
/-- No threshold lies between what was chosen and what it was chosen for. -/
theorem wLo_most (bl : Int) (ts : List Int) : ∀ t ∈ ts, t ≤ bl → t ≤ wLo bl ts := by
  unfold wLo
  have mono : ∀ (ts : List Int) (m : Int), m ≤ ts.foldl (stLo bl) m := by
    intro ts
    induction ts with
    | nil => intro m; exact Int.le_refl _
    | cons t ts ih =>
      intro m
      rw [List.foldl_cons]
      have := ih (stLo bl m t)
      have : m ≤ stLo bl m t := by unfold stLo; split <;> omega
      omega
  have key : ∀ (ts : List Int) (m : Int), ∀ t ∈ ts, t ≤ bl → t ≤ ts.foldl (stLo bl) m := by
    intro ts
    induction ts with
    | nil => intro m t h; exact absurd h List.not_mem_nil
    | cons s ts ih =>
      intro m t h hb
      rw [List.foldl_cons]
      rcases List.mem_cons.1 h with e | h
      · have a := mono ts (stLo bl m s)
        have : t ≤ stLo bl m s := by unfold stLo; subst e; split <;> omega
        omega
      · exact ih _ t h hb
  exact key ts _
theorem wHi_most (bh : Int) (ts : List Int) : ∀ t ∈ ts, bh ≤ t → wHi bh ts ≤ t := by
  unfold wHi
  have mono : ∀ (ts : List Int) (m : Int), ts.foldl (stHi bh) m ≤ m := by
    intro ts
    induction ts with
    | nil => intro m; exact Int.le_refl _
    | cons t ts ih =>
      intro m
      rw [List.foldl_cons]
      have := ih (stHi bh m t)
      have : stHi bh m t ≤ m := by unfold stHi; split <;> omega
      omega
  have key : ∀ (ts : List Int) (m : Int), ∀ t ∈ ts, bh ≤ t → ts.foldl (stHi bh) m ≤ t := by
    intro ts
    induction ts with
    | nil => intro m t h; exact absurd h List.not_mem_nil
    | cons s ts ih =>
      intro m t h hb
      rw [List.foldl_cons]
      rcases List.mem_cons.1 h with e | h
      · have a := mono ts (stHi bh m s)
        have : stHi bh m s ≤ t := by unfold stHi; subst e; split <;> omega
        omega
      · exact ih _ t h hb
  exact key ts _
/-- All thresholds of the lower end, of the upper one. -/
def tL (ts : List Int) : List Int := -9223372036854775808 :: ts
def tH (ts : List Int) : List Int := 9223372036854775807 :: ts
theorem wLo_in (bl : Int) (ts : List Int) : wLo bl ts ∈ tL ts := by
  unfold tL
  rcases foldLo bl ts (-9223372036854775808) with e | ⟨e, _⟩
  · rw [show wLo bl ts = -9223372036854775808 from e]; exact List.mem_cons_self
  · exact List.mem_cons_of_mem _ e
theorem wHi_in (bh : Int) (ts : List Int) : wHi bh ts ∈ tH ts := by
  unfold tH
  rcases foldHi bh ts 9223372036854775807 with e | ⟨e, _⟩
  · rw [show wHi bh ts = 9223372036854775807 from e]; exact List.mem_cons_self
  · exact List.mem_cons_of_mem _ e
def ltL (ts : List Int) (l : Int) : Nat := (tL ts).countP (fun t => decide (t < l))
def leL (ts : List Int) (l : Int) : Nat := (tL ts).countP (fun t => decide (t ≤ l))
def ltH (ts : List Int) (h : Int) : Nat := (tH ts).countP (fun t => decide (h < t))
def leH (ts : List Int) (h : Int) : Nat := (tH ts).countP (fun t => decide (h ≤ t))
theorem leL_top (ts : List Int) (l : Int) : leL ts l ≤ ts.length + 1 := by
  unfold leL; exact Nat.le_trans List.countP_le_length (by unfold tL; simp)
theorem leH_top (ts : List Int) (l : Int) : leH ts l ≤ ts.length + 1 := by
  unfold leH; exact Nat.le_trans List.countP_le_length (by unfold tH; simp)
theorem ltL_lt {ts : List Int} {w l : Int} (hw : w ∈ tL ts) (h : w < l) : ltL ts w < ltL ts l := by
  unfold ltL; exact count_lt (fun x hx => by simp at hx ⊢; omega) (z := w) (by simp) (by simp; omega) hw
theorem leL_lt {ts : List Int} {w r : Int} (hr : r ∈ tL ts) (h : w < r) : leL ts w < leL ts r := by
  unfold leL; exact count_lt (fun x hx => by simp at hx ⊢; omega) (z := r) (by simp; omega) (by simp) hr
theorem ltH_lt {ts : List Int} {w l : Int} (hw : w ∈ tH ts) (h : l < w) : ltH ts w < ltH ts l := by
  unfold ltH; exact count_lt (fun x hx => by simp at hx ⊢; omega) (z := w) (by simp) (by simp; omega) hw
theorem leH_lt {ts : List Int} {w r : Int} (hr : r ∈ tH ts) (h : r < w) : leH ts w < leH ts r := by
  unfold leH; exact count_lt (fun x hx => by simp at hx ⊢; omega) (z := r) (by simp; omega) (by simp) hr
theorem ltL_of {ts : List Int} {r l : Int} (h : ∀ t ∈ tL ts, t < l → t ≤ r) : ltL ts l ≤ leL ts r := by
  unfold ltL leL
  exact List.countP_mono_left (fun x hx p => by simp at p ⊢; exact h x hx p)
theorem ltH_of {ts : List Int} {r l : Int} (h : ∀ t ∈ tH ts, l < t → r ≤ t) : ltH ts l ≤ leH ts r := by
  unfold ltH leH
  exact List.countP_mono_left (fun x hx p => by simp at p ⊢; exact h x hx p)
/-- The lower end, as long as the class M, R stands: n moves so far. -/
def EL (ts : List Int) (M R n : Nat) (l : Int) : Prop :=
  n = 0 ∨ ∃ r, r ∈ tL ts ∧ r ≤ l ∧ (∀ x, MemC M R x → r ≤ x → l ≤ x) ∧ (∀ t ∈ tL ts, t < l → t ≤ r) ∧ n + leL ts r ≤ ts.length + 2
def EH (ts : List Int) (M R n : Nat) (h : Int) : Prop :=
  n = 0 ∨ ∃ r, r ∈ tH ts ∧ h ≤ r ∧ (∀ x, MemC M R x → x ≤ r → x ≤ h) ∧ (∀ t ∈ tH ts, h < t → r ≤ t) ∧ n + leH ts r ≤ ts.length + 2
theorem EL.move {ts : List Int} {M R n : Nat} {l l' b w : Int} (e : EL ts M R n l) (hw : w ∈ tL ts) (hm : ∀ t ∈ tL ts, t ≤ b → t ≤ w) (h1 : w ≤ l') (h2 : l' ≤ b) (hb : b < l) (c : MemC M R l') (hl : ∀ x, MemC M R x → w ≤ x → l' ≤ x) : EL ts M R (n + 1) l' := by
  refine Or.inr ⟨w, hw, h1, hl, fun t ht hlt => hm t ht (by omega), ?_⟩
  rcases e with rfl | ⟨r, hr, _, hx, _, hn⟩
  · have := leL_top ts w; omega
  · have : w < r := by
      apply Int.lt_of_not_ge
      intro k
      have := hx l' c (by omega)
      omega
    have := leL_lt hr this
    omega
theorem EH.move {ts : List Int} {M R n : Nat} {l l' b w : Int} (e : EH ts M R n l) (hw : w ∈ tH ts) (hm : ∀ t ∈ tH ts, b ≤ t → w ≤ t) (h1 : l' ≤ w) (h2 : b ≤ l') (hb : l < b) (c : MemC M R l') (hl : ∀ x, MemC M R x → x ≤ w → x ≤ l') : EH ts M R (n + 1) l' := by
  refine Or.inr ⟨w, hw, h1, hl, fun t ht hlt => hm t ht (by omega), ?_⟩
  rcases e with rfl | ⟨r, hr, _, hx, _, hn⟩
  · have := leH_top ts w; omega
  · have : r < w := by
      apply Int.lt_of_not_ge
      intro k
      have := hx l' c (by omega)
      omega
    have := leH_lt hr this
    omega
/-- The class falls: the end stays, or moves at once. -/
theorem EL.fall {ts : List Int} {M R n : Nat} {l : Int} (e : EL ts M R n l) : n + ltL ts l ≤ ts.length + 2 := by
  rcases e with rfl | ⟨r, hr, _, _, hx, hn⟩
  · have : ltL ts l ≤ leL ts l := by unfold ltL leL; exact count_mono (fun x hx => by simp at hx ⊢; omega) _
    have := leL_top ts l; omega
  · have := ltL_of hx; omega
theorem EH.fall {ts : List Int} {M R n : Nat} {l : Int} (e : EH ts M R n l) : n + ltH ts l ≤ ts.length + 2 := by
  rcases e with rfl | ⟨r, hr, _, _, hx, hn⟩
  · have : ltH ts l ≤ leH ts l := by unfold ltH leH; exact count_mono (fun x hx => by simp at hx ⊢; omega) _
    have := leH_top ts l; omega
  · have := ltH_of hx; omega
/-- What a row of widenings keeps: moves of both ends, the class's fall, the first that isn't Bot. -/
def RInv (ts : List Int) (a : Int × Int × Nat × Nat × Bool) (ch : Nat) : Prop :=
  (a = botN ∧ ch = 0) ∨ (a.2.2.2.2 = false ∧ ∃ p q : Nat,
    (ch ≤ p + q + 1 ∧ EL ts a.2.2.1 a.2.2.2.1 p a.1 ∧ EH ts a.2.2.1 a.2.2.2.1 q a.2.1) ∨
    (ch ≤ p + q + 2 ∧ a.2.2.1 = 1 ∧ a.2.2.2.1 = 0 ∧ p + ltL ts a.1 ≤ ts.length + 2 ∧ q + ltH ts a.2.1 ≤ ts.length + 2))
theorem RInv.start {ts : List Int} {a : Int × Int × Nat × Nat × Bool} (n : NormN a) : RInv ts a 0 := by
  rcases n with n | n
  · exact Or.inl ⟨n, rfl⟩
  · exact Or.inr ⟨n.1, 0, 0, Or.inl ⟨by omega, Or.inl rfl, Or.inl rfl⟩⟩
theorem widenI_some {al ah bl bh : Int} (ha : al ≤ ah) (hb : bl ≤ bh) (ts : List Int) : widenI al ah bl bh ts = (if bl < al then wLo bl ts else al, if ah < bh then wHi bh ts else ah) := by
  unfold widenI; rw [if_neg (by omega), if_neg (by omega)]
theorem widenI_in {al ah bl bh : Int} (ha1 : In64 al) (ha2 : In64 ah) (hb1 : In64 bl) (hb2 : In64 bh) (ha : al ≤ ah) (hb : bl ≤ bh) (ts : List Int) : In64 (widenI al ah bl bh ts).1 ∧ In64 (widenI al ah bl bh ts).2 := by
  rw [widenI_some ha hb]
  have a := wLo_le hb1 ts; have b := wLo_ge bl ts; have c := wHi_ge hb2 ts; have d := wHi_le bh ts
  unfold In64 at *
  simp only
  constructor
  · split <;> omega
  · split <;> omega
/-- The ends of a Make that has a number. -/
theorem make_ends {lo hi : Int} {M R : Nat} (hl : In64 lo) (hh : In64 hi) {z : Int} (hz : In64 z) (h1 : lo ≤ z) (h2 : z ≤ hi) (h3 : MemC M R z) :
    (makeN lo hi M R).2.2.2.2 = false ∧ lo ≤ (makeN lo hi M R).1 ∧ (makeN lo hi M R).2.1 ≤ hi ∧ (makeN lo hi M R).1 ≤ z ∧ z ≤ (makeN lo hi M R).2.1 ∧ MemC M R (makeN lo hi M R).1 ∧ MemC M R (makeN lo hi M R).2.1 ∧ (∀ x, MemC M R x → lo ≤ x → (makeN lo hi M R).1 ≤ x) ∧ (∀ x, MemC M R x → x ≤ hi → x ≤ (makeN lo hi M R).2.1) := by
  have n := make_norm (M := M) (R := R) hl hh
  have m := fun {v : Int} (hv : In64 v) => make_mem (M := M) (R := R) hl hh hv
  have zz := (m hz).2 ⟨h1, h2, h3⟩
  generalize makeN lo hi M R = a at *
  rcases n with rfl | n
  · exact absurd zz (memN_bot _)
  have e := norm_ends n
  have p := (m n.2.1).1 e.1
  have q := (m n.2.2.1).1 e.2
  refine ⟨n.1, p.1, q.2.1, zz.2.1, zz.2.2.1, p.2.2, q.2.2, fun x hx hlo => ?_, fun x hx hhi => ?_⟩
  · apply Int.le_of_not_gt
    intro c
    have := (m (v := x) (by have := n.2.1; unfold In64 at *; omega)).2 ⟨hlo, by omega, hx⟩
    have := this.2.1
    omega
  · apply Int.le_of_not_gt
    intro c
    have := (m (v := x) (by have := n.2.2.1; unfold In64 at *; omega)).2 ⟨by omega, hhi, hx⟩
    have := this.2.2.1
    omega
theorem make_class {lo hi : Int} {M R : Nat} (h : (makeN lo hi M R).1 < (makeN lo hi M R).2.1) : (makeN lo hi M R).2.2.1 = (normC M R).1 ∧ (makeN lo hi M R).2.2.2.1 = (normC M R).2 := by
  unfold makeN at h ⊢
  by_cases h0 : hi < lo
  · rw [if_pos h0] at h; unfold botN at h; simp at h
  rw [if_neg h0] at h ⊢
  by_cases h1 : (upC M R lo).2 = false ∨ (downC M R hi).2 = false ∨ (downC M R hi).1 < (upC M R lo).1
  · rw [if_pos h1] at h; unfold botN at h; simp at h
  rw [if_neg h1] at h ⊢
  by_cases h2 : (upC M R lo).1 = (downC M R hi).1
  · rw [if_pos h2] at h; unfold constN at h; simp at h
  · rw [if_neg h2]; exact ⟨rfl, rfl⟩
end Go.Proofs.Ytbkblijoimmdeaa
