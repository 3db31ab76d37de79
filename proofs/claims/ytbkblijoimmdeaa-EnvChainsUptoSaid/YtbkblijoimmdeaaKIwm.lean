import Derived.Test.YtbkblijoimmdeaaKIwid
set_option linter.unusedVariables false
set_option linter.unusedSimpArgs false
/- Iwm -/
namespace Go.Proofs.Ytbkblijoimmdeaa
open Go.RowKit
theorem foldLo (bl : Int) (ts : List Int) : ∀ m, ts.foldl (stLo bl) m = m ∨ (ts.foldl (stLo bl) m ∈ ts ∧ ts.foldl (stLo bl) m ≤ bl) := by
  induction ts with
  | nil => intro m; exact Or.inl rfl
  | cons t ts ih =>
    intro m
    rw [List.foldl_cons]
    rcases ih (stLo bl m t) with h | ⟨h1, h2⟩
    · rw [h]
      unfold stLo
      by_cases c : t ≤ bl ∧ m < t
      · rw [if_pos c]; exact Or.inr ⟨List.mem_cons_self, c.1⟩
      · rw [if_neg c]; exact Or.inl rfl
    · exact Or.inr ⟨List.mem_cons_of_mem _ h1, h2⟩
theorem foldHi (bh : Int) (ts : List Int) : ∀ m, ts.foldl (stHi bh) m = m ∨ (ts.foldl (stHi bh) m ∈ ts ∧ bh ≤ ts.foldl (stHi bh) m) := by
  induction ts with
  | nil => intro m; exact Or.inl rfl
  | cons t ts ih =>
    intro m
    rw [List.foldl_cons]
    rcases ih (stHi bh m t) with h | ⟨h1, h2⟩
    · rw [h]
      unfold stHi
      by_cases c : bh ≤ t ∧ t < m
      · rw [if_pos c]; exact Or.inr ⟨List.mem_cons_self, c.1⟩
      · rw [if_neg c]; exact Or.inl rfl
    · exact Or.inr ⟨List.mem_cons_of_mem _ h1, h2⟩
/-- How often an end may still go on. -/
def cLo (ts : List Int) (l : Int) : Nat := ts.countP (fun t => decide (t < l)) + (if -9223372036854775808 < l then 1 else 0)
def cHi (ts : List Int) (h : Int) : Nat := ts.countP (fun t => decide (h < t)) + (if h < 9223372036854775807 then 1 else 0)
theorem cLo_le (ts : List Int) (l : Int) : cLo ts l ≤ ts.length + 1 := by
  unfold cLo
  have := List.countP_le_length (p := fun t => decide (t < l)) (l := ts)
  split <;> omega
theorem cHi_le (ts : List Int) (l : Int) : cHi ts l ≤ ts.length + 1 := by
  unfold cHi
  have := List.countP_le_length (p := fun t => decide (l < t)) (l := ts)
  split <;> omega
theorem count_mono {p q : Int → Bool} (h : ∀ x, p x = true → q x = true) (ts : List Int) : ts.countP p ≤ ts.countP q := List.countP_mono_left (fun x _ => h x)
theorem count_lt {p q : Int → Bool} (h : ∀ x, p x = true → q x = true) {z : Int} (hp : p z = false) (hq : q z = true) {ts : List Int} (hz : z ∈ ts) : ts.countP p < ts.countP q := by
  induction ts with
  | nil => exact absurd hz List.not_mem_nil
  | cons t ts ih =>
    have hm := count_mono h ts
    rw [List.countP_cons, List.countP_cons]
    rcases List.mem_cons.1 hz with rfl | hz
    · rw [hp, hq, if_neg (by simp), if_pos rfl]; omega
    · have := ih hz
      by_cases c : p t = true
      · rw [c, h t c, if_pos rfl]; omega
      · simp only [Bool.not_eq_true] at c
        rw [c, if_neg (by simp)]; split <;> omega
theorem cLo_lt {ts : List Int} {l m : Int} (h : m < l) (hm : m = -9223372036854775808 ∨ m ∈ ts) : cLo ts m < cLo ts l := by
  have mono : ∀ x : Int, decide (x < m) = true → decide (x < l) = true := fun x hx => by simp at hx ⊢; omega
  have c := count_mono mono ts
  rcases hm with e | e
  · unfold cLo
    rw [if_neg (show ¬ -9223372036854775808 < m by omega), if_pos (show -9223372036854775808 < l by omega)]
    omega
  · have d := count_lt mono (z := m) (by simp) (by simp; omega) e
    unfold cLo
    by_cases p : -9223372036854775808 < m
    · rw [if_pos p, if_pos (show -9223372036854775808 < l by omega)]; omega
    · rw [if_neg p]; split <;> omega
theorem cHi_lt {ts : List Int} {l m : Int} (h : l < m) (hm : m = 9223372036854775807 ∨ m ∈ ts) : cHi ts m < cHi ts l := by
  have mono : ∀ x : Int, decide (m < x) = true → decide (l < x) = true := fun x hx => by simp at hx ⊢; omega
  have c := count_mono mono ts
  rcases hm with e | e
  · unfold cHi
    rw [if_neg (show ¬ m < 9223372036854775807 by omega), if_pos (show l < 9223372036854775807 by omega)]
    omega
  · have d := count_lt mono (z := m) (by simp) (by simp; omega) e
    unfold cHi
    by_cases p : m < 9223372036854775807
    · rw [if_pos p, if_pos (show l < 9223372036854775807 by omega)]; omega
    · rw [if_neg p]; split <;> omega
theorem wLo_le {bl : Int} (h : In64 bl) (ts : List Int) : wLo bl ts ≤ bl := by
  unfold In64 at h
  rcases foldLo bl ts (-9223372036854775808) with e | ⟨_, e⟩
  · unfold wLo; omega
  · exact e
theorem wHi_ge {bh : Int} (h : In64 bh) (ts : List Int) : bh ≤ wHi bh ts := by
  unfold In64 at h
  rcases foldHi bh ts 9223372036854775807 with e | ⟨_, e⟩
  · unfold wHi; omega
  · exact e
/-- What the row of widenings keeps: how often each end has gone on, and may. -/
def WInv (ts : List Int) (nl nh : Int) (L H : Nat) : Prop := (nh < nl ∧ L = 0 ∧ H = 0) ∨ (nl ≤ nh ∧ L + cLo ts nl ≤ ts.length + 1 ∧ H + cHi ts nh ≤ ts.length + 1)
theorem WInv.start (ts : List Int) (nl nh : Int) : WInv ts nl nh 0 0 := by
  have := cLo_le ts nl; have := cHi_le ts nh
  by_cases c : nh < nl
  · exact Or.inl ⟨c, rfl, rfl⟩
  · exact Or.inr ⟨by omega, by omega, by omega⟩
theorem WInv.none {ts : List Int} {nl nh bl bh : Int} {L H : Nat} (h : WInv ts nl nh L H) (c : nh < nl) : WInv ts (widenI nl nh bl bh ts).1 (widenI nl nh bl bh ts).2 L H := by
  rcases h with ⟨_, rfl, rfl⟩ | h
  · exact WInv.start ..
  · omega
theorem WInv.some {ts : List Int} {nl nh bl bh : Int} {L H : Nat} (hl : In64 bl) (hh : In64 bh) (h : WInv ts nl nh L H) (c : nl ≤ nh) :
    WInv ts (widenI nl nh bl bh ts).1 (widenI nl nh bl bh ts).2 (if (widenI nl nh bl bh ts).1 = nl then L else L + 1) (if (widenI nl nh bl bh ts).2 = nh then H else H + 1) := by
  have a := wLo_le hl ts
  have b := wHi_ge hh ts
  rcases h with h | ⟨_, h1, h2⟩
  · omega
  · unfold widenI
    rw [if_neg (show ¬ nh < nl by omega)]
    by_cases d : bh < bl
    · rw [if_pos d]; simp only [if_true]; exact Or.inr ⟨c, h1, h2⟩
    · rw [if_neg d]
      simp only
      refine Or.inr ⟨?_, ?_, ?_⟩
      · split <;> split <;> omega
      · by_cases e : bl < nl
        · rw [if_pos e, if_neg (show ¬ wLo bl ts = nl by omega)]
          have := cLo_lt (ts := ts) (l := nl) (m := wLo bl ts) (by omega) (by rcases foldLo bl ts (-9223372036854775808) with p | p; exact Or.inl p; exact Or.inr p.1)
          omega
        · rw [if_neg e, if_pos rfl]; exact h1
      · by_cases e : nh < bh
        · rw [if_pos e, if_neg (show ¬ wHi bh ts = nh by omega)]
          have := cHi_lt (ts := ts) (l := nh) (m := wHi bh ts) (by omega) (by rcases foldHi bh ts 9223372036854775807 with p | p; exact Or.inl p; exact Or.inr p.1)
          omega
        · rw [if_neg e, if_pos rfl]; exact h2
end Go.Proofs.Ytbkblijoimmdeaa
