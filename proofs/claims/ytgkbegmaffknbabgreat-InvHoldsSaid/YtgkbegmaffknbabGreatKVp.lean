import Derived.Test.YtgkbegmaffknbabGreatKVk
set_option linter.unusedVariables false
set_option linter.unusedSimpArgs false
/- Vt Vp -/
namespace Go.Proofs.YtgkbegmaffknbabGreat
section
open Go.RowKit
theorem clip_mem (a b : Int) {v : Int} (hv : In64 v) : MemN (clipN a b) v ↔ a ≤ v ∧ v ≤ b := by
  unfold clipN
  have hv' := hv
  unfold In64 at hv'
  by_cases h : 9223372036854775807 < a ∨ b < -9223372036854775808
  · rw [if_pos h]
    exact ⟨fun k => absurd k (memN_bot v), fun k => by omega⟩
  · rw [if_neg h, make_mem (by unfold In64; split <;> omega) (by unfold In64; split <;> omega) hv]
    constructor
    · intro k; have k1 := k.1; have k2 := k.2.1; split at k1 <;> split at k2 <;> omega
    · intro k; exact ⟨by split <;> omega, by split <;> omega, all_mem v⟩
/-- Does the comparison hold? -/
def holdsV (op x y : Int) : Bool := if op = 8 then decide (x < y) else if op = 9 then decide (x ≤ y) else if op = 10 then decide (y < x) else if op = 11 then decide (y ≤ x) else if op = 12 then decide (x = y) else !(decide (x = y))
end
section
open Go.RowKit
theorem bel_mem {x : Int × Int × Nat × Nat × Bool} (hx : RawN x) {u v : Int} (hu : In64 u) : MemN (belN x v) u ↔ MemN x u ∧ u < v := by
  unfold belN
  rw [meetN_mem hx (clip_raw _ _) hu, clip_mem _ _ hu]
  unfold In64 at hu
  constructor
  · intro k; exact ⟨k.1, by omega⟩
  · intro k; exact ⟨k.1, by omega, by omega⟩
theorem abo_mem {x : Int × Int × Nat × Nat × Bool} (hx : RawN x) {u v : Int} (hu : In64 u) : MemN (aboN x v) u ↔ MemN x u ∧ v < u := by
  unfold aboN
  rw [meetN_mem hx (clip_raw _ _) hu, clip_mem _ _ hu]
  unfold In64 at hu
  constructor
  · intro k; exact ⟨k.1, by omega⟩
  · intro k; exact ⟨k.1, by omega, by omega⟩
theorem unl_keep {x y : Int × Int × Nat × Nat × Bool} (hx : RawN x) {u v : Int} (hu : In64 u) (mx : MemN x u) (my : MemN y v) (h : u ≠ v) : MemN (unlN x y) u := by
  unfold unlN
  obtain ⟨z, hz⟩ : ∃ t, t = (if x.1 = y.1 then aboN x y.1 else x) := ⟨_, rfl⟩
  rw [← hz]
  by_cases o : oneN y = true
  · rw [if_pos o]
    have e : y.1 = y.2.1 := by
      unfold oneN at o
      rw [Bool.and_eq_true, decide_eq_true_eq] at o
      exact o.2
    have ev : v = y.1 := by have h1 := my.2.1; have h2 := my.2.2.1; omega
    have rz : RawN z := by rw [hz]; split; exact abo_raw hx _; exact hx
    have mz : MemN z u := by
      rw [hz]
      by_cases k : x.1 = y.1
      · rw [if_pos k, abo_mem hx hu]
        exact ⟨mx, by have := mx.2.1; omega⟩
      · rw [if_neg k]; exact mx
    by_cases k : z.2.1 = y.1
    · rw [if_pos k, bel_mem rz hu]
      exact ⟨mz, by have := mz.2.2.1; omega⟩
    · rw [if_neg k]; exact mz
  · rw [if_neg o]; exact mx
theorem unl_sub {x y : Int × Int × Nat × Nat × Bool} (hx : RawN x) {u : Int} (hu : In64 u) (h : MemN (unlN x y) u) : MemN x u := by
  unfold unlN at h
  obtain ⟨z, hz⟩ : ∃ t, t = (if x.1 = y.1 then aboN x y.1 else x) := ⟨_, rfl⟩
  rw [← hz] at h
  have rz : RawN z := by rw [hz]; split; exact abo_raw hx _; exact hx
  have sz : MemN z u → MemN x u := by
    intro m
    rw [hz] at m
    by_cases k : x.1 = y.1
    · rw [if_pos k, abo_mem hx hu] at m; exact m.1
    · rw [if_neg k] at m; exact m
  by_cases o : oneN y = true
  · rw [if_pos o] at h
    by_cases k : z.2.1 = y.1
    · rw [if_pos k, bel_mem rz hu] at h; exact sz h.1
    · rw [if_neg k] at h; exact sz h
  · rw [if_neg o] at h; exact h
theorem meet_clip {x : Int × Int × Nat × Nat × Bool} (hx : RawN x) {a b u : Int} (hu : In64 u) : MemN (meetN x (clipN a b)) u ↔ MemN x u ∧ a ≤ u ∧ u ≤ b := by
  rw [meetN_mem hx (clip_raw _ _) hu, clip_mem _ _ hu]
theorem comp_raw {op : Int} {x y : Int × Int × Nat × Nat × Bool} (hx : RawN x) (hy : RawN y) : RawN (compN op x y).1 ∧ RawN (compN op x y).2 := by
  unfold compN
  split
  · exact ⟨bel_raw hx _, abo_raw hy _⟩
  · split
    · exact ⟨meetN_raw hx (clip_raw _ _), meetN_raw hy (clip_raw _ _)⟩
    · split
      · exact ⟨abo_raw hx _, bel_raw hy _⟩
      · split
        · exact ⟨meetN_raw hx (clip_raw _ _), meetN_raw hy (clip_raw _ _)⟩
        · split
          · exact ⟨meetN_raw hx hy, meetN_raw hx hy⟩
          · exact ⟨unl_raw hx, unl_raw hy⟩
theorem comp_keep {op : Int} (ho : OpC op) {x y : Int × Int × Nat × Nat × Bool} (hx : RawN x) (hy : RawN y) {u v : Int} (hu : In64 u) (hv : In64 v) (mx : MemN x u) (my : MemN y v) (h : holdsV op u v = true) : MemN (compN op x y).1 u ∧ MemN (compN op x y).2 v := by
  have x1 := mx.2.1; have x2 := mx.2.2.1; have y1 := my.2.1; have y2 := my.2.2.1
  have hu' := hu; have hv' := hv
  unfold In64 at hu' hv'
  rcases ho with rfl | rfl | rfl | rfl | rfl | rfl
  · have k : u < v := by have k : decide (u < v) = true := h; simpa using k
    exact ⟨(bel_mem hx hu).2 ⟨mx, by omega⟩, (abo_mem hy hv).2 ⟨my, by omega⟩⟩
  · have k : u ≤ v := by have k : decide (u ≤ v) = true := h; simpa using k
    exact ⟨(meet_clip hx hu).2 ⟨mx, by omega, by omega⟩, (meet_clip hy hv).2 ⟨my, by omega, by omega⟩⟩
  · have k : v < u := by have k : decide (v < u) = true := h; simpa using k
    exact ⟨(abo_mem hx hu).2 ⟨mx, by omega⟩, (bel_mem hy hv).2 ⟨my, by omega⟩⟩
  · have k : v ≤ u := by have k : decide (v ≤ u) = true := h; simpa using k
    exact ⟨(meet_clip hx hu).2 ⟨mx, by omega, by omega⟩, (meet_clip hy hv).2 ⟨my, by omega, by omega⟩⟩
  · have k : u = v := by have k : decide (u = v) = true := h; simpa using k
    subst k
    exact ⟨(meetN_mem hx hy hu).2 ⟨mx, my⟩, (meetN_mem hx hy hu).2 ⟨mx, my⟩⟩
  · have k : u ≠ v := by have k : (!(decide (u = v))) = true := h; simpa using k
    exact ⟨unl_keep hx hu mx my k, unl_keep hy hv my mx (Ne.symm k)⟩
theorem comp_sub {op : Int} (ho : OpC op) {x y : Int × Int × Nat × Nat × Bool} (hx : RawN x) (hy : RawN y) {u : Int} (hu : In64 u) : (MemN (compN op x y).1 u → MemN x u) ∧ (MemN (compN op x y).2 u → MemN y u) := by
  rcases ho with rfl | rfl | rfl | rfl | rfl | rfl
  · exact ⟨fun h => ((bel_mem hx hu).1 h).1, fun h => ((abo_mem hy hu).1 h).1⟩
  · exact ⟨fun h => ((meet_clip hx hu).1 h).1, fun h => ((meet_clip hy hu).1 h).1⟩
  · exact ⟨fun h => ((abo_mem hx hu).1 h).1, fun h => ((bel_mem hy hu).1 h).1⟩
  · exact ⟨fun h => ((meet_clip hx hu).1 h).1, fun h => ((meet_clip hy hu).1 h).1⟩
  · exact ⟨fun h => ((meetN_mem hx hy hu).1 h).1, fun h => ((meetN_mem hx hy hu).1 h).2⟩
  · exact ⟨fun h => unl_sub hx hu h, fun h => unl_sub hy hu h⟩
theorem cmpA_raw {op : Int} {x y : Int × Int × Nat × Nat × Bool} (hx : RawN x) (hy : RawN y) : RawN (cmpA op x y).1 ∧ RawN (cmpA op x y).2 := by
  have c := comp_raw (op := op) hx hy
  unfold cmpA
  split
  · exact ⟨bot_raw, bot_raw⟩
  · unfold ansN
    split
    · exact ⟨bot_raw, bot_raw⟩
    · exact c
theorem cmpA_keep {op : Int} (ho : OpC op) {x y : Int × Int × Nat × Nat × Bool} (hx : RawN x) (hy : RawN y) {u v : Int} (hu : In64 u) (hv : In64 v) (mx : MemN x u) (my : MemN y v) (h : holdsV op u v = true) : MemN (cmpA op x y).1 u ∧ MemN (cmpA op x y).2 v := by
  have c := comp_keep ho hx hy hu hv mx my h
  unfold cmpA
  rw [if_neg (by rintro (k | k); (· rw [mx.1] at k; cases k); (· rw [my.1] at k; cases k))]
  unfold ansN
  rw [if_neg (by rintro (k | k); (· rw [c.1.1] at k; cases k); (· rw [c.2.1] at k; cases k))]
  exact c
theorem cmpA_sub {op : Int} (ho : OpC op) {x y : Int × Int × Nat × Nat × Bool} (hx : RawN x) (hy : RawN y) {u : Int} (hu : In64 u) : (MemN (cmpA op x y).1 u → MemN x u) ∧ (MemN (cmpA op x y).2 u → MemN y u) := by
  have c := comp_sub ho hx hy hu
  unfold cmpA
  split
  · exact ⟨fun h => absurd h (memN_bot u), fun h => absurd h (memN_bot u)⟩
  · unfold ansN
    split
    · exact ⟨fun h => absurd h (memN_bot u), fun h => absurd h (memN_bot u)⟩
    · exact c
/-- The comparison that holds where another one doesn't. -/
def negF (op : Int) : Int := if op = 8 then 11 else if op = 9 then 10 else if op = 10 then 9 else if op = 11 then 8 else if op = 12 then 13 else 12
theorem opc_neg {op : Int} (h : OpC op) : OpC (negF op) := by
  rcases h with rfl | rfl | rfl | rfl | rfl | rfl
  · exact Or.inr (Or.inr (Or.inr (Or.inl rfl)))
  · exact Or.inr (Or.inr (Or.inl rfl))
  · exact Or.inr (Or.inl rfl)
  · exact Or.inl rfl
  · exact Or.inr (Or.inr (Or.inr (Or.inr (Or.inr rfl))))
  · exact Or.inr (Or.inr (Or.inr (Or.inr (Or.inl rfl))))
theorem holds_neg {op : Int} (ho : OpC op) {u v : Int} (h : holdsV op u v = false) : holdsV (negF op) u v = true := by
  rcases ho with rfl | rfl | rfl | rfl | rfl | rfl
  · have k : decide (u < v) = false := h
    show decide (v ≤ u) = true
    simp at k ⊢; omega
  · have k : decide (u ≤ v) = false := h
    show decide (v < u) = true
    simp at k ⊢; omega
  · have k : decide (v < u) = false := h
    show decide (u ≤ v) = true
    simp at k ⊢; omega
  · have k : decide (v ≤ u) = false := h
    show decide (u < v) = true
    simp at k ⊢; omega
  · have k : decide (u = v) = false := h
    show (!(decide (u = v))) = true
    rw [k]; rfl
  · have k : (!(decide (u = v))) = false := h
    show decide (u = v) = true
    simpa using k
/-- Of raw Nums: what the law asks of Leq and Has. -/
theorem hold_leq {op : Int} (ho : OpC op) {a b : Int × Int × Nat × Nat × Bool} (ha : RawN a) (hb : RawN b) : lqN (cmpA op (normN a) (normN b)).1 a = true ∧ lqN (cmpA op (normN a) (normN b)).2 b = true := by
  have r := cmpA_raw (op := op) (normN_raw ha) (normN_raw hb)
  exact ⟨(lqN_iff r.1 ha).2 (fun u hu m => (normN_mem ha hu).1 ((cmpA_sub ho (normN_raw ha) (normN_raw hb) hu).1 m)), (lqN_iff r.2 hb).2 (fun u hu m => (normN_mem hb hu).1 ((cmpA_sub ho (normN_raw ha) (normN_raw hb) hu).2 m))⟩
theorem hold_has {op : Int} (ho : OpC op) {a b : Int × Int × Nat × Nat × Bool} (ha : RawN a) (hb : RawN b) {u v : Int} (hu : In64 u) (hv : In64 v) (mx : insN a u = true) (my : insN b v = true) (h : holdsV op u v = true) : insN (cmpA op (normN a) (normN b)).1 u = true ∧ insN (cmpA op (normN a) (normN b)).2 v = true := by
  have r := cmpA_raw (op := op) (normN_raw ha) (normN_raw hb)
  have k := cmpA_keep ho (normN_raw ha) (normN_raw hb) hu hv ((normN_mem ha hu).2 ((insN_iff ha hu).1 mx)) ((normN_mem hb hv).2 ((insN_iff hb hv).1 my)) h
  exact ⟨(insN_iff r.1 hu).2 k.1, (insN_iff r.2 hv).2 k.2⟩
end
end Go.Proofs.YtgkbegmaffknbabGreat
