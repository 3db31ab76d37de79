import Derived.Test.YtaocomjhepgabaaKWhw
set_option linter.unusedVariables false
set_option linter.unusedSimpArgs false
set_option linter.unnecessarySimpa false
/- Wsm -/
namespace Go.Proofs.Ytaocomjhepgabaa
/-- A table with one entry more. -/
def updF (f : Int → Int) (v y : Int) : Int → Int := fun u => if u = v then y else f u
theorem updF_same (f : Int → Int) (v y : Int) : updF f v y v = y := by unfold updF; rw [if_pos rfl]
theorem updF_other {f : Int → Int} {v y u : Int} (h : u ≠ v) : updF f v y u = f u := by unfold updF; rw [if_neg h]
/-- A step of a sweep: at v, along the arc x. -/
def stp (vs : List Int) (f : Int → Int) (p : Int × Int × Int) : Int → Int := if p.2.2 = p.1 ∧ p.2.1 ∈ vs ∧ f p.1 < f p.2.1 then updF f p.1 (f p.2.1) else f
theorem stp_ge (vs : List Int) (f : Int → Int) (p : Int × Int × Int) (u : Int) : f u ≤ stp vs f p u := by
  unfold stp
  split
  · rename_i h
    by_cases e : u = p.1
    · subst e; rw [updF_same]; omega
    · rw [updF_other e]; exact Int.le_refl _
  · exact Int.le_refl _
theorem stp_other {vs : List Int} {f : Int → Int} {p : Int × Int × Int} {u : Int} (h : u ≠ p.1) : stp vs f p u = f u := by
  unfold stp
  split
  · exact updF_other h
  · rfl
theorem run_ge (vs : List Int) : ∀ (T : List (Int × Int × Int)) (f : Int → Int) (u : Int), f u ≤ T.foldl (stp vs) f u
  | [], f, u => Int.le_refl _
  | p :: T, f, u => Int.le_trans (stp_ge vs f p u) (run_ge vs T (stp vs f p) u)
theorem run_other (vs : List Int) : ∀ (T : List (Int × Int × Int)) (f : Int → Int) (u : Int), (∀ p ∈ T, u ≠ p.1) → T.foldl (stp vs) f u = f u
  | [], f, u, _ => rfl
  | p :: T, f, u, h => by
    have := run_other vs T (stp vs f p) u (fun q hq => h q (List.mem_cons_of_mem _ hq))
    rw [List.foldl_cons, this, stp_other (h p List.mem_cons_self)]
/-- The first step that lifts a vertex over m. -/
theorem run_first (vs : List Int) (m : Int) : ∀ (T : List (Int × Int × Int)) (f : Int → Int), (∃ v, f v < m ∧ m ≤ T.foldl (stp vs) f v) →
    ∃ A v x B, T = A ++ (v, x) :: B ∧ x.2 = v ∧ x.1 ∈ vs ∧ m ≤ f x.1 ∧ f v < m ∧ m ≤ T.foldl (stp vs) f v
  | [], f, ⟨v, h1, h2⟩ => by simp only [List.foldl_nil] at h2; omega
  | p :: T, f, ⟨v, h1, h2⟩ => by
    by_cases hc : f p.1 < m ∧ m ≤ stp vs f p p.1
    · have hw : p.2.2 = p.1 ∧ p.2.1 ∈ vs ∧ f p.1 < f p.2.1 := by
        apply Classical.byContradiction
        intro hn
        have := hc.2
        unfold stp at this
        rw [if_neg hn] at this
        omega
      have he : stp vs f p p.1 = f p.2.1 := by unfold stp; rw [if_pos hw, updF_same]
      refine ⟨[], p.1, p.2, T, rfl, hw.1, hw.2.1, by rw [← he]; exact hc.2, hc.1, ?_⟩
      exact Int.le_trans hc.2 (run_ge vs T (stp vs f p) p.1)
    · have same : ∀ u, f u < m → stp vs f p u < m := by
        intro u hu
        by_cases e : u = p.1
        · subst e; omega
        · rw [stp_other e]; exact hu
      obtain ⟨A, v', x, B, e, h3, h4, h5, h6, h7⟩ := run_first vs m T (stp vs f p) ⟨v, same v h1, h2⟩
      refine ⟨p :: A, v', x, B, by rw [e]; rfl, h3, h4, ?_, ?_, ?_⟩
      · apply Classical.byContradiction
        intro hn
        have := same x.1 (by omega)
        omega
      · have := stp_ge vs f p v'; omega
      · exact h7
/-- What was lifted too late for an arc. -/
theorem run_late {vs : List Int} {m : Int} {A B : List (Int × Int × Int)} {v : Int} {x : Int × Int} {f : Int → Int} (hx : x.2 = v) (hi : x.1 ∈ vs)
    (h1 : (A ++ (v, x) :: B).foldl (stp vs) f v < m) (h2 : m ≤ (A ++ (v, x) :: B).foldl (stp vs) f x.1) :
    f x.1 < m ∧ ∃ y, (x.1, y) ∈ B := by
  rw [List.foldl_append, List.foldl_cons] at h1 h2
  generalize hg : A.foldl (stp vs) f = g at h1 h2
  have hfg : f x.1 ≤ g x.1 := by rw [← hg]; exact run_ge vs A f x.1
  have hs : stp vs g (v, x) x.1 ≤ stp vs g (v, x) v := by
    unfold stp
    split
    · rename_i h
      simp only at h
      by_cases e : x.1 = v
      · rw [e]; exact Int.le_refl _
      · rw [updF_other e, updF_same]; exact Int.le_refl _
    · rename_i h
      simp only at h
      have : ¬ g v < g x.1 := fun hh => h ⟨hx, hi, hh⟩
      omega
  have h3 := run_ge vs B (stp vs g (v, x)) v
  have h4 := stp_ge vs g (v, x) x.1
  refine ⟨by omega, ?_⟩
  apply Classical.byContradiction
  intro hn
  have := run_other vs B (stp vs g (v, x)) x.1 (fun p hp e => hn ⟨p.2, by rw [e]; exact hp⟩)
  omega
/-- The steps of a sweep. -/
def rowT (ts : List (Int × Int)) (v : Int) : List (Int × Int × Int) := ts.map (fun x => (v, x))
def tabT (vs : List Int) (ts : List (Int × Int)) : List (Int × Int × Int) := vs.flatMap (rowT ts)
def sweep (vs : List Int) (ts : List (Int × Int)) (f : Int → Int) : Int → Int := (tabT vs ts).foldl (stp vs) f
def swN (vs : List Int) (ts : List (Int × Int)) (f : Int → Int) : Nat → Int → Int
  | 0 => f
  | s + 1 => sweep vs ts (swN vs ts f s)
theorem idx_at {l : List Int} (hn : l.Nodup) {k : Nat} (hk : k < l.length) : l.idxOf l[k] = k := by
  have hny := not_yet hn (List.getElem?_eq_getElem hk)
  have e : l = l.take k ++ l[k] :: l.drop (k + 1) := by rw [← List.drop_eq_getElem_cons hk, List.take_append_drop]
  generalize hv : l[k] = v at hny e
  have h2 : l.idxOf v = (l.take k ++ v :: l.drop (k + 1)).idxOf v := by rw [← e]
  rw [h2, List.idxOf_append, if_neg hny, List.idxOf_cons_self, List.length_take]
  omega
theorem tab_pair {vs : List Int} (hn : vs.Nodup) (ts : List (Int × Int)) : (tabT vs ts).Pairwise (fun p q => vs.idxOf p.1 ≤ vs.idxOf q.1) := by
  unfold tabT
  rw [List.pairwise_flatMap]
  refine ⟨fun v hv => ?_, ?_⟩
  · unfold rowT
    rw [List.pairwise_map]
    exact List.pairwise_of_forall (fun _ _ => Nat.le_refl _)
  · rw [List.pairwise_iff_getElem]
    intro i j hi hj hij p hp q hq
    obtain ⟨_, _, rfl⟩ := List.mem_map.1 hp
    obtain ⟨_, _, rfl⟩ := List.mem_map.1 hq
    simp only
    rw [idx_at hn hi, idx_at hn hj]
    omega
theorem tab_order {vs : List Int} (hn : vs.Nodup) {ts : List (Int × Int)} {A B : List (Int × Int × Int)} {v u : Int} {x y : Int × Int} (h : tabT vs ts = A ++ (v, x) :: B) (hy : (u, y) ∈ B) : vs.idxOf v ≤ vs.idxOf u := by
  have hp := tab_pair hn ts
  rw [h, List.pairwise_append] at hp
  exact (List.pairwise_cons.1 hp.2.1).1 _ hy
theorem tab_arc {vs : List Int} {ts : List (Int × Int)} {v : Int} {x : Int × Int} : (v, x) ∈ tabT vs ts ↔ v ∈ vs ∧ x ∈ ts := by
  unfold tabT rowT
  rw [List.mem_flatMap]
  constructor
  · rintro ⟨a, ha, hb⟩
    obtain ⟨y, hy, e⟩ := List.mem_map.1 hb
    injection e with e1 e2
    subst e1 e2
    exact ⟨ha, hy⟩
  · rintro ⟨h1, h2⟩
    exact ⟨v, h1, List.mem_map.2 ⟨x, h2, rfl⟩⟩
def hdsL (L : List (Int × Nat × Bool)) : List Int := (L.filter (fun e => e.2.2)).map (·.1)
theorem sub_len : ∀ (a b : List Int), a.Nodup → (∀ x ∈ a, x ∈ b) → a.length ≤ b.length := by
  intro a
  induction a with
  | nil => intro b _ _; exact Nat.zero_le _
  | cons x a ih =>
    intro b hn hs
    rw [List.nodup_cons] at hn
    have hx := hs x List.mem_cons_self
    have := ih (b.erase x) hn.2 (fun y hy => (List.mem_erase_of_ne (fun e => hn.1 (by rw [← e]; exact hy))).2 (hs y (List.mem_cons_of_mem _ hy)))
    rw [List.length_erase_of_mem hx] at this
    have hp := List.length_pos_of_mem hx
    simp only [List.length_cons]
    omega
/-- A crossing of m in a later sweep: a head crosses m in it, and m is crossed in the sweep before. -/
theorem Weak.cross {ts : List (Int × Int)} {root : Int} {L : List (Int × Nat × Bool)} (hw : Weak ts root L) {f : Int → Int} {m : Int}
    (h : ∃ v, sweep (lv L) ts f v < m ∧ m ≤ sweep (lv L) ts (sweep (lv L) ts f) v) :
    (∃ u, f u < m ∧ m ≤ sweep (lv L) ts f u) ∧ ∃ v ∈ hdsL L, sweep (lv L) ts f v < m ∧ m ≤ sweep (lv L) ts (sweep (lv L) ts f) v := by
  obtain ⟨A, v, x, B, e, h1, h2, h3, h4, h5⟩ := run_first (lv L) m (tabT (lv L) ts) (sweep (lv L) ts f) h
  have h4' := h4
  have h3' := h3
  unfold sweep at h3' h4'
  rw [e] at h3' h4'
  obtain ⟨h6, y, h7⟩ := run_late h1 h2 h4' h3'
  refine ⟨⟨x.1, h6, h3⟩, v, ?_, h4, h5⟩
  have ho := tab_order hw.nd e h7
  have hx : x ∈ ts := (tab_arc.1 (by rw [e]; exact List.mem_append_right _ List.mem_cons_self : (v, x) ∈ tabT (lv L) ts)).2
  rcases hw.arc hx h2 with h8 | ⟨g, h8, h9, _⟩
  · rw [h1] at h8; omega
  · rw [h1] at h8
    have hvL : v ∈ lv L := (tab_arc.1 (by rw [e]; exact List.mem_append_right _ List.mem_cons_self : (v, x) ∈ tabT (lv L) ts)).1
    have hgv : g.1 = v := by
      have h10 := lv_at h8
      obtain ⟨h11, h12⟩ := List.getElem?_eq_some_iff.1 h10
      rw [List.getElem_idxOf] at h12
      exact h12.symm
    unfold hdsL
    exact List.mem_map.2 ⟨g, List.mem_filter.2 ⟨List.mem_of_getElem? h8, h9⟩, hgv⟩
theorem sweep_ge (vs : List Int) (ts : List (Int × Int)) (f : Int → Int) (u : Int) : f u ≤ sweep vs ts f u := run_ge vs _ f u
theorem Weak.heads {ts : List (Int × Int)} {root : Int} {L : List (Int × Nat × Bool)} (hw : Weak ts root L) (f : Int → Int) (m : Int) : ∀ s, (∃ v, swN (lv L) ts f s v < m ∧ m ≤ swN (lv L) ts f (s + 1) v) →
    ∃ hs : List Int, hs.length = s ∧ hs.Nodup ∧ (∀ h ∈ hs, h ∈ hdsL L) ∧ ∀ h ∈ hs, m ≤ swN (lv L) ts f (s + 1) h
  | 0, _ => ⟨[], rfl, List.nodup_nil, fun h hh => (by cases hh), fun h hh => (by cases hh)⟩
  | s + 1, h => by
    obtain ⟨h1, v, hv, h2, h3⟩ := hw.cross (f := swN (lv L) ts f s) h
    obtain ⟨hs, a, b, c, d⟩ := Weak.heads hw f m s h1
    refine ⟨v :: hs, by rw [List.length_cons, a], List.nodup_cons.2 ⟨fun hm => ?_, b⟩, ?_, ?_⟩
    · have := d v hm
      have h2' : swN (lv L) ts f (s + 1) v < m := h2
      omega
    · intro u hu
      rcases List.mem_cons.1 hu with rfl | hu
      · exact hv
      · exact c u hu
    · intro u hu
      rcases List.mem_cons.1 hu with rfl | hu
      · exact h3
      · exact Int.le_trans (d u hu) (sweep_ge (lv L) ts _ u)
/-- What a sweep has done so far. -/
structure SW (vs : List Int) (f : Int → Int) (T : List (Int × Int × Int)) (g : Int → Int) (mb : Bool) : Prop where
  eq : g = T.foldl (stp vs) f
  yes : mb = true → ∃ v m, f v < m ∧ m ≤ g v
  no : mb = false → g = f ∧ ∀ p ∈ T, ¬ (p.2.2 = p.1 ∧ p.2.1 ∈ vs ∧ f p.1 < f p.2.1)
theorem SW.zero (vs : List Int) (f : Int → Int) : SW vs f [] f false := ⟨rfl, fun h => (by cases h), fun _ => ⟨rfl, fun p h => (by cases h)⟩⟩
theorem SW.put {vs : List Int} {f : Int → Int} {T : List (Int × Int × Int)} {g : Int → Int} {mb : Bool} (h : SW vs f T g mb) {p : Int × Int × Int} (hp : p.2.2 = p.1 ∧ p.2.1 ∈ vs ∧ g p.1 < g p.2.1) : SW vs f (T ++ [p]) (updF g p.1 (g p.2.1)) true := by
  refine ⟨?_, fun _ => ⟨p.1, g p.2.1, ?_, ?_⟩, fun e => by cases e⟩
  · rw [List.foldl_append, ← h.eq, List.foldl_cons, List.foldl_nil]; unfold stp; rw [if_pos hp]
  · have : f p.1 ≤ g p.1 := by rw [h.eq]; exact run_ge vs T f p.1
    omega
  · rw [updF_same]; exact Int.le_refl _
theorem Weak.len {ts : List (Int × Int)} {root : Int} {L : List (Int × Nat × Bool)} (hw : Weak ts root L) : L.length ≤ ts.length + 1 := by
  have := sub_len (lv L) (root :: ts.map (·.2)) hw.nd (hw.rch (fun v => v ∈ root :: ts.map (·.2)) List.mem_cons_self (fun x hx _ => List.mem_cons_of_mem _ (List.mem_map.2 ⟨x, hx, rfl⟩)))
  rw [lv_len] at this
  simpa using this
end Go.Proofs.Ytaocomjhepgabaa
