import Derived.Test.YtaocomjhepgabaaKWbg
set_option linter.unusedVariables false
set_option linter.unusedSimpArgs false
set_option linter.unnecessarySimpa false
/- Wbe -/
namespace Go.Proofs.Ytaocomjhepgabaa
section
variable {V : Type} [DecidableEq V]
theorem takeOff_mid (v : V) (t : List V) : ∀ (s : List V) (m : V → Nat), v ∉ s → (takeOff v (s ++ v :: t) m).1 = t ∧ ∀ x, (takeOff v (s ++ v :: t) m).2 x = if x = v then DONE else if x ∈ s then 0 else m x
  | [], m, _ => by
    refine ⟨by simp [takeOff], fun x => ?_⟩
    simp [takeOff, upd]
  | u :: s, m, h => by
    have e : ¬ u = v := fun e => h (by simp [e])
    obtain ⟨h1, h2⟩ := takeOff_mid v t s (upd m u 0) (fun hh => h (List.mem_cons_of_mem _ hh))
    simp only [List.cons_append, takeOff, if_neg e]
    refine ⟨h1, fun x => ?_⟩
    rw [h2]
    by_cases x1 : x = v
    · simp [x1]
    · by_cases x2 : x ∈ s
      · simp [x1, x2]
      · by_cases x3 : x = u
        · simp [x1, x2, x3, upd]
        · simp [x1, x2, x3, upd]
/-- The first pass is through, and v stays on the stack. -/
theorem mid_open {succ : V → List V} {T S : St V} {v : V} {h : Nat} {lp : Bool} {s : List V} {l : List (V × Nat × Bool)} (gT : Gd T) (m : Mid succ T v S [] h lp s l) (hne : h ≠ T.count + 1) :
    Big succ T v (step succ S) h (s ++ [v]) l ∧ (step succ S).calls = answered ⟨v, [], h, lp, false⟩ T.calls := by
  have hle := m.le
  have hst : step succ S = ⟨answered ⟨v, [], h, lp, false⟩ T.calls, S.stack, S.list, S.depth, S.marks, S.count⟩ := by
    unfold step
    rw [m.calls]
    simp only
    unfold through
    rw [if_neg (by simp), if_neg (by rw [m.vm]; exact hne)]
  rw [hst]
  obtain ⟨p, hp, hseen⟩ := m.seen
  rw [List.append_nil] at hp
  rw [← hp] at hseen
  have hmem : ∀ x, x ∈ s ++ [v] → x ∈ s ∨ x = v := fun x hx => by
    rcases List.mem_append.1 hx with hx | hx
    · exact Or.inl hx
    · exact Or.inr (by simpa using hx)
  refine ⟨{
    stack := by show S.stack = _; rw [m.stack]; simp
    list := m.list, depth := m.depth, cnt := m.cnt, keep := m.keep
    sz := fun x hx => by
      rcases hmem x hx with hx | rfl
      · have := m.sz x hx; exact ⟨this.1, by show _ < S.marks x; omega, this.2.2⟩
      · have := gT.sm; exact ⟨m.v0, by show _ < S.marks x; rw [m.vm]; omega, by show S.marks x ≠ _; rw [m.vm]; omega⟩
    lz := m.lz
    oz := fun x hx h1 h2 => m.oz x hx (fun e => h1 (by rw [e]; simp)) (fun hh => h1 (List.mem_append_left _ hh)) h2
    a0 := fun x hx w hw => by
      rcases hx with hx | hx
      · rcases hmem x hx with hx | rfl
        · exact m.a0 x (Or.inl hx) w hw
        · exact (hseen w hw).1
      · exact m.a0 x (Or.inr hx) w hw
    aD := m.aD
    hs := Or.inr ⟨by simp, by omega⟩
    low := fun x hx w hw hT => by
      rcases hmem x hx with hx | rfl
      · exact m.low x hx w hw hT
      · exact (hseen w hw).2.1 hT
    got := fun _ => by
      obtain ⟨x, hx, r⟩ := m.got (by omega)
      exact ⟨x, by rcases hx with hx | rfl; exact List.mem_append_left _ hx; simp, r⟩
    fence := fun F hF hcl x hx => by
      rcases hx with hx | hx
      · rcases hmem x hx with hx | rfl
        · exact m.fence F hF hcl x (Or.inl hx)
        · exact hF
      · exact m.fence F hF hcl x (Or.inr hx)
    reach := fun C hC hcl x hx => by
      rcases hmem x hx with hx | rfl
      · exact m.reach C hC (fun y hy hCy w hw hws => hcl y (by rcases hy with hy | rfl; exact List.mem_append_left _ hy; simp) hCy w hw (List.mem_append_left _ hws)) x hx
      · exact hC
    ord := m.ord }, rfl⟩
/-- The first pass is through, and v stands alone. -/
theorem mid_alone {succ : V → List V} {T S : St V} {v : V} {s : List V} {l : List (V × Nat × Bool)} (gT : Gd T) (nS : InvN S) (m : Mid succ T v S [] (T.count + 1) false s l) :
    Big succ T v (step succ S) (T.count + 1) [] ((v, T.depth, false) :: l) ∧ (step succ S).calls = answered ⟨v, [], T.count + 1, false, false⟩ T.calls := by
  have hs0 := m.lp0 rfl rfl
  subst hs0
  have hS : S.stack = [] ++ v :: T.stack := m.stack
  obtain ⟨o1, o2⟩ := takeOff_mid v T.stack [] S.marks (by simp)
  have hst : step succ S = ⟨answered ⟨v, [], T.count + 1, false, false⟩ T.calls, (takeOff v S.stack S.marks).1, (v, S.depth, false) :: S.list, S.depth, (takeOff v S.stack S.marks).2, S.count⟩ := by
    unfold step
    rw [m.calls]
    simp only
    unfold through
    rw [if_neg (by simp), if_pos (by rw [m.vm]), if_neg (by simp)]
  rw [hS] at hst
  obtain ⟨p, hp, hseen⟩ := m.seen
  rw [List.append_nil] at hp
  rw [← hp] at hseen
  have hself : v ∉ succ v := fun hv => by
    rcases (hseen v hv).2.2 rfl with e | e
    · cases e
    · omega
  have mk : ∀ x, (step succ S).marks x = if x = v then DONE else S.marks x := fun x => by rw [hst]; show (takeOff v _ _).2 x = _; rw [o2]; simp
  have mkD : ∀ x, S.marks x = DONE → (step succ S).marks x = DONE := fun x hx => by rw [mk]; split; rfl; exact hx
  have vD : ∀ w ∈ succ v, S.marks w = DONE := fun w hw => by
    obtain ⟨h1, h2, h3⟩ := hseen w hw
    rcases nS w with e | e | e
    · exact absurd e h1
    · exact e
    · rw [hS] at e
      rcases List.mem_cons.1 e with rfl | e
      · exact absurd hw hself
      · have := h2 e; have := (gT.stk w e).2; omega
  have hvs : S.marks v ≠ DONE := by rw [m.vm]; have := gT.sm; omega
  refine ⟨{
    stack := by rw [hst]; show (takeOff v _ _).1 = _; rw [o1]; rfl
    list := by rw [hst]; show (v, S.depth, false) :: S.list = _; rw [m.list, m.depth]; rfl
    depth := by rw [hst]; exact m.depth
    cnt := by rw [hst]; exact m.cnt
    keep := fun x hx => by rw [mk, if_neg (fun e => hx (by rw [e]; exact m.v0))]; exact m.keep x hx
    sz := fun x hx => (by cases hx)
    lz := fun x hx => by
      rcases List.mem_cons.1 hx with rfl | hx
      · exact ⟨m.v0, by rw [mk, if_pos rfl]⟩
      · exact ⟨(m.lz x hx).1, mkD x (m.lz x hx).2⟩
    oz := fun x hx _ h2 => by
      rw [lv_cons, List.mem_cons, not_or] at h2
      rw [mk, if_neg h2.1]
      exact m.oz x hx h2.1 (by simp) h2.2
    a0 := fun x hx w hw => by
      rcases hx with hx | hx
      · cases hx
      · rcases List.mem_cons.1 hx with rfl | hx
        · rw [mkD w (vD w hw)]; exact DONE_ne
        · rw [mkD w (m.aD x hx w hw)]; exact DONE_ne
    aD := fun x hx w hw => by
      rcases List.mem_cons.1 hx with rfl | hx
      · exact mkD w (vD w hw)
      · exact mkD w (m.aD x hx w hw)
    hs := Or.inl ⟨rfl, Nat.lt_succ_self _, _, _, rfl, rfl⟩
    low := fun x hx => (by cases hx)
    got := fun h => absurd rfl h
    fence := fun F hF hcl x hx => by
      rcases hx with hx | hx
      · cases hx
      · rcases List.mem_cons.1 hx with rfl | hx
        · exact hF
        · exact m.fence F hF hcl x (Or.inr hx)
    reach := fun C _ _ x hx => (by cases hx)
    ord := (OrdL.one T.depth v hself).append m.ord (fun x hx w hw hwl => by
      have : w = v := by simpa [lv] using hwl
      subst this
      exact hvs (m.aD x hx w hw)) }, by rw [hst]⟩
/-- The first pass is through, and Component begins. -/
theorem mid_comp {succ : V → List V} {T S : St V} {v : V} {s : List V} {l : List (V × Nat × Bool)} (gT : Gd T) (nS : InvN S) (m : Mid succ T v S [] (T.count + 1) true s l) :
    Mid2 succ T v (step succ S) (succ v) s l [] := by
  have vs : v ∉ s := fun hv => by have := (m.sz v hv).2.1; have := m.vm; omega
  obtain ⟨o1, o2⟩ := takeOff_mid v T.stack s S.marks vs
  have hst : step succ S = ⟨⟨v, succ v, T.count + 1, true, true⟩ :: T.calls, (takeOff v S.stack S.marks).1, S.list, S.depth + 1, (takeOff v S.stack S.marks).2, S.count⟩ := by
    unfold step
    rw [m.calls]
    simp only
    unfold through
    rw [if_neg (by simp), if_pos (by rw [m.vm]), if_pos rfl]
  rw [m.stack] at hst
  obtain ⟨p, hp, hseen⟩ := m.seen
  rw [List.append_nil] at hp
  rw [← hp] at hseen
  have mk : ∀ x, (step succ S).marks x = if x = v then DONE else if x ∈ s then 0 else S.marks x := fun x => by rw [hst]; exact o2 x
  have sD : ∀ x ∈ s, S.marks x ≠ DONE := fun x hx => (m.sz x hx).2.2
  have mkD : ∀ x, S.marks x = DONE → (step succ S).marks x = DONE := fun x hx => by
    rw [mk]; split
    · rfl
    · rw [if_neg (fun hs => sD x hs hx)]; exact hx
  have hvs : S.marks v ≠ DONE := by rw [m.vm]; have := gT.sm; omega
  have tst : ∀ x, x ∈ T.stack → S.marks x = T.marks x := fun x hx => m.keep x (gT.ne0 hx)
  exact {
    calls := by rw [hst]
    stack := by rw [hst]; exact o1
    list := by rw [hst]; exact m.list
    depth := by rw [hst]; show S.depth + 1 = _; rw [m.depth]
    cnt := by rw [hst]; exact m.cnt
    keep := fun x hx => by
      rw [mk, if_neg (fun e => hx (by rw [e]; exact m.v0)), if_neg (fun hs => hx (m.sz x hs).1)]
      exact m.keep x hx
    v0 := m.v0
    vm := by rw [mk, if_pos rfl]
    lz1 := fun x hx => ⟨(m.lz x hx).1, mkD x (m.lz x hx).2⟩
    lz2 := fun x hx => (by cases hx)
    s0 := fun x hx => (m.sz x hx).1
    sm := fun x hx => Or.inl (by rw [mk, if_neg (fun e => vs (by rw [← e]; exact hx)), if_pos hx])
    oz := fun x hx hv h1 _ => by
      rw [mk, if_neg hv]
      by_cases hs : x ∈ s
      · rw [if_pos hs]
      · rw [if_neg hs]; exact m.oz x hx hv hs h1
    aD1 := fun x hx w hw => by
      have e := m.aD x hx w hw
      exact ⟨mkD w e, fun hs => sD w hs e, fun ev => hvs (by rw [← ev]; exact e)⟩
    aD2 := fun x hx => (by cases hx)
    sa := fun x hx w hw => by
      have h0 : S.marks w ≠ 0 ∧ (w ∈ T.stack → T.count + 1 ≤ T.marks w) := by
        rcases hx with hx | rfl
        · exact ⟨m.a0 x (Or.inl hx) w hw, m.low x hx w hw⟩
        · exact ⟨(hseen w hw).1, (hseen w hw).2.1⟩
      rcases nS w with e | e | e
      · exact absurd e h0.1
      · exact Or.inr (mkD w e)
      · rw [m.stack] at e
        rcases List.mem_append.1 e with e | e
        · exact Or.inl e
        · rcases List.mem_cons.1 e with rfl | e
          · exact Or.inr (by rw [mk, if_pos rfl])
          · have := h0.2 e; have := (gT.stk w e).2; omega
    seen := ⟨[], rfl, fun w hw => (by cases hw)⟩
    reach := m.reach
    arc := m.lp1 rfl rfl
    fence := m.fence
    ord1 := m.ord
    ord2 := OrdL.nil _ _ }
theorem mid2_hear {succ : V → List V} {T S : St V} {v u : V} {q s : List V} {l1 l2 : List (V × Nat × Bool)} (m : Mid2 succ T v S (u :: q) s l1 l2) (hu : S.marks u ≠ 0) :
    Mid2 succ T v (step succ S) q s l1 l2 := by
  have hst : step succ S = ⟨⟨v, q, T.count + 1, true, true⟩ :: T.calls, S.stack, S.list, S.depth, S.marks, S.count⟩ := by
    unfold step
    rw [m.calls]
    simp only
    rw [if_neg hu, hear_sec]
  obtain ⟨p, hp, hseen⟩ := m.seen
  have huv : u ∈ succ v := by rw [hp]; exact List.mem_append_right _ List.mem_cons_self
  have huD : S.marks u = DONE := by
    rcases m.sa v (Or.inr rfl) u huv with e | e
    · rcases m.sm u e with e2 | e2
      · exact absurd e2 hu
      · exact (m.lz2 u e2).2
    · exact e
  rw [hst]
  exact { calls := rfl, stack := m.stack, list := m.list, depth := m.depth, cnt := m.cnt, keep := m.keep, v0 := m.v0, vm := m.vm, lz1 := m.lz1, lz2 := m.lz2, s0 := m.s0, sm := m.sm, oz := m.oz, aD1 := m.aD1, aD2 := m.aD2, sa := m.sa
          seen := ⟨p ++ [u], by rw [hp]; simp, fun w hw => by
            rcases List.mem_append.1 hw with hw | hw
            · exact hseen w hw
            · rw [List.mem_singleton] at hw; rw [hw]; exact huD⟩
          reach := m.reach, arc := m.arc, fence := m.fence, ord1 := m.ord1, ord2 := m.ord2 }
theorem mid2_visit {succ : V → List V} {T S S2 : St V} {v u : V} {q s su : List V} {hu : Nat} {l1 l2 lu : List (V × Nat × Bool)} (gT : Gd T) (m : Mid2 succ T v S (u :: q) s l1 l2) (h0 : S.marks u = 0)
    (b : Big succ ⟨⟨v, q, T.count + 1, true, true⟩ :: T.calls, S.stack, S.list, S.depth, S.marks, S.count⟩ u S2 hu su lu) (hc : S2.calls = hear ⟨v, q, T.count + 1, true, true⟩ hu :: T.calls) :
    Mid2 succ T v S2 q s l1 (lu ++ l2) := by
  rw [hear_sec] at hc
  obtain ⟨p, hp, hseen⟩ := m.seen
  have huv : u ∈ succ v := by rw [hp]; exact List.mem_append_right _ List.mem_cons_self
  have bk : ∀ x, S.marks x ≠ 0 → S2.marks x = S.marks x := b.keep
  have bkD : ∀ x, S.marks x = DONE → S2.marks x = DONE := fun x hx => by rw [bk x (by rw [hx]; exact DONE_ne)]; exact hx
  have blz : ∀ x ∈ lv lu, S.marks x = 0 ∧ S2.marks x = DONE := b.lz
  have inF : ∀ x, x ∈ su ∨ x ∈ lv lu → x ∈ s := fun x hx => by
    refine (b.fence (fun y => y ∈ s ∧ S.marks y = 0) ⟨?_, h0⟩ ?_ x hx).1
    · rcases m.sa v (Or.inr rfl) u huv with e | e
      · exact e
      · rw [h0] at e; exact absurd e.symm DONE_ne
    · rintro y ⟨hy, _⟩ w hw
      rcases m.sa y (Or.inl hy) w hw with e | e
      · by_cases hz : S.marks w = 0
        · exact Or.inl ⟨e, hz⟩
        · exact Or.inr hz
      · exact Or.inr (by show S.marks w ≠ 0; rw [e]; exact DONE_ne)
  have hsu : su = [] := by
    by_cases hne : su = []
    · exact hne
    · exfalso
      obtain ⟨x, hx, w, hw, hws, _⟩ := b.got hne
      have hwT : w ∈ T.stack := by have e : w ∈ S.stack := hws; rw [m.stack] at e; exact e
      rcases m.sa x (Or.inl (inF x (Or.inl hx))) w hw with e | e
      · exact gT.ne0 hwT (m.s0 w e)
      · rw [m.keep w (gT.ne0 hwT)] at e; exact gT.nd hwT e
  subst hsu
  have hul : u ∈ lv lu := by
    rcases b.hs with ⟨_, _, e, l', h1, h2⟩ | ⟨h1, _⟩
    · rw [h1, lv_cons, h2]; exact List.mem_cons_self
    · cases h1
  exact {
    calls := hc
    stack := by rw [b.stack]; exact m.stack
    list := by rw [b.list]; show lu ++ S.list = _; rw [m.list, List.append_assoc]
    depth := b.depth.trans m.depth
    cnt := Nat.lt_trans m.cnt b.cnt
    keep := fun x hx => by rw [bk x (by rw [m.keep x hx]; exact hx)]; exact m.keep x hx
    v0 := m.v0
    vm := bkD v m.vm
    lz1 := fun x hx => ⟨(m.lz1 x hx).1, bkD x (m.lz1 x hx).2⟩
    lz2 := fun x hx => by
      rw [lv_append] at hx
      rcases List.mem_append.1 hx with hx | hx
      · exact ⟨inF x (Or.inr hx), (blz x hx).2⟩
      · exact ⟨(m.lz2 x hx).1, bkD x (m.lz2 x hx).2⟩
    s0 := m.s0
    sm := fun x hx => by
      rw [lv_append]
      rcases m.sm x hx with e | e
      · by_cases hl : x ∈ lv lu
        · exact Or.inr (List.mem_append_left _ hl)
        · exact Or.inl (b.oz x e (by simp) hl)
      · exact Or.inr (List.mem_append_right _ e)
    oz := fun x hx hv h1 h2 => by
      rw [lv_append, List.mem_append, not_or] at h2
      exact b.oz x (m.oz x hx hv h1 h2.2) (by simp) h2.1
    aD1 := fun x hx w hw => by
      have := m.aD1 x hx w hw
      exact ⟨bkD w this.1, this.2⟩
    aD2 := fun x hx w hw => by
      rw [lv_append] at hx
      rcases List.mem_append.1 hx with hx | hx
      · exact b.aD x hx w hw
      · exact bkD w (m.aD2 x hx w hw)
    sa := fun x hx w hw => (m.sa x hx w hw).imp (fun e => e) (fun e => bkD w e)
    seen := ⟨p ++ [u], by rw [hp]; simp, fun w hw => by
      rcases List.mem_append.1 hw with hw | hw
      · exact bkD w (hseen w hw)
      · rw [List.mem_singleton] at hw; rw [hw]; exact (blz u hul).2⟩
    reach := m.reach, arc := m.arc, fence := m.fence, ord1 := m.ord1
    ord2 := by
      have bo : OrdL succ S.depth lu := b.ord
      rw [m.depth] at bo
      refine bo.append m.ord2 (fun x hx w hw hwl => ?_)
      have e1 := m.aD2 x hx w hw
      rw [(blz w hwl).1] at e1
      exact DONE_ne e1.symm }
theorem mid2_end {succ : V → List V} {T S : St V} {v : V} {s : List V} {l1 l2 : List (V × Nat × Bool)} (m : Mid2 succ T v S [] s l1 l2) :
    Big succ T v (step succ S) (T.count + 1) [] ((v, T.depth + 1, true) :: l2 ++ l1) ∧ (step succ S).calls = answered ⟨v, [], T.count + 1, true, true⟩ T.calls := by
  have hst : step succ S = ⟨answered ⟨v, [], T.count + 1, true, true⟩ T.calls, S.stack, (v, S.depth, true) :: S.list, S.depth - 1, S.marks, S.count⟩ := by
    unfold step
    rw [m.calls]
    simp only
    unfold through
    rw [if_pos rfl]
  obtain ⟨p, hp, hseen⟩ := m.seen
  rw [List.append_nil] at hp
  rw [← hp] at hseen
  have s2 : ∀ x ∈ s, x ∈ lv l2 := by
    have key : ∀ x ∈ s, (x = v ∨ x ∈ lv l2) ∧ x ∈ s → x ∈ lv l2 := fun x hx h => by
      rcases h.1 with e | e
      · rcases m.sm x hx with e2 | e2
        · rw [e] at e2; rw [m.vm] at e2; exact absurd e2 DONE_ne
        · exact e2
      · exact e
    intro x hx
    refine key x hx ⟨m.reach (fun y => y = v ∨ y ∈ lv l2) (Or.inl rfl) (fun y hy hCy w hw hws => ?_) x hx, hx⟩
    have hwD : S.marks w = DONE := by
      rcases hCy with rfl | e
      · exact hseen w hw
      · exact m.aD2 y e w hw
    rcases m.sm w hws with e | e
    · rw [hwD] at e; exact absurd e DONE_ne
    · exact Or.inr e
  have hl : ∀ x, x ∈ lv ((v, T.depth + 1, true) :: l2 ++ l1) → x = v ∨ x ∈ lv l2 ∨ x ∈ lv l1 := fun x hx => by
    rw [lv_append, lv_cons] at hx
    rcases List.mem_append.1 hx with hx | hx
    · rcases List.mem_cons.1 hx with hx | hx
      · exact Or.inl hx
      · exact Or.inr (Or.inl hx)
    · exact Or.inr (Or.inr hx)
  have aDall : ∀ x, x ∈ lv ((v, T.depth + 1, true) :: l2 ++ l1) → ∀ w ∈ succ x, S.marks w = DONE := fun x hx w hw => by
    rcases hl x hx with rfl | e | e
    · exact hseen w hw
    · exact m.aD2 x e w hw
    · exact (m.aD1 x e w hw).1
  rw [hst]
  refine ⟨{
    stack := m.stack
    list := by show (v, S.depth, true) :: S.list = _; rw [m.list, m.depth]; simp
    depth := by show S.depth - 1 = _; rw [m.depth]; omega
    cnt := m.cnt, keep := m.keep
    sz := fun x hx => (by cases hx)
    lz := fun x hx => by
      rcases hl x hx with rfl | e | e
      · exact ⟨m.v0, m.vm⟩
      · exact ⟨m.s0 x (m.lz2 x e).1, (m.lz2 x e).2⟩
      · exact m.lz1 x e
    oz := fun x hx _ h2 => by
      rw [lv_append, lv_cons, List.mem_append, List.mem_cons, not_or, not_or] at h2
      exact m.oz x hx h2.1.1 h2.2 h2.1.2
    a0 := fun x hx w hw => by
      rcases hx with hx | hx
      · cases hx
      · show S.marks w ≠ 0; rw [aDall x hx w hw]; exact DONE_ne
    aD := aDall
    hs := Or.inl ⟨rfl, Nat.lt_succ_self _, _, _, rfl, rfl⟩
    low := fun x hx => (by cases hx)
    got := fun h => absurd rfl h
    fence := fun F hF hcl x hx => by
      rcases hx with hx | hx
      · cases hx
      · rcases hl x hx with rfl | e | e
        · exact hF
        · exact m.fence F hF hcl x (Or.inl (m.lz2 x e).1)
        · exact m.fence F hF hcl x (Or.inr e)
    reach := fun C _ _ x hx => (by cases hx)
    ord := by
      refine (OrdL.comp m.ord2 ?_).append m.ord1 (fun x hx w hw hwl => ?_)
      · obtain ⟨x, hx, ha⟩ := m.arc
        rcases hx with hx | rfl
        · exact Or.inr ⟨x, s2 x hx, ha⟩
        · exact Or.inl ha
      · have := m.aD1 x hx w hw
        rw [lv_cons] at hwl
        rcases List.mem_cons.1 hwl with e | e
        · exact this.2.2 e
        · exact this.2.1 (m.lz2 w e).1 }, rfl⟩
end
end Go.Proofs.Ytaocomjhepgabaa
