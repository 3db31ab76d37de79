import Derived.Test.YtbkblijoimmdeaaKEall
set_option linter.unusedVariables false
set_option linter.unusedSimpArgs false
/- EnvChains: plain mathematics: an Env that is widened changes but few times. -/
namespace Go.Proofs.Ytbkblijoimmdeaa
theorem EL.top {ts : List Int} {M R n : Nat} {l : Int} (e : EL ts M R n l) : n ≤ ts.length + 2 := by have := e.fall; omega
theorem EH.top {ts : List Int} {M R n : Nat} {l : Int} (e : EH ts M R n l) : n ≤ ts.length + 2 := by have := e.fall; omega
/-- What a row of widenings keeps: moves of both ends, the class's fall, the first that isn't Bot. -/
theorem RInv.end' {ts : List Int} {a : Int × Int × Nat × Nat × Bool} {ch : Nat} (h : RInv ts a ch) : ch ≤ 2 * (ts.length + 3) := by
  rcases h with ⟨_, h⟩ | ⟨_, p, q, ⟨h1, h2, h3⟩ | ⟨h1, _, _, h2, h3⟩⟩
  · omega
  · have := h2.top; have := h3.top; omega
  · omega
/-- the changes of all numbers of a list together. -/
def RSum (ts : List Int) : List NT → Nat → Prop
  | [], s => s = 0
  | x :: l, s => ∃ c t, RInv ts x c ∧ RSum ts l t ∧ s = c + t
theorem RSum.start {ts : List Int} : ∀ {l : List NT}, (∀ x ∈ l, Liv x) → RSum ts l 0
  | [], _ => rfl
  | x :: l, h => ⟨0, 0, RInv.start (h x (List.mem_cons_self)).2.1, RSum.start (fun y hy => h y (List.mem_cons_of_mem _ hy)), rfl⟩
theorem RSum.end' {ts : List Int} : ∀ {l : List NT} {s : Nat}, RSum ts l s → s ≤ l.length * (2 * (ts.length + 3))
  | [], s, h => by rw [show s = 0 from h]; exact Nat.zero_le _
  | x :: l, s, ⟨c, t, h1, h2, h3⟩ => by
    have a := RInv.end' h1
    have b := RSum.end' h2
    rw [List.length_cons, Nat.add_mul, Nat.one_mul]
    omega
theorem RSum.step {ts : List Int} : ∀ {l m : List NT} {s : Nat}, (∀ x ∈ l, Liv x) → (∀ x ∈ m, Liv x) → l.length = m.length → RSum ts l s → ∃ s', RSum ts (List.zipWith (fun a b => widenN a b ts) l m) s' ∧ s ≤ s' ∧ (List.zipWith (fun a b => widenN a b ts) l m ≠ l → s + 1 ≤ s')
  | [], [], s, _, _, _, h => ⟨s, h, Nat.le_refl _, fun k => absurd rfl k⟩
  | [], _ :: _, _, _, _, h, _ => by simp at h
  | _ :: _, [], _, _, _, h, _ => by simp at h
  | x :: l, y :: m, s, hl, hm, hlen, ⟨c, t, h1, h2, h3⟩ => by
    have lx := hl x (List.mem_cons_self)
    have ly := hm y (List.mem_cons_self)
    obtain ⟨t', i1, i2, i3⟩ := RSum.step (fun z hz => hl z (List.mem_cons_of_mem _ hz)) (fun z hz => hm z (List.mem_cons_of_mem _ hz)) (by simpa using hlen) h2
    have e : widenN x y ts = widRaw x y ts := by unfold widenN; rw [normN_id lx.1 lx.2.1, normN_id ly.1 ly.2.1]
    have st := RInv.step lx.1 lx.2.1 ly.1 ly.2.1 h1
    rw [← e] at st
    have e2 : List.zipWith (fun a b => widenN a b ts) (x :: l) (y :: m) = widenN x y ts :: List.zipWith (fun a b => widenN a b ts) l m := rfl
    rw [e2]
    by_cases k : widenN x y ts = x
    · rw [if_pos k] at st
      refine ⟨c + t', ⟨c, t', st, i1, rfl⟩, by omega, fun hn => ?_⟩
      have : List.zipWith (fun a b => widenN a b ts) l m ≠ l := fun q => hn (by rw [k, q])
      have := i3 this
      omega
    · rw [if_neg k] at st
      exact ⟨c + 1 + t', ⟨c + 1, t', st, i1, rfl⟩, by omega, fun _ => by omega⟩
/-- an Env that was widened ch times, of N numbers. -/
def ChI (ts : List Int) (E : ET) (N ch : Nat) : Prop :=
  (E = dedE ∧ ch = 0 ∧ N = 0) ∨ ∃ v a s1 s2, E = (false, v, a) ∧ RSum ts v s1 ∧ RSum ts a s2 ∧ ch ≤ 1 + s1 + s2 ∧ N = v.length + a.length
theorem ChI.start {ts : List Int} {E : ET} (h : NorE E) : ChI ts E (E.2.1.length + E.2.2.length) 0 := by
  rcases h.cas with rfl | ⟨v, a, rfl, h1, h2⟩
  · exact Or.inl ⟨rfl, rfl, rfl⟩
  · exact Or.inr ⟨v, a, 0, 0, rfl, RSum.start h1, RSum.start h2, by omega, rfl⟩
theorem ChI.end' {ts : List Int} {E : ET} {N ch : Nat} (h : ChI ts E N ch) : ch ≤ N * (2 * (ts.length + 3) + 1) + 1 := by
  rcases h with ⟨_, h, _⟩ | ⟨v, a, s1, s2, _, h1, h2, h3, rfl⟩
  · omega
  · have e1 := h1.end'
    have e2 := h2.end'
    rw [Nat.mul_add, Nat.add_mul]
    omega
theorem lq_w1 {a b : NT} (ha : Liv a) (hb : Liv b) (ts : List Int) : lqN a (widenN a b ts) = true := (lqN_iff ha.1 (wid_liv ha hb ts).1).2 (fun v hv h => wid_mem ha hb ts hv (Or.inl h))
theorem lq_w2 {a b : NT} (ha : Liv a) (hb : Liv b) (ts : List Int) : lqN b (widenN a b ts) = true := (lqN_iff hb.1 (wid_liv ha hb ts).1).2 (fun v hv h => wid_mem ha hb ts hv (Or.inr h))
theorem join_cas {E F : ET} {v a : List NT} (hE : E = (false, v, a)) (h1 : ∀ x ∈ v, Liv x) (h2 : ∀ x ∈ a, Liv x) (hF : NorE F) (hs : shp0 E F = true) : ∃ v2 a2, tog0 joinN E F = (false, v2, a2) ∧ (∀ x ∈ v2, Liv x) ∧ (∀ x ∈ a2, Liv x) ∧ v.length = v2.length ∧ a.length = a2.length := by
  subst hE
  rcases hF.cas with rfl | ⟨v', a', rfl, h3, h4⟩
  · exact ⟨v, a, tog_ded' _ _ _, h1, h2, rfl, rfl⟩
  · obtain ⟨l1, l2⟩ := shp_iff.1 hs
    refine ⟨_, _, tog_al (fun a b ha hb => join_liv ha hb) h1 h2 h3 h4 l1 l2, zip_all (Q := Liv) (R := Liv) (S := Liv) (fun a b ha hb => join_liv ha hb) h1 h3, zip_all (Q := Liv) (R := Liv) (S := Liv) (fun a b ha hb => join_liv ha hb) h2 h4, by simp; omega, by simp; omega⟩
theorem ChI.step {ts : List Int} {E F X : ET} {N ch : Nat} (hE : NorE E) (hF : NorE F) (h : ChI ts E N ch) (hs : E.1 = true ∨ shp0 E F = true) (hX : X = tog0 (fun a b => widenN a b ts) E (tog0 joinN E F)) :
    leq0 E X = true ∧ ChI ts X (max N (X.2.1.length + X.2.2.length)) (if same0 E X = true then ch else ch + 1) := by
  rcases hE.cas with rfl | ⟨v, a, rfl, h1, h2⟩
  · rw [tog_ded, tog_ded] at hX
    subst hX
    refine ⟨leq_ded _, ?_⟩
    have h0 : ch = 0 ∧ N = 0 := by
      rcases h with ⟨_, p, q⟩ | ⟨v, a, s1, s2, e, _⟩
      · exact ⟨p, q⟩
      · simp [dedE] at e
    obtain ⟨rfl, rfl⟩ := h0
    rcases hF.cas with rfl | ⟨v', a', rfl, h3, h4⟩
    · rw [if_pos (same_iff.2 rfl)]; exact Or.inl ⟨rfl, rfl, rfl⟩
    · rw [if_neg (fun k => by have := same_iff.1 k; simp [dedE] at this)]
      exact Or.inr ⟨v', a', 0, 0, rfl, RSum.start h3, RSum.start h4, by omega, by simp⟩
  · have hs2 : shp0 (false, v, a) F = true := by
      rcases hs with k | k
      · cases k
      · exact k
    obtain ⟨v2, a2, e1, g1, g2, l1, l2⟩ := join_cas rfl h1 h2 hF hs2
    rw [e1, tog_al (fun a b ha hb => wid_liv ha hb ts) h1 h2 g1 g2 l1 l2] at hX
    have hN2 : NorE (false, v2, a2) := Or.inr ⟨rfl, g1, g2⟩
    have ab := (tog_above (p := fun a b => widenN a b ts) (fun a b ha hb => wid_liv ha hb ts) (fun a b ha hb => lq_w1 ha hb ts) (fun a b ha hb => lq_w2 ha hb ts) hE hN2 (shp_iff.2 ⟨l1, l2⟩)).1
    rw [tog_al (fun a b ha hb => wid_liv ha hb ts) h1 h2 g1 g2 l1 l2, ← hX] at ab
    refine ⟨ab, ?_⟩
    rcases h with ⟨e, _⟩ | ⟨v', a', s1, s2, e, r1, r2, r3, rfl⟩
    · simp [dedE] at e
    simp only [Prod.mk.injEq, true_and] at e
    obtain ⟨rfl, rfl⟩ := e
    obtain ⟨t1, p1, q1, k1⟩ := RSum.step h1 g1 l1 r1
    obtain ⟨t2, p2, q2, k2⟩ := RSum.step h2 g2 l2 r2
    right
    refine ⟨_, _, t1, t2, hX, p1, p2, ?_, ?_⟩
    · by_cases k : same0 (false, v, a) X = true
      · rw [if_pos k]; omega
      · rw [if_neg k]
        have k' : List.zipWith (fun a b => widenN a b ts) v v2 ≠ v ∨ List.zipWith (fun a b => widenN a b ts) a a2 ≠ a := by
          by_cases z1 : List.zipWith (fun a b => widenN a b ts) v v2 = v
          · by_cases z2 : List.zipWith (fun a b => widenN a b ts) a a2 = a
            · exact absurd (same_iff.2 (by rw [hX, z1, z2])) k
            · exact Or.inr z2
          · exact Or.inl z1
        rcases k' with k' | k'
        · have := k1 k'; omega
        · have := k2 k'; omega
    · rw [hX]; simp; omega
end Go.Proofs.Ytbkblijoimmdeaa
