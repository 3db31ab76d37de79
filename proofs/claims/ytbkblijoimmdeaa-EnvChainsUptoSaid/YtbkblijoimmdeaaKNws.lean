import Derived.Test.YtbkblijoimmdeaaKCdvm
import Derived.Test.YtbkblijoimmdeaaKNwd
set_option linter.unusedVariables false
set_option linter.unusedSimpArgs false
/- Nws -/
namespace Go.Proofs.Ytbkblijoimmdeaa
open Go.RowKit
theorem keep_left {aM aR bM bR : Nat} {v : Int} (h : MemC aM aR v) : MemC (keepC aM aR bM bR).1 (keepC aM aR bM bR).2 v := by
  unfold keepC; split
  · exact h
  · exact all_mem v
theorem keep_right {aM aR bM bR : Nat} (ha : U64 aR) (hb : U64 bR) {v : Int} (h : MemC bM bR v) : MemC (keepC aM aR bM bR).1 (keepC aM aR bM bR).2 v := by
  unfold keepC; split
  · rename_i c; exact (leqC_iff hb ha).1 c v h
  · exact all_mem v
theorem keep_u64 {aM aR bM bR : Nat} (h1 : U64 aM) (h2 : U64 aR) : U64 (keepC aM aR bM bR).1 ∧ U64 (keepC aM aR bM bR).2 := by
  unfold keepC; split
  · exact ⟨h1, h2⟩
  · exact ⟨show (1 : Nat) < 18446744073709551616 by omega, show (0 : Nat) < 18446744073709551616 by omega⟩
theorem widRaw_norm {a b : Int × Int × Nat × Nat × Bool} (ra : RawN a) (na : NormN a) (rb : RawN b) (nb : NormN b) (ts : List Int) : NormN (widRaw a b ts) := by
  unfold widRaw
  split
  · exact nb
  · split
    · exact na
    · rename_i x y
      have sa := norm_some na (by simpa using x)
      have sb := norm_some nb (by simpa using y)
      have i := widenI_in ra.1 ra.2.1 rb.1 rb.2.1 sa sb ts
      exact make_norm i.1 i.2
theorem widRaw_raw {a b : Int × Int × Nat × Nat × Bool} (ra : RawN a) (na : NormN a) (rb : RawN b) (nb : NormN b) (ts : List Int) : RawN (widRaw a b ts) := by
  unfold widRaw
  split
  · exact rb
  · split
    · exact ra
    · rename_i x y
      have sa := norm_some na (by simpa using x)
      have sb := norm_some nb (by simpa using y)
      have i := widenI_in ra.1 ra.2.1 rb.1 rb.2.1 sa sb ts
      have k := keep_u64 (aM := a.2.2.1) (aR := a.2.2.2.1) (bM := b.2.2.1) (bR := b.2.2.2.1) ra.2.2.1 ra.2.2.2
      exact make_raw i.1 i.2 k.1 k.2
theorem widRaw_mem {a b : Int × Int × Nat × Nat × Bool} (ra : RawN a) (na : NormN a) (rb : RawN b) (nb : NormN b) (ts : List Int) {v : Int} (hv : In64 v) (h : MemN a v ∨ MemN b v) : MemN (widRaw a b ts) v := by
  unfold widRaw
  by_cases x : a.2.2.2.2 = true
  · rw [if_pos x]
    rcases h with h | h
    · have := h.1; rw [x] at this; cases this
    · exact h
  rw [if_neg x]
  by_cases y : b.2.2.2.2 = true
  · rw [if_pos y]
    rcases h with h | h
    · exact h
    · have := h.1; rw [y] at this; cases this
  rw [if_neg y]
  have sa := norm_some na (by simpa using x)
  have sb := norm_some nb (by simpa using y)
  have i := widenI_in ra.1 ra.2.1 rb.1 rb.2.1 sa sb ts
  rw [make_mem i.1 i.2 hv]
  have l := wLo_le rb.1 ts
  have u := wHi_ge rb.2.1 ts
  rw [widenI_some sa sb]
  simp only
  rcases h with h | h
  · have p := h.2.1; have q := h.2.2.1
    exact ⟨by split <;> omega, by split <;> omega, keep_left h.2.2.2⟩
  · have p := h.2.1; have q := h.2.2.1
    exact ⟨by split <;> omega, by split <;> omega, keep_right ra.2.2.2 rb.2.2.2 h.2.2.2⟩
theorem tL_most (bl : Int) (ts : List Int) : ∀ t ∈ tL ts, t ≤ bl → t ≤ wLo bl ts := by
  intro t ht hb
  rcases List.mem_cons.1 ht with e | e
  · rw [e]; exact wLo_ge bl ts
  · exact wLo_most bl ts t e hb
theorem tH_most (bh : Int) (ts : List Int) : ∀ t ∈ tH ts, bh ≤ t → wHi bh ts ≤ t := by
  intro t ht hb
  rcases List.mem_cons.1 ht with e | e
  · rw [e]; exact wHi_le bh ts
  · exact wHi_most bh ts t e hb
theorem EL.step {ts : List Int} {M R p : Nat} {al bl x : Int} (e : EL ts M R p al) (mv : bl < al → wLo bl ts ≤ x ∧ x ≤ bl ∧ MemC M R x ∧ (∀ z, MemC M R z → wLo bl ts ≤ z → x ≤ z)) (st : ¬ bl < al → x = al) : EL ts M R (p + (if bl < al then 1 else 0)) x := by
  by_cases c : bl < al
  · rw [if_pos c]
    obtain ⟨m1, m2, m3, m4⟩ := mv c
    exact e.move (wLo_in bl ts) (tL_most bl ts) m1 m2 c m3 m4
  · rw [if_neg c, st c]; exact e
theorem EH.step {ts : List Int} {M R p : Nat} {ah bh x : Int} (e : EH ts M R p ah) (mv : ah < bh → x ≤ wHi bh ts ∧ bh ≤ x ∧ MemC M R x ∧ (∀ z, MemC M R z → z ≤ wHi bh ts → z ≤ x)) (st : ¬ ah < bh → x = ah) : EH ts M R (p + (if ah < bh then 1 else 0)) x := by
  by_cases c : ah < bh
  · rw [if_pos c]
    obtain ⟨m1, m2, m3, m4⟩ := mv c
    exact e.move (wHi_in bh ts) (tH_most bh ts) m1 m2 c m3 m4
  · rw [if_neg c, st c]; exact e
theorem FL.step {ts : List Int} {p : Nat} {al bl x : Int} (hb : In64 bl) (e : p + ltL ts al ≤ ts.length + 2) (hx : x = if bl < al then wLo bl ts else al) : p + (if bl < al then 1 else 0) + ltL ts x ≤ ts.length + 2 := by
  have wl := wLo_le hb ts
  by_cases c : bl < al
  · rw [if_pos c] at hx ⊢
    have d := ltL_lt (ts := ts) (l := al) (wLo_in bl ts) (by omega)
    rw [hx]; omega
  · rw [if_neg c] at hx ⊢
    rw [hx]; exact e
theorem FH.step {ts : List Int} {p : Nat} {ah bh x : Int} (hb : In64 bh) (e : p + ltH ts ah ≤ ts.length + 2) (hx : x = if ah < bh then wHi bh ts else ah) : p + (if ah < bh then 1 else 0) + ltH ts x ≤ ts.length + 2 := by
  have wl := wHi_ge hb ts
  by_cases c : ah < bh
  · rw [if_pos c] at hx ⊢
    have d := ltH_lt (ts := ts) (l := ah) (wHi_in bh ts) (by omega)
    rw [hx]; omega
  · rw [if_neg c] at hx ⊢
    rw [hx]; exact e
theorem cnt_step {P Q S : Prop} [Decidable P] [Decidable Q] [Decidable S] {ch p q d : Nat} (h : ¬ P → ¬ Q → S) (hc : ch ≤ p + q + d) : (if S then ch else ch + 1) ≤ (p + (if P then 1 else 0)) + (q + (if Q then 1 else 0)) + d := by
  by_cases c : P
  · rw [if_pos c]; split <;> split <;> omega
  · by_cases d' : Q
    · rw [if_neg c, if_pos d']; split <;> omega
    · rw [if_neg c, if_neg d', if_pos (h c d')]; exact hc
theorem cnt_more {S : Prop} [Decidable S] {ch p q a b : Nat} (hc : ch ≤ p + q + 1) : (if S then ch else ch + 1) ≤ (p + a) + (q + b) + 2 := by
  split <;> omega
/-- Where the class stands. -/
theorem wid_keep {ts : List Int} {a b : Int × Int × Nat × Nat × Bool} (ra : RawN a) (na : NormN a) (rb : RawN b) (nb : NormN b) (xa : a.2.2.2.2 = false) (yb : b.2.2.2.2 = false) (lq : leqC b.2.2.1 b.2.2.2.1 a.2.2.1 a.2.2.2.1 = true) (lt : a.1 < a.2.1) :
    (widRaw a b ts).2.2.2.2 = false ∧ (widRaw a b ts).2.2.1 = a.2.2.1 ∧ (widRaw a b ts).2.2.2.1 = a.2.2.2.1 ∧
    (b.1 < a.1 → wLo b.1 ts ≤ (widRaw a b ts).1 ∧ (widRaw a b ts).1 ≤ b.1 ∧ MemC a.2.2.1 a.2.2.2.1 (widRaw a b ts).1 ∧ (∀ z, MemC a.2.2.1 a.2.2.2.1 z → wLo b.1 ts ≤ z → (widRaw a b ts).1 ≤ z)) ∧ (¬ b.1 < a.1 → (widRaw a b ts).1 = a.1) ∧
    (a.2.1 < b.2.1 → (widRaw a b ts).2.1 ≤ wHi b.2.1 ts ∧ b.2.1 ≤ (widRaw a b ts).2.1 ∧ MemC a.2.2.1 a.2.2.2.1 (widRaw a b ts).2.1 ∧ (∀ z, MemC a.2.2.1 a.2.2.2.1 z → z ≤ wHi b.2.1 ts → z ≤ (widRaw a b ts).2.1)) ∧ (¬ a.2.1 < b.2.1 → (widRaw a b ts).2.1 = a.2.1) := by
  have sa := norm_some na xa
  have sb := norm_some nb yb
  have i := widenI_in ra.1 ra.2.1 rb.1 rb.2.1 sa sb ts
  rcases na with na | na
  · rw [na] at xa; cases xa
  rcases nb with nb | nb
  · rw [nb] at yb; cases yb
  have ea := norm_ends na
  have eb := norm_ends nb
  have wl := wLo_le rb.1 ts
  have wh := wHi_ge rb.2.1 ts
  have nrm := na.2.2.2.2.2.2.2 lt
  have lq' := (leqC_iff rb.2.2.2 ra.2.2.2).1 lq
  have e : widRaw a b ts = makeN (if b.1 < a.1 then wLo b.1 ts else a.1) (if a.2.1 < b.2.1 then wHi b.2.1 ts else a.2.1) a.2.2.1 a.2.2.2.1 := by
    unfold widRaw keepC
    rw [if_neg (by rw [xa]; simp), if_neg (by rw [yb]; simp), if_pos lq, widenI_some sa sb]
  rw [widenI_some sa sb] at i
  simp only at i
  obtain ⟨lo, hlo⟩ : ∃ z, z = if b.1 < a.1 then wLo b.1 ts else a.1 := ⟨_, rfl⟩
  obtain ⟨hi, hhi⟩ : ∃ z, z = if a.2.1 < b.2.1 then wHi b.2.1 ts else a.2.1 := ⟨_, rfl⟩
  rw [← hlo, ← hhi] at e i
  have l1 : lo ≤ a.1 := by clear lq' nrm na nb; rw [hlo]; split <;> omega
  have l2 : a.2.1 ≤ hi := by clear lq' nrm na nb; rw [hhi]; split <;> omega
  have b1 : lo ≤ b.1 := by clear lq' nrm na nb; rw [hlo]; split <;> omega
  have b2 : b.2.1 ≤ hi := by clear lq' nrm na nb; rw [hhi]; split <;> omega
  have K := make_ends (M := a.2.2.1) (R := a.2.2.2.1) i.1 i.2 (z := a.1) na.2.1 l1 (by omega) ea.1.2.2.2
  have G := make_class (lo := lo) (hi := hi) (M := a.2.2.1) (R := a.2.2.2.1)
  rw [← e] at K G
  rw [normC_id (Or.inr nrm.2)] at G
  obtain ⟨k1, k2, k3, k4, k5, k6, k7, k8, k9⟩ := K
  have g2 : a.2.1 ≤ (widRaw a b ts).2.1 := k9 _ ea.2.2.2.2 l2
  have cl := G (Int.lt_of_le_of_lt k4 (Int.lt_of_lt_of_le lt g2))
  have m1 := k8 _ (lq' _ eb.1.2.2.2) b1
  have m2 := k9 _ (lq' _ eb.2.2.2.2) b2
  refine ⟨k1, cl.1, cl.2, fun c => ?_, fun c => ?_, fun c => ?_, fun c => ?_⟩
  · rw [if_pos c] at hlo; rw [← hlo]; exact ⟨k2, m1, k6, k8⟩
  · rw [if_neg c] at hlo; rw [hlo] at k2; exact Int.le_antisymm k4 k2
  · rw [if_pos c] at hhi; rw [← hhi]; exact ⟨k3, m2, k7, k9⟩
  · rw [if_neg c] at hhi; rw [hhi] at k3; exact Int.le_antisymm k3 g2
/-- Where it falls. -/
theorem wid_fall {ts : List Int} {a b : Int × Int × Nat × Nat × Bool} (ra : RawN a) (na : NormN a) (rb : RawN b) (nb : NormN b) (xa : a.2.2.2.2 = false) (yb : b.2.2.2.2 = false) (lq : ¬ leqC b.2.2.1 b.2.2.2.1 a.2.2.1 a.2.2.2.1 = true) :
    (widRaw a b ts).2.2.2.2 = false ∧ (widRaw a b ts).2.2.1 = 1 ∧ (widRaw a b ts).2.2.2.1 = 0 ∧ (widRaw a b ts).1 = (if b.1 < a.1 then wLo b.1 ts else a.1) ∧ (widRaw a b ts).2.1 = (if a.2.1 < b.2.1 then wHi b.2.1 ts else a.2.1) := by
  have sa := norm_some na xa
  have sb := norm_some nb yb
  have i := widenI_in ra.1 ra.2.1 rb.1 rb.2.1 sa sb ts
  rcases na with na | na
  · rw [na] at xa; cases xa
  rcases nb with nb | nb
  · rw [nb] at yb; cases yb
  have ea := norm_ends na
  have eb := norm_ends nb
  have wl := wLo_le rb.1 ts
  have wh := wHi_ge rb.2.1 ts
  have e : widRaw a b ts = makeN (if b.1 < a.1 then wLo b.1 ts else a.1) (if a.2.1 < b.2.1 then wHi b.2.1 ts else a.2.1) 1 0 := by
    unfold widRaw keepC
    rw [if_neg (by rw [xa]; simp), if_neg (by rw [yb]; simp), if_neg lq, widenI_some sa sb]
  rw [widenI_some sa sb] at i
  simp only at i
  obtain ⟨lo, hlo⟩ : ∃ z, z = if b.1 < a.1 then wLo b.1 ts else a.1 := ⟨_, rfl⟩
  obtain ⟨hi, hhi⟩ : ∃ z, z = if a.2.1 < b.2.1 then wHi b.2.1 ts else a.2.1 := ⟨_, rfl⟩
  rw [← hlo, ← hhi] at e i ⊢
  have l1 : lo ≤ a.1 := by clear na nb; rw [hlo]; split <;> omega
  have l2 : a.2.1 ≤ hi := by clear na nb; rw [hhi]; split <;> omega
  have b1 : lo ≤ b.1 := by clear na nb; rw [hlo]; split <;> omega
  have b2 : b.2.1 ≤ hi := by clear na nb; rw [hhi]; split <;> omega
  have K := make_ends (M := 1) (R := 0) i.1 i.2 (z := a.1) na.2.1 l1 (by clear na nb; omega) (all_mem _)
  have G := make_class (lo := lo) (hi := hi) (M := 1) (R := 0)
  rw [← e] at K G
  rw [normC_id (Or.inr (show (0 : Nat) < 1 by omega))] at G
  obtain ⟨k1, k2, k3, k4, k5, k6, k7, k8, k9⟩ := K
  have elo := Int.le_antisymm (k8 _ (all_mem _) (Int.le_refl _)) k2
  have ehi := Int.le_antisymm k3 (k9 _ (all_mem _) (Int.le_refl _))
  have lt : lo < hi := by
    apply Int.lt_of_not_ge
    intro c
    apply lq
    rw [leqC_iff rb.2.2.2 ra.2.2.2]
    have eq1 : a.1 = b.1 := by clear na nb G; omega
    have one : b.1 = b.2.1 := by clear na nb G; omega
    have z := nb.2.2.2.2.2.2.1 one
    intro v hv
    rw [z.1, z.2, memC_zero, wrap_bits nb.2.1] at hv
    rw [hv, ← eq1]; exact ea.1.2.2.2
  have cl := G (by rw [elo, ehi]; exact lt)
  exact ⟨k1, cl.1, cl.2, elo, ehi⟩
/-- A single number that keeps its class stays. -/
theorem wid_one {ts : List Int} {a b : Int × Int × Nat × Nat × Bool} (ra : RawN a) (na : NormN a) (rb : RawN b) (nb : NormN b) (xa : a.2.2.2.2 = false) (yb : b.2.2.2.2 = false) (lq : leqC b.2.2.1 b.2.2.2.1 a.2.2.1 a.2.2.2.1 = true) (one : a.1 = a.2.1) : widRaw a b ts = a := by
  have sa := norm_some na xa
  have sb := norm_some nb yb
  have na0 := na
  have i := widenI_in ra.1 ra.2.1 rb.1 rb.2.1 sa sb ts
  rcases na with na | na
  · rw [na] at xa; cases xa
  rcases nb with nb | nb
  · rw [nb] at yb; cases yb
  have ea := norm_ends na
  have eb := norm_ends nb
  have lq' := (leqC_iff rb.2.2.2 ra.2.2.2).1 lq
  have z := na.2.2.2.2.2.2.1 one
  have cb1 := lq' _ eb.1.2.2.2
  have cb2 := lq' _ eb.2.2.2.2
  have ca := ea.1.2.2.2
  rw [z.1, memC_zero] at cb1 cb2 ca
  have n1 : ¬ b.1 < a.1 := by clear na nb z; omega
  have n2 : ¬ a.2.1 < b.2.1 := by clear na nb z; omega
  have e : widRaw a b ts = makeN a.1 a.2.1 a.2.2.1 a.2.2.2.1 := by
    unfold widRaw keepC
    rw [if_neg (by rw [xa]; simp), if_neg (by rw [yb]; simp), if_pos lq, widenI_some sa sb, if_neg n1, if_neg n2]
  rw [e]
  refine norm_ext (make_norm ra.1 ra.2.1) na0 (fun v hv => ?_)
  rw [make_mem ra.1 ra.2.1 hv]
  exact ⟨fun m => ⟨xa, m⟩, fun m => m.2⟩
theorem RInv.step {ts : List Int} {a b : Int × Int × Nat × Nat × Bool} {ch : Nat} (ra : RawN a) (na : NormN a) (rb : RawN b) (nb : NormN b) (h : RInv ts a ch) :
    RInv ts (widRaw a b ts) (if widRaw a b ts = a then ch else ch + 1) := by
  by_cases x : a.2.2.2.2 = true
  · have e : widRaw a b ts = b := by unfold widRaw; rw [if_pos x]
    rw [e]
    rcases h with ⟨h1, h2⟩ | ⟨h1, _⟩
    · rcases nb with nb | nb
      · rw [nb, h1, if_pos rfl]; exact Or.inl ⟨rfl, h2⟩
      · subst h2
        refine Or.inr ⟨nb.1, 0, 0, Or.inl ⟨?_, Or.inl rfl, Or.inl rfl⟩⟩
        clear nb
        split <;> omega
    · rw [h1] at x; cases x
  by_cases y : b.2.2.2.2 = true
  · have e : widRaw a b ts = a := by unfold widRaw; rw [if_neg x, if_pos y]
    rw [e, if_pos rfl]; exact h
  have xa : a.2.2.2.2 = false := by simpa using x
  have yb : b.2.2.2.2 = false := by simpa using y
  by_cases lq : leqC b.2.2.1 b.2.2.2.1 a.2.2.1 a.2.2.2.1 = true
  · by_cases one : a.1 = a.2.1
    · have e := wid_one (ts := ts) ra na rb nb xa yb lq one
      rw [e, if_pos rfl]; exact h
    · have lt : a.1 < a.2.1 := by have := norm_some na xa; omega
      obtain ⟨k1, c1, c2, m1, m2, m3, m4⟩ := wid_keep (ts := ts) ra na rb nb xa yb lq lt
      have stay : ¬ b.1 < a.1 → ¬ a.2.1 < b.2.1 → widRaw a b ts = a := fun p q => Prod.ext (m2 p) (Prod.ext (m4 q) (Prod.ext c1 (Prod.ext c2 (k1.trans xa.symm))))
      rcases h with ⟨hb, _⟩ | ⟨_, p, q, ⟨hc, hp, hq⟩ | ⟨hc, hM, hR, hp, hq⟩⟩
      · rw [hb] at xa; cases xa
      · refine Or.inr ⟨k1, p + (if b.1 < a.1 then 1 else 0), q + (if a.2.1 < b.2.1 then 1 else 0), Or.inl ⟨cnt_step stay hc, ?_, ?_⟩⟩
        · rw [c1, c2]; exact hp.step m1 m2
        · rw [c1, c2]; exact hq.step m3 m4
      · have all : ∀ v, MemC a.2.2.1 a.2.2.2.1 v := fun v => by rw [hM, hR]; exact all_mem v
        refine Or.inr ⟨k1, p + (if b.1 < a.1 then 1 else 0), q + (if a.2.1 < b.2.1 then 1 else 0), Or.inr ⟨cnt_step stay hc, c1.trans hM, c2.trans hR, FL.step rb.1 hp ?_, FH.step rb.2.1 hq ?_⟩⟩
        · by_cases c : b.1 < a.1
          · rw [if_pos c]; exact Int.le_antisymm ((m1 c).2.2.2 _ (all _) (Int.le_refl _)) (m1 c).1
          · rw [if_neg c]; exact m2 c
        · by_cases c : a.2.1 < b.2.1
          · rw [if_pos c]; exact Int.le_antisymm (m3 c).1 ((m3 c).2.2.2 _ (all _) (Int.le_refl _))
          · rw [if_neg c]; exact m4 c
  · obtain ⟨k1, c1, c2, e1, e2⟩ := wid_fall (ts := ts) ra na rb nb xa yb lq
    rcases h with ⟨hb, _⟩ | ⟨_, p, q, ⟨hc, hp, hq⟩ | ⟨hc, hM, hR, hp, hq⟩⟩
    · rw [hb] at xa; cases xa
    · exact Or.inr ⟨k1, p + (if b.1 < a.1 then 1 else 0), q + (if a.2.1 < b.2.1 then 1 else 0), Or.inr ⟨cnt_more hc, c1, c2, FL.step rb.1 hp.fall e1, FH.step rb.2.1 hq.fall e2⟩⟩
    · exfalso
      apply lq
      rw [leqC_iff rb.2.2.2 ra.2.2.2]
      intro v _
      rw [hM, hR]; exact all_mem v
end Go.Proofs.Ytbkblijoimmdeaa
