import Derived.Test.YtklkpaekdpaloaaDoorKQj
import Derived.Test.YtklkpaekdpaloaaDoorKRc
import Derived.Test.YtklkpaekdpaloaaDoorKSa
import Derived.Test.YtklkpaekdpaloaaDoorKSc
import Derived.Test.YtklkpaekdpaloaaDoorKZc
set_option linter.unusedVariables false
set_option linter.unusedSimpArgs false
set_option linter.unnecessarySimpa false
namespace Go.Proofs.YtklkpaekdpaloaaDoor
section
open Go.RowKit
end
section
open Go.RowKit
def hdA (d : Int) (ns : List Nd) : Nat → Int
 | 0 => -1
 | j + 1 => if depA ns j < d then (j : Int) else hdA d ns j
def hdF (ns : List Nd) (i : Nat) : Int := hdA (depA ns i) ns i
end
section
open Go.RowKit
def kidF (ns : List Nd) (en : Nat) : Nat → Nat → List Nat
 | 0, _ => []
 | f + 1, j => if j < en then j :: kidF ns en f (endF ns j) else []
def hlF (ns : List Nd) (p : Nat) : List Nat := kidF ns (endF ns p) (ns.length + 2) (p + 1)
def inL (l : List Nat) : List Value := l.map fun j => Value.int IntKind.i64 (j : Nat)
def KdSem (ns : List Nd) (p : Nat) (l : List Nat) (j : Nat) : Prop := ∃ f, ns.length + 1 - j ≤ f ∧ hlF ns p = l ++ kidF ns (endF ns p) f j
theorem KdSem.step {ns : List Nd} {p j : Nat} {l : List Nat} (h : KdSem ns p l j) (hj : j < endF ns p) (hl : j < ns.length) : KdSem ns p (l ++ [j]) (endF ns j) := by
 obtain ⟨f, h1, e⟩ := h
 obtain ⟨f2, rfl⟩ : ∃ f2, f = f2 + 1 := ⟨f - 1, by omega⟩
 have hlo : j < endF ns j := by unfold endF; omega
 refine ⟨f2, by omega, ?_⟩
 rw [e, kidF, if_pos hj, List.append_assoc]; rfl
theorem KdSem.fin {ns : List Nd} {p j : Nat} {l : List Nat} (h : KdSem ns p l j) (hj : ¬ j < endF ns p) : hlF ns p = l := by
 obtain ⟨f, _, e⟩ := h
 rw [e]
 cases f with
 | zero => rw [kidF, List.append_nil]
 | succ f => rw [kidF, if_neg hj, List.append_nil]
end
section
open Go.RowKit
theorem hdA_spec (d : Int) (ns : List Nd) : ∀ j, (hdA d ns j = -1 ∧ ∀ x, x < j → d ≤ depA ns x) ∨ (∃ g : Nat, hdA d ns j = g ∧ g < j ∧ depA ns g < d ∧ ∀ x, g < x → x < j → d ≤ depA ns x)
 | 0 => .inl ⟨rfl, fun x h => by omega⟩
 | j + 1 => by
  rw [hdA]
  by_cases c : depA ns j < d
  ·rw [if_pos c]
   exact .inr ⟨j, rfl, by omega, c, fun x h1 h2 => by omega⟩
  ·rw [if_neg c]
   rcases hdA_spec d ns j with ⟨e, h⟩ | ⟨g, e, h1, h2, h3⟩
   ·refine .inl ⟨e, fun x hx => ?_⟩
    by_cases ex : x = j
    ·rw [ex]; omega
    ·exact h x (by omega)
   ·refine .inr ⟨g, e, by omega, h2, fun x hx1 hx2 => ?_⟩
    by_cases ex : x = j
    ·rw [ex]; omega
    ·exact h3 x hx1 (by omega)
theorem hd_spec {ns : List Nd} (h : TreeOK ns) {i : Nat} (hi : i < ns.length) : (depA ns i = 1 ∧ hdF ns i = -1) ∨ (∃ g : Nat, hdF ns i = g ∧ g < i ∧ depA ns i = depA ns g + 1 ∧ i < endF ns g) := by
 have h0 : depA ns 0 = 1 := by rw [depA_get (List.getElem?_eq_getElem (show 0 < ns.length by omega))]; exact h.shp.first (by omega)
 have hd1 := h.dep hi
 rcases hdA_spec (depA ns i) ns i with ⟨e, hx⟩ | ⟨g, e, h1, h2, h3⟩
 ·refine .inl ⟨?_, e⟩
  by_cases c : i = 0
  ·rw [c]; exact h0
  ·have := hx 0 (by omega); omega
 ·have hgl : g < ns.length := by omega
  have hst := h.step (p := g) (by omega)
  have hdg : depA ns i = depA ns g + 1 := by
   by_cases c : g + 1 = i
   ·rw [c] at hst; omega
   ·have := h3 (g + 1) (by omega) (by omega); omega
  refine .inr ⟨g, e, h1, hdg, ?_⟩
  rcases Nat.lt_or_ge i (endF ns g) with c | c
  ·exact c
  ·exfalso
   have hlo := endF_lo (ns := ns) (p := g)
   have hn := endF_next (ns := ns) (p := g) (by omega)
   by_cases ex : endF ns g = i
   ·rw [ex] at hn; omega
   ·have := h3 (endF ns g) hlo (by omega); omega
theorem hd_of {ns : List Nd} (h : TreeOK ns) {i g : Nat} (h1 : g < i) (h2 : i < endF ns g) (h3 : depA ns i = depA ns g + 1) : hdF ns i = (g : Int) := by
 have hi := (endF_deep h1 h2).2
 have hdg := h.dep (show g < ns.length by omega)
 rcases hd_spec h hi with ⟨e, _⟩ | ⟨g', e, k1, k2, k3⟩
 ·omega
 ·rcases Nat.lt_trichotomy g g' with c | c | c
  ·have := (endF_deep (ns := ns) (p := g) (q := g') c (by omega)).1; omega
  ·rw [c]; exact e
  ·have := (endF_deep (ns := ns) (p := g') (q := g) c (by omega)).1; omega
theorem next_two {k c : Nat} (hk : k < 16) (h : nextD k c = 2) : k = 9 := by
 by_cases e : k = 9
 ·exact e
 ·exfalso
  have : ∀ j : Fin 16, (j : Nat) ≠ 9 → rH0 j ≠ 2 ∧ rH1 j ≠ 2 ∧ rH2 j ≠ 2 := by decide
  have := this ⟨k, hk⟩ e
  unfold nextD at h
  rw [if_neg e] at h
  split at h
  ·exact this.1 h
  ·split at h
   ·exact this.2.1 h
   ·split at h
    ·exact this.2.2 h
    ·omega
theorem next_three {k c : Nat} (hk : k < 16) (h : nextD k c = 3) : k = 7 ∨ k = 8 := by
 have : ∀ j : Fin 16, (rH0 j = 3 ∨ rH1 j = 3 ∨ rH2 j = 3) → (j : Nat) = 7 ∨ (j : Nat) = 8 := by decide
 refine this ⟨k, hk⟩ ?_
 unfold nextD at h
 split at h
 ·omega
 ·split at h
  ·exact .inl h
  ·split at h
   ·exact .inr (.inl h)
   ·split at h
    ·exact .inr (.inr h)
    ·omega
theorem hd_stmt {ns : List Nd} (h : TreeOK ns) {i : Nat} (hi : i < ns.length) (hk : 2 ≤ kdA ns i ∧ kdA ns i ≤ 8) : hdF ns i = -1 ∨ ∃ a g : Nat, hdF ns i = a ∧ a < i ∧ i < endF ns a ∧ kdA ns a = 9 ∧ depA ns i = depA ns a + 1 ∧ hdF ns a = g ∧ g < a ∧ a < endF ns g ∧ depA ns a = depA ns g + 1 ∧ (kdA ns g = 7 ∨ kdA ns g = 8) := by
 rcases hd_spec h hi with ⟨_, e⟩ | ⟨a, e, a1, a2, a3⟩
 ·exact .inl e
 ·have hal : a < ns.length := by omega
  obtain ⟨c, hc⟩ := h.kid a1 a3 a2
  have k1 := h.kd hi
  have k2 := h.kd hal
  have hs := (sort_of (k := (kdA ns i).toNat) (by omega)).2.1.2 (by omega)
  rw [hs] at hc
  have h9 := next_two (by omega) hc.symm
  have ka : kdA ns a = 9 := by omega
  rcases hd_spec h hal with ⟨e2, _⟩ | ⟨g, e2, b1, b2, b3⟩
  ·exfalso
   have ht := h.top ns[a] (List.getElem_mem hal) (by rw [← depA_get (List.getElem?_eq_getElem hal)]; exact e2)
   rw [← kdA_get (List.getElem?_eq_getElem hal), ka] at ht
   rcases ht with ht | ht <;> exact absurd ht (by decide)
  ·obtain ⟨c2, hc2⟩ := h.kid b1 b3 b2
   have k3 := h.kd (show g < ns.length by omega)
   rw [ka] at hc2
   have h7 := next_three (by omega) (show nextD (kdA ns g).toNat c2 = 3 from hc2.symm)
   exact .inr ⟨a, g, e, a1, a3, ka, a2, e2, b1, b3, b2, by omega⟩
def bhF (ns : List Nd) : Nat → Nat → Nat
 | 0, _ => 0
 | f + 1, i =>
  if endF ns i < ns.length ∧ depA ns (endF ns i) = depA ns i ∧ kdA ns (endF ns i) ≠ 9 then ptF ns (endF ns i)
  else if hdF ns i < 0 then ptF ns ns.length
  else if kdA ns (hdF ns (hdF ns i).toNat).toNat = 8 then ptF ns (hdF ns (hdF ns i).toNat).toNat
  else bhF ns f (hdF ns (hdF ns i).toNat).toNat
def bgR (ns : List Nd) (f i : Nat) : Nat :=
 if i + 1 < ns.length ∧ depA ns (i + 1) = depA ns i + 1 then ptF ns (i + 1)
 else if kdA ns (hdF ns i).toNat = 8 then ptF ns (hdF ns i).toNat else bhF ns f (hdF ns i).toNat
theorem bhF_le {ns : List Nd} (f i : Nat) : bhF ns f i ≤ ns.length := by
 induction f generalizing i with
 | zero => exact Nat.zero_le _
 | succ f ih =>
  rw [bhF]
  split
  ·exact ptF_le _ _
  ·split
   ·exact ptF_le _ _
   ·split
    ·exact ptF_le _ _
    ·exact ih _
end
section
open Go.RowKit
theorem hd_lt {ns : List Nd} {i : Nat} (h : ¬ hdF ns i < 0) : (hdF ns (hdF ns i).toNat).toNat < i := by
 rcases hdA_spec (depA ns i) ns i with ⟨e, _⟩ | ⟨g, e, h1, _⟩
 ·exfalso; unfold hdF at h; omega
 ·have e' : hdF ns i = g := e
  rw [e', Int.toNat_natCast]
  rcases hdA_spec (depA ns g) ns g with ⟨e2, _⟩ | ⟨g2, e2, h2, _⟩
  ·have : hdF ns g = -1 := e2
   rw [this]; show 0 < i; omega
  ·have : hdF ns g = g2 := e2
   rw [this, Int.toNat_natCast]; omega
theorem bhF_fuel {ns : List Nd} : ∀ (i f f' : Nat), i < f → i < f' → bhF ns f i = bhF ns f' i := by
 intro i
 induction i using Nat.strongRecOn with
 | ind i ih =>
  intro f f' h1 h2
  obtain ⟨f, rfl⟩ : ∃ g, f = g + 1 := ⟨f - 1, by omega⟩
  obtain ⟨f', rfl⟩ : ∃ g, f' = g + 1 := ⟨f' - 1, by omega⟩
  rw [bhF, bhF]
  split
  ·rfl
  ·split
   ·rfl
   ·next hn =>
    split
    ·rfl
    ·have := hd_lt hn
     exact ih _ this _ _ (by omega) (by omega)
def BH (ns : List Nd) (i : Nat) : Nat := bhF ns (ns.length + 1) i
def BG (ns : List Nd) (i : Nat) : Nat := bgR ns (ns.length + 1) i
theorem BH_eq {ns : List Nd} {i : Nat} (hi : i < ns.length) : BH ns i = if endF ns i < ns.length ∧ depA ns (endF ns i) = depA ns i ∧ kdA ns (endF ns i) ≠ 9 then ptF ns (endF ns i) else if hdF ns i < 0 then ptF ns ns.length else if kdA ns (hdF ns (hdF ns i).toNat).toNat = 8 then ptF ns (hdF ns (hdF ns i).toNat).toNat else BH ns (hdF ns (hdF ns i).toNat).toNat := by
 unfold BH
 rw [bhF]
 split
 ·rfl
 ·split
  ·rfl
  ·next hn =>
   split
   ·rfl
   ·have := hd_lt hn
    exact bhF_fuel _ _ _ (by omega) (by omega)
def elR (ns : List Nd) (i : Nat) : List Ed :=
 if kdA ns i = 7 ∨ kdA ns i = 8 then
  [⟨ptF ns i, BG ns ((hlF ns i).getD 1 0), 5, ((hlF ns i).getD 0 0 : Nat), true, decide (kdA ns i = 8)⟩,
  ⟨ptF ns i, (if (hlF ns i).length = 3 then BG ns ((hlF ns i).getD 2 0) else BH ns i : Nat), 5, ((hlF ns i).getD 0 0 : Nat), false, decide (kdA ns i = 8)⟩]
 else [⟨ptF ns i, BH ns i, kdA ns i - 2, i, false, false⟩]
def stR (ns : List Nd) (i : Nat) : List Ed := if 2 ≤ kdA ns i ∧ kdA ns i ≤ 8 then elR ns i else []
def rng (ns : List Nd) (p : Nat) : Nat → List Ed
 | 0 => []
 | k + 1 => rng ns p k ++ stR ns (p + k)
theorem rng_add (ns : List Nd) (p x : Nat) : ∀ y, rng ns p (x + y) = rng ns p x ++ rng ns (p + x) y
 | 0 => by rw [Nat.add_zero, rng, List.append_nil]
 | y + 1 => by
  show rng ns p (x + y) ++ stR ns (p + (x + y)) = _
  rw [rng_add ns p x y, rng, List.append_assoc, Nat.add_assoc]
def rgE (ns : List Nd) (p en : Nat) : List Ed := rng ns p (en - p)
theorem rgE_split {ns : List Nd} {p x en : Nat} (h1 : p ≤ x) (h2 : x ≤ en) : rgE ns p en = rgE ns p x ++ rgE ns x en := by
 unfold rgE
 rw [show en - p = (x - p) + (en - x) by omega, rng_add, show p + (x - p) = x by omega]
theorem rng_none {ns : List Nd} {p : Nat} : ∀ k, (∀ r, p ≤ r → r < p + k → ¬ (2 ≤ kdA ns r ∧ kdA ns r ≤ 8)) → rng ns p k = []
 | 0, _ => rfl
 | k + 1, h => by rw [rng, rng_none k (fun r h1 h2 => h r h1 (by omega)), stR, if_neg (h (p + k) (by omega) (by omega))]; rfl
theorem rgE_none {ns : List Nd} {p en : Nat} (h : ∀ r, p ≤ r → r < en → ¬ (2 ≤ kdA ns r ∧ kdA ns r ≤ 8)) : rgE ns p en = [] := rng_none _ (fun r h1 h2 => h r h1 (by omega))
theorem rgE_one {ns : List Nd} {p : Nat} (h : 2 ≤ kdA ns p ∧ kdA ns p ≤ 8) : rgE ns p (p + 1) = elR ns p := by
 unfold rgE
 rw [Nat.add_sub_cancel_left, rng, rng, List.nil_append, Nat.add_zero, stR, if_pos h]
theorem hl_two {ns : List Nd} (h : TreeOK ns) {p : Nat} (hp : p < ns.length) (hk : kdA ns p = 7 ∨ kdA ns p = 8) :
  (endF ns (endF ns (p + 1)) = endF ns p ∧ hlF ns p = [p + 1, endF ns (p + 1)]) ∨ (endF ns (endF ns (p + 1)) < endF ns p ∧ hlF ns p = [p + 1, endF ns (p + 1), endF ns (endF ns (p + 1))]) := by
 obtain ⟨t1, t2, t3, t4, t5, t6⟩ := h.two hp hk
 have hlo := endF_lo (ns := ns) (p := p + 1)
 have hle := (endF_le hp).2
 unfold hlF
 obtain ⟨f, hf⟩ : ∃ f, ns.length + 2 = f + 1 + 1 + 1 + 1 := ⟨ns.length - 2, by omega⟩
 rw [hf, kidF, if_pos (by omega), kidF, if_pos t2]
 rcases t6 with e | ⟨_, e1, _, _, e4⟩
 ·left
  refine ⟨e, ?_⟩
  rw [kidF, if_neg (by omega)]
 ·right
  refine ⟨e1, ?_⟩
  rw [kidF, if_pos e1, kidF, if_neg (by omega)]
theorem BG_eq {ns : List Nd} (h : TreeOK ns) {p a : Nat} (hk : kdA ns p = 7 ∨ kdA ns p = 8) (h1 : p < a) (h2 : a < endF ns p) (h3 : depA ns a = depA ns p + 1) : BG ns a = bgF ns (a + 1) (endF ns a) (if kdA ns p = 8 then ptF ns p else BH ns p) := by
 have hal := (endF_deep h1 h2).2
 unfold BG bgR
 rw [hd_of h h1 h2 h3, Int.toNat_natCast]
 by_cases c : a + 1 < endF ns a
 ·have hd := endF_deep (ns := ns) (p := a) (q := a + 1) (by omega) c
  have hs := h.step hd.2
  rw [if_pos ⟨hd.2, by omega⟩, bgF_yes c]
 ·have hlo := endF_lo (ns := ns) (p := a)
  rw [if_neg, bgF_no c]
  ·rfl
  ·rintro ⟨k1, k2⟩
   have e : endF ns a = a + 1 := by omega
   have := endF_next (ns := ns) (p := a) (by omega)
   rw [e] at this
   omega
theorem BH_last {ns : List Nd} (h : TreeOK ns) {p a q : Nat} (hk : kdA ns p = 7 ∨ kdA ns p = 8) (h1 : p < a) (h2 : a < endF ns p) (h3 : depA ns a = depA ns p + 1) (k1 : a < q) (k2 : q < endF ns a) (k3 : depA ns q = depA ns a + 1) (k4 : endF ns q = endF ns a) : BH ns q = if kdA ns p = 8 then ptF ns p else BH ns p := by
 have hql := (endF_deep k1 k2).2
 rw [BH_eq hql, if_neg, hd_of h k1 k2 k3, if_neg (by omega), Int.toNat_natCast, hd_of h h1 h2 h3, Int.toNat_natCast]
 rintro ⟨c1, c2, _⟩
 rw [k4] at c1 c2
 have := endF_next (ns := ns) (p := a) c1
 omega
theorem stE_ref {ns : List Nd} (h : TreeOK ns) : ∀ (f p en fol : Nat) (D : Int), Stretch ns D p en → ns.length + 2 - p ≤ f → p ≤ en → (∀ q, p ≤ q → q < en → endF ns q = en → depA ns q = D → BH ns q = fol) → stE ns f p en fol = rgE ns p en
 | 0, p, en, fol, D, hS, hf, hpe, _ => by
  by_cases hp : p < en
  ·have := (hS hp).1; omega
  ·have e : p = en := by omega
   subst e
   rw [stE_none hp, rgE_none (fun r h1 h2 => by omega)]
 | f + 1, p, en, fol, D, hS, hf, hpe, hF => by
  by_cases hp : p < en
  rotate_left
  ·have e : p = en := by omega
   subst e
   rw [stE_none hp, rgE_none (fun r h1 h2 => by omega)]
  obtain ⟨h1, h2, h3, h4, h5⟩ := hS hp
  obtain ⟨hle, hS'⟩ := hS.next hp
  have hpl : p < ns.length := by omega
  have hlo := endF_lo (ns := ns) (p := p)
  have k8 := h4 p (Nat.le_refl _) hp h2
  have kd0 := h.kd hpl
  have IH := stE_ref h f (endF ns p) en fol D hS' (by omega) hle (fun q a b => hF q (by omega) b)
  obtain ⟨nx, hnx⟩ : ∃ x, x = bgF ns (endF ns p) en fol := ⟨_, rfl⟩
  have hbx : nx = BH ns p := by
   rw [hnx]
   by_cases c : endF ns p < en
   ·have hd := hS' c
    have hx := hd.2.2.2.1 (endF ns p) (Nat.le_refl _) c hd.2.1
    rw [bgF_yes c, BH_eq hpl]
    rw [if_pos]
    refine ⟨by omega, by rw [hd.2.1, h2], ?_⟩
    omega
   ·rw [bgF_no c]
    exact (hF p (Nat.le_refl _) hp (by omega) h2).symm
  rw [stE, if_pos hp, ← hnx, rgE_split (x := endF ns p) (by omega) hle, IH]
  congr 1
  by_cases hc : kdA ns p = 7 ∨ kdA ns p = 8
  ·rw [if_pos hc]
   obtain ⟨t1, t2, t3, t4, t5, t6⟩ := h.two hpl hc
   have hH := hl_two h hpl hc
   obtain ⟨a, ha⟩ : ∃ x, x = endF ns (p + 1) := ⟨_, rfl⟩
   rw [← ha] at t2 t3 t5 t6 hH ⊢
   obtain ⟨s, hs⟩ : ∃ x, x = endF ns a := ⟨_, rfl⟩
   rw [← hs] at t6 hH ⊢
   have lpa : p + 1 < a := by rw [ha]; exact endF_lo
   have las : a < s := by rw [hs]; exact endF_lo
   have hel : endF ns p ≤ ns.length := (endF_le hpl).2
   have hal : a < ns.length := by omega
   have hsl : s ≤ ns.length := by rw [hs]; exact (endF_le hal).2
   have hse : s ≤ endF ns p := by rcases t6 with e | ⟨_, e, _⟩ <;> omega
   obtain ⟨bS, bK⟩ := h.block hal t5
   rw [← hs] at bS bK
   obtain ⟨bh, hbh⟩ : ∃ x, x = (if kdA ns p = 8 then ptF ns p else nx) := ⟨_, rfl⟩
   have F1 := stE_ref h f (a + 1) s bh (depA ns a + 1) bS (by omega) (by omega) (fun q q1 q2 q3 q4 => by
    rw [hbh, hbx]
    exact BH_last h hc (by omega) t2 t3 (by omega) (by rw [← hs]; exact q2) q4 (by rw [← hs]; exact q3))
   have hch : chE ns p nx = [⟨ptF ns p, bgF ns (a + 1) s bh, 5, p + 1, true, decide (kdA ns p = 8)⟩, ⟨ptF ns p, bgF ns (s + 1) (endF ns p) nx, 5, p + 1, false, decide (kdA ns p = 8)⟩] := by
    unfold chE; rw [← ha, ← hs, ← hbh]
   have hBG : BG ns a = bgF ns (a + 1) s bh := by rw [BG_eq h hc (by omega) t2 t3, ← hs, hbh, hbx]
   rw [← hbh, F1]
   have hpr : rgE ns p (a + 1) = elR ns p := by
    rw [rgE_split (x := p + 1) (by omega) (by omega), rgE_one (by omega), rgE_none (p := p + 1), List.append_nil]
    intro r r1 r2
    by_cases e : r = p + 1
    ·rw [e]; omega
    ·by_cases e2 : r = a
     ·rw [e2, t5]; omega
     ·have := h.plain (p := p + 1) t1 (.inr t4) r (by omega) (by rw [← ha]; omega); omega
   rcases hH with ⟨e1, e2⟩ | ⟨e1, e2⟩
   ·have hE : elR ns p = chE ns p nx := by
     unfold elR
     rw [if_pos hc, hch, e2, bgF_no (show ¬ s + 1 < endF ns p by omega), hbx]
     simp [hBG, hbx]
    rw [stE_none (show ¬ s + 1 < endF ns p by omega), List.append_nil, ← hE, ← hpr, ← e1]
    exact (rgE_split (by omega) (by omega)).symm
   ·have hsl' : s < ns.length := by omega
    obtain ⟨k7, u2, u3, u4⟩ : kdA ns p = 7 ∧ kdA ns s = 9 ∧ depA ns s = depA ns p + 1 ∧ endF ns s = endF ns p := by
     rcases t6 with e | ⟨q1, q2, q3, q4, q5⟩
     ·omega
     ·exact ⟨q1, q3, q4, q5⟩
    obtain ⟨cS, cK⟩ := h.block hsl' u2
    rw [u4] at cS cK
    have F2 := stE_ref h f (s + 1) (endF ns p) nx (depA ns s + 1) cS (by omega) (by omega) (fun q q1 q2 q3 q4 => by
     rw [hbx]
     have := BH_last h hc (a := s) (by omega) e1 u3 (by omega) (by rw [u4]; exact q2) q4 (by rw [u4]; exact q3)
     rw [if_neg (by omega)] at this
     exact this)
    have hBG2 : BG ns s = bgF ns (s + 1) (endF ns p) nx := by
     have := BG_eq h hc (a := s) (by omega) e1 u3
     rw [u4, if_neg (by omega), ← hbx] at this
     exact this
    have hE : elR ns p = chE ns p nx := by
     unfold elR
     rw [if_pos hc, hch, e2]
     simp [hBG, hBG2]
    have hss : rgE ns s (s + 1) = [] := rgE_none (fun r r1 r2 => by rw [show r = s by omega, u2]; omega)
    rw [F2, ← hE, ← hpr, rgE_split (p := p) (x := a + 1) (en := endF ns p) (by omega) (by omega), rgE_split (p := a + 1) (x := s) (en := endF ns p) (by omega) (by omega), rgE_split (p := s) (x := s + 1) (en := endF ns p) (by omega) (by omega), hss]
    rfl
  ·rw [if_neg hc]
   have hin : ∀ q, p < q → q < endF ns p → 10 ≤ kdA ns q := h.plain hpl (.inl (by omega))
   have hrest : rgE ns (p + 1) (endF ns p) = [] := rgE_none (fun r r1 r2 => by have := hin r (by omega) r2; omega)
   rw [rgE_split (x := p + 1) (by omega) (by omega), hrest, List.append_nil]
   by_cases hk : 2 ≤ kdA ns p ∧ kdA ns p ≤ 6
   ·rw [if_pos hk, rgE_one ⟨hk.1, by omega⟩]
    unfold elR
    rw [if_neg hc, hbx]
   ·rw [if_neg hk]
    exact (rgE_none (fun r r1 r2 => by rw [show r = p by omega]; omega)).symm
theorem elF_ref {ns : List Nd} (h : TreeOK ns) : elF ns = rgE ns 0 ns.length := by
 refine stE_ref h _ _ _ _ 1 h.whole (by omega) (Nat.zero_le _) (fun q _ q2 q3 q4 => ?_)
 rw [BH_eq q2, if_neg (by omega)]
 rcases hd_spec h q2 with ⟨_, e⟩ | ⟨g, e, g1, g2, g3⟩
 ·rw [e, if_pos (by omega)]
 ·have := h.dep (show g < ns.length by omega); omega
end
section
open Go.RowKit
def skN (x : Int) : Nd := ⟨1, 6, ⟨#[]⟩, 0, 0, x⟩
theorem txt_app {l : List UInt8} {ns ms : List Nd} (h : TxtP l ns) (h' : TxtP (l ++ tlB) ms) : ∃ x, ms = ns ++ [skN x] := by
 obtain ⟨P, h1, h2, h3, h4, h5⟩ := h
 obtain ⟨Q, k1, k2, k3, k4, k5⟩ := h'
 have e := lexS_app h1 k1
 obtain ⟨p1, p2⟩ := par_of h3
 obtain ⟨q1, q2⟩ := par_of k3
 obtain ⟨x, hx⟩ := pa_ext e p1
 exact ⟨x, by rw [← k4, q2, hx, ← p2, h4]; rfl⟩
section
variable {ns : List Nd} {x : Int}
theorem depA_app {p : Nat} (h : p < ns.length) : depA (ns ++ [skN x]) p = depA ns p := by unfold depA; rw [List.getElem?_append_left h]
theorem kdA_app {p : Nat} (h : p < ns.length) : kdA (ns ++ [skN x]) p = kdA ns p := by unfold kdA; rw [List.getElem?_append_left h]
theorem depA_last : depA (ns ++ [skN x]) ns.length = 1 := by unfold depA; rw [List.getElem?_append_right (Nat.le_refl _), Nat.sub_self]; rfl
theorem kdA_last : kdA (ns ++ [skN x]) ns.length = 6 := by unfold kdA; rw [List.getElem?_append_right (Nat.le_refl _), Nat.sub_self]; rfl
theorem len_app : (ns ++ [skN x]).length = ns.length + 1 := by simp
theorem runP_app {d : Int} (hd : 1 ≤ d) : ∀ l : List Nd, runP d (l ++ [skN x]) = runP d l
 | [] => by
  show (if d < (skN x).depth then runP d [] + 1 else 0) = 0
  rw [if_neg (by show ¬ d < 1; omega)]
 | n :: l => by rw [List.cons_append, runP, runP, runP_app hd l]
theorem endF_app {p : Nat} (h : p < ns.length) (hd : 1 ≤ depA ns p) : endF (ns ++ [skN x]) p = endF ns p := by
 unfold endF
 rw [depA_app h, List.drop_append_of_le_length (by omega), runP_app hd]
theorem ptF_app {p : Nat} (h : p ≤ ns.length) : ptF (ns ++ [skN x]) p = ptF ns p := by unfold ptF; rw [List.take_append_of_le_length h]
theorem ptF_last : ptF (ns ++ [skN x]) (ns.length + 1) = ptF ns ns.length + 1 := by
 unfold ptF
 rw [List.take_of_length_le (by simp), List.take_length, List.filter_append, List.length_append]
 rfl
theorem hdA_app (d : Int) : ∀ i, i ≤ ns.length → hdA d (ns ++ [skN x]) i = hdA d ns i
 | 0, _ => rfl
 | i + 1, h => by rw [hdA, hdA, depA_app (by omega), hdA_app d i (by omega)]
theorem hdF_app {i : Nat} (h : i < ns.length) : hdF (ns ++ [skN x]) i = hdF ns i := by unfold hdF; rw [depA_app h, hdA_app _ _ (by omega)]
theorem hdF_lt {i : Nat} (h : ¬ hdF ns i < 0) : (hdF ns i).toNat < i := by
 rcases hdA_spec (depA ns i) ns i with ⟨e, _⟩ | ⟨g, e, h1, _⟩
 ·exfalso; unfold hdF at h; omega
 ·have e' : hdF ns i = g := e
  rw [e', Int.toNat_natCast]; exact h1
theorem kidF_app (hT : TreeOK ns) {en : Nat} (he : en ≤ ns.length) : ∀ f j, kidF (ns ++ [skN x]) en f j = kidF ns en f j
 | 0, j => rfl
 | f + 1, j => by
  rw [kidF, kidF]
  by_cases c : j < en
  ·rw [if_pos c, if_pos c, endF_app (by omega) (hT.dep (by omega)), kidF_app hT he f]
  ·rw [if_neg c, if_neg c]
theorem kidF_fuel {en : Nat} : ∀ f f' j, en - j ≤ f → en - j ≤ f' → kidF ns en f j = kidF ns en f' j
 | 0, 0, j, _, _ => rfl
 | 0, f' + 1, j, h1, h2 => by rw [kidF, kidF, if_neg (by omega)]
 | f + 1, 0, j, h1, h2 => by rw [kidF, kidF, if_neg (by omega)]
 | f + 1, f' + 1, j, h1, h2 => by
  rw [kidF, kidF]
  by_cases c : j < en
  ·have := endF_lo (ns := ns) (p := j)
   rw [if_pos c, if_pos c, kidF_fuel f f' (endF ns j) (by omega) (by omega)]
  ·rw [if_neg c, if_neg c]
theorem hlF_app (hT : TreeOK ns) {p : Nat} (h : p < ns.length) : hlF (ns ++ [skN x]) p = hlF ns p := by
 have := (endF_le h).2
 unfold hlF
 rw [endF_app h (hT.dep h), kidF_app hT this]
 exact kidF_fuel _ _ _ (by rw [len_app]; omega) (by omega)
theorem BH_app (hT : TreeOK ns) : ∀ i, i < ns.length → BH (ns ++ [skN x]) i = BH ns i := by
 intro i
 induction i using Nat.strongRecOn with
 | ind i ih =>
  intro hi
  have hE := (endF_le hi).2
  have hd := hT.dep hi
  have eN := BH_eq hi
  have eM := BH_eq (ns := ns ++ [skN x]) (i := i) (by rw [len_app]; omega)
  rw [endF_app hi hd, len_app, hdF_app hi, depA_app hi] at eM
  have up : ¬ hdF ns i < 0 → (if kdA (ns ++ [skN x]) (hdF (ns ++ [skN x]) (hdF ns i).toNat).toNat = 8 then ptF (ns ++ [skN x]) (hdF (ns ++ [skN x]) (hdF ns i).toNat).toNat else BH (ns ++ [skN x]) (hdF (ns ++ [skN x]) (hdF ns i).toNat).toNat) = (if kdA ns (hdF ns (hdF ns i).toNat).toNat = 8 then ptF ns (hdF ns (hdF ns i).toNat).toNat else BH ns (hdF ns (hdF ns i).toNat).toNat) := fun c2 => by
   have l1 := hdF_lt c2
   have l2 := hd_lt c2
   rw [hdF_app (i := (hdF ns i).toNat) (by omega), kdA_app (p := (hdF ns (hdF ns i).toNat).toNat) (by omega), ptF_app (p := (hdF ns (hdF ns i).toNat).toNat) (by omega), ih _ l2 (by omega)]
  by_cases c : endF ns i < ns.length
  ·rw [depA_app c, kdA_app c, ptF_app (p := endF ns i) (Nat.le_of_lt c)] at eM
   by_cases c1 : depA ns (endF ns i) = depA ns i ∧ kdA ns (endF ns i) ≠ 9
   ·rw [if_pos ⟨by omega, c1⟩] at eM
    rw [if_pos ⟨c, c1⟩] at eN
    exact eM.trans eN.symm
   ·rw [if_neg (fun k => c1 k.2)] at eM
    rw [if_neg (fun k => c1 k.2)] at eN
    have c2 : ¬ hdF ns i < 0 := fun c2 => by
     rcases hd_spec hT hi with ⟨e1, e⟩ | ⟨g, e, g1, g2, g3⟩
     ·have hn := endF_next (ns := ns) (p := i) c
      have hq := hT.dep c
      have e3 : depA ns (endF ns i) = depA ns i := by omega
      have hk : kdA ns (endF ns i) = 9 := Classical.byContradiction fun k => c1 ⟨e3, k⟩
      obtain ⟨_, _, _, k8, _⟩ := hT.whole (show 0 < ns.length by omega)
      have := k8 (endF ns i) (Nat.zero_le _) c (by omega)
      omega
     ·omega
    rw [if_neg c2, up c2] at eM
    rw [if_neg c2] at eN
    exact eM.trans eN.symm
  ·have e : endF ns i = ns.length := by omega
   rw [e, depA_last, kdA_last] at eM
   rw [if_neg (fun k => c k.1)] at eN
   rcases hd_spec hT hi with ⟨e1, e2⟩ | ⟨g, e2, g1, g2, g3⟩
   ·rw [if_pos ⟨by omega, by omega, by omega⟩, ptF_app (Nat.le_refl _)] at eM
    rw [e2, if_pos (by omega)] at eN
    exact eM.trans eN.symm
   ·have hdg := hT.dep (show g < ns.length by omega)
    have c2 : ¬ hdF ns i < 0 := by omega
    rw [if_neg (fun k => by omega), if_neg c2, up c2] at eM
    rw [if_neg c2] at eN
    exact eM.trans eN.symm
theorem BG_app (hT : TreeOK ns) {i : Nat} (hi : i < ns.length) (hh : ¬ hdF ns i < 0) : BG (ns ++ [skN x]) i = BG ns i := by
 have l1 := hdF_lt hh
 have hd := hT.dep hi
 have hB := BH_app (x := x) hT (hdF ns i).toNat (by omega)
 unfold BH at hB
 unfold BG bgR
 rw [len_app] at hB
 rw [hdF_app hi, len_app, depA_app hi, kdA_app (p := (hdF ns i).toNat) (by omega), ptF_app (p := (hdF ns i).toNat) (by omega), hB]
 by_cases c : i + 1 < ns.length
 ·rw [depA_app c, ptF_app (p := i + 1) (Nat.le_of_lt c)]
  by_cases c1 : depA ns (i + 1) = depA ns i + 1
  ·rw [if_pos ⟨by omega, c1⟩, if_pos ⟨c, c1⟩]
  ·rw [if_neg (c := i + 1 < ns.length + 1 ∧ _) (fun k => c1 k.2), if_neg (c := i + 1 < ns.length ∧ _) (fun k => c1 k.2)]
 ·have c2 : ¬ (i + 1 < ns.length + 1 ∧ depA (ns ++ [skN x]) (i + 1) = depA ns i + 1) := by
   rintro ⟨k1, k2⟩
   have e : i + 1 = ns.length := by omega
   rw [e, depA_last] at k2
   omega
  rw [if_neg c2, if_neg (c := i + 1 < ns.length ∧ _) (fun k => c k.1)]
theorem stR_app (hT : TreeOK ns) {i : Nat} (hi : i < ns.length) : stR (ns ++ [skN x]) i = stR ns i := by
 unfold stR
 rw [kdA_app hi]
 by_cases c : 2 ≤ kdA ns i ∧ kdA ns i ≤ 8
 ·rw [if_pos c, if_pos c]
  unfold elR
  rw [kdA_app hi, ptF_app (Nat.le_of_lt hi), hlF_app hT hi, BH_app hT i hi]
  by_cases c1 : kdA ns i = 7 ∨ kdA ns i = 8
  ·rw [if_pos c1, if_pos c1]
   obtain ⟨t1, t2, t3, t4, t5, t6⟩ := hT.two hi c1
   have hel := (endF_le hi).2
   have hlo := endF_lo (ns := ns) (p := i + 1)
   have b1 : BG (ns ++ [skN x]) (endF ns (i + 1)) = BG ns (endF ns (i + 1)) := BG_app hT (by omega) (by rw [hd_of hT (g := i) (by omega) t2 t3]; omega)
   rcases hl_two hT hi c1 with ⟨_, e2⟩ | ⟨e1, e2⟩
   ·rw [e2]
    simp [b1]
   ·have b2 : BG (ns ++ [skN x]) (endF ns (endF ns (i + 1))) = BG ns (endF ns (endF ns (i + 1))) := by
     have hlo2 := endF_lo (ns := ns) (p := endF ns (i + 1))
     refine BG_app hT (by omega) ?_
     rcases t6 with e | ⟨_, q2, q3, q4, q5⟩
     ·omega
     ·rw [hd_of hT (g := i) (by omega) q2 q4]; omega
    rw [e2]
    simp [b1, b2]
  ·rw [if_neg c1, if_neg c1]
 ·rw [if_neg c, if_neg c]
theorem rng_app (hT : TreeOK ns) : ∀ k, k ≤ ns.length → rng (ns ++ [skN x]) 0 k = rng ns 0 k
 | 0, _ => rfl
 | k + 1, h => by rw [rng, rng, rng_app hT k (by omega), Nat.zero_add, stR_app hT (by omega)]
theorem elF_app (hT : TreeOK ns) (hT' : TreeOK (ns ++ [skN x])) : elF (ns ++ [skN x]) = elF ns ++ [⟨ptF ns ns.length, ptF ns ns.length + 1, 4, ns.length, false, false⟩] := by
 rw [elF_ref hT, elF_ref hT']
 unfold rgE
 rw [len_app, Nat.sub_zero, Nat.sub_zero, rng, rng_app hT _ (Nat.le_refl _), Nat.zero_add]
 congr 1
 have hL : ns.length < (ns ++ [skN x]).length := by rw [len_app]; omega
 unfold stR elR
 rw [kdA_last, if_pos (by omega), if_neg (by omega), ptF_app (Nat.le_refl _)]
 have hB : BH (ns ++ [skN x]) ns.length = ptF ns ns.length + 1 := by
  have h1 := (endF_le hL)
  rw [len_app] at h1
  rw [BH_eq hL, if_neg (fun k => by rw [len_app] at k; omega)]
  rcases hd_spec hT' hL with ⟨_, e⟩ | ⟨g, e, g1, g2, g3⟩
  ·rw [e, if_pos (by omega), len_app, ptF_last]
  ·have := hT'.dep (show g < (ns ++ [skN x]).length by omega)
   rw [depA_last] at g2
   omega
 rw [hB]
 rfl
end
end
end Go.Proofs.YtklkpaekdpaloaaDoor
