import Derived.Test.YtklkpaekdpaloaaDoorKRa
set_option linter.unusedVariables false
set_option linter.unusedSimpArgs false
set_option linter.unnecessarySimpa false
namespace Go.Proofs.YtklkpaekdpaloaaDoor
section
open Go.RowKit
theorem ptF_step {ns : List Nd} {p : Nat} (h : p < ns.length) : ptF ns (p + 1) = ptF ns p + if 2 ≤ kdA ns p ∧ kdA ns p ≤ 8 then 1 else 0 := by
 obtain ⟨n, e⟩ := get_of h
 rw [ptF_succ e, kdA_get e]
 unfold stepB
 by_cases h1 : 2 ≤ n.kind <;> by_cases h2 : n.kind ≤ 8 <;> simp [h1, h2]
theorem ptF_over {ns : List Nd} {p : Nat} (h : ¬ p < ns.length) : ptF ns (p + 1) = ptF ns p := by
 unfold ptF
 rw [List.take_of_length_le (by omega), List.take_of_length_le (by omega)]
theorem ptF_mono {ns : List Nd} {p : Nat} : ∀ (k : Nat), ptF ns p ≤ ptF ns (p + k)
 | 0 => Nat.le_refl _
 | k + 1 => by
  have h1 := ptF_mono (ns := ns) (p := p) k
  rw [← Nat.add_assoc]
  by_cases h : p + k < ns.length
  ·rw [ptF_step h]; omega
  ·rw [ptF_over h]; exact h1
theorem ptF_le' {ns : List Nd} {p q : Nat} (h : p ≤ q) : ptF ns p ≤ ptF ns q := by
 have := ptF_mono (ns := ns) (p := p) (q - p)
 rwa [show p + (q - p) = q by omega] at this
theorem ptF_flat {ns : List Nd} {p : Nat} : ∀ (k : Nat), (∀ q, p ≤ q → q < p + k → ¬ (2 ≤ kdA ns q ∧ kdA ns q ≤ 8)) → ptF ns (p + k) = ptF ns p
 | 0, _ => rfl
 | k + 1, h => by
  rw [← Nat.add_assoc]
  by_cases hl : p + k < ns.length
  ·rw [ptF_step hl, if_neg (h (p + k) (by omega) (by omega)), ptF_flat k (fun q h1 h2 => h q h1 (by omega)), Nat.add_zero]
  ·rw [ptF_over hl, ptF_flat k (fun q h1 h2 => h q h1 (by omega))]
theorem ptF_same {ns : List Nd} {p q : Nat} (hpq : p ≤ q) (h : ∀ r, p ≤ r → r < q → ¬ (2 ≤ kdA ns r ∧ kdA ns r ≤ 8)) : ptF ns q = ptF ns p := by
 have := ptF_flat (ns := ns) (p := p) (q - p) (fun r h1 h2 => h r h1 (by omega))
 rwa [show p + (q - p) = q by omega] at this
theorem ptF_end (ns : List Nd) (p : Nat) : ptF ns p ≤ ptF ns ns.length := by
 rcases Nat.le_total p ns.length with h | h
 ·exact ptF_le' h
 ·unfold ptF; rw [List.take_of_length_le h, List.take_of_length_le (Nat.le_refl _)]; exact Nat.le_refl _
def Blk (v : Nat) (b : List Ed) : Prop :=
 (∃ e, b = [e] ∧ e.from' = v ∧ e.op ≠ 5 ∧ e.sense = false ∧ e.loop = false) ∨
 (∃ e1 e2, b = [e1, e2] ∧ e1.from' = v ∧ e2.from' = v ∧ e1.op = 5 ∧ e2.op = 5 ∧ e2.place = e1.place ∧ e1.sense = true ∧ e2.sense = false ∧ e2.loop = e1.loop)
def Segs (L : List Ed) (A Z : Nat) : Prop := ∃ bs : List (List Ed), L = bs.flatten ∧ A + bs.length = Z ∧ ∀ (i : Nat) (b : List Ed), bs[i]? = some b → Blk (A + i) b
theorem Segs.nil (A : Nat) : Segs [] A A := ⟨[], rfl, rfl, fun i b h => by simp at h⟩
theorem Segs.one {A : Nat} {b : List Ed} (h : Blk A b) : Segs b A (A + 1) := ⟨[b], by simp, rfl, fun i c hc => by
 cases i with
 | zero => simp at hc; subst hc; exact h
 | succ i => simp at hc⟩
theorem Segs.app {L1 L2 : List Ed} {A B C : Nat} (h1 : Segs L1 A B) (h2 : Segs L2 B C) : Segs (L1 ++ L2) A C := by
 obtain ⟨b1, e1, n1, k1⟩ := h1
 obtain ⟨b2, e2, n2, k2⟩ := h2
 refine ⟨b1 ++ b2, by rw [e1, e2, List.flatten_append], by rw [List.length_append]; omega, fun i b hb => ?_⟩
 rcases Nat.lt_or_ge i b1.length with h | h
 ·rw [List.getElem?_append_left h] at hb; exact k1 i b hb
 ·rw [List.getElem?_append_right h] at hb
  have := k2 _ _ hb
  rwa [show B + (i - b1.length) = A + i by omega] at this
def PlOK (ns : List Nd) (e : Ed) : Prop :=
 (e.op = 5 ∧ ∃ p : Nat, e.place = (p : Int) + 1 ∧ p + 1 < ns.length ∧ (kdA ns p = 7 ∨ kdA ns p = 8) ∧ e.loop = decide (kdA ns p = 8) ∧ e.from' = ptF ns p) ∨
 (∃ p : Nat, e.place = p ∧ p < ns.length ∧ 2 ≤ kdA ns p ∧ kdA ns p ≤ 6 ∧ e.op = kdA ns p - 2 ∧ e.from' = ptF ns p)
structure Flow (ns : List Nd) (L : List Ed) (A Z fol : Nat) : Prop where
 seg : Segs L A Z
 to : ∀ e ∈ L, ∃ t : Nat, e.to' = t ∧ t ≤ ptF ns ns.length
 pl : ∀ e ∈ L, PlOK ns e
 mid : ∀ v, A < v → v < Z → ∃ e ∈ L, ∃ u : Nat, e.to' = v ∧ e.from' = u ∧ u < v
 out : A < Z → ∃ e ∈ L, ∃ u : Nat, e.to' = fol ∧ e.from' = u ∧ u < Z
def Stretch (ns : List Nd) (D : Int) (p en : Nat) : Prop := p < en → en ≤ ns.length ∧ depA ns p = D ∧ (∀ q, p ≤ q → q < en → D ≤ depA ns q) ∧ (∀ q, p ≤ q → q < en → depA ns q = D → kdA ns q ≤ 8) ∧ (en = ns.length ∨ (en < ns.length ∧ depA ns en < D))
theorem Stretch.next {ns : List Nd} {D : Int} {p en : Nat} (h : Stretch ns D p en) (hp : p < en) : endF ns p ≤ en ∧ Stretch ns D (endF ns p) en := by
 obtain ⟨h1, h2, h3, h4, h5⟩ := h hp
 have hlo := endF_lo (ns := ns) (p := p)
 have hle : endF ns p ≤ en := by
  rcases Nat.lt_or_ge en (endF ns p) with c | c
  ·exfalso
   have := endF_deep (ns := ns) hp c
   rcases h5 with h5 | h5 <;> omega
  ·exact c
 refine ⟨hle, fun hq => ⟨h1, ?_, fun q a b => h3 q (by omega) b, fun q a b => h4 q (by omega) b, h5⟩⟩
 have := endF_next (ns := ns) (p := p) (by omega)
 have := h3 (endF ns p) (by omega) hq
 omega
theorem TreeOK.block {ns : List Nd} (h : TreeOK ns) {a : Nat} (ha : a < ns.length) (hk : kdA ns a = 9) : Stretch ns (depA ns a + 1) (a + 1) (endF ns a) ∧ (∀ q, a + 1 ≤ q → q < endF ns a → depA ns q = depA ns a + 1 → 2 ≤ kdA ns q ∧ kdA ns q ≤ 8) := by
 have hq : ∀ q, a + 1 ≤ q → q < endF ns a → depA ns q = depA ns a + 1 → 2 ≤ kdA ns q ∧ kdA ns q ≤ 8 := by
  intro q h1 h2 h3
  obtain ⟨c, hc⟩ := h.kid (by omega) h2 h3
  have k1 := h.kd (endF_deep (ns := ns) (p := a) (q := q) (by omega) h2).2
  have hs := sort_of (k := (kdA ns q).toNat) (by omega)
  have e : nextD (kdA ns a).toNat c = 2 := by rw [hk]; rfl
  have := hs.2.1.1 (by rw [hc, e])
  omega
 refine ⟨fun hp => ⟨(endF_le ha).2, ?_, fun q h1 h2 => ?_, fun q h1 h2 h3 => (hq q h1 h2 h3).2, ?_⟩, hq⟩
 ·have h1 := endF_deep (ns := ns) (p := a) (q := a + 1) (by omega) hp
  have := h.step h1.2
  omega
 ·have := (endF_deep (ns := ns) (p := a) (q := q) (by omega) h2).1
  omega
 ·rcases Nat.lt_or_ge (endF ns a) ns.length with c | c
  ·have := endF_next (ns := ns) (p := a) c
   exact .inr ⟨c, by omega⟩
  ·have := (endF_le ha).2
   exact .inl (by omega)
theorem TreeOK.whole {ns : List Nd} (h : TreeOK ns) : Stretch ns 1 0 ns.length := fun hp => by
 refine ⟨Nat.le_refl _, ?_, fun q _ hq => h.dep hq, fun q _ hq hd => ?_, .inl rfl⟩
 ·rw [depA_get (List.getElem?_eq_getElem hp)]; exact h.shp.first hp
 ·obtain ⟨n, e⟩ := get_of hq
  have k1 := h.kd hq
  rw [kdA_get e] at k1 ⊢
  rw [depA_get e] at hd
  have hs := sort_of (k := n.kind.toNat) (by omega)
  rcases h.top n (List.mem_of_getElem? e) hd with c | c
  ·have := hs.1.1 c; omega
  ·have := hs.2.1.1 c; omega
theorem TreeOK.decl {ns : List Nd} (h : TreeOK ns) {p q : Nat} (hpq : p < q) (hq : q < ns.length) (hk : 2 ≤ kdA ns p) : 2 ≤ kdA ns q := by
 rcases Int.lt_or_le (kdA ns q) 2 with c | c
 ·exfalso
  have := h.shp.decl p q hq hpq (by rw [← kdA_get (List.getElem?_eq_getElem hq)]; omega)
  rw [← kdA_get (List.getElem?_eq_getElem (show p < ns.length by omega))] at this
  omega
 ·exact c
theorem bgF_yes {ns : List Nd} {x y z : Nat} (h : x < y) : bgF ns x y z = ptF ns x := by unfold bgF; rw [if_pos h]
theorem bgF_no {ns : List Nd} {x y z : Nat} (h : ¬ x < y) : bgF ns x y z = z := by unfold bgF; rw [if_neg h]
theorem bgF_max {ns : List Nd} {x y z : Nat} (h : z ≤ ptF ns ns.length) : bgF ns x y z ≤ ptF ns ns.length := by
 unfold bgF; split
 ·exact ptF_end ns x
 ·exact h
theorem Flow.nil (ns : List Nd) (A fol : Nat) : Flow ns [] A A fol := ⟨Segs.nil A, fun e h => (by cases h), fun e h => (by cases h), fun v h1 h2 => (by omega), fun h => (by omega)⟩
theorem Flow.app {ns : List Nd} {L1 L2 : List Ed} {A B Z x fol : Nat} (h1 : Flow ns L1 A B x) (h2 : Flow ns L2 B Z fol) (hx : A < B → B < Z → x = B) (ho : A < Z → B = Z → A < B → x = fol) : Flow ns (L1 ++ L2) A Z fol := by
 obtain ⟨b1, _, n1, _⟩ := h1.seg
 obtain ⟨b2, _, n2, _⟩ := h2.seg
 refine ⟨h1.seg.app h2.seg, fun e he => ?_, fun e he => ?_, fun v hA hZ => ?_, fun hAZ => ?_⟩
 ·rcases List.mem_append.1 he with he | he
  ·exact h1.to e he
  ·exact h2.to e he
 ·rcases List.mem_append.1 he with he | he
  ·exact h1.pl e he
  ·exact h2.pl e he
 ·rcases Nat.lt_trichotomy v B with c | c | c
  ·obtain ⟨e, he, r⟩ := h1.mid v hA c
   exact ⟨e, List.mem_append_left _ he, r⟩
  ·subst c
   obtain ⟨e, he, u, r1, r2, r3⟩ := h1.out hA
   exact ⟨e, List.mem_append_left _ he, u, by rw [r1, hx hA hZ], r2, r3⟩
  ·obtain ⟨e, he, r⟩ := h2.mid v c hZ
   exact ⟨e, List.mem_append_right _ he, r⟩
 ·rcases Nat.lt_or_ge B Z with c | c
  ·obtain ⟨e, he, r⟩ := h2.out c
   exact ⟨e, List.mem_append_right _ he, r⟩
  ·have eB : B = Z := by omega
   obtain ⟨e, he, u, r1, r2, r3⟩ := h1.out (by omega)
   exact ⟨e, List.mem_append_left _ he, u, by rw [r1, ho hAZ eB (by omega)], r2, by omega⟩
theorem stE_flow {ns : List Nd} (h : TreeOK ns) : ∀ (f p en fol : Nat) (D : Int), Stretch ns D p en → ns.length + 2 - p ≤ f → p ≤ en → fol ≤ ptF ns ns.length → Flow ns (stE ns f p en fol) (ptF ns p) (ptF ns en) fol
 | 0, p, en, fol, D, hS, hf, hpe, _ => by
  by_cases hp : p < en
  ·have := (hS hp).1; omega
  ·have e : p = en := by omega
   subst e
   rw [stE_none hp]; exact Flow.nil _ _ _
 | f + 1, p, en, fol, D, hS, hf, hpe, hfol => by
  by_cases hp : p < en
  rotate_left
  ·have e : p = en := by omega
   subst e
   rw [stE_none hp]; exact Flow.nil _ _ _
  obtain ⟨h1, h2, h3, h4, h5⟩ := hS hp
  obtain ⟨hle, hS'⟩ := hS.next hp
  have hpl : p < ns.length := by omega
  have hlo := endF_lo (ns := ns) (p := p)
  have k8 := h4 p (Nat.le_refl _) hp h2
  have kd0 := h.kd hpl
  have IH := stE_flow h f (endF ns p) en fol D hS' (by omega) hle hfol
  obtain ⟨nx, hnx⟩ : ∃ x, x = bgF ns (endF ns p) en fol := ⟨_, rfl⟩
  have hnxm : nx ≤ ptF ns ns.length := by rw [hnx]; exact bgF_max hfol
  have hxx : ∀ (_ : ptF ns p < ptF ns (endF ns p)) (_ : ptF ns (endF ns p) < ptF ns en), nx = ptF ns (endF ns p) := fun _ c => by
   rw [hnx]
   refine bgF_yes ?_
   rcases Nat.lt_or_ge (endF ns p) en with d | d
   ·exact d
   ·exfalso
    have : endF ns p = en := by omega
    rw [this] at c; omega
  have hoo : ∀ (_ : ptF ns p < ptF ns en) (_ : ptF ns (endF ns p) = ptF ns en) (_ : ptF ns p < ptF ns (endF ns p)), nx = fol := fun _ c d => by
   rw [hnx]
   refine bgF_no fun hlt => ?_
   have hk2 : 2 ≤ kdA ns p := by
    rcases Int.lt_or_le (kdA ns p) 2 with c' | c'
    ·exfalso
     have hfl : ptF ns (endF ns p) = ptF ns p := ptF_same (by omega) fun r r1 r2 => by
      by_cases e : r = p
      ·rw [e]; omega
      ·have := h.plain hpl (.inl (by omega)) r (by omega) r2; omega
     omega
    ·exact c'
   have hd := hS' hlt
   have k1 := h.decl (p := p) (q := endF ns p) hlo (by omega) hk2
   have k2 := hd.2.2.2.1 (endF ns p) (Nat.le_refl _) hlt hd.2.1
   have s1 := ptF_step (ns := ns) (p := endF ns p) (by omega)
   rw [if_pos ⟨k1, k2⟩] at s1
   have := ptF_le' (ns := ns) (p := endF ns p + 1) (q := en) (by omega)
   omega
  rw [stE, if_pos hp, ← hnx]
  refine Flow.app (B := ptF ns (endF ns p)) (x := nx) ?_ IH hxx hoo
  by_cases hc : kdA ns p = 7 ∨ kdA ns p = 8
  ·rw [if_pos hc]
   obtain ⟨t1, t2, t3, t4, t5, t6⟩ := h.two hpl hc
   obtain ⟨a, ha⟩ : ∃ x, x = endF ns (p + 1) := ⟨_, rfl⟩
   rw [← ha] at t2 t3 t5 t6 ⊢
   obtain ⟨s, hs⟩ : ∃ x, x = endF ns a := ⟨_, rfl⟩
   rw [← hs] at t6 ⊢
   have lpa : p + 1 < a := by rw [ha]; exact endF_lo
   have las : a < s := by rw [hs]; exact endF_lo
   have hel : endF ns p ≤ ns.length := (endF_le hpl).2
   have hal : a < ns.length := by omega
   have hsl : s ≤ ns.length := by rw [hs]; exact (endF_le hal).2
   obtain ⟨bS, bK⟩ := h.block hal t5
   rw [← hs] at bS bK
   obtain ⟨bh, hbh⟩ : ∃ x, x = (if kdA ns p = 8 then ptF ns p else nx) := ⟨_, rfl⟩
   have hbm : bh ≤ ptF ns ns.length := by
    rw [hbh]; split
    ·exact ptF_end ns p
    ·exact hnxm
   have pa : ptF ns (a + 1) = ptF ns p + 1 := by
    rw [ptF_step hal, t5, if_neg (by omega)]
    have := ptF_same (ns := ns) (p := p + 1) (q := a) (by omega) (fun r r1 r2 => by
     by_cases e : r = p + 1
     ·rw [e]; omega
     ·have := h.plain (p := p + 1) t1 (.inr t4) r (by omega) (by rw [← ha]; exact r2); omega)
    rw [this, ptF_step hpl, if_pos (by omega)]
   have F1 := stE_flow h f (a + 1) s bh (depA ns a + 1) bS (by omega) (by omega) hbm
   have hbig : ptF ns (a + 1) ≤ ptF ns s := ptF_le' (by omega)
   have hch : chE ns p nx = [⟨ptF ns p, bgF ns (a + 1) s bh, 5, p + 1, true, decide (kdA ns p = 8)⟩, ⟨ptF ns p, bgF ns (s + 1) (endF ns p) nx, 5, p + 1, false, decide (kdA ns p = 8)⟩] := by
    unfold chE; rw [← ha, ← hs, ← hbh]
   rw [← hbh, hch]
   have hpc : ∀ (tt : Nat) (sn : Bool), PlOK ns ⟨ptF ns p, tt, 5, p + 1, sn, decide (kdA ns p = 8)⟩ := fun tt sn => .inl ⟨rfl, p, rfl, by omega, hc, rfl, rfl⟩
   have hBk : Segs [⟨ptF ns p, bgF ns (a + 1) s bh, 5, p + 1, true, decide (kdA ns p = 8)⟩, ⟨ptF ns p, bgF ns (s + 1) (endF ns p) nx, 5, p + 1, false, decide (kdA ns p = 8)⟩] (ptF ns p) (ptF ns p + 1) := Segs.one (.inr ⟨_, _, rfl, rfl, rfl, rfl, rfl, rfl, rfl, rfl, rfl⟩)
   -- the edges of what stands behind the first block
   obtain ⟨L2, hL2⟩ : ∃ x, x = stE ns f (s + 1) (endF ns p) nx := ⟨_, rfl⟩
   have F2 : Flow ns L2 (ptF ns s) (ptF ns (endF ns p)) nx ∧ (ptF ns s < ptF ns (endF ns p) → bgF ns (s + 1) (endF ns p) nx = ptF ns s) ∧ (¬ ptF ns s < ptF ns (endF ns p) → bgF ns (s + 1) (endF ns p) nx = nx) := by
    rcases t6 with e | ⟨k7, u1, u2, u3, u4⟩
    ·rw [hL2, e, stE_none (by omega)]
     exact ⟨Flow.nil _ _ _, fun c => by omega, fun _ => bgF_no (by omega)⟩
    ·have hsl' : s < ns.length := by omega
     obtain ⟨cS, cK⟩ := h.block hsl' u2
     rw [u4] at cS cK
     have ps : ptF ns (s + 1) = ptF ns s := by rw [ptF_step hsl', u2, if_neg (by omega)]; rfl
     have F := stE_flow h f (s + 1) (endF ns p) nx (depA ns s + 1) cS (by omega) (by omega) hnxm
     rw [ps] at F
     refine ⟨by rw [hL2]; exact F, fun c => ?_, fun c => ?_⟩
     ·rw [bgF_yes, ps]
      rcases Nat.lt_or_ge (s + 1) (endF ns p) with d | d
      ·exact d
      ·exfalso
       have e : s + 1 = endF ns p := by omega
       rw [← e, ps] at c; omega
     ·refine bgF_no fun d => c ?_
      have hd := cS d
      have k := cK (s + 1) (Nat.le_refl _) d hd.2.1
      have st := ptF_step (ns := ns) (p := s + 1) (by omega)
      rw [if_pos k, ps] at st
      have := ptF_le' (ns := ns) (p := s + 1 + 1) (q := endF ns p) (by omega)
      omega
   rw [← hL2]
   obtain ⟨F2, G1, G2⟩ := F2
   have hbig2 : ptF ns s ≤ ptF ns (endF ns p) := ptF_le' (by rcases t6 with e | ⟨_, e, _⟩ <;> omega)
   have hy : ptF ns (a + 1) < ptF ns s → bgF ns (a + 1) s bh = ptF ns (a + 1) := fun c => bgF_yes (by
    rcases Nat.lt_or_ge (a + 1) s with d | d
    ·exact d
    ·exfalso
     have e : a + 1 = s := by omega
     rw [← e] at c; omega)
   rw [pa] at F1 hbig hy
   refine ⟨(hBk.app (F1.seg.app F2.seg)), fun e he => ?_, fun e he => ?_, fun v v1 v2 => ?_, fun _ => ?_⟩
   ·rcases List.mem_append.1 he with he | he
    ·simp only [List.mem_cons, List.not_mem_nil, or_false] at he
     rcases he with rfl | rfl
     ·exact ⟨_, rfl, bgF_max hbm⟩
     ·exact ⟨_, rfl, bgF_max hnxm⟩
    ·rcases List.mem_append.1 he with he | he
     ·exact F1.to e he
     ·exact F2.to e he
   ·rcases List.mem_append.1 he with he | he
    ·simp only [List.mem_cons, List.not_mem_nil, or_false] at he
     rcases he with rfl | rfl
     ·exact hpc _ _
     ·exact hpc _ _
    ·rcases List.mem_append.1 he with he | he
     ·exact F1.pl e he
     ·exact F2.pl e he
   ·by_cases c1 : v = ptF ns p + 1
    ·rcases Nat.lt_or_ge v (ptF ns s) with d | d
     ·exact ⟨_, List.mem_append_left _ (List.mem_cons_self), ptF ns p, by rw [c1]; exact congrArg Int.ofNat (hy (by omega)), rfl, by omega⟩
     ·exact ⟨_, List.mem_append_left _ (List.mem_cons_of_mem _ List.mem_cons_self), ptF ns p, by rw [c1]; exact congrArg Int.ofNat ((G1 (by omega)).trans (by omega)), rfl, by omega⟩
    ·rcases Nat.lt_trichotomy v (ptF ns s) with d | d | d
     ·obtain ⟨e, he, r⟩ := F1.mid v (by omega) d
      exact ⟨e, List.mem_append_right _ (List.mem_append_left _ he), r⟩
     ·exact ⟨_, List.mem_append_left _ (List.mem_cons_of_mem _ List.mem_cons_self), ptF ns p, by rw [d]; exact congrArg Int.ofNat (G1 (by omega)), rfl, by omega⟩
     ·obtain ⟨e, he, r⟩ := F2.mid v d v2
      exact ⟨e, List.mem_append_right _ (List.mem_append_right _ he), r⟩
   ·by_cases c : ptF ns s < ptF ns (endF ns p)
    ·obtain ⟨e, he, r⟩ := F2.out c
     exact ⟨e, List.mem_append_right _ (List.mem_append_right _ he), r⟩
    ·exact ⟨_, List.mem_append_left _ (List.mem_cons_of_mem _ List.mem_cons_self), ptF ns p, congrArg Int.ofNat (G2 c), rfl, by omega⟩
  ·rw [if_neg hc]
   have hin : ∀ q, p < q → q < endF ns p → 10 ≤ kdA ns q := h.plain hpl (.inl (by omega))
   have hfl : ptF ns (endF ns p) = ptF ns (p + 1) := ptF_same (by omega) fun r r1 r2 => by have := hin r (by omega) r2; omega
   rw [hfl, ptF_step hpl]
   by_cases hk : 2 ≤ kdA ns p ∧ kdA ns p ≤ 6
   ·rw [if_pos hk, if_pos ⟨hk.1, by omega⟩]
    refine ⟨Segs.one (.inl ⟨_, rfl, rfl, by simp only; omega, rfl, rfl⟩), fun e he => ?_, fun e he => ?_, fun v v1 v2 => by omega, fun _ => ⟨_, List.mem_cons_self, ptF ns p, rfl, rfl, by omega⟩⟩
    ·simp only [List.mem_cons, List.not_mem_nil, or_false] at he
     subst he; exact ⟨_, rfl, hnxm⟩
    ·simp only [List.mem_cons, List.not_mem_nil, or_false] at he
     subst he; exact .inr ⟨p, rfl, hpl, hk.1, hk.2, rfl, rfl⟩
   ·rw [if_neg hk, if_neg (by omega)]
    exact Flow.nil _ _ _
end
section
open Go.RowKit
theorem Segs.sorted {L : List Ed} {A Z : Nat} (h : Segs L A Z) : L.Pairwise fun a b => a.from' ≤ b.from' := by
 obtain ⟨bs, rfl, _, hb⟩ := h
 have hf : ∀ (i : Nat) (b : List Ed), bs[i]? = some b → ∀ e ∈ b, e.from' = ((A + i : Nat) : Int) := by
  intro i b hi e he
  rcases hb i b hi with ⟨x, rfl, h1, _⟩ | ⟨x, y, rfl, h1, h2, _⟩
  ·simp at he; subst he; exact h1
  ·simp at he; rcases he with rfl | rfl
   ·exact h1
   ·exact h2
 rw [List.pairwise_flatten]
 refine ⟨fun b hbm => ?_, ?_⟩
 ·obtain ⟨i, hi, e⟩ := List.mem_iff_getElem.1 hbm
  have hi' : bs[i]? = some b := by rw [List.getElem?_eq_getElem hi, e]
  rw [List.pairwise_iff_forall_sublist]
  intro x y hxy
  have hx := hf i b hi' x (hxy.subset (by simp))
  have hy := hf i b hi' y (hxy.subset (by simp))
  omega
 ·rw [List.pairwise_iff_getElem]
  intro i j hi hj hij x hx y hy
  have h1 := hf i _ (List.getElem?_eq_getElem hi) x hx
  have h2 := hf j _ (List.getElem?_eq_getElem hj) y hy
  omega
def elF (ns : List Nd) : List Ed := stE ns (ns.length + 2) 0 ns.length (ptF ns ns.length)
theorem elF_flow {ns : List Nd} (h : TreeOK ns) : Flow ns (elF ns) 0 (ptF ns ns.length) (ptF ns ns.length) := by
 have := stE_flow h (ns.length + 2) 0 ns.length (ptF ns ns.length) 1 h.whole (by omega) (Nat.zero_le _) (Nat.le_refl _)
 exact this
theorem elF_in {ns : List Nd} (h : TreeOK ns) {v : Nat} (h1 : 0 < v) (h2 : v ≤ ptF ns ns.length) : ∃ (i : Nat) (e : Ed) (u : Nat), (elF ns)[i]? = some e ∧ e.to' = v ∧ e.from' = u ∧ u < v := by
 have F := elF_flow h
 have : ∃ e ∈ elF ns, ∃ u : Nat, e.to' = v ∧ e.from' = u ∧ u < v := by
  rcases Nat.lt_or_ge v (ptF ns ns.length) with c | c
  ·exact F.mid v h1 c
  ·obtain ⟨e, he, u, r1, r2, r3⟩ := F.out (by omega)
   exact ⟨e, he, u, by rw [r1]; congr 1; omega, r2, by omega⟩
 obtain ⟨e, he, u, r⟩ := this
 obtain ⟨i, hi, e2⟩ := List.mem_iff_getElem.1 he
 exact ⟨i, e, u, by rw [List.getElem?_eq_getElem hi, e2], r⟩
theorem elF_seen {ns : List Nd} (h : TreeOK ns) {s : Nat → Bool} (h0 : s 0 = true) {k : Nat} {e : Ed} (he : (elF ns)[k]? = some e) (hs : ∀ (i : Nat) (x : Ed) (t : Nat), i < k → (elF ns)[i]? = some x → x.to' = t → s t = true) (u : Nat) (hu : e.from' = u) : s u = true := by
 by_cases c : u = 0
 ·rw [c]; exact h0
 ·have F := elF_flow h
  obtain ⟨bs, hfl, hn, hb⟩ := F.seg
  have hle : u ≤ ptF ns ns.length := by
   rcases F.pl e (List.mem_of_getElem? he) with ⟨_, p, _, _, _, _, e2⟩ | ⟨p, _, _, _, _, _, e2⟩
   ·have := ptF_end ns p; omega
   ·have := ptF_end ns p; omega
  obtain ⟨i, x, u', hx, ht, hf, hlt⟩ := elF_in h (v := u) (by omega) hle
  refine hs i x u ?_ hx ht
  rcases Nat.lt_or_ge i k with d | d
  ·exact d
  ·exfalso
   by_cases e2 : i = k
   ·subst e2; rw [he] at hx; injection hx with hx; subst hx; omega
   ·have hp := List.pairwise_iff_getElem.1 F.seg.sorted
    obtain ⟨hk, e3⟩ := List.getElem?_eq_some_iff.1 he
    obtain ⟨hi, e4⟩ := List.getElem?_eq_some_iff.1 hx
    have := hp k i hk hi (by omega)
    rw [e3, e4] at this
    omega
theorem elF_all {ns : List Nd} (h : TreeOK ns) {s : Nat → Bool} (h0 : s 0 = true) (hs : ∀ (i : Nat) (x : Ed) (t : Nat), (elF ns)[i]? = some x → x.to' = t → s t = true) (v : Nat) (hv : v ≤ ptF ns ns.length) : s v = true := by
 by_cases c : v = 0
 ·rw [c]; exact h0
 ·obtain ⟨i, x, _, hx, ht, _⟩ := elF_in h (v := v) (by omega) hv
  exact hs i x v hx ht
def offB (bs : List (List Ed)) (v : Nat) : Nat := (bs.take v).flatten.length
theorem offB_get {bs : List (List Ed)} {v : Nat} {b : List Ed} (h : bs[v]? = some b) : offB bs (v + 1) = offB bs v + b.length ∧ ∀ j, j < b.length → bs.flatten[offB bs v + j]? = b[j]? := by
 obtain ⟨hv, e⟩ := List.getElem?_eq_some_iff.1 h
 refine ⟨?_, fun j hj => ?_⟩
 ·unfold offB
  rw [List.take_add_one, h, Option.toList_some, List.flatten_append, List.length_append]; simp
 ·have e2 : bs.flatten = (bs.take v).flatten ++ (b ++ (bs.drop (v + 1)).flatten) := by
   conv => lhs; rw [← List.take_append_drop v bs, List.flatten_append, List.drop_eq_getElem_cons hv, e, List.flatten_cons]
  rw [e2, List.getElem?_append_right (by unfold offB; omega)]
  unfold offB
  rw [Nat.add_sub_cancel_left, List.getElem?_append_left hj]
theorem offB_end (bs : List (List Ed)) : offB bs bs.length = bs.flatten.length := by unfold offB; rw [List.take_length]
theorem offB_zero (bs : List (List Ed)) : offB bs 0 = 0 := rfl
end
end Go.Proofs.YtklkpaekdpaloaaDoor
