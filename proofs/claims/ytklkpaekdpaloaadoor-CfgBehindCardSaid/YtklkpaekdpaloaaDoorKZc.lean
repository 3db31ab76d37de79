import Derived.Test.YtklkpaekdpaloaaDoorKZb
set_option linter.unusedVariables false
set_option linter.unusedSimpArgs false
set_option linter.unnecessarySimpa false
namespace Go.Proofs.YtklkpaekdpaloaaDoor
open Go.RowKit
theorem ns_fwd {P : RP} (a : Nat) (s : ByteArray) (a1 : Nat) (b1 : Int) : a1 ≤ (nsF P a s a1 b1).2.1 ∧ ((nsF P a s a1 b1).2.2 < 0 → b1 < 0 ∧ (nsF P a s a1 b1).2.1 ≤ P.ts.length) := by
 unfold nsF
 cases c : isS P a1 b1 [91] with
 | true =>
  simp only [if_true]
  refine ⟨?_, fun h => ⟨(isS_lt c).1, ?_⟩⟩
  ·have h1 := (exA_fwd (P := P) (a1 + 1) b1).1
   have h2 := tkA_le (P := P) (exA P (a1 + 1) b1).2.1 (exA P (a1 + 1) b1).2.2 [93]
   have h3 := tkA_le (P := P) (tkA P (exA P (a1 + 1) b1).2.1 (exA P (a1 + 1) b1).2.2 [93]) (tkB P (exA P (a1 + 1) b1).2.1 (exA P (a1 + 1) b1).2.2 [93]) [58, 61]
   refine Nat.le_trans ?_ (Nat.le_trans (exA_fwd (P := P) _ _).1 (tkA_le _ _ _))
   omega
  ·rw [(tk_of h).2.2.2.1]; exact (tk_of h).2.2.1
 | false =>
  simp only [Bool.false_eq_true, if_false]
  refine ⟨?_, fun h => ⟨?_, ?_⟩⟩
  ·exact Nat.le_trans (tkA_le _ _ _) (Nat.le_trans (exA_fwd (P := P) _ _).1 (tkA_le _ _ _))
  ·exact (tk_of ((exA_fwd _ _).2 (tk_of h).2.1)).2.1
  ·rw [(tk_of h).2.2.2.1]; exact (tk_of h).2.2.1
theorem ns_ext {P Q : RP} (E : Ext P Q) {a : Nat} {s : ByteArray} {a1 : Nat} {b1 : Int} (ha : a < P.ts.length) (h : (nsF P a s a1 b1).2.2 < 0) : nsF Q a s a1 b1 = nsF P a s a1 b1 := by
 unfold nsF at h ⊢
 rw [E.is a1 b1 [91] (by decide) (by decide)]
 cases c : isS P a1 b1 [91] with
 | true =>
  simp only [c, if_true] at h ⊢
  have k1 := (tk_of h).2.1
  have k2 := (exA_fwd _ _).2 k1
  have k3 := (tk_of k2).2.1
  have k4 := (tk_of k3).2.1
  rw [exA_ext E k4, (E.tk k3).1, (E.tk k3).2, (E.tk k2).1, (E.tk k2).2, exA_ext E k1, (E.tk h).1, (E.tk h).2, E.pl ha]
 | false =>
  simp only [c, Bool.false_eq_true, if_false] at h ⊢
  have k1 := (tk_of h).2.1
  have k2 := (exA_fwd _ _).2 k1
  rw [(E.tk k2).1, (E.tk k2).2, exA_ext E k1, (E.tk h).1, (E.tk h).2, E.pl ha]
theorem sm_input {P : RP} {g : Nat → Int → List Nd × Nat × Int} {a : Nat} {bad : Int} (h : isS P a bad [105, 110, 112, 117, 116] = true) : smF P g a bad = (ndS ⟨0, 4, naT P (a + 1) bad, 0, 0, (plS P a : Nat)⟩ [], tkA P (naA P (a + 1) bad) (naB P (a + 1) bad) [59], tkB P (naA P (a + 1) bad) (naB P (a + 1) bad) [59]) := by
 rw [smF, if_pos h]
theorem sm_assert {P : RP} {g : Nat → Int → List Nd × Nat × Int} {a : Nat} {bad : Int} (h : isS P a bad [105, 110, 112, 117, 116] = false) (h1 : isS P a bad [97, 115, 115, 101, 114, 116] = true) : smF P g a bad = (ndS ⟨0, 5, ⟨#[]⟩, 0, 0, (plS P a : Nat)⟩ [(exA P (a + 1) bad).1], tkA P (exA P (a + 1) bad).2.1 (exA P (a + 1) bad).2.2 [59], tkB P (exA P (a + 1) bad).2.1 (exA P (a + 1) bad).2.2 [59]) := by
 rw [smF, h, if_neg (by simp), if_pos h1]
theorem sm_skip {P : RP} {g : Nat → Int → List Nd × Nat × Int} {a : Nat} {bad : Int} (h : isS P a bad [105, 110, 112, 117, 116] = false) (h1 : isS P a bad [97, 115, 115, 101, 114, 116] = false) (h2 : isS P a bad [115, 107, 105, 112] = true) : smF P g a bad = (ndS ⟨0, 6, ⟨#[]⟩, 0, 0, (plS P a : Nat)⟩ [], tkA P (a + 1) bad [59], tkB P (a + 1) bad [59]) := by
 rw [smF, h, if_neg (by simp), h1, if_neg (by simp), if_pos h2]
theorem sm_while {P : RP} {g : Nat → Int → List Nd × Nat × Int} {a : Nat} {bad : Int} (h : isS P a bad [105, 110, 112, 117, 116] = false) (h1 : isS P a bad [97, 115, 115, 101, 114, 116] = false) (h2 : isS P a bad [115, 107, 105, 112] = false) (h3 : isS P a bad [119, 104, 105, 108, 101] = true) : smF P g a bad = (ndS ⟨0, 8, ⟨#[]⟩, 0, 0, (plS P a : Nat)⟩ [(exA P (a + 1) bad).1, (g (exA P (a + 1) bad).2.1 (exA P (a + 1) bad).2.2).1], (g (exA P (a + 1) bad).2.1 (exA P (a + 1) bad).2.2).2.1, (g (exA P (a + 1) bad).2.1 (exA P (a + 1) bad).2.2).2.2) := by
 rw [smF, h, if_neg (by simp), h1, if_neg (by simp), h2, if_neg (by simp), if_pos h3]
theorem sm_if {P : RP} {g : Nat → Int → List Nd × Nat × Int} {a : Nat} {bad : Int} (h : isS P a bad [105, 110, 112, 117, 116] = false) (h1 : isS P a bad [97, 115, 115, 101, 114, 116] = false) (h2 : isS P a bad [115, 107, 105, 112] = false) (h3 : isS P a bad [119, 104, 105, 108, 101] = false) (h4 : isS P a bad [105, 102] = true) : smF P g a bad =
  if isS P (g (exA P (a + 1) bad).2.1 (exA P (a + 1) bad).2.2).2.1 (g (exA P (a + 1) bad).2.1 (exA P (a + 1) bad).2.2).2.2 [101, 108, 115, 101] then
   (ndS ⟨0, 7, ⟨#[]⟩, 0, 0, (plS P a : Nat)⟩ [(exA P (a + 1) bad).1, (g (exA P (a + 1) bad).2.1 (exA P (a + 1) bad).2.2).1, (g ((g (exA P (a + 1) bad).2.1 (exA P (a + 1) bad).2.2).2.1 + 1) (g (exA P (a + 1) bad).2.1 (exA P (a + 1) bad).2.2).2.2).1], (g ((g (exA P (a + 1) bad).2.1 (exA P (a + 1) bad).2.2).2.1 + 1) (g (exA P (a + 1) bad).2.1 (exA P (a + 1) bad).2.2).2.2).2.1, (g ((g (exA P (a + 1) bad).2.1 (exA P (a + 1) bad).2.2).2.1 + 1) (g (exA P (a + 1) bad).2.1 (exA P (a + 1) bad).2.2).2.2).2.2)
  else (ndS ⟨0, 7, ⟨#[]⟩, 0, 0, (plS P a : Nat)⟩ [(exA P (a + 1) bad).1, (g (exA P (a + 1) bad).2.1 (exA P (a + 1) bad).2.2).1], (g (exA P (a + 1) bad).2.1 (exA P (a + 1) bad).2.2).2.1, (g (exA P (a + 1) bad).2.1 (exA P (a + 1) bad).2.2).2.2) := by
 rw [smF, h, if_neg (by simp), h1, if_neg (by simp), h2, if_neg (by simp), h3, if_neg (by simp), if_pos h4]
theorem sm_name {P : RP} {g : Nat → Int → List Nd × Nat × Int} {a : Nat} {bad : Int} (h : isS P a bad [105, 110, 112, 117, 116] = false) (h1 : isS P a bad [97, 115, 115, 101, 114, 116] = false) (h2 : isS P a bad [115, 107, 105, 112] = false) (h3 : isS P a bad [119, 104, 105, 108, 101] = false) (h4 : isS P a bad [105, 102] = false) : smF P g a bad = nsF P a (naT P a bad) (naA P a bad) (naB P a bad) := by
 rw [smF, h, if_neg (by simp), h1, if_neg (by simp), h2, if_neg (by simp), h3, if_neg (by simp), h4, if_neg (by simp)]
theorem sm_pos {P : RP} {g : Nat → Int → List Nd × Nat × Int} (hg : Fwd g) (a : Nat) (bad : Int) : a ≤ (smF P g a bad).2.1 := by
 cases c0 : isS P a bad [105, 110, 112, 117, 116] with
 | true => rw [sm_input c0]; have h1 := naA_le (P := P) (a + 1) bad; have h2 := tkA_le (P := P) (naA P (a + 1) bad) (naB P (a + 1) bad) [59]; show a ≤ tkA P _ _ _; omega
 | false =>
 cases c1 : isS P a bad [97, 115, 115, 101, 114, 116] with
 | true => rw [sm_assert c0 c1]; have h1 := (exA_fwd (P := P) (a + 1) bad).1; have h2 := tkA_le (P := P) (exA P (a + 1) bad).2.1 (exA P (a + 1) bad).2.2 [59]; show a ≤ tkA P _ _ _; omega
 | false =>
 cases c2 : isS P a bad [115, 107, 105, 112] with
 | true => rw [sm_skip c0 c1 c2]; have h2 := tkA_le (P := P) (a + 1) bad [59]; show a ≤ tkA P _ _ _; omega
 | false =>
 have h1 := (exA_fwd (P := P) (a + 1) bad).1
 have h2 := (hg (exA P (a + 1) bad).2.1 (exA P (a + 1) bad).2.2).1
 cases c3 : isS P a bad [119, 104, 105, 108, 101] with
 | true => rw [sm_while c0 c1 c2 c3]; show a ≤ (g _ _).2.1; omega
 | false =>
 cases c4 : isS P a bad [105, 102] with
 | true =>
  rw [sm_if c0 c1 c2 c3 c4]
  have h3 := (hg ((g (exA P (a + 1) bad).2.1 (exA P (a + 1) bad).2.2).2.1 + 1) (g (exA P (a + 1) bad).2.1 (exA P (a + 1) bad).2.2).2.2).1
  split
  ·show a ≤ (g _ _).2.1; omega
  ·show a ≤ (g _ _).2.1; omega
 | false => rw [sm_name c0 c1 c2 c3 c4]; exact Nat.le_trans (naA_le _ _) (ns_fwd _ _ _ _).1
theorem sm_ext {P Q : RP} (E : Ext P Q) {g g' : Nat → Int → List Nd × Nat × Int} {a : Nat} {bad : Int} (hg : Fwd g) (hl : ∀ b bd, (g b bd).2.2 < 0 → (g b bd).2.1 ≤ P.ts.length) (H : ∀ b bd, a < b → a < P.ts.length → (g b bd).2.2 < 0 → g' b bd = g b bd) (h : (smF P g a bad).2.2 < 0) :
  bad < 0 ∧ a < P.ts.length ∧ a < (smF P g a bad).2.1 ∧ (smF P g a bad).2.1 ≤ P.ts.length ∧ smF Q g' a bad = smF P g a bad := by
 have q0 := E.is a bad [105, 110, 112, 117, 116] (by decide) (by decide)
 have q1 := E.is a bad [97, 115, 115, 101, 114, 116] (by decide) (by decide)
 have q3 := E.is a bad [119, 104, 105, 108, 101] (by decide) (by decide)
 have q4 := E.is a bad [105, 102] (by decide) (by decide)
 cases c0 : isS P a bad [105, 110, 112, 117, 116] with
 | true =>
  obtain ⟨hb, hn⟩ := isS_lt c0
  rw [sm_input c0] at h ⊢
  have k1 := tk_of h
  have k2 := na_of k1.2.1
  refine ⟨hb, hn, ?_, ?_, ?_⟩
  ·show a < tkA P _ _ _; rw [k1.2.2.2.1, k2.2.2.2.1]; omega
  ·show tkA P _ _ _ ≤ _; rw [k1.2.2.2.1]; exact k1.2.2.1
  ·rw [sm_input (q0.trans c0), E.naT, E.pl hn, (E.na k1.2.1).1, (E.na k1.2.1).2, (E.tk h).1, (E.tk h).2]
 | false =>
 cases c1 : isS P a bad [97, 115, 115, 101, 114, 116] with
 | true =>
  obtain ⟨hb, hn⟩ := isS_lt c1
  rw [sm_assert c0 c1] at h ⊢
  have k1 := tk_of h
  have k2 := (exA_fwd (P := P) (a + 1) bad).1
  refine ⟨hb, hn, ?_, ?_, ?_⟩
  ·show a < tkA P _ _ _; rw [k1.2.2.2.1]; omega
  ·show tkA P _ _ _ ≤ _; rw [k1.2.2.2.1]; exact k1.2.2.1
  ·rw [sm_assert (q0.trans c0) (q1.trans c1), E.pl hn, exA_ext E k1.2.1, (E.tk h).1, (E.tk h).2]
 | false =>
 cases c2 : isS P a bad [115, 107, 105, 112] with
 | true =>
  obtain ⟨hb, hn⟩ := isS_lt c2
  rw [sm_skip c0 c1 c2] at h ⊢
  have k1 := tk_of h
  refine ⟨hb, hn, ?_, ?_, ?_⟩
  ·show a < tkA P _ _ _; rw [k1.2.2.2.1]; omega
  ·show tkA P _ _ _ ≤ _; rw [k1.2.2.2.1]; exact k1.2.2.1
  ·rw [sm_skip (q0.trans c0) (q1.trans c1) ((E.isl hn bad _).trans c2), E.pl hn, (E.tk h).1, (E.tk h).2]
 | false =>
 have f1 := (exA_fwd (P := P) (a + 1) bad)
 have f2 := (hg (exA P (a + 1) bad).2.1 (exA P (a + 1) bad).2.2)
 cases c3 : isS P a bad [119, 104, 105, 108, 101] with
 | true =>
  obtain ⟨hb, hn⟩ := isS_lt c3
  rw [sm_while c0 c1 c2 c3] at h ⊢
  have e1 := exA_ext E (f2.2 h)
  have e2 := H _ _ (by omega) hn h
  refine ⟨hb, hn, ?_, hl _ _ h, ?_⟩
  ·show a < (g _ _).2.1; omega
  ·rw [sm_while (q0.trans c0) (q1.trans c1) ((E.isl hn bad _).trans c2) (q3.trans c3), E.pl hn, e1, e2]
 | false =>
 cases c4 : isS P a bad [105, 102] with
 | true =>
  obtain ⟨hb, hn⟩ := isS_lt c4
  have f3 := (hg ((g (exA P (a + 1) bad).2.1 (exA P (a + 1) bad).2.2).2.1 + 1) (g (exA P (a + 1) bad).2.1 (exA P (a + 1) bad).2.2).2.2)
  have q5 := E.is (g (exA P (a + 1) bad).2.1 (exA P (a + 1) bad).2.2).2.1 (g (exA P (a + 1) bad).2.1 (exA P (a + 1) bad).2.2).2.2 [101, 108, 115, 101] (by decide) (by decide)
  rw [sm_if c0 c1 c2 c3 c4] at h ⊢
  have hQ := sm_if (g := g') (q0.trans c0) (q1.trans c1) ((E.isl hn bad _).trans c2) (q3.trans c3) (q4.trans c4)
  cases c5 : isS P (g (exA P (a + 1) bad).2.1 (exA P (a + 1) bad).2.2).2.1 (g (exA P (a + 1) bad).2.1 (exA P (a + 1) bad).2.2).2.2 [101, 108, 115, 101] with
  | true =>
   rw [c5, if_pos rfl] at h
   rw [if_pos rfl]
   have g2 := f3.2 h
   have e1 := exA_ext E (f2.2 g2)
   have e2 := H _ _ (by omega) hn g2
   have e3 := H _ _ (by omega) hn h
   refine ⟨hb, hn, ?_, hl _ _ h, ?_⟩
   ·show a < (g _ _).2.1; omega
   ·rw [hQ, e1, e2, q5, c5, if_pos rfl, e3, E.pl hn]
  | false =>
   rw [c5, if_neg (by simp)] at h
   rw [if_neg (by simp)]
   have e1 := exA_ext E (f2.2 h)
   have e2 := H _ _ (by omega) hn h
   refine ⟨hb, hn, ?_, hl _ _ h, ?_⟩
   ·show a < (g _ _).2.1; omega
   ·rw [hQ, e1, e2, q5, c5, if_neg (by simp), E.pl hn]
 | false =>
  rw [sm_name c0 c1 c2 c3 c4] at h ⊢
  have k1 := (ns_fwd _ _ _ _).2 h
  have k2 := na_of k1.1
  have hn := k2.2.2.1
  refine ⟨k2.2.1, hn, ?_, k1.2, ?_⟩
  ·refine Nat.lt_of_lt_of_le ?_ (ns_fwd _ _ _ _).1; rw [k2.2.2.2.1]; omega
  ·rw [sm_name (q0.trans c0) (q1.trans c1) ((E.isl hn bad _).trans c2) (q3.trans c3) (q4.trans c4), E.naT, (E.na k1.1).1, (E.na k1.1).2]
   exact ns_ext E hn h
theorem bl_fwd {P : RP} {g : Nat → Int → List Nd × Nat × Int} (hg : Fwd g) : ∀ k l a bad, a ≤ (blF P g k l a bad).2.1 ∧ ((blF P g k l a bad).2.2 < 0 → bad < 0)
 | 0, l, a, bad => ⟨Nat.le_refl _, id⟩
 | k + 1, l, a, bad => by
  rw [blF]
  split
  ·have h1 := hg a bad
   have h2 := bl_fwd (P := P) hg k (l ++ (g a bad).1) (g a bad).2.1 (g a bad).2.2
   exact ⟨Nat.le_trans h1.1 h2.1, fun h => h1.2 (h2.2 h)⟩
  ·exact ⟨Nat.le_refl _, id⟩
theorem sm_fwd {P : RP} {g : Nat → Int → List Nd × Nat × Int} (hg : Fwd g) : Fwd (smF P g) := by
 intro a bad
 refine ⟨sm_pos hg a bad, fun h => ?_⟩
 cases c0 : isS P a bad [105, 110, 112, 117, 116] with
 | true => exact (isS_lt c0).1
 | false =>
 cases c1 : isS P a bad [97, 115, 115, 101, 114, 116] with
 | true => exact (isS_lt c1).1
 | false =>
 cases c2 : isS P a bad [115, 107, 105, 112] with
 | true => exact (isS_lt c2).1
 | false =>
 cases c3 : isS P a bad [119, 104, 105, 108, 101] with
 | true => exact (isS_lt c3).1
 | false =>
 cases c4 : isS P a bad [105, 102] with
 | true => exact (isS_lt c4).1
 | false =>
  rw [sm_name c0 c1 c2 c3 c4] at h
  exact (na_of ((ns_fwd _ _ _ _).2 h).1).2.1
theorem st_fwd {P : RP} : ∀ f md, Fwd (stF P f md)
 | 0, md => fun a bad => ⟨Nat.le_refl _, id⟩
 | f + 1, md => by
  intro a bad
  rw [stF]
  split
  ·exact sm_fwd (st_fwd f 1) a bad
  ·unfold blE
   have h1 := tkA_le (P := P) a bad [123]
   have h2 := bl_fwd (P := P) (st_fwd (P := P) f 0) f [] (tkA P a bad [123]) (tkB P a bad [123])
   refine ⟨?_, fun h => (tk_of (h2.2 (tk_of h).2.1)).2.1⟩
   exact Nat.le_trans h1 (Nat.le_trans h2.1 (tkA_le _ _ _))
theorem bk_le {P : RP} {f a : Nat} {bad : Int} (hf : 0 < f) (h : (stF P f 1 a bad).2.2 < 0) : (stF P f 1 a bad).2.1 ≤ P.ts.length := by
 obtain ⟨f, rfl⟩ : ∃ g, f = g + 1 := ⟨f - 1, by omega⟩
 rw [stF, if_neg (by omega), blE] at h ⊢
 show tkA P _ _ _ ≤ _
 rw [(tk_of h).2.2.2.1]; exact (tk_of h).2.2.1
theorem bl_ext {P Q : RP} (E : Ext P Q) {g g' : Nat → Int → List Nd × Nat × Int} {a0 : Nat} (hg : Fwd g) (H : ∀ a bad, a0 ≤ a → (g a bad).2.2 < 0 → g' a bad = g a bad ∧ a < (g a bad).2.1 ∧ a < P.ts.length) :
  ∀ k k' l a bad, a0 ≤ a → P.ts.length - a ≤ k' → isS P (blF P g k l a bad).2.1 (blF P g k l a bad).2.2 [125] = true → blF Q g' k' l a bad = blF P g k l a bad
 | 0, k', l, a, bad, h0, h1, hs => by
  have hs' : isS P a bad [125] = true := hs
  cases k' with
  | zero => rfl
  | succ k' => rw [blF, blF, E.is a bad [125] (by decide) (by decide), hs', Bool.not_true, Bool.and_false, if_neg (by simp)]
 | k + 1, k', l, a, bad, h0, h1, hs => by
  rw [blF] at hs ⊢
  by_cases c : (decide (bad < 0) && !isS P a bad [125]) = true
  ·rw [if_pos c] at hs ⊢
   have hs2 := (bl_fwd hg k _ _ _).2 (isS_lt hs).1
   obtain ⟨e1, e2, e3⟩ := H a bad h0 hs2
   obtain ⟨k', rfl⟩ : ∃ j, k' = j + 1 := ⟨k' - 1, by omega⟩
   rw [blF, E.is a bad [125] (by decide) (by decide), if_pos c, e1]
   exact bl_ext E hg H k k' _ _ _ (by omega) (by omega) hs
  ·rw [if_neg c] at hs ⊢
   cases k' with
   | zero => rfl
   | succ k' => rw [blF, E.is a bad [125] (by decide) (by decide), if_neg c]
theorem st_ext {P Q : RP} (E : Ext P Q) : ∀ f f' md a bad, md ≤ 1 → (P.ts.length - a) * 10 + (2 + 3 * md) ≤ f → (P.ts.length - a) * 10 + (2 + 3 * md) ≤ f' → (stF P f md a bad).2.2 < 0 → stF Q f' md a bad = stF P f md a bad ∧ a < (stF P f md a bad).2.1 ∧ a < P.ts.length ∧ (stF P f md a bad).2.1 ≤ P.ts.length
 | 0, f', md, a, bad, hm, h1, h2, _ => by omega
 | f + 1, 0, md, a, bad, hm, h1, h2, _ => by omega
 | f + 1, f' + 1, md, a, bad, hm, h1, h2, hs => by
  rw [stF] at hs ⊢
  rw [stF]
  by_cases c : md = 0
  ·rw [if_pos c] at hs ⊢
   rw [if_pos c]
   obtain ⟨k1, k2, k3, k4, k5⟩ := sm_ext E (g' := stF Q f' 1) (st_fwd f 1) (fun b bd h => bk_le (by omega) h) (fun b bd hb hl h => (st_ext E f f' 1 b bd (by omega) (by omega) (by omega) h).1) hs
   exact ⟨k5, k3, k2, k4⟩
  ·rw [if_neg c] at hs ⊢
   rw [if_neg c]
   have c1 : md = 1 := by omega
   subst c1
   unfold blE at hs ⊢
   have k1 := tk_of hs
   have k2 := (bl_fwd (st_fwd f 0) _ _ _ _).2 k1.2.1
   have k3 := tk_of k2
   have k4 := (bl_fwd (P := P) (st_fwd (P := P) f 0) f [] (tkA P a bad [123]) (tkB P a bad [123])).1
   have e := bl_ext E (a0 := a + 1) (g' := stF Q f' 0) (st_fwd f 0) (fun b bd hb h => by
    obtain ⟨q1, q2, q3, q4⟩ := st_ext E f f' 0 b bd (by omega) (by omega) (by omega) h
    exact ⟨q1, q2, q3⟩) f f' [] (tkA P a bad [123]) (tkB P a bad [123]) (by omega) (by omega) k1.1
   refine ⟨?_, ?_, k3.2.2.1, ?_⟩
   ·rw [(E.tk k2).1, (E.tk k2).2, e, (E.tk hs).1, (E.tk hs).2, E.pl k3.2.2.1]
   ·show a < tkA P _ _ _; rw [k1.2.2.2.1]; omega
   ·show tkA P _ _ _ ≤ _; rw [k1.2.2.2.1]; exact k1.2.2.1
theorem stA_ext {P Q : RP} (E : Ext P Q) {a : Nat} {bad : Int} (h : (stA P a bad).2.2 < 0) : stA Q a bad = stA P a bad ∧ a < (stA P a bad).2.1 ∧ a < P.ts.length ∧ (stA P a bad).2.1 ≤ P.ts.length := by
 have := E.len
 exact st_ext E _ _ 0 a bad (by omega) (by omega) (by omega) h
theorem stA_fwd {P : RP} : Fwd (stA P) := st_fwd _ _
theorem de_ext {P Q : RP} (E : Ext P Q) {a : Nat} {bad : Int} (ha : a < P.ts.length) (h : (deF P a bad).2.2 < 0) : deF Q a bad = deF P a bad ∧ a < (deF P a bad).2.1 ∧ (deF P a bad).2.1 ≤ P.ts.length ∧ bad < 0 := by
 unfold deF at h ⊢
 rw [E.is a bad [97, 114, 114, 97, 121] (by decide) (by decide), E.naT, E.pl ha]
 cases c : isS P a bad [97, 114, 114, 97, 121] with
 | true =>
  simp only [c, if_true] at h ⊢
  have k1 := tk_of h
  have k2 := tk_of k1.2.1
  obtain ⟨a2, ha2⟩ : ∃ x, x = tkA P (naA P (a + 1) bad) (naB P (a + 1) bad) [91] := ⟨_, rfl⟩
  obtain ⟨b2, hb2⟩ : ∃ x, x = tkB P (naA P (a + 1) bad) (naB P (a + 1) bad) [91] := ⟨_, rfl⟩
  rw [← ha2, ← hb2] at h k1 k2 ⊢
  cases n : numS P a2 b2 with
  | false => exfalso; have := k2.2.1; rw [n] at this; exact failS_neg this
  | true =>
   have k3 := k2.2.1
   rw [n, if_pos rfl, hb2] at k3
   have k4 := tk_of k3
   have k5 := na_of k4.2.1
   have hQ2 := E.tk k3
   rw [← ha2, ← hb2] at hQ2
   have hN := E.na k4.2.1
   simp only [n, if_true] at h k1 k2 ⊢
   refine ⟨?_, ?_, ?_, k5.2.1⟩
   ·rw [hN.1, hN.2, hQ2.1, hQ2.2, E.num, n]
    simp only [if_true]
    rw [E.nu (numS_lt n).2, (E.tk k1.2.1).1, (E.tk k1.2.1).2, (E.tk h).1, (E.tk h).2]
   ·show a < tkA P _ _ _
    rw [k1.2.2.2.1, k2.2.2.2.1, ha2, k4.2.2.2.1, k5.2.2.2.1]; omega
   ·show tkA P _ _ _ ≤ _; rw [k1.2.2.2.1]; exact k1.2.2.1
 | false =>
  simp only [c, Bool.false_eq_true, if_false] at h ⊢
  have k1 := tk_of h
  have k5 := na_of k1.2.1
  have hN := E.na k1.2.1
  refine ⟨?_, ?_, ?_, k5.2.1⟩
  ·rw [hN.1, hN.2, (E.tk h).1, (E.tk h).2]
  ·show a < tkA P _ _ _; rw [k1.2.2.2.1, k5.2.2.2.1]; omega
  ·show tkA P _ _ _ ≤ _; rw [k1.2.2.2.1]; exact k1.2.2.1
theorem or_lt {P : RP} {a : Nat} {bad : Int} {t u : List UInt8} (h : (isS P a bad t || isS P a bad u) = true) : bad < 0 ∧ a < P.ts.length := by
 rw [Bool.or_eq_true] at h
 rcases h with h | h <;> exact isS_lt h
theorem de_mono {P : RP} {a : Nat} {bad : Int} (h : (isS P a bad [118, 97, 114] || isS P a bad [97, 114, 114, 97, 121]) = true) : bad < 0 := (or_lt h).1
theorem dl_mono {P : RP} : ∀ k l a bad, (dlF P k l a bad).2.2 < 0 → bad < 0
 | 0, l, a, bad, h => h
 | k + 1, l, a, bad, h => by
  rw [dlF] at h
  split at h
  ·next c => exact (or_lt c).1
  ·exact h
theorem dl_ext {P Q : RP} (E : Ext P Q) : ∀ k k' l a bad, a ≤ P.ts.length → P.ts.length - a ≤ k → P.ts.length - a ≤ k' → (dlF P k l a bad).2.2 < 0 → dlF Q k' l a bad = dlF P k l a bad ∧ (dlF P k l a bad).2.1 ≤ P.ts.length
 | k, 0, l, a, bad, h0, h1, h2, hs => by
  have c : (isS P a bad [118, 97, 114] || isS P a bad [97, 114, 114, 97, 121]) = false := by
   rw [Bool.eq_false_iff]; intro c; have := (or_lt c).2; omega
  cases k with
  | zero => exact ⟨rfl, h0⟩
  | succ k => rw [dlF, dlF, c, if_neg (by simp)]; exact ⟨rfl, h0⟩
 | 0, k' + 1, l, a, bad, h0, h1, h2, hs => by
  have c : (isS P a bad [118, 97, 114] || isS P a bad [97, 114, 114, 97, 121]) = false := by
   rw [Bool.eq_false_iff]; intro c; have := (or_lt c).2; omega
  rw [dlF, dlF, E.is a bad [118, 97, 114] (by decide) (by decide), E.is a bad [97, 114, 114, 97, 121] (by decide) (by decide), c, if_neg (by simp)]
  exact ⟨rfl, h0⟩
 | k + 1, k' + 1, l, a, bad, h0, h1, h2, hs => by
  rw [dlF] at hs ⊢
  rw [dlF, E.is a bad [118, 97, 114] (by decide) (by decide), E.is a bad [97, 114, 114, 97, 121] (by decide) (by decide)]
  cases c : (isS P a bad [118, 97, 114] || isS P a bad [97, 114, 114, 97, 121]) with
  | false => rw [if_neg (by simp), if_neg (by simp)]; exact ⟨rfl, h0⟩
  | true =>
   rw [c, if_pos rfl] at hs
   rw [if_pos rfl, if_pos rfl]
   obtain ⟨e1, e2, e3, _⟩ := de_ext E (or_lt c).2 (dl_mono _ _ _ _ hs)
   rw [e1]
   exact dl_ext E k k' _ _ _ e3 (by omega) (by omega) hs
theorem st_last {P Q : RP} {i : Nat} (hQ : Q.ts = P.ts ++ tlT i) {bad : Int} (hb : bad < 0) : ∃ x : Int, stA Q P.ts.length bad = ([⟨1, 6, ⟨#[]⟩, 0, 0, x⟩], P.ts.length + 2, bad) := by
 have E := Ext.of hQ
 have hn : ∀ t, isS P P.ts.length bad t = false := fun t => by
  rw [Bool.eq_false_iff]; intro c; have := (isS_lt c).2; omega
 have t0 : Q.ts[P.ts.length]? = some (0, [115, 107, 105, 112], 0, i + 1) := by rw [hQ, List.getElem?_append_right (Nat.le_refl _), Nat.sub_self]; rfl
 have t1 : Q.ts[P.ts.length + 1]? = some (2, [59], 0, i + 5) := by rw [hQ, List.getElem?_append_right (by omega), show P.ts.length + 1 - P.ts.length = 1 by omega]; rfl
 have i0 : isS Q P.ts.length bad [115, 107, 105, 112] = true := by unfold isS; rw [t0, decide_eq_true hb]; rfl
 have i1 : isS Q (P.ts.length + 1) bad [59] = true := by unfold isS; rw [t1, decide_eq_true hb]; rfl
 have k0 := (E.is P.ts.length bad [105, 110, 112, 117, 116] (by decide) (by decide)).trans (hn _)
 have k1 := (E.is P.ts.length bad [97, 115, 115, 101, 114, 116] (by decide) (by decide)).trans (hn _)
 refine ⟨(plS Q P.ts.length : Nat), ?_⟩
 unfold stA
 rw [show Q.ts.length * 10 + 10 = Q.ts.length * 10 + 9 + 1 from rfl, stF, if_pos rfl, sm_skip k0 k1 i0]
 have e1 : tkA Q (P.ts.length + 1) bad [59] = P.ts.length + 2 := by unfold tkA; rw [i1]; rfl
 have e2 : tkB Q (P.ts.length + 1) bad [59] = bad := by unfold tkB; rw [i1]; rfl
 rw [e1, e2]
 rfl
theorem sl_ext {P Q : RP} {i : Nat} (hQ : Q.ts = P.ts ++ tlT i) : ∀ k k' l a bad, a ≤ P.ts.length → P.ts.length - a ≤ k → P.ts.length + 2 - a ≤ k' → (slF P k l a bad).2.2 < 0 → ∃ x : Int, (slF Q k' l a bad).1 = (slF P k l a bad).1 ++ [⟨1, 6, ⟨#[]⟩, 0, 0, x⟩] := by
 have E := Ext.of hQ
 have hlen := E.len
 have fin : ∀ k' l bad, bad < 0 → 2 ≤ k' → ∃ x : Int, (slF Q k' l P.ts.length bad).1 = l ++ [⟨1, 6, ⟨#[]⟩, 0, 0, x⟩] := fun k' l bad hb hk => by
  obtain ⟨j, rfl⟩ : ∃ j, k' = j + 2 := ⟨k' - 2, by omega⟩
  obtain ⟨x, hx⟩ := st_last hQ hb
  refine ⟨x, ?_⟩
  rw [slF, decide_eq_true hb, decide_eq_true (by omega), Bool.and_true, if_pos rfl, hx]
  show (slF Q (j + 1) (l ++ [⟨1, 6, ⟨#[]⟩, 0, 0, x⟩]) (P.ts.length + 2) bad).1 = _
  rw [slF, decide_eq_false (show ¬ P.ts.length + 2 < Q.ts.length by omega), Bool.and_false, if_neg (by simp)]
 intro k
 induction k with
 | zero =>
  intro k' l a bad h0 h1 h2 hs
  have e : a = P.ts.length := by omega
  subst e
  exact fin k' l bad hs (by omega)
 | succ k ih =>
  intro k' l a bad h0 h1 h2 hs
  rw [slF] at hs ⊢
  by_cases c : (decide (bad < 0) && decide (a < P.ts.length)) = true
  ·rw [if_pos c] at hs ⊢
   rw [Bool.and_eq_true, decide_eq_true_eq, decide_eq_true_eq] at c
   obtain ⟨j, rfl⟩ : ∃ j, k' = j + 1 := ⟨k' - 1, by omega⟩
   have hs2 : (stA P a bad).2.2 < 0 := by
    have mono : ∀ k l a bad, (slF P k l a bad).2.2 < 0 → bad < 0 := by
     intro k
     induction k with
     | zero => intro l a bad h; exact h
     | succ k ih =>
      intro l a bad h
      rw [slF] at h
      split at h
      ·next q => rw [Bool.and_eq_true, decide_eq_true_eq] at q; exact q.1
      ·exact h
    exact mono _ _ _ _ hs
   obtain ⟨e1, e2, e3, e4⟩ := stA_ext E hs2
   obtain ⟨x, hx⟩ := ih j (l ++ (stA P a bad).1) (stA P a bad).2.1 (stA P a bad).2.2 e4 (by omega) (by omega) hs
   refine ⟨x, ?_⟩
   rw [slF, decide_eq_true c.1, decide_eq_true (by omega), Bool.and_true, if_pos rfl, e1]
   exact hx
  ·rw [if_neg c] at hs ⊢
   have hb : bad < 0 := hs
   have e : a = P.ts.length := by
    rw [Bool.and_eq_true, decide_eq_true_eq, decide_eq_true_eq] at c
    omega
   subst e
   exact fin k' l bad hb (by omega)
theorem pa_ext {P Q : RP} {i : Nat} (hQ : Q.ts = P.ts ++ tlT i) (h : (paF P).2.2 < 0) : ∃ x : Int, (paF Q).1 = (paF P).1 ++ [⟨1, 6, ⟨#[]⟩, 0, 0, x⟩] := by
 have E := Ext.of hQ
 have hlen := E.len
 unfold paF slL at h ⊢
 have mono : (dlF P (P.ts.length * 2 + 2) [] 0 (-1)).2.2 < 0 := by
  have mono : ∀ k l a bad, (slF P k l a bad).2.2 < 0 → bad < 0 := by
   intro k
   induction k with
   | zero => intro l a bad h; exact h
   | succ k ih =>
    intro l a bad h
    rw [slF] at h
    split at h
    ·next q => rw [Bool.and_eq_true, decide_eq_true_eq] at q; exact q.1
    ·exact h
  exact mono _ _ _ _ h
 obtain ⟨e1, e2⟩ := dl_ext E (P.ts.length * 2 + 2) (Q.ts.length * 2 + 2) [] 0 (-1) (Nat.zero_le _) (by omega) (by omega) mono
 rw [e1]
 exact sl_ext hQ _ _ _ _ _ e2 (by omega) (by omega) h
theorem par_of {P : RP} (h : (parE P).1 = 0) : (paF P).2.2 < 0 ∧ (parE P).2.2 = (paF P).1 := by
 unfold parE at h ⊢
 split at h
 ·cases h
 ·next c =>
  rw [if_neg c]
  split at h
  ·cases h
  ·next e1 =>
   split at h
   ·cases h
   ·next e2 => exact ⟨by omega, rfl⟩
end Go.Proofs.YtklkpaekdpaloaaDoor
