import Derived.Test.YtklkpaekdpaloaaDoorKPm
set_option linter.unusedVariables false
set_option linter.unusedSimpArgs false
set_option linter.unnecessarySimpa false
namespace Go.Proofs.YtklkpaekdpaloaaDoor
open Go.RowKit
def TxtP (l : List UInt8) (ns : List Nd) : Prop := ∃ P : RP, lexS l = .inr P.ts ∧ P.en = l.length ∧ (parE P).1 = 0 ∧ (parE P).2.2 = ns ∧ (programR ns).1 = 0
def TxtN (l : List UInt8) : Prop := (∃ p, lexS l = .inl p) ∨ ∃ P : RP, lexS l = .inr P.ts ∧ P.en = l.length ∧ ((parE P).1 = 0 → (programR (parE P).2.2).1 ≠ 0)
def LProg (w : World) (l : List UInt8) (e : Ending) (w' : World) : Prop :=
 (∃ (ns : List Nd) (u : Nat → Value), TxtP l ns ∧ e = .returned (.tuple #[.agg #[u 0, u 1, u 2, u 3, u 4, u 5], .bool true]) ∧ PrIs w' w.heap.size u ns (programR ns).2.2 ∧ ∀ n ∈ ns, n.Fit)
 ∨ (TxtN l ∧ e = .returned (.tuple #[.agg #[.slice none 0 0, .slice none 0 0, .slice none 0 0, .slice none 0 0, .slice none 0 0, .slice none 0 0], .bool false]))
set_option maxRecDepth 100000 in
set_option maxHeartbeats 4000000 in
theorem lprog_any (s : ByteArray) (w : World) :
  Calls Tryd.prog 5 #[.string s] w fun e w' => LProg w s.toList e w' ∧ Ok w w' := by
 go_enter Tryd.func5, Tryd.ntmps5
 go_wp2_with fail
 refine (text_any s _).mono ?_
 rintro e w1 ⟨ht, hok⟩
 have HX : Hid (Six w1 w.heap.size (.slice none 0 0) (.slice none 0 0) (.slice none 0 0) (.slice none 0 0) (.slice none 0 0) (.slice none 0 0)) := (Six.new w _ _ _ _ _ _).below hok
 have HK : Hid (Ok w w1) := ((Ok.refl w).alloc _).step hok
 obtain ⟨z1, c0, c1, c2, c3, c4, c5⟩ := HX.out.pc
 have wf := HX.out.warm
 have hT : (∃ (ns : List Nd) (u : Nat → Value), TxtP s.toList ns ∧ e = .returned (.tuple #[.agg #[u 0, u 1, u 2, u 3, u 4, u 5], .int .i64 0, .int .i64 0]) ∧ PrIs w1 (w.heap.size + 1) u ns (programR ns).2.2 ∧ ∀ n ∈ ns, n.Fit) ∨ (TxtN s.toList ∧ ∃ er at0 : Int, er ≠ 0 ∧ e = .returned (.tuple #[.agg #[.slice none 0 0, .slice none 0 0, .slice none 0 0, .slice none 0 0, .slice none 0 0, .slice none 0 0], .int .i64 er, .int .i64 at0])) := by
  unfold TextIs at ht
  cases hl : lexS s.toList with
  | inl p =>
   rw [hl] at ht
   obtain ⟨er, at0⟩ := p
   exact .inr ⟨.inl ⟨_, hl⟩, _, _, by have := ht.1; omega, ht.2⟩
  | inr ts =>
   rw [hl] at ht
   obtain ⟨P, h1, h2, h3⟩ := ht
   subst h1
   rcases h3 with ⟨k1, k2, u, k3, k4, k5⟩ | ⟨k1, er, at0, k2, k3⟩
   ·exact .inl ⟨_, u, ⟨P, hl, h2, k1, rfl, k2⟩, k3, by simpa using k4, k5⟩
   ·exact .inr ⟨.inr ⟨P, hl, h2, k1⟩, er, at0, k2, k3⟩
 clear ht hok
 rcases hT with ⟨ns, u, hP, rfl, hu, hf⟩ | ⟨hn, er, at0, he, rfl⟩
 ·have HP : Hid (TxtP s.toList ns ∧ PrIs w1 (w.heap.size + 1) u ns (programR ns).2.2 ∧ ∀ n ∈ ns, n.Fit) := ⟨hP, hu, hf⟩
  clear hP hu hf
  obtain ⟨o0, p0, e0⟩ := own_form (HP.out.2.1 0 (by decide))
  obtain ⟨o1, p1, e1⟩ := own_form (HP.out.2.1 1 (by decide))
  obtain ⟨o2, p2, e2⟩ := own_form (HP.out.2.1 2 (by decide))
  obtain ⟨o3, p3, e3⟩ := own_form (HP.out.2.1 3 (by decide))
  obtain ⟨o4, p4, e4⟩ := own_form (HP.out.2.1 4 (by decide))
  obtain ⟨o5, p5, e5⟩ := own_form (HP.out.2.1 5 (by decide))
  have HEE : Hid (u 0 = _ ∧ u 1 = _ ∧ u 2 = _ ∧ u 3 = _ ∧ u 4 = _ ∧ u 5 = _) := ⟨e0, e1, e2, e3, e4, e5⟩
  rw [e0, e1, e2, e3, e4, e5]
  clear e0 e1 e2 e3 e4 e5
  go_wp2_with fail
  try simp only [Exit.inBlock, Exit.then]
  refine bodyPost_ret (results_iv rfl _ _ w.heap.size 28 _ (0, 0) _ rfl (heap_past _ _ _ (lt_row (six_set HX.out.heap _ _ _ _ _ _)) (six_set HX.out.heap _ _ _ _ _ _)) Tryd.underlying28 rfl Tryd.info28) rfl ?_
  refine ⟨.inl ⟨ns, u, HP.out.1, ?_, ?_, HP.out.2.2⟩, (show Ok w _ from six_below HK.out (Nat.le_refl _) _ _ _ _ _ _).alloc _⟩
  ·obtain ⟨e0, e1, e2, e3, e4, e5⟩ := HEE.out
   rw [e0, e1, e2, e3, e4, e5]; rfl
  ·intro k hk
   exact own_base (World.ownsRow.alloc (own_six (HP.out.2.1 k hk) (by omega) _ _ _ _ _ _) _) (by omega)
 ·have HC : Hid (TxtN s.toList) := hn
  have hc2 : (er == 0) = false := by rw [beq_eq_false_iff_ne]; exact he
  clear hn he
  go_wp2_with fail
  try simp only [Exit.inBlock, Exit.then]
  refine bodyPost_ret (results_iv rfl _ _ w.heap.size 28 _ (0, 0) _ rfl (heap_past _ _ _ (lt_row (six_set HX.out.heap _ _ _ _ _ _)) (six_set HX.out.heap _ _ _ _ _ _)) Tryd.underlying28 rfl Tryd.info28) rfl ?_
  exact ⟨.inr ⟨HC.out, rfl⟩, (show Ok w _ from six_below HK.out (Nat.le_refl _) _ _ _ _ _ _).alloc _⟩
end Go.Proofs.YtklkpaekdpaloaaDoor
