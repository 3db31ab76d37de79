import Derived.Deep.AppendLies
import Derived.Test.YtaocomjhepgabaaKDa
set_option linter.unusedVariables false
set_option linter.unusedSimpArgs false
set_option linter.unnecessarySimpa false
/- Db -/
namespace Go.Proofs.Ytaocomjhepgabaa
open Go.RowKit Go.Maps
theorem Try.info77 : (Try.prog.info? 77).map (fun i => (i.zero, i.size, i.bytes)) = some (some (.agg #[.int .i64 0, .bool false, .slice none 0 0]), 3, 40) := by kernel_rfl
theorem own_one77 {w : World} {X : Nat} {a b c : Value} (h : w.heap[X]? = some (.cells #[a, b, c] 77 (0, 0))) (B : Nat) (hB : B ≤ X) : w.ownsRow B 77 3 (.slice (some ⟨X, 0, none⟩) 1 1) 1 [a, b, c] :=
  ⟨rfl, .inr ⟨X, 1, _, rfl, hB, h, Nat.le_refl _, by decide, rfl, rfl⟩⟩
theorem wpList_append_pcs {w : World} {ops : Array Oper} {rest : List Oper} {op : Oper} {a : Act} {Q : Exit → Act → World → Prop} (hgd : op.guard = none) (s x : Operand)
    (ho : op.op = .call { callee := .builtin .append, args := #[s, x], argTypes := #[57, 57] })
    (base X : Nat) (p : Pc) (hs : a.eval s = .slice (some ⟨X, 0, none⟩) 1 1) (hown : w.ownsRow base 77 3 (.slice (some ⟨X, 0, none⟩) 1 1) 1 (pcs [p]))
    (B : Nat) (v : Value) (ts : List Pc) (hx : a.eval x = v) (hT : w.ownsRow B 77 3 v ts.length (pcs ts)) (h1 : ∀ p ∈ ts, IsSl p.2.2.1)
    (hb : ts.length ≤ 1000000000000) (hbase : base ≤ w.heap.size)
    (h : ∀ g cap w', w'.ownsRow base 77 3 (.slice (some ⟨g, 0, none⟩) (1 + ts.length) cap) (1 + ts.length) (pcs (p :: ts)) → w.grownBy w' (some X) → (g = X ∨ g = w.heap.size) → g < w'.heap.size → wpList Try.prog ops Q rest (a.put op.dst (.slice (some ⟨g, 0, none⟩) (1 + ts.length) cap)) w') : wpList Try.prog ops Q (op :: rest) a w := by
  obtain ⟨i, hi, hz, hsz, hby⟩ := info_of Try.info77
  rcases hT.2 with ⟨rfl, h0⟩ | ⟨g, cap, cur, rfl, hBg, hg, hnc, hcm, hcs, htk⟩
  · have hts : ts = [] := List.length_eq_zero_iff.1 h0
    subst hts
    refine wpList_append_own_none hgd s x 57 ho base 77 i 3 Try.underlying57 hi _ 1 (pcs [p]) hs hown hx ?_
    exact h X 1 w hown (World.grownBy.refl w _) (.inl rfl) (hown.lt X rfl).2
  · by_cases hm : 0 < ts.length
    · refine wpList_append_lies w hgd s x 57 ho base 77 i _ 3 40 Try.underlying57 hi hz hsz hby rfl (by decide) _ 1 (pcs [p]) hs hown ⟨g, 0, none⟩ ts.length cap (pcs ts) hx (pcs_len ts) (hT.cells rfl) (pcs_one h1) hm (by unfold maxLen; omega) (by omega) hbase _ rfl ?_
      intro g' cap' w' k1 k2 k3 k4
      refine h g' cap' w' k1 k2 ?_ k4
      rcases k3 with e | e
      · left; simp [Value.ownBlock] at e; exact e.symm
      · exact .inr e
    · have hts : ts = [] := List.length_eq_zero_iff.1 (by omega)
      subst hts
      refine wpList_append_own_at w hgd s x 57 ho base 77 i _ 3 40 Try.underlying57 hi hz hsz hby rfl (by decide) _ 1 (pcs [p]) hs hown ⟨g, 0, none⟩ 0 cap [] hx rfl (by intro j u hj; simp at hj) (by simp) (by decide) (by decide) hbase ?_
      intro v' w' k1 k2 k3 k4
      rcases k1.2 with ⟨e, e2⟩ | ⟨g', cap', cur', rfl, _, hg', _⟩
      · exact absurd e2 (by decide)
      · refine h g' cap' w' k1 k2 ?_ (lt_row hg')
        rcases k4 with e | e
        · left; simpa [Value.ownBlock] using e
        · right; simpa [Value.ownBlock] using e
set_option maxHeartbeats 4000000 in
theorem front_any {w : World} {B : Nat} {K : Nat → Prop} {n : Nat} {l : Value} {d : Nat} {L : List (Int × Nat × Bool)} (hl : PL w B K n l d L) (hB : B ≤ w.heap.size) (hK : ∀ b, K b → b < w.heap.size) (hLn : L.length ≤ 1000000000000) (p : Pc) (hsl : IsSl p.2.2.1) (h0 : p.2.1 = false → p.2.2.2 = [(p.1, d, false)]) (h1 : p.2.1 = true → ∃ L', PL w B K n p.2.2.1 (d + 1) L' ∧ p.2.2.2 = (p.1, d + 1, true) :: L') :
    Calls Try.prog 34 #[.agg #[.int .i64 p.1, .bool p.2.1, p.2.2.1], l] w fun e w' => ∃ v', e = .returned v' ∧ Ok w w' ∧ PL w' B (fun b => K b ∨ (w.heap.size ≤ b ∧ b < w'.heap.size)) (n + 1) v' d (p.2.2.2 ++ L) := by
  have hlen := PL.len hl.up
  obtain ⟨ps, k1, k2, k3, k4⟩ := hl.up
  have hpl : ps.length ≤ 1000000000000 := by
    obtain ⟨ps', a, b⟩ := hlen
    have e1 : ps'.length = ps.length := by
      rcases a.2 with ⟨e, x⟩ | ⟨g, c, cu, e, _⟩
      · rcases k1.2 with ⟨e', x'⟩ | ⟨g', c', cu', e', _⟩
        · omega
        · rw [e] at e'; cases e'
      · rcases k1.2 with ⟨e', x'⟩ | ⟨g', c', cu', e', _⟩
        · rw [e] at e'; cases e'
        · rw [e] at e'; injection e' with _ e' _
    omega
  have HK : Hid _ := And.intro k1 (And.intro k2 (And.intro k3 k4))
  obtain ⟨x, y, z, sub⟩ := p
  simp only at hsl h0 h1 ⊢
  obtain ⟨ao, m, c, rfl⟩ := hsl
  have H01 : Hid _ := And.intro h0 h1
  have HB : Hid (B ≤ w.heap.size) := hB
  have HPL : Hid (ps.length ≤ 1000000000000) := hpl
  have HKK : Hid (∀ b, K b → b < w.heap.size) := hK
  clear k1 k2 k3 k4 h0 h1 hB hpl hlen hl hK
  go_enter Try.func34, Try.ntmps34
  go_wp2_with (at_builtin; refine wpList_append_pcs rfl _ _ rfl w.heap.size (w.heap.size + 1) (x, y, .slice ao m c, sub) (by rfl) (own_one77 (heap_at _ _ _ (by simp)) _ (by omega)) B l ps (by rfl) (World.ownsRow.alloc (World.ownsRow.alloc HK.out.1 _) _) (fun p hp => (HK.out.2.2.1 p hp).1) HPL.out (by simp; omega) ?_; intro gg capg w4 hown4 hgrow hat4 hlt4; have HO4 : Hid _ := hown4; have HG4 : Hid _ := hgrow; have HA4 : Hid _ := hat4; clear hown4 hgrow hat4)
  go_ret
  have hg := HG4.out
  have hsz : w.heap.size + 2 ≤ w4.heap.size := by have := hg.size; simpa using this
  have hok : Ok w w4 := Below.grown (((Ok.refl w).alloc _).alloc _) hg (by simp; omega) (fun k e => by injection e with e; omega)
  have hgl : w.heap.size ≤ gg ∧ gg < w4.heap.size := by
    refine ⟨?_, hlt4⟩
    rcases HA4.out with e | e
    · omega
    · have : gg = w.heap.size + 1 + 1 := by simpa using e
      omega
  have hkeep : ∀ b, K b → w4.heap[b]? = w.heap[b]? := fun b hb => hok.block b (HKK.out b hb)
  refine ⟨_, rfl, hok, (x, y, .slice ao m c, sub) :: ps, ?_, ?_, ?_, ?_⟩
  · have := own_base HO4.out HB.out
    rw [show ((x, y, Value.slice ao m c, sub) :: ps).length = 1 + ps.length by simp; omega]
    exact this
  · intro b hb
    simp [Value.ownBlock] at hb
    subst hb
    exact .inr hgl
  · intro q hq
    rcases List.mem_cons.1 hq with rfl | hq
    · refine ⟨⟨_, _, _, rfl⟩, H01.out.1, fun e => ?_⟩
      obtain ⟨L', a, b⟩ := H01.out.2 e
      exact ⟨L', PL.kept hkeep (fun b hb => .inl hb) a, b⟩
    · have := HK.out.2.2.1 q hq
      refine ⟨this.1, this.2.1, fun e => ?_⟩
      obtain ⟨L', a, b⟩ := this.2.2 e
      exact ⟨L', PL.kept hkeep (fun b hb => .inl hb) a, b⟩
  · rw [HK.out.2.2.2]; simp
end Go.Proofs.Ytaocomjhepgabaa
