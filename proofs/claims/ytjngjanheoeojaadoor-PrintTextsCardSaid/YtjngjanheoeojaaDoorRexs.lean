import Derived.Test.YtjngjanheoeojaaDoorRex
namespace Go.Proofs.YtjngjanheoeojaaDoor
set_option linter.unusedVariables false
set_option linter.unusedSimpArgs false
open Go.RowKit
theorem Ex.seg {d : Nat} {l : List Nd} {lv : Nat} {t : List UInt8} (h : Ex d l lv t) : ∃ n r, l = n :: r ∧ n.depth = d ∧ ∀ x ∈ r, (d : Int) < x.depth := by
  cases h using Ex.cas with
  | num d n hd hf hk => exact ⟨n, [], rfl, hd, by simp⟩
  | bool d n hd hf hk => exact ⟨n, [], rfl, hd, by simp⟩
  | read d n hd hf hk => exact ⟨n, [], rfl, hd, by simp⟩
  | load d n f lv t hd hf hk hx => exact ⟨n, f, rfl, hd, fun x hx' => by have := hx.all x hx'; omega⟩
  | unary d n f lv t hd hf hk hx => exact ⟨n, f, rfl, hd, fun x hx' => by have := hx.all x hx'; omega⟩
  | binary d n f g l1 l2 t u hd hf hk hx hy => exact ⟨n, f ++ g, rfl, hd, fun x hx' => by
      rcases List.mem_append.1 hx' with h | h
      · have := hx.all x h; omega
      · have := hy.all x h; omega⟩
theorem Ex.cut {d : Nat} {l : List Nd} {lv : Nat} {t : List UInt8} (h : Ex d l lv t) (pre post : List Nd) (hp : Ends d post) : Cut (pre ++ (l ++ post)) pre.length (pre.length + l.length) := by
  obtain ⟨n, r, rfl, hd, hr⟩ := h.seg
  exact cut_of hd hr hp
theorem Ex.ends {d : Nat} {l : List Nd} {lv : Nat} {t : List UInt8} (h : Ex d l lv t) (r : List Nd) : Ends d (l ++ r) := by
  obtain ⟨n, s, rfl, hd, _⟩ := h.seg
  intro m t hm
  rw [List.cons_append] at hm
  injection hm with h1 _
  rw [← h1, hd]; omega
theorem Ends.up {m k : Int} {r : List Nd} (h : Ends m r) (hk : m ≤ k) : Ends k r := fun n t hn => by have := h n t hn; omega
theorem Ex.pos {d : Nat} {l : List Nd} {lv : Nat} {t : List UInt8} (h : Ex d l lv t) : 0 < l.length := by
  obtain ⟨n, s, rfl, _⟩ := h.seg
  simp
def RexC (d : Nat) (l : List Nd) (lv : Nat) (t : List UInt8) : Prop :=
  ∀ (b o cap : Nat) (pre post : List Nd) (want : Nat) (w : World), Ends d post → NodesAt w b o (pre ++ (l ++ post)) → (pre ++ (l ++ post)).length ≤ 300 → want ≤ 7 → G0 w →
    Calls Tryd.prog 32 #[.slice (some ⟨b, o, none⟩) (pre ++ (l ++ post)).length cap, .int .i64 pre.length, .int .i64 want] w fun y w' => y = .returned (.string ⟨(brk want lv t).toArray⟩) ∧ Below w.heap.size w w'
theorem at_leaf {d : Nat} {n : Nd} {pre post : List Nd} (hd : n.depth = d) (hp : Ends d post) : At (pre ++ ([n] ++ post)) pre.length n [] :=
  ⟨by simp, fun h => by simp, ⟨pre.length + 1, cut_of (r := []) hd (by simp) hp, .nil⟩⟩
theorem at_one {d lv : Nat} {n : Nd} {e pre post : List Nd} {t : List UInt8} (hd : n.depth = d) (he : Ex (d + 1) e lv t) (hp : Ends d post) : At (pre ++ (n :: e ++ post)) pre.length n [pre.length + 1] := by
  refine ⟨by simp, fun h => by simp, ⟨pre.length + (e.length + 1), cut_of hd (fun x hx => by have := he.all x hx; omega) hp, ?_⟩⟩
  have h1 := he.cut (pre ++ [n]) post (hp.up (by omega))
  rw [show pre ++ [n] ++ (e ++ post) = pre ++ (n :: e ++ post) by simp, show (pre ++ [n]).length = pre.length + 1 by simp] at h1
  have := he.pos
  have h2 : Chain (pre ++ (n :: e ++ post)) (pre.length + (e.length + 1)) (pre.length + 1 + e.length) [] := by
    rw [show pre.length + 1 + e.length = pre.length + (e.length + 1) by omega]; exact .nil
  exact .cons _ _ _ (by omega) h1 h2
theorem at_two {d l1 l2 : Nat} {n : Nd} {e f pre post : List Nd} {t u : List UInt8} (hd : n.depth = d) (he : Ex (d + 1) e l1 t) (hf : Ex (d + 1) f l2 u) (hp : Ends d post) : At (pre ++ (n :: (e ++ f) ++ post)) pre.length n [pre.length + 1, pre.length + 1 + e.length] := by
  refine ⟨by simp, fun h => by simp, ⟨pre.length + ((e ++ f).length + 1), cut_of hd (fun x hx => by
      rcases List.mem_append.1 hx with h | h
      · have := he.all x h; omega
      · have := hf.all x h; omega) hp, ?_⟩⟩
  have h1 := he.cut (pre ++ [n]) (f ++ post) (hf.ends post)
  rw [show pre ++ [n] ++ (e ++ (f ++ post)) = pre ++ (n :: (e ++ f) ++ post) by simp, show (pre ++ [n]).length = pre.length + 1 by simp] at h1
  have h2 := hf.cut (pre ++ (n :: e)) post (hp.up (by omega))
  rw [show pre ++ (n :: e) ++ (f ++ post) = pre ++ (n :: (e ++ f) ++ post) by simp, show (pre ++ n :: e).length = pre.length + 1 + e.length by simp; omega] at h2
  have := he.pos
  have := hf.pos
  have h3 : Chain (pre ++ (n :: (e ++ f) ++ post)) (pre.length + ((e ++ f).length + 1)) (pre.length + 1 + e.length + f.length) [] := by
    rw [show pre.length + 1 + e.length + f.length = pre.length + ((e ++ f).length + 1) by simp; omega]; exact .nil
  exact .cons _ _ _ (by simp; omega) h1 (.cons _ _ _ (by simp; omega) h2 h3)
theorem rex_any {d : Nat} {l : List Nd} {lv : Nat} {t : List UInt8} (h : Ex d l lv t) : RexC d l lv t := by
  induction h using Ex.indu with
  | num d n hd hf hk =>
    intro b o cap pre post want w hp hN hlen hw hG
    exact rex_num b o cap pre.length want 0 0 _ n w (at_leaf hd hp) hf hk hN hlen hw hG
  | bool d n hd hf hk =>
    intro b o cap pre post want w hp hN hlen hw hG
    exact rex_bool b o cap pre.length want 0 0 _ n w (at_leaf hd hp) hf hk hN hlen hw hG
  | read d n hd hf hk =>
    intro b o cap pre post want w hp hN hlen hw hG
    exact rex_read b o cap pre.length want 0 0 _ n w (at_leaf hd hp) hf hk hN hlen hw hG
  | load d n e lv t hd hf hk hx ih =>
    intro b o cap pre post want w hp hN hlen hw hG
    have e1 : pre ++ [n] ++ (e ++ post) = pre ++ (n :: e ++ post) := by simp
    have e2 : (pre ++ [n]).length = pre.length + 1 := by simp
    have hl := hx.len
    have hb := brk_len 1 lv t
    have hl2 : e.length ≤ 300 := by simp at hlen; omega
    refine rex_load b o cap pre.length want (pre.length + 1) 0 _ n w (at_one hd hx hp) hf hk lv t (by simp at hlen; omega) (by omega) (fun w' hw' => ?_) hN hlen hw hG
    have h9 := ih b o cap (pre ++ [n]) post 1 w' (hp.up (by omega)) (by rw [e1]; exact hN.below hw') (by rw [e1]; exact hlen) (by omega) (hG.below hw')
    rw [e1, e2] at h9
    exact h9
  | unary d n e lv t hd hf hk hx ih =>
    intro b o cap pre post want w hp hN hlen hw hG
    have e1 : pre ++ [n] ++ (e ++ post) = pre ++ (n :: e ++ post) := by simp
    have e2 : (pre ++ [n]).length = pre.length + 1 := by simp
    have hl := hx.len
    have hb := brk_len 6 lv t
    have hl2 : e.length ≤ 300 := by simp at hlen; omega
    have hops := hf.ops
    rw [hk] at hops
    simp [rOp0, rOp1] at hops
    have hlv : lvl n.op.toNat = 6 := by
      have : n.op = 1 ∨ n.op = 2 := by omega
      rcases this with h | h <;> rw [h] <;> rfl
    have h0 := rex_unary b o cap pre.length want (pre.length + 1) 0 _ n w (at_one hd hx hp) hf hk n.op.toNat (by omega) (by omega) lv t (by simp at hlen; omega) (by omega) (fun w' hw' => by
      have h9 := ih b o cap (pre ++ [n]) post 6 w' (hp.up (by omega)) (by rw [e1]; exact hN.below hw') (by rw [e1]; exact hlen) (by omega) (hG.below hw')
      rw [e1, e2] at h9
      exact h9) hN hlen hw hG
    rw [hlv] at h0
    exact h0
  | binary d n e f l1 l2 t u hd hf hk hx hy ih1 ih2 =>
    intro b o cap pre post want w hp hN hlen hw hG
    have e1 : pre ++ [n] ++ (e ++ (f ++ post)) = pre ++ (n :: (e ++ f) ++ post) := by simp
    have e2 : (pre ++ [n]).length = pre.length + 1 := by simp
    have e3 : pre ++ (n :: e) ++ (f ++ post) = pre ++ (n :: (e ++ f) ++ post) := by simp
    have e4 : (pre ++ n :: e).length = pre.length + 1 + e.length := by simp; omega
    have hl := hx.len
    have hl' := hy.len
    have hops := hf.ops
    rw [hk] at hops
    simp [rOp0, rOp1] at hops
    have hb := brk_len (leftW (lvl n.op.toNat)) l1 t
    have hb' := brk_len (lvl n.op.toNat + 1) l2 u
    have hlen' := hlen
    simp at hlen'
    have h5 := lvl_le (k := n.op.toNat) (by omega)
    have h6 : leftW (lvl n.op.toNat) ≤ 7 := by unfold leftW; split <;> omega
    exact rex_binary b o cap pre.length want (pre.length + 1) (pre.length + 1 + e.length) _ n w (at_two hd hx hy hp) hf hk n.op.toNat (by omega) (by omega) _ rfl l1 l2 t u (by omega) (by omega) (by omega) (by omega)
      (fun w' hw' => by
        have h9 := ih1 b o cap (pre ++ [n]) (f ++ post) (leftW (lvl n.op.toNat)) w' (hy.ends post) (by rw [e1]; exact hN.below hw') (by rw [e1]; exact hlen) h6 (hG.below hw')
        rw [e1, e2] at h9
        exact h9)
      (fun w' hw' => by
        have h9 := ih2 b o cap (pre ++ n :: e) post (lvl n.op.toNat + 1) w' (hp.up (by omega)) (by rw [e3]; exact hN.below hw') (by rw [e3]; exact hlen) (by omega) (hG.below hw')
        rw [e3, e4] at h9
        exact h9) hN hlen hw hG
end Go.Proofs.YtjngjanheoeojaaDoor
