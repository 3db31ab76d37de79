import Derived.Test.YtklkpaekdpaloaaDoorKLf
import Derived.Test.YtklkpaekdpaloaaDoorKPb
set_option linter.unusedVariables false
set_option linter.unusedSimpArgs false
set_option linter.unnecessarySimpa false
namespace Go.Proofs.YtklkpaekdpaloaaDoor
section
open Go.RowKit
def tlB : List UInt8 := [10, 115, 107, 105, 112, 59]
def tlT (i : Nat) : List Tk := [(0, [115, 107, 105, 112], 0, i + 1), (2, [59], 0, i + 5)]
theorem run_app {p : UInt8 → Bool} {c : UInt8} (hc : p c = false) (r : List UInt8) : ∀ l, runF p (l ++ c :: r) = runF p l
 | [] => by simp [runF, hc]
 | x :: l => by simp only [List.cons_append, runF]; rw [run_app hc r l]
theorem drop_app {l r : List UInt8} {k : Nat} (h : k ≤ l.length) : (l ++ r).drop k = l.drop k ++ r := List.drop_append_of_le_length h
theorem take_app {l r : List UInt8} {k : Nat} (h : k ≤ l.length) : (l ++ r).take k = l.take k := List.take_append_of_le_length h
theorem beh_app (l : List UInt8) (hl : l ≠ []) (r : List UInt8) : behS (l ++ 10 :: r) = behS l := by
 cases l with
 | nil => exact absurd rfl hl
 | cons c t =>
  have := run_app (p := no10) (c := 10) (by decide) r (c :: t)
  simp only [List.cons_append, behS] at this ⊢
  rw [this]
theorem beh_le : ∀ l, behS l ≤ l.length
 | [] => Nat.le_refl _
 | c :: r => by
  have := runF_le no10 (c :: r)
  rw [behS]
  by_cases h1 : isBla c = true
  ·rw [if_pos h1]; simp
  ·rw [if_neg h1]
   by_cases h2 : (c == 35) = true
   ·rw [if_pos h2]; exact this
   ·rw [if_neg h2]; exact Nat.zero_le _
theorem sign_test (x : ByteArray) (hx : 10 ∉ x.toList) (l r : List UInt8) : (x.toList == (l ++ 10 :: r).take x.size && decide (x.size ≤ (l ++ 10 :: r).length)) = (x.toList == l.take x.size && decide (x.size ≤ l.length)) := by
 by_cases h : x.size ≤ l.length
 ·rw [take_app h, decide_eq_true h, decide_eq_true (by simp; omega)]
 ·rw [decide_eq_false h, Bool.and_false]
  have : (x.toList == (l ++ 10 :: r).take x.size) = false := by
   rw [beq_eq_false_iff_ne]
   intro e
   apply hx
   rw [e]
   have h2 : (l ++ 10 :: r).take x.size = l ++ (10 :: r).take (x.size - l.length) := by
    rw [List.take_append]; rw [List.take_of_length_le (by omega)]
   rw [h2]
   obtain ⟨k, hk⟩ : ∃ k, x.size - l.length = k + 1 := ⟨x.size - l.length - 1, by omega⟩
   rw [hk]
   simp
  rw [this, Bool.false_and]
theorem sign_app (l r : List UInt8) : ∀ L : List ByteArray, (∀ x ∈ L, 10 ∉ x.toList) → signF L (l ++ 10 :: r) = signF L l
 | [], _ => rfl
 | x :: L, h => by
  unfold signF
  rw [sign_test x (h x (by simp)) l r, sign_app l r L (fun y hy => h y (by simp [hy]))]
theorem sgs_no10 : ∀ x ∈ sgs, 10 ∉ x.toList := by decide +kernel
theorem piece_app (l : List UInt8) (hl : l ≠ []) (r : List UInt8) : pieceS (l ++ 10 :: r) = pieceS l := by
 cases l with
 | nil => exact absurd rfl hl
 | cons c t =>
  have h1 := run_app (p := okc) (c := 10) (by decide) r (c :: t)
  have h2 := run_app (p := isDig) (c := 10) (by decide) r (c :: t)
  have h3 := sign_app (c :: t) r sgs sgs_no10
  have k1 := runF_le okc (c :: t)
  have k2 := runF_le isDig (c :: t)
  have t1 := take_app (r := 10 :: r) k1
  have t2 := take_app (r := 10 :: r) k2
  have d2 := drop_app (r := 10 :: r) k2
  have hh : ((((c :: t).drop (runF isDig (c :: t)) ++ 10 :: r).head?.map isLet).getD false) = ((((c :: t).drop (runF isDig (c :: t))).head?.map isLet).getD false) := by
   cases (c :: t).drop (runF isDig (c :: t)) with
   | nil => rfl
   | cons y z => rfl
  unfold pieceS
  simp only [List.cons_append] at h1 h2 h3 t1 t2 d2 ⊢
  rw [h1, h2, h3, t1, t2, d2, hh]
theorem lex_tail (i f : Nat) : lexF (f + 4) tlB i = .inr (tlT i) := by kernel_rfl
theorem lex_app : ∀ (f : Nat) (l : List UInt8) (i : Nat) (ts : List Tk), lexF f l i = .inr ts → l.length < f → ∀ f', l.length + 4 ≤ f' → lexF f' (l ++ tlB) i = .inr (ts ++ tlT (i + l.length))
 | 0, l, i, ts, h, hf, f', hf' => by omega
 | f + 1, [], i, ts, h, hf, f', hf' => by
  have e : ts = [] := by cases h; rfl
  subst e
  obtain ⟨g, rfl⟩ : ∃ g, f' = g + 4 := ⟨f' - 4, by simp at hf'; omega⟩
  exact lex_tail i g
 | f + 1, c :: t, i, ts, h, hf, f', hf' => by
  obtain ⟨g, rfl⟩ : ∃ g, f' = g + 1 := ⟨f' - 1, by omega⟩
  have hb := beh_app (c :: t) (by simp) [115, 107, 105, 112, 59]
  have hp := piece_app (c :: t) (by simp) [115, 107, 105, 112, 59]
  have hle := beh_le (c :: t)
  have hcons : (c :: t) ++ tlB = c :: (t ++ tlB) := rfl
  rw [lexF] at h
  by_cases c1 : 0 < behS (c :: t)
  ·rw [if_pos c1] at h
   have ih := lex_app f _ _ ts h (by simp at hf ⊢; omega) g (by simp at hf' ⊢; omega)
   rw [hcons, lexF]
   rw [show c :: (t ++ tlB) = (c :: t) ++ 10 :: [115, 107, 105, 112, 59] from rfl, hb, if_pos c1, drop_app hle]
   rw [show i + behS (c :: t) + ((c :: t).drop (behS (c :: t))).length = i + (c :: t).length by rw [List.length_drop]; omega] at ih
   exact ih
  ·rw [if_neg c1] at h
   rw [hcons, lexF]
   rw [show c :: (t ++ tlB) = (c :: t) ++ 10 :: [115, 107, 105, 112, 59] from rfl, hb, if_neg c1, hp]
   cases hq : pieceS (c :: t) with
   | inl e => rw [hq] at h; cases h
   | inr x =>
    obtain ⟨k, s, n⟩ := x
    rw [hq] at h
    simp only at h ⊢
    obtain ⟨s1, s2⟩ := piece_len hq
    rw [drop_app s2]
    cases hr : lexF f ((c :: t).drop s.length) (i + s.length) with
    | inl e => rw [hr] at h; cases h
    | inr r =>
     rw [hr] at h
     cases h
     have ih := lex_app f _ _ r hr (by simp at hf ⊢; omega) g (by simp at hf' s2 ⊢; omega)
     rw [show i + s.length + ((c :: t).drop s.length).length = i + (c :: t).length by rw [List.length_drop]; omega] at ih
     rw [show (c :: t).drop s.length ++ 10 :: [115, 107, 105, 112, 59] = (c :: t).drop s.length ++ tlB from rfl, ih]
     rfl
theorem lexS_app {l : List UInt8} {ts ts' : List Tk} (h : lexS l = .inr ts) (h' : lexS (l ++ tlB) = .inr ts') : ts' = ts ++ tlT l.length := by
 unfold lexS at h h'
 split at h
 ·cases h
 split at h'
 ·cases h'
 have := lex_app _ l 0 ts h (by omega) _ (show l.length + 4 ≤ (l ++ tlB).length + 1 by simp [tlB])
 rw [this, Nat.zero_add] at h'
 cases h'
 rfl
end
section
open Go.RowKit
structure Ext (P Q : RP) : Prop where
 lt : ∀ a, a < P.ts.length → Q.ts[a]? = P.ts[a]?
 len : Q.ts.length = P.ts.length + 2
 is : ∀ a bad t, t ≠ [115, 107, 105, 112] → t ≠ [59] → isS Q a bad t = isS P a bad t
 num : ∀ a bad, numS Q a bad = numS P a bad
 nam : ∀ a bad, namS Q a bad = namS P a bad
theorem ts_none {P : RP} {a : Nat} (h : P.ts.length ≤ a) : P.ts[a]? = none := List.getElem?_eq_none h
theorem Ext.of {P Q : RP} {i : Nat} (h : Q.ts = P.ts ++ tlT i) : Ext P Q := by
 have h1 : ∀ a, a < P.ts.length → Q.ts[a]? = P.ts[a]? := fun a ha => by rw [h, List.getElem?_append_left ha]
 have h2 : ∀ a, P.ts.length ≤ a → Q.ts[a]? = (tlT i)[a - P.ts.length]? := fun a ha => by rw [h, List.getElem?_append_right ha]
 have h3 : ∀ k : Nat, (tlT i)[k]? = some (0, [115, 107, 105, 112], 0, i + 1) ∨ (tlT i)[k]? = some (2, [59], 0, i + 5) ∨ (tlT i)[k]? = none := fun k => by
  rcases k with _ | _ | k
  ·exact .inl rfl
  ·exact .inr (.inl rfl)
  ·exact .inr (.inr rfl)
 refine ⟨h1, by rw [h]; simp [tlT], fun a bad t t1 t2 => ?_, fun a bad => ?_, fun a bad => ?_⟩
 ·by_cases c : a < P.ts.length
  ·unfold isS; rw [h1 a c]
  ·unfold isS; rw [h2 a (by omega), ts_none (P := P) (by omega)]
   rcases h3 (a - P.ts.length) with e | e | e <;> rw [e]
   ·have : (([115, 107, 105, 112] : List UInt8) == t) = false := by rw [beq_eq_false_iff_ne]; exact fun e => t1 e.symm
    simp only [this, Bool.and_false]
   ·have : (([59] : List UInt8) == t) = false := by rw [beq_eq_false_iff_ne]; exact fun e => t2 e.symm
    simp only [this, Bool.and_false]
 ·by_cases c : a < P.ts.length
  ·unfold numS; rw [h1 a c]
  ·unfold numS; rw [h2 a (by omega), ts_none (P := P) (by omega)]
   rcases h3 (a - P.ts.length) with e | e | e <;> rw [e] <;> rfl
 ·by_cases c : a < P.ts.length
  ·unfold namS; rw [h1 a c]
  ·unfold namS; rw [h2 a (by omega), ts_none (P := P) (by omega)]
   rcases h3 (a - P.ts.length) with e | e | e <;> rw [e]
   ·have : kwF 0 [115, 107, 105, 112] = true := by decide +kernel
    simp only [this, Bool.not_true, Bool.and_false]
   ·rfl
theorem isS_lt {P : RP} {a : Nat} {bad : Int} {t : List UInt8} (h : isS P a bad t = true) : bad < 0 ∧ a < P.ts.length := by
 unfold isS at h
 rw [Bool.and_eq_true, decide_eq_true_eq] at h
 refine ⟨h.1, ?_⟩
 rcases Nat.lt_or_ge a P.ts.length with c | c
 ·exact c
 ·rw [ts_none c] at h; cases h.2
theorem namS_lt {P : RP} {a : Nat} {bad : Int} (h : namS P a bad = true) : bad < 0 ∧ a < P.ts.length := by
 unfold namS at h
 rw [Bool.and_eq_true, decide_eq_true_eq] at h
 refine ⟨h.1, ?_⟩
 rcases Nat.lt_or_ge a P.ts.length with c | c
 ·exact c
 ·rw [ts_none c] at h; cases h.2
theorem numS_lt {P : RP} {a : Nat} {bad : Int} (h : numS P a bad = true) : bad < 0 ∧ a < P.ts.length := by
 unfold numS at h
 rw [Bool.and_eq_true, decide_eq_true_eq] at h
 refine ⟨h.1, ?_⟩
 rcases Nat.lt_or_ge a P.ts.length with c | c
 ·exact c
 ·rw [ts_none c] at h; cases h.2
theorem failS_neg {P : RP} {a : Nat} {bad : Int} : ¬ failS P a bad < 0 := by
 unfold failS; split <;> omega
theorem Ext.isl {P Q : RP} (E : Ext P Q) {a : Nat} (h : a < P.ts.length) (bad : Int) (t : List UInt8) : isS Q a bad t = isS P a bad t := by unfold isS; rw [E.lt a h]
theorem Ext.pl {P Q : RP} (E : Ext P Q) {a : Nat} (h : a < P.ts.length) : plS Q a = plS P a := by unfold plS; rw [E.lt a h, List.getElem?_eq_getElem h]
theorem Ext.tx {P Q : RP} (E : Ext P Q) {a : Nat} (h : a < P.ts.length) : txS Q a = txS P a := by unfold txS; rw [E.lt a h]
theorem Ext.nu {P Q : RP} (E : Ext P Q) {a : Nat} (h : a < P.ts.length) : nuS Q a = nuS P a := by unfold nuS; rw [E.lt a h]
theorem tk_of {P : RP} {a : Nat} {bad : Int} {t : List UInt8} (h : tkB P a bad t < 0) : isS P a bad t = true ∧ bad < 0 ∧ a < P.ts.length ∧ tkA P a bad t = a + 1 ∧ tkB P a bad t = bad := by
 cases c : isS P a bad t with
 | false => exfalso; unfold tkB at h; rw [c] at h; exact failS_neg h
 | true =>
  refine ⟨rfl, (isS_lt c).1, (isS_lt c).2, ?_, ?_⟩
  ·unfold tkA; rw [c]; rfl
  ·unfold tkB; rw [c]; rfl
theorem Ext.tk {P Q : RP} (E : Ext P Q) {a : Nat} {bad : Int} {t : List UInt8} (h : tkB P a bad t < 0) : tkA Q a bad t = tkA P a bad t ∧ tkB Q a bad t = tkB P a bad t := by
 obtain ⟨h1, _, h3, _, _⟩ := tk_of h
 have e := E.isl h3 bad t
 unfold tkA tkB
 rw [e, h1]
 exact ⟨rfl, rfl⟩
theorem na_of {P : RP} {a : Nat} {bad : Int} (h : naB P a bad < 0) : namS P a bad = true ∧ bad < 0 ∧ a < P.ts.length ∧ naA P a bad = a + 1 ∧ naB P a bad = bad := by
 cases c : namS P a bad with
 | false => exfalso; unfold naB at h; rw [c] at h; exact failS_neg h
 | true =>
  refine ⟨rfl, (namS_lt c).1, (namS_lt c).2, ?_, ?_⟩
  ·unfold naA; rw [c]; rfl
  ·unfold naB; rw [c]; rfl
theorem Ext.naT {P Q : RP} (E : Ext P Q) (a : Nat) (bad : Int) : Go.Proofs.YtklkpaekdpaloaaDoor.naT Q a bad = Go.Proofs.YtklkpaekdpaloaaDoor.naT P a bad := by
 unfold Go.Proofs.YtklkpaekdpaloaaDoor.naT
 rw [E.nam]
 cases c : namS P a bad with
 | false => rfl
 | true => rw [E.tx (namS_lt c).2]
theorem Ext.na {P Q : RP} (E : Ext P Q) {a : Nat} {bad : Int} (h : naB P a bad < 0) : naA Q a bad = naA P a bad ∧ naB Q a bad = naB P a bad := by
 obtain ⟨h1, _, h3, _, _⟩ := na_of h
 unfold naA naB
 rw [E.nam, h1]
 exact ⟨rfl, rfl⟩
theorem tkA_le {P : RP} (a : Nat) (bad : Int) (t : List UInt8) : a ≤ tkA P a bad t := by unfold tkA; split <;> omega
theorem naA_le {P : RP} (a : Nat) (bad : Int) : a ≤ naA P a bad := by unfold naA; split <;> omega
theorem opTab_no : ∀ L ∈ opTab, ∀ p ∈ L, p.1.toList ≠ [115, 107, 105, 112] ∧ p.1.toList ≠ [59] := by decide +kernel
theorem Ext.opF {P Q : RP} (E : Ext P Q) (a : Nat) (bad : Int) : ∀ L : List (ByteArray × Int), (∀ p ∈ L, p.1.toList ≠ [115, 107, 105, 112] ∧ p.1.toList ≠ [59]) → Go.Proofs.YtklkpaekdpaloaaDoor.opF Q a bad L = Go.Proofs.YtklkpaekdpaloaaDoor.opF P a bad L
 | [], _ => rfl
 | p :: r, h => by
  rw [Go.Proofs.YtklkpaekdpaloaaDoor.opF, Go.Proofs.YtklkpaekdpaloaaDoor.opF, E.is a bad _ (h p (by simp)).1 (h p (by simp)).2, Ext.opF E a bad r (fun q hq => h q (by simp [hq]))]
theorem Ext.op {P Q : RP} (E : Ext P Q) (a : Nat) (bad : Int) (row : Nat) : opS Q a bad row = opS P a bad row := by
 unfold opS
 cases c : opTab[row]? with
 | none => rfl
 | some L => exact E.opF a bad L (opTab_no L (List.mem_of_getElem? c))
theorem opF_lt {P : RP} {a : Nat} {bad : Int} : ∀ L : List (ByteArray × Int), opF P a bad L ≠ 0 → a < P.ts.length
 | [], h => absurd rfl h
 | p :: r, h => by
  rw [opF] at h
  cases c : isS P a bad p.1.toList with
  | true => exact (isS_lt c).2
  | false => rw [c] at h; exact opF_lt r h
theorem opS_lt {P : RP} {a : Nat} {bad : Int} {row : Nat} (h : opS P a bad row ≠ 0) : a < P.ts.length := by
 unfold opS at h
 split at h
 ·exact opF_lt _ h
 ·exact absurd rfl h
def Fwd (g : Nat → Int → List Nd × Nat × Int) : Prop := ∀ a bad, a ≤ (g a bad).2.1 ∧ ((g a bad).2.2 < 0 → bad < 0)
theorem lo_fwd {P : RP} {g : Nat → Int → List Nd × Nat × Int} {row : Nat} (hg : Fwd g) : ∀ k l a bad, a ≤ (loF P g row k l a bad).2.1 ∧ ((loF P g row k l a bad).2.2 < 0 → bad < 0)
 | 0, l, a, bad => ⟨Nat.le_refl _, id⟩
 | k + 1, l, a, bad => by
  rw [loF]
  have h1 := hg (a + 1) bad
  split
  ·exact ⟨Nat.le_refl _, id⟩
  ·split
   ·exact ⟨by have := h1.1; show a ≤ (g (a + 1) bad).2.1; omega, h1.2⟩
   ·have h2 := lo_fwd (P := P) (row := row) hg k (ndS ⟨0, 15, ⟨#[]⟩, 0, opS P a bad row, (plS P a : Nat)⟩ [l, (g (a + 1) bad).1]) (g (a + 1) bad).2.1 (g (a + 1) bad).2.2
    exact ⟨by have := h1.1; have := h2.1; omega, fun h => h1.2 (h2.2 h)⟩
theorem at_fwd {P : RP} {g : Nat → Int → List Nd × Nat × Int} (hg : Fwd g) : Fwd (atF P g) := by
 intro a bad
 have h1 := hg (a + 1) bad
 have h2 := hg (a + 2) bad
 unfold atF
 split
 ·exact ⟨Nat.le_succ _, id⟩
 split
 ·exact ⟨Nat.le_succ _, id⟩
 split
 ·exact ⟨Nat.le_succ _, id⟩
 split
 ·refine ⟨?_, fun h => h1.2 (tk_of h).2.1⟩
  have := tkA_le (P := P) (g (a + 1) bad).2.1 (g (a + 1) bad).2.2 [41]
  show a ≤ tkA P _ _ _
  omega
 split
 ·split
  ·refine ⟨?_, fun h => h2.2 (tk_of h).2.1⟩
   have := tkA_le (P := P) (g (a + 2) bad).2.1 (g (a + 2) bad).2.2 [93]
   show a ≤ tkA P _ _ _
   omega
  ·exact ⟨Nat.le_succ _, id⟩
 ·exact ⟨Nat.le_refl _, fun h => absurd h failS_neg⟩
theorem ex_fwd {P : RP} : ∀ f md, Fwd (exF P f md)
 | 0, md => fun a bad => ⟨Nat.le_refl _, id⟩
 | f + 1, md => by
  intro a bad
  rw [exF]
  split
  ·have h1 := ex_fwd (P := P) f (md + 1) a bad
   have h2 := lo_fwd (P := P) (row := md) (ex_fwd (P := P) f (md + 1)) f (exF P f (md + 1) a bad).1 (exF P f (md + 1) a bad).2.1 (exF P f (md + 1) a bad).2.2
   exact ⟨by have := h1.1; have := h2.1; omega, fun h => h1.2 (h2.2 h)⟩
  split
  ·exact ex_fwd f 6 a bad
  split
  ·have h1 := ex_fwd (P := P) f 6 (a + 1) bad
   split
   ·exact ⟨by have := h1.1; show a ≤ (exF P f 6 (a + 1) bad).2.1; omega, h1.2⟩
   split
   ·exact ⟨by have := h1.1; show a ≤ (exF P f 6 (a + 1) bad).2.1; omega, h1.2⟩
   ·exact ex_fwd f 7 a bad
  ·exact at_fwd (ex_fwd f 0) a bad
theorem exA_fwd {P : RP} : Fwd (exA P) := ex_fwd _ _
theorem lo_ext {P Q : RP} (E : Ext P Q) {g g' : Nat → Int → List Nd × Nat × Int} {row a0 : Nat} (hg : Fwd g) (H : ∀ a bad, a0 ≤ a → a < P.ts.length → (g (a + 1) bad).2.2 < 0 → g' (a + 1) bad = g (a + 1) bad) :
  ∀ k k' l a bad, a0 ≤ a → P.ts.length - a ≤ k → P.ts.length - a ≤ k' → (loF P g row k l a bad).2.2 < 0 → loF Q g' row k' l a bad = loF P g row k l a bad
 | k, 0, l, a, bad, h0, h1, h2, _ => by
  have hn : opS P a bad row = 0 := Classical.byContradiction fun c => by have := opS_lt c; omega
  cases k with
  | zero => rfl
  | succ k => rw [loF, loF, if_pos hn]
 | 0, k' + 1, l, a, bad, h0, h1, h2, _ => by
  have hn : opS P a bad row = 0 := Classical.byContradiction fun c => by have := opS_lt c; omega
  rw [loF, loF, E.op, if_pos hn]
 | k + 1, k' + 1, l, a, bad, h0, h1, h2, hs => by
  rw [loF] at hs
  rw [loF, loF, E.op]
  by_cases c : opS P a bad row = 0
  ·rw [if_pos c, if_pos c]
  ·rw [if_neg c] at hs ⊢
   rw [if_neg c]
   have hl := opS_lt c
   have hw := hg (a + 1) bad
   rw [E.pl hl]
   by_cases r2 : row = 2
   ·rw [if_pos r2] at hs ⊢
    rw [if_pos r2, H a bad h0 hl hs]
   ·rw [if_neg r2] at hs ⊢
    have hs' := (lo_fwd hg k _ _ _).2 hs
    rw [if_neg r2, H a bad h0 hl hs']
    exact lo_ext E hg H k k' _ _ _ (by omega) (by omega) (by omega) hs
theorem at_ext {P Q : RP} (E : Ext P Q) {g g' : Nat → Int → List Nd × Nat × Int} {a : Nat} {bad : Int} (hg : Fwd g) (H : ∀ b bad, a < b → a < P.ts.length → (g b bad).2.2 < 0 → g' b bad = g b bad) (h : (atF P g a bad).2.2 < 0) : atF Q g' a bad = atF P g a bad := by
 unfold atF at h ⊢
 rw [E.num, E.is a bad [116, 114, 117, 101] (by decide) (by decide), E.is a bad [102, 97, 108, 115, 101] (by decide) (by decide), E.is a bad [40] (by decide) (by decide), E.nam, E.is (a + 1) bad [91] (by decide) (by decide), E.naT]
 cases c1 : numS P a bad with
 | true => rw [if_pos rfl, if_pos rfl, E.pl (numS_lt c1).2, E.nu (numS_lt c1).2]
 | false =>
 cases c2 : isS P a bad [116, 114, 117, 101] with
 | true => simp only [Bool.false_eq_true, if_false, if_true]; rw [E.pl (isS_lt c2).2]
 | false =>
 cases c3 : isS P a bad [102, 97, 108, 115, 101] with
 | true => simp only [Bool.false_eq_true, if_false, if_true]; rw [E.pl (isS_lt c3).2]
 | false =>
 cases c4 : isS P a bad [40] with
 | true =>
  simp only [c1, c2, c3, c4, Bool.false_eq_true, if_false, if_true] at h ⊢
  have e := H (a + 1) bad (by omega) (isS_lt c4).2 (tk_of h).2.1
  rw [e, (E.tk h).1, (E.tk h).2]
 | false =>
 cases c5 : namS P a bad with
 | true =>
  cases c6 : isS P (a + 1) bad [91] with
  | true =>
   simp only [c1, c2, c3, c4, c5, c6, Bool.false_eq_true, if_false, if_true] at h ⊢
   have e := H (a + 2) bad (by omega) (namS_lt c5).2 (tk_of h).2.1
   rw [e, (E.tk h).1, (E.tk h).2, E.pl (namS_lt c5).2]
  | false =>
   simp only [Bool.false_eq_true, if_false, if_true]
   rw [E.pl (namS_lt c5).2]
 | false =>
  exfalso
  simp only [c1, c2, c3, c4, c5, Bool.false_eq_true, if_false] at h
  exact failS_neg h
theorem ex_ext {P Q : RP} (E : Ext P Q) : ∀ f f' md a bad, md ≤ 7 → (P.ts.length - a) * 10 + (9 - md) ≤ f → (P.ts.length - a) * 10 + (9 - md) ≤ f' → (exF P f md a bad).2.2 < 0 → exF Q f' md a bad = exF P f md a bad
 | 0, f', md, a, bad, hm, h1, h2, _ => by omega
 | f + 1, 0, md, a, bad, hm, h1, h2, _ => by omega
 | f + 1, f' + 1, md, a, bad, hm, h1, h2, hs => by
  rw [exF] at hs
  rw [exF, exF]
  by_cases c5 : md < 5
  ·rw [if_pos c5] at hs ⊢
   rw [if_pos c5]
   have hs' := (lo_fwd (ex_fwd f (md + 1)) _ _ _ _).2 hs
   have hp := (ex_fwd (P := P) f (md + 1) a bad).1
   rw [ex_ext E f f' (md + 1) a bad (by omega) (by omega) (by omega) hs']
   exact lo_ext E (a0 := a) (ex_fwd f (md + 1)) (fun b bd hb hl hbs => ex_ext E f f' (md + 1) (b + 1) bd (by omega) (by omega) (by omega) hbs) _ _ _ _ _ hp (by omega) (by omega) hs
  rw [if_neg c5] at hs ⊢
  rw [if_neg c5]
  by_cases c6 : md = 5
  ·rw [if_pos c6] at hs ⊢
   rw [if_pos c6]
   exact ex_ext E f f' 6 a bad (by omega) (by omega) (by omega) hs
  rw [if_neg c6] at hs ⊢
  rw [if_neg c6]
  by_cases c7 : md = 6
  ·rw [if_pos c7] at hs ⊢
   rw [if_pos c7, E.is a bad [45] (by decide) (by decide), E.is a bad [33] (by decide) (by decide)]
   by_cases k1 : isS P a bad [45] = true
   ·rw [if_pos k1] at hs ⊢
    have := (isS_lt k1).2
    rw [if_pos k1, ex_ext E f f' 6 (a + 1) bad (by omega) (by omega) (by omega) hs, E.pl this]
   rw [if_neg k1] at hs ⊢
   rw [if_neg k1]
   by_cases k2 : isS P a bad [33] = true
   ·rw [if_pos k2] at hs ⊢
    have := (isS_lt k2).2
    rw [if_pos k2, ex_ext E f f' 6 (a + 1) bad (by omega) (by omega) (by omega) hs, E.pl this]
   rw [if_neg k2] at hs ⊢
   rw [if_neg k2]
   exact ex_ext E f f' 7 a bad (by omega) (by omega) (by omega) hs
  ·rw [if_neg c7] at hs ⊢
   rw [if_neg c7]
   exact at_ext E (ex_fwd f 0) (fun b bd hb hl hbs => ex_ext E f f' 0 b bd (by omega) (by omega) (by omega) hbs) hs
theorem exA_ext {P Q : RP} (E : Ext P Q) {a : Nat} {bad : Int} (h : (exA P a bad).2.2 < 0) : exA Q a bad = exA P a bad := by
 have := E.len
 exact ex_ext E _ _ 0 a bad (by omega) (by omega) (by omega) h
end
end Go.Proofs.YtklkpaekdpaloaaDoor
