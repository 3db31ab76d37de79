import Derived.Test.YtklkpaekdpaloaaDoorKLe
set_option linter.unusedVariables false
set_option linter.unusedSimpArgs false
set_option linter.unnecessarySimpa false
namespace Go.Proofs.YtklkpaekdpaloaaDoor
open Go.RowKit
abbrev Tk := Nat × List UInt8 × Int × Nat
def lexF : Nat → List UInt8 → Nat → (Nat × Nat) ⊕ List Tk
 | 0, _, _ => .inr []
 | fuel + 1, l, i =>
  match l with
  | [] => .inr []
  | _ :: _ =>
   if 0 < behS l then lexF fuel (l.drop (behS l)) (i + behS l)
   else match pieceS l with
    | .inl e => .inl (e, i)
    | .inr (k, t, n) =>
     match lexF fuel (l.drop t.length) (i + t.length) with
     | .inl e => .inl e
     | .inr r => .inr ((k, t, n, i) :: r)
def lexS (l : List UInt8) : (Nat × Nat) ⊕ List Tk := if 8192 < l.length then .inl (21, 8192) else lexF (l.length + 1) l 0
def TkIs (xs : List Value) : List Tk → Prop
 | [] => xs = []
 | (k, t, n, i) :: r => ∃ (b : ByteArray) (ys : List Value), b.toList = t ∧ xs = .int .i64 (k : Nat) :: .string b :: .int .i64 n :: .int .i64 (i : Nat) :: ys ∧ TkIs ys r
theorem TkIs.add : ∀ {ts : List Tk} {xs : List Value} {k i : Nat} {b : ByteArray} {n : Int}, TkIs xs ts → TkIs (xs ++ [.int .i64 (k : Nat), .string b, .int .i64 n, .int .i64 (i : Nat)]) (ts ++ [(k, b.toList, n, i)])
 | [], xs, k, i, b, n, h => by
  have : xs = [] := h
  subst this
  exact ⟨b, [], rfl, rfl, rfl⟩
 | (k', t', n', i') :: r, xs, k, i, b, n, h => by
  obtain ⟨b', ys, h1, h2, h3⟩ := h
  exact ⟨b', _, h1, by rw [h2]; rfl, TkIs.add h3⟩
theorem TkIs.len : ∀ {ts : List Tk} {xs : List Value}, TkIs xs ts → xs.length = ts.length * 4
 | [], xs, h => by have : xs = [] := h; subst this; rfl
 | (k', t', n', i') :: r, xs, h => by
  obtain ⟨b', ys, h1, h2, h3⟩ := h
  rw [h2]; simp [TkIs.len h3]; omega
theorem piece_len {l : List UInt8} {k : Nat} {t : List UInt8} {n : Int} (h : pieceS l = .inr (k, t, n)) : 1 ≤ t.length ∧ t.length ≤ l.length := by
 cases l with
 | nil => cases h
 | cons c r =>
  simp only [pieceS] at h
  split at h
  ·next hl =>
   have hr : runF okc (c :: r) = runF okc r + 1 := by simp [runF, okc, hl]
   split at h
   ·cases h
   ·cases h
    rw [List.length_take]
    have := runF_le okc (c :: r)
    omega
  ·split at h
   ·next hd =>
    have hr : runF isDig (c :: r) = runF isDig r + 1 := by simp [runF, hd]
    split at h
    ·cases h
    ·cases h
     rw [List.length_take]
     have := runF_le isDig (c :: r)
     omega
   ·split at h
    ·cases h
    ·next x hx =>
     cases h
     have key : ∀ (ss : List ByteArray), (∀ b ∈ ss, 1 ≤ b.size ∧ b.size ≤ 2) → signF ss (c :: r) = some x → 1 ≤ x.size ∧ x.size ≤ (c :: r).length := by
      intro ss
      induction ss with
      | nil => intro _ h; cases h
      | cons y ys ih =>
       intro hy h
       simp only [signF] at h
       split at h
       ·next hb =>
        cases h
        rw [Bool.and_eq_true, decide_eq_true_eq] at hb
        exact ⟨(hy _ (List.mem_cons_self)).1, hb.2⟩
       ·exact ih (fun b hb => hy b (List.mem_cons_of_mem _ hb)) h
     have := key sgs sgs_size hx
     rw [toList_len]; exact this
theorem behS_le : ∀ (l : List UInt8), behS l ≤ l.length
 | [] => Nat.le_refl _
 | c :: r => by
  have := runF_le no10 (c :: r)
  simp only [behS]
  split
  ·simp
  ·split
   ·exact this
   ·exact Nat.zero_le _
theorem lexF_beh {fuel : Nat} {l : List UInt8} {i : Nat} (hl : l ≠ []) (h : 0 < behS l) : lexF (fuel + 1) l i = lexF fuel (l.drop (behS l)) (i + behS l) := by
 cases l with
 | nil => exact absurd rfl hl
 | cons c r => simp only [lexF]; rw [if_pos h]
theorem lexF_err {fuel : Nat} {l : List UInt8} {i e : Nat} (hl : l ≠ []) (h : ¬ 0 < behS l) (hp : pieceS l = .inl e) : lexF (fuel + 1) l i = .inl (e, i) := by
 cases l with
 | nil => exact absurd rfl hl
 | cons c r => simp only [lexF]; rw [if_neg h, hp]
theorem lexF_tok {fuel : Nat} {l : List UInt8} {i k : Nat} {t : List UInt8} {n : Int} (hl : l ≠ []) (h : ¬ 0 < behS l) (hp : pieceS l = .inr (k, t, n)) : lexF (fuel + 1) l i = match lexF fuel (l.drop t.length) (i + t.length) with | .inl e => .inl e | .inr r => .inr ((k, t, n, i) :: r) := by
 cases l with
 | nil => exact absurd rfl hl
 | cons c r => simp only [lexF]; rw [if_neg h, hp]
def addT (ts : List Tk) : (Nat × Nat) ⊕ List Tk → (Nat × Nat) ⊕ List Tk
 | .inl e => .inl e
 | .inr r => .inr (ts ++ r)
theorem addT_cons (ts : List Tk) (x : Tk) (y : (Nat × Nat) ⊕ List Tk) : addT ts (match y with | .inl e => .inl e | .inr r => .inr (x :: r)) = addT (ts ++ [x]) y := by
 cases y with
 | inl e => rfl
 | inr r => simp [addT]
def ToksIs (w : World) (l : List UInt8) (e : Ending) (w' : World) : Prop :=
 match lexS l with
 | .inl (er, at0) => e = .returned (.tuple #[.slice none 0 0, .int .i64 (er : Nat), .int .i64 (at0 : Nat)])
 | .inr ts => ∃ v xs, e = .returned (.tuple #[v, .int .i64 0, .int .i64 0]) ∧ w'.ownsRow w.heap.size 110 4 v ts.length xs ∧ TkIs xs ts
theorem addT_nil (x : (Nat × Nat) ⊕ List Tk) : addT [] x = x := by cases x <;> rfl
theorem piece_err {l : List UInt8} {e : Nat} (h : pieceS l = .inl e) : 20 ≤ e := by
 cases l with
 | nil => cases h; decide
 | cons c r =>
  simp only [pieceS] at h
  repeat' split at h
  all_goals cases h
  all_goals decide
theorem infoTok3 : (Tryd.prog.info? 110).map (fun i => (i.zero, i.size, i.bytes)) = some (some (.agg #[.int .i64 0, .string ⟨#[]⟩, .int .i64 0, .int .i64 0]), 4, 40) := by kernel_rfl
theorem tok_cell {w1 w4 : World} {x y z u : Value} {o : Obj} {own : Option Nat} (hg : ((w1.alloc (.cells #[x, y, z, u] 110)).alloc o).grownBy w4 own) (ho : ∀ b, own = some b → b < w1.heap.size) : w4.cell? ⟨w1.heap.size, 1, none⟩ = some y := by
 have h0 : ((w1.alloc (.cells #[x, y, z, u] 110)).alloc o).heap[w1.heap.size]? = some (.cells #[x, y, z, u] 110 (0, 0)) := heap_past _ _ _ (lt_row (heap_new0 _ _)) (heap_new0 _ _)
 have h1 : w4.heap[w1.heap.size]? = some (.cells #[x, y, z, u] 110 (0, 0)) := (hg.block _ (lt_row h0) (fun e => by have := ho _ e.symm; omega)).trans h0
 exact (row4_facts h1).2.1
def TR (s : ByteArray) (xs : List Value) (N0 j : Nat) : Prop :=
 ∃ ts fuel, TkIs xs ts ∧ N0 = ts.length ∧ N0 ≤ j ∧ s.size - j < fuel ∧ lexS s.toList = addT ts (lexF fuel (s.toList.drop j) j)
def TI (w : World) (s : ByteArray) (wr : World) (v : Value) (N0 j : Nat) : Prop :=
 Ok w wr ∧ ∃ xs, wr.ownsRow w.heap.size 110 4 v N0 xs ∧ TR s xs N0 j
theorem drop_ne {s : ByteArray} {j : Nat} (h : j < s.size) : s.toList.drop j ≠ [] := by rw [bdrop_cons s j h]; exact List.cons_ne_nil _ _
theorem TI.blank {w : World} {s : ByteArray} {wr : World} {v : Value} {N0 j m : Nat} (h : TI w s wr v N0 j) (hl : s.toList.length = s.size) (hj : j < s.size) (hb : 0 < behS (s.toList.drop j)) (hm : m = j + behS (s.toList.drop j)) : TI w s wr v N0 m := by
 obtain ⟨h0, xs, h1, ts, fuel, h2, h3, h4, h5, h6⟩ := h
 cases fuel with
 | zero => omega
 | succ f =>
  refine ⟨h0, xs, h1, ts, f, h2, h3, by omega, by omega, ?_⟩
  rw [h6, lexF_beh (drop_ne hj) hb, List.drop_drop, hm]
theorem TI.bad {w : World} {s : ByteArray} {wr : World} {v : Value} {N0 j e : Nat} (h : TI w s wr v N0 j) (hl : s.toList.length = s.size) (hj : j < s.size) (hb : ¬ 0 < behS (s.toList.drop j)) (hp : pieceS (s.toList.drop j) = .inl e) : lexS s.toList = .inl (e, j) := by
 obtain ⟨h0, xs, h1, ts, fuel, h2, h3, h4, h5, h6⟩ := h
 cases fuel with
 | zero => omega
 | succ f => rw [h6, lexF_err (drop_ne hj) hb hp]; rfl
theorem TI.done {w : World} {s : ByteArray} {wr : World} {v : Value} {N0 j : Nat} (h : TI w s wr v N0 j) (hl : s.toList.length = s.size) (hj : ¬ j < s.size) : ∃ ts xs, lexS s.toList = .inr ts ∧ wr.ownsRow w.heap.size 110 4 v ts.length xs ∧ TkIs xs ts := by
 obtain ⟨h0, xs, h1, ts, fuel, h2, h3, h4, h5, h6⟩ := h
 refine ⟨ts, xs, ?_, by rw [← h3]; exact h1, h2⟩
 cases fuel with
 | zero => omega
 | succ f => rw [h6, bdrop_end s j hj]; simp [lexF, addT]
theorem TR.more {s : ByteArray} {xs : List Value} {N0 j k : Nat} {t : List UInt8} {n : Int} {b : ByteArray} (h : TR s xs N0 j) (hl : s.toList.length = s.size) (hj : j < s.size) (hb : ¬ 0 < behS (s.toList.drop j)) (hp : pieceS (s.toList.drop j) = .inr (k, t, n)) (hbt : b.toList = t) :
  TR s (xs ++ [.int .i64 (k : Nat), .string b, .int .i64 n, .int .i64 (j : Nat)]) (N0 + 1) (j + b.size) ∧ 1 ≤ b.size ∧ b.size ≤ s.size - j := by
 obtain ⟨ts, fuel, h2, h3, h4, h5, h6⟩ := h
 have hlen := piece_len hp
 have hbs : t.length = b.size := by rw [← hbt, toList_len]
 rw [hbs, List.length_drop, hl] at hlen
 refine ⟨?_, hlen⟩
 cases fuel with
 | zero => omega
 | succ f =>
  refine ⟨ts ++ [(k, b.toList, n, j)], f, h2.add, by rw [List.length_append, h3]; rfl, by omega, by omega, ?_⟩
  rw [h6, lexF_tok (drop_ne hj) hb hp, addT_cons, List.drop_drop, hbs, hbt]
theorem own_ok {w w' : World} {B : Nat} {e : TypeId} {s n : Nat} {v : Value} {xs : List Value} (h : w.ownsRow B e s v n xs) (hk : Ok w w') : w'.ownsRow B e s v n xs := own_same h fun b hb => Below.block hk b (h.lt b hb).2
theorem Ok.grown {w0 w w' : World} {own : Option Nat} (h : Ok w0 w) (hg : w.grownBy w' own) (ho : ∀ b, own = some b → w0.heap.size ≤ b) : Ok w0 w' := by
 have hb : Below w0.heap.size w0 w := h
 have := hb.size
 refine ⟨hg.os.trans hb.os, hg.tape.trans hb.tape, hg.output.trans hb.output, Nat.le_trans hb.size hg.size, fun k hk => ?_⟩
 exact (hg.block k (by omega) (fun e => by have := ho k e.symm; omega)).trans (hb.block k hk)
theorem tok_next {w wr w1 w4 : World} {s b : ByteArray} {v v' : Value} {xs : List Value} {N0 m k : Nat} {tx : List UInt8} {n : Int} {o : Obj} (hs : s.size ≤ 1000000) (h : Ok w wr) (how : wr.ownsRow w.heap.size 110 4 v N0 xs) (htr : TR s xs N0 m) (hok : Ok wr w1) (hj : m < s.size) (hl : s.toList.length = s.size) (hb : ¬ 0 < behS (s.toList.drop m)) (hp : pieceS (s.toList.drop m) = .inr (k, tx, n)) (hbt : b.toList = tx)
  (hg : ((w1.alloc (.cells #[.int .i64 (k : Nat), .string b, .int .i64 n, .int .i64 (m : Nat)] 110)).alloc o).grownBy w4 v.ownBlock) (ho4 : w4.ownsRow w.heap.size 110 4 v' (N0 + 1) (xs ++ [.int .i64 (k : Nat), .string b, .int .i64 n, .int .i64 (m : Nat)])) :
  w1.heap.size < w4.heap.size ∧ w4.cell? ⟨w1.heap.size, 1, none⟩ = some (.string b) ∧ IntKind.i64.wrap ((m : Int) + (b.size : Int)) = ((m + b.size : Nat) : Int) ∧ (TI w s w4 v' (N0 + 1) (m + b.size) ∧ m + b.size ≤ s.size ∧ 1 ≤ b.size) := by
 have hfin := htr.more hl hj hb hp hbt
 have h1 := hg.size
 have h2 : ((w1.alloc (.cells #[.int .i64 (k : Nat), .string b, .int .i64 n, .int .i64 (m : Nat)] 110)).alloc o).heap.size = w1.heap.size + 1 + 1 := by rw [show ∀ (z : World) (o : Obj), (z.alloc o).heap.size = z.heap.size + 1 from fun z o => Array.size_push _, show ∀ (z : World) (o : Obj), (z.alloc o).heap.size = z.heap.size + 1 from fun z o => Array.size_push _]
 refine ⟨by omega, tok_cell hg (fun b hb => Nat.lt_of_lt_of_le (how.lt b hb).2 hok.le), wrap_nat (by omega) (by omega), ⟨?_, _, ho4, hfin.1⟩, by omega, hfin.2.1⟩
 exact (((h.step hok).alloc _).alloc _).grown hg (fun b hb => (how.lt b hb).1)
set_option maxRecDepth 100000 in
set_option maxHeartbeats 4000000 in
theorem tokens_any (s : ByteArray) (w : World) :
  Calls Tryd.prog 23 #[.string s] w fun e w' => ToksIs w s.toList e w' ∧ Ok w w' := by
 have HL : Hid (s.toList.length = s.size) := toList_len s
 by_cases h8 : 8192 < s.size
 ·have h8' : (8192 : Int) < (s.size : Int) := by omega
  have HX : Hid (lexS s.toList = .inl (21, 8192)) := by unfold Hid lexS; rw [HL.out, if_pos h8]
  clear h8
  go_enter Tryd.func23, Tryd.ntmps23
  go_wp2_with fail
  (try simp only [Exit.inBlock, Exit.then]); refine bodyPost_ret (results_tmp3 rfl _ _ _) rfl ?_
  refine ⟨?_, Ok.refl w⟩
  unfold ToksIs; rw [HX.out]
  rfl
 ·have hs : s.size ≤ 1000000 := by omega
  have h8' : ¬ (8192 : Int) < (s.size : Int) := by omega
  have HX : Hid (lexS s.toList = lexF (s.size + 1) s.toList 0) := by unfold Hid lexS; rw [HL.out, if_neg h8]
  have HS : Hid (s.size ≤ 8192) := Nat.le_of_not_lt h8
  clear h8
  go_enter Tryd.func23, Tryd.ntmps23
  go_wp2_with fail
  go_loopw [5, 6] (fun o x wr => ∃ (j N0 : Nat) (oo : Option Addr) (oc : Nat), j ≤ s.size ∧ o = .slice oo N0 oc ∧ x = .int .i64 (j : Nat) ∧ Hid (TI w s wr (.slice oo N0 oc) N0 j)) (fun _ x _ => ((s.size : Int) - intOf x).toNat)
  case atStart => exact ⟨0, 0, none, 0, Nat.zero_le _, rfl, rfl, Ok.refl w, [], World.ownsRow_nil _ _ _ _, [], s.size + 1, rfl, rfl, Nat.le_refl _, by omega, by rw [HX.out]; exact (addT_nil _).symm⟩
  case round =>
   obtain ⟨j, N0, oo, oc, hj, rfl, rfl, HJ⟩ := hrel
   by_cases hjl : j < s.size
   ·have hjl' : (j : Int) < (s.size : Int) := cast_lt' hjl
    obtain ⟨b0, hb0⟩ : ∃ b0, b0 = behS (s.toList.drop j) := ⟨_, rfl⟩
    have hble : b0 ≤ s.size - j := by rw [hb0]; refine Nat.le_trans (behS_le _) ?_; rw [List.length_drop, HL.out]; exact Nat.le_refl _
    have HB0 : Hid (b0 = behS (s.toList.drop j) ∧ b0 ≤ s.size - j) := ⟨hb0, hble⟩
    have HJL : Hid (j < s.size) := hjl
    obtain ⟨m, hm⟩ : ∃ m, m = j + b0 := ⟨_, rfl⟩
    have HM : Hid (m = j + b0) := hm
    by_cases hpos : 0 < b0
    ·have hmj : (j : Int) < (m : Int) := by omega
     have HN : Hid (TI w s wr (.slice oo N0 oc) N0 m) := TI.blank HJ.out HL.out hjl (by rw [← hb0]; exact hpos) (by rw [hm, hb0])
     have hms : m ≤ s.size := by omega
     clear hb0 hble hm hpos
     go_wp2_with (go_at_call 42; refine (behind_any s j HJL.out hs _).mono ?_; rintro e w1 ⟨rfl, hw⟩; replace hw := hw.symm; subst hw; rw [← HB0.out.1, ← HM.out])
     go_roundw
     case rel => exact ⟨m, N0, oo, oc, hms, rfl, rfl, HN⟩
     case measure => simp only [intOf]; omega
    ·have hmj : m = j := by omega
     have HNB : Hid (¬ 0 < behS (s.toList.drop j)) := by unfold Hid; rw [← hb0]; exact hpos
     subst hmj
     clear hb0 hble hm hpos
     cases hps : pieceS (s.toList.drop m) with
     | inl er =>
      have her : ((er : Int) != 0) = true := by have := piece_err hps; rw [bne_iff_ne]; omega
      have HPS : Hid (pieceS (s.toList.drop m) = .inl er) := hps
      have HE : Hid (lexS s.toList = .inl (er, m)) := TI.bad HJ.out HL.out hjl HNB.out hps
      clear hps
      go_wp2_with (first
       | (go_at_call 42; refine (behind_any s m HJL.out hs _).mono ?_; rintro e w1 ⟨rfl, hw⟩; replace hw := hw.symm; subst hw; rw [← HB0.out.1, ← HM.out])
       | (go_at_call 43; refine (piece_any s m HJL.out hs _).mono ?_; rintro e w1 ⟨hp, hok⟩; unfold PieceIs at hp; rw [HPS.out] at hp; unfold tok0 at hp; subst hp; have HOK : Hid (Ok wr w1) := hok; clear hok)
       | fail)
      (try simp only [Exit.inBlock, Exit.then]); refine bodyPost_ret (results_tmp3 rfl _ _ _) rfl ?_
      refine ⟨?_, ?_⟩
      ·unfold ToksIs; rw [HE.out]; rfl
      ·exact (HJ.out.1.step HOK.out).alloc _
     | inr p =>
      obtain ⟨k, tx, n⟩ := p
      have HPS : Hid (pieceS (s.toList.drop m) = .inr (k, tx, n)) := hps
      clear hps
      obtain ⟨xs, hown, htr⟩ := HJ.out.2
      have HOW : Hid (wr.ownsRow w.heap.size 110 4 (.slice oo N0 oc) N0 xs) := hown
      have HTR : Hid (TR s xs N0 m) := htr
      have hN0 : N0 ≤ 8192 := by obtain ⟨_, _, _, _, h, _⟩ := htr; have := HS.out; omega
      have HN63 : Hid (N0 + 1 ≤ maxLen ∧ (N0 + 1) * 40 ≤ 140737488355328) := by unfold Hid maxLen; omega
      have HLT : Hid (∀ b, (Value.slice oo N0 oc).ownBlock = some b → w.heap.size ≤ b ∧ b < wr.heap.size) := fun b hb => hown.lt b hb
      clear hown htr hN0
      obtain ⟨i0, hi0, hz0, hz1, hz2⟩ := info_of infoTok3
      go_wp2_with (first
       | (go_at_call 42; refine (behind_any s m HJL.out hs _).mono ?_; rintro e w1 ⟨rfl, hw⟩; replace hw := hw.symm; subst hw; rw [← HB0.out.1, ← HM.out])
       | (go_at_call 43; refine (piece_any s m HJL.out hs _).mono ?_; rintro e w1 ⟨hp, hok⟩; unfold PieceIs at hp; rw [HPS.out] at hp; obtain ⟨b, hb, rfl⟩ := hp; have HOK : Hid (Ok wr w1) := hok; have HBT : Hid (b.toList = tx) := hb; clear hok hb)
       | (at_builtin; refine wpList_append_lies _ rfl _ _ 85 rfl w.heap.size 110 i0 _ 4 40 Tryd.underlying85 hi0 hz0 hz1 hz2 rfl (by decide) _ N0 xs (by rfl) (World.ownsRow.alloc (World.ownsRow.alloc (own_ok HOW.out HOK.out) _) _) ⟨w1.heap.size + 1, 0, none⟩ 1 1 [.int .i64 (k : Nat), .string b, .int .i64 n, .int .i64 (m : Nat)] (by rfl) rfl (by intro j u hj; exact news_row (heap_at _ _ _ (by simp)) j u hj) (by simp [Value.oneCell']) (by decide) HN63.out.1 HN63.out.2 (by have := HJ.out.1.le; have := HOK.out.le; simp; omega) (w1.heap.size + 2) (by simp) ?_; intro gg capg w4 hown4 hgrow hat4 hlt4; have HO4 : Hid (w4.ownsRow w.heap.size 110 4 (.slice (some ⟨gg, 0, none⟩) (N0 + 1) capg) (N0 + 1) (xs ++ [.int .i64 (k : Nat), .string b, .int .i64 n, .int .i64 (m : Nat)])) := hown4; have HG4 : Hid (((w1.alloc (.cells #[.int .i64 (k : Nat), .string b, .int .i64 n, .int .i64 (m : Nat)] 110)).alloc (.cells #[.int .i64 (k : Nat), .string b, .int .i64 n, .int .i64 (m : Nat)] 110)).grownBy w4 (Value.slice oo N0 oc).ownBlock) := hgrow; obtain ⟨hlt1, c1, hmw, hf⟩ := tok_next hs HJ.out.1 HOW.out HTR.out HOK.out HJL.out HL.out HNB.out HPS.out HBT.out HG4.out HO4.out; have HF : Hid (TI w s w4 (.slice (some ⟨gg, 0, none⟩) (N0 + 1) capg) (N0 + 1) (m + b.size) ∧ m + b.size ≤ s.size ∧ 1 ≤ b.size) := hf; clear hown4 hgrow hat4 hf)
       | fail)
      go_roundw
      case rel => exact ⟨m + b.size, N0 + 1, _, _, HF.out.2.1, rfl, rfl, HF.out.1⟩
      case measure => have := HF.out.2; simp only [intOf]; omega
   ·have hjl' : ¬ (j : Int) < (s.size : Int) := cast_nlt hjl
    have HE : Hid (∃ ts xs, lexS s.toList = .inr ts ∧ wr.ownsRow w.heap.size 110 4 (.slice oo N0 oc) ts.length xs ∧ TkIs xs ts) := TI.done HJ.out HL.out hjl
    go_wp2_with fail
    (try simp only [Exit.inBlock, Exit.then]); refine bodyPost_ret (results_tmp3 rfl _ _ _) rfl ?_
    refine ⟨?_, HJ.out.1⟩
    unfold ToksIs
    obtain ⟨ts, xs, h1, h2, h3⟩ := HE.out
    rw [h1]
    exact ⟨_, xs, rfl, h2, h3⟩
end Go.Proofs.YtklkpaekdpaloaaDoor
