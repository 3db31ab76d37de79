import Derived.Shelf.LaysM
import Derived.Shelf.Strconv.Clone
import Derived.Test.YtklkpaekdpaloaaDoorProg
import Derived.Test.YtklkpaekdpaloaaDoorKPh
set_option linter.unusedVariables false
set_option linter.unusedSimpArgs false
set_option linter.unnecessarySimpa false
namespace Go.Proofs.YtklkpaekdpaloaaDoor
section
section
open Go.Shelf
def Tryd.laysM316_ren : Go.Shelf.Ren := ⟨fun | 316 => 67 | n => n, fun | 9 => 9 | 3 => 3 | 4 => 4 | 37 => 149 | 0 => 0 | 127 => 150 | 5 => 5 | n => n, fun | n => n⟩
theorem Tryd.laysM316 : Go.Proofs.LaysM.n316 Tryd.prog Tryd.laysM316_ren := {
 mixed := by kernel_rfl
 f316 := Tryd.func67.trans (congrArg some (by kernel_rfl))
 t0 := Tryd.underlying0
 a0 := Tryd.isAgg0
 z0 := Tryd.sizeOf0
 v0 := Tryd.zeroValue0
 t3 := Tryd.underlying3
 a3 := Tryd.isAgg3
 z3 := Tryd.sizeOf3
 v3 := Tryd.zeroValue3
 t4 := Tryd.underlying4
 a4 := Tryd.isAgg4
 z4 := Tryd.sizeOf4
 v4 := Tryd.zeroValue4
 t9 := Tryd.underlying9
 a9 := Tryd.isAgg9
 z9 := Tryd.sizeOf9
 v9 := Tryd.zeroValue9
 t37 := Tryd.underlying149
 a37 := Tryd.isAgg149
 z37 := Tryd.sizeOf149
 v37 := Tryd.zeroValue149
 t127 := Tryd.underlying150
 a127 := Tryd.isAgg150
 z127 := Tryd.sizeOf150
 v127 := Tryd.zeroValue150
 t5 := Tryd.underlying5
 a5 := Tryd.isAgg5
 z5 := Tryd.sizeOf5
 v5 := Tryd.zeroValue5
 i0 := by kernel_rfl
 i3 := by kernel_rfl
 i4 := by kernel_rfl
 i5 := by kernel_rfl
 i9 := by kernel_rfl
 i37 := by kernel_rfl
 i127 := by kernel_rfl }
open Go.RowKit in
theorem Tryd.stringslite_Clone (s : ByteArray) (w : World) (hlim : s.size ≤ 281474976710656) :
  Calls Tryd.prog 67 #[.string s] w fun e w' => e = .returned (.string s) ∧ Below w.heap.size w w' := Any.stringslite_Clone Tryd.laysM316 s w hlim
end
end
section
open Go.RowKit
def SL (w : World) (s : Nat) (v : Value) (n : Nat) (xs : List Value) : Prop := xs.length = n * s ∧ (∀ u ∈ xs, u.oneCell' = true) ∧ ∃ ao cap, v = .slice ao n cap ∧ (n = 0 ∨ ∃ b o, ao = some ⟨b, o, none⟩ ∧ b < w.heap.size ∧ ∀ j u, xs[j]? = some u → w.cell? ⟨b, o + j, none⟩ = some u)
theorem SL.below {w w1 : World} {s : Nat} {v : Value} {n : Nat} {xs : List Value} (h : SL w s v n xs) (hb : Ok w w1) : SL w1 s v n xs := by
 obtain ⟨h0, h1, ao, cap, e, h2⟩ := h
 exact ⟨h0, h1, ao, cap, e, h2.imp id fun ⟨b, o, e, hl, hc⟩ => ⟨b, o, e, Nat.lt_of_lt_of_le hl hb.le, fun j u hj => hb.cell (p := ⟨b, o + j, none⟩) hl (hc j u hj)⟩⟩
theorem run_append_nil_nil (t ty e : TypeId) (i : TypeInfo) (c : Nat) (w : World) (ht : Tryd.prog.underlying t = some (.slice e)) (hi : Tryd.prog.info? e = some i) :
  (Builtin.append_ #[t, t] ty #[.slice none 0 0, .slice none 0 c]).run Tryd.prog w = .ok (.slice none 0 0) w := by
 simp [Builtin.append_, run_underlying ht, sizeOf, typeInfo, hi, Builtin.lenOf, Builtin.firstCells]
theorem Ok.grown0 {w w' : World} (h : w.grownBy w' none) : Ok w w' := (Ok.refl w).grown h (fun b e => by cases e)
theorem wpList_append_sl {w : World} {ops : Array Oper} {rest : List Oper} {op : Oper} {a : Act} {Q : Exit → Act → World → Prop} (hgd : op.guard = none) (s x : Operand) (lT eT : TypeId) (sz bts : Nat) (z : Value)
  (ho : op.op = .call { callee := .builtin .append, args := #[s, x], argTypes := #[lT, lT] })
  (hund : Tryd.prog.underlying lT = some (.slice eT)) (hinf : (Tryd.prog.info? eT).map (fun i => (i.zero, i.size, i.bytes)) = some (some z, sz, bts)) (hzc : z.cells.size = sz) (hsz : 0 < sz) (hbt : bts ≤ 56)
  (base : Nat) (hs : a.eval s = .slice none 0 0) (v : Value) (n : Nat) (xs : List Value) (hx : a.eval x = v) (hT : SL w sz v n xs)
  (hb : n ≤ 1000000) (hbase : base ≤ w.heap.size)
  (h : ∀ v' w', w'.ownsRow base eT sz v' n xs → Ok w w' → wpList Tryd.prog ops Q rest (a.put op.dst v') w') : wpList Tryd.prog ops Q (op :: rest) a w := by
 obtain ⟨i, hi, hz, hsi, hby⟩ := info_of hinf
 obtain ⟨h0, h1, ao, cap, rfl, h2⟩ := hT
 cases ao with
 | none =>
  have hn : n = 0 := by
   rcases h2 with h2 | ⟨b, o, e, _⟩
   ·exact h2
   ·cases e
  subst hn
  have hxs : xs = [] := List.eq_nil_of_length_eq_zero (by omega)
  subst hxs
  refine wpList_plain hgd fun K hK => ?_
  have hrun := run_append_nil_nil lT op.type eT i cap w hund hi
  unfold Oper.wp
  simp [execOp, ho, resolve, invoke, builtin, hs, hx, hrun, Result.andThen]
  exact hK _ _ (h _ _ (World.ownsRow_nil _ _ _ _) (Ok.refl w))
 | some ad =>
  by_cases hn : n = 0
  ·subst hn
   have hxs : xs = [] := List.eq_nil_of_length_eq_zero (by omega)
   subst hxs
   refine wpList_append_own_at w hgd s x lT ho base eT i z sz bts hund hi hz hsi hby hzc hsz _ 0 [] hs (World.ownsRow_nil _ _ _ _) ad 0 cap [] hx (by simp) (by intro j u hj; simp at hj) (by simp) (by unfold maxLen; omega) (by omega) hbase ?_
   intro v' w' k1 k2 k3 k4
   exact h v' w' k1 (Ok.grown0 k2)
  ·obtain ⟨b, o, e, hl, hc⟩ := h2.resolve_left hn
   cases e
   refine wpList_append_own_at w hgd s x lT ho base eT i z sz bts hund hi hz hsi hby hzc hsz _ 0 [] hs (World.ownsRow_nil _ _ _ _) ⟨b, o, none⟩ n cap xs hx h0 (by intro j u hj; rw [add_off]; exact hc j u hj) h1 (by unfold maxLen; omega) (by have : (0 + n) * bts ≤ 1000000 * 56 := Nat.mul_le_mul (by omega) hbt; omega) hbase ?_
   intro v' w' k1 k2 k3 k4
   rw [Nat.zero_add, List.nil_append] at k1
   exact h v' w' k1 (Ok.grown0 k2)
theorem infFN : (Tryd.prog.info? 58).map (fun i => (i.zero, i.size, i.bytes)) = some (some (.agg #[.int .i64 0, .int .i64 0, .string ⟨#[]⟩, .int .i64 0, .int .i64 0, .int .i64 0]), 6, 56) := by kernel_rfl
set_option maxHeartbeats 2000000 in
theorem freshN_any (v : Value) (n : Nat) (xs : List Value) (w : World) (h : SL w 6 v n xs) (hn : n ≤ 1000000) :
  Calls Tryd.prog 37 #[v] w fun e w' => ∃ v', e = .returned v' ∧ w'.ownsRow w.heap.size 58 6 v' n xs ∧ Ok w w' := by
 have H : Hid (SL w 6 v n xs) := h
 obtain ⟨_, _, ao, cap, rfl, _⟩ := h
 go_enter Tryd.func37, Tryd.ntmps37
 go_wp2_with (first
  | (at_builtin; refine wpList_append_sl rfl _ _ 23 58 6 56 _ rfl Tryd.underlying23 infFN (by rfl) (by decide) (by decide) w.heap.size (by rfl) _ n xs (by rfl) H.out hn (Nat.le_refl _) ?_; intro v' w' k1 k2; have HK : Hid (w'.ownsRow w.heap.size 58 6 v' n xs ∧ Ok w w') := ⟨k1, k2⟩; clear k1 k2)
  | fail)
 go_ret
 exact ⟨_, rfl, HK.out.1, HK.out.2⟩
theorem infFS : (Tryd.prog.info? 9).map (fun i => (i.zero, i.size, i.bytes)) = some (some (.string ⟨#[]⟩), 1, 16) := by kernel_rfl
set_option maxHeartbeats 2000000 in
theorem freshS_any (v : Value) (n : Nat) (xs : List Value) (w : World) (h : SL w 1 v n xs) (hn : n ≤ 1000000) :
  Calls Tryd.prog 38 #[v] w fun e w' => ∃ v', e = .returned v' ∧ w'.ownsRow w.heap.size 9 1 v' n xs ∧ Ok w w' := by
 have H : Hid (SL w 1 v n xs) := h
 obtain ⟨_, _, ao, cap, rfl, _⟩ := h
 go_enter Tryd.func38, Tryd.ntmps38
 go_wp2_with (first
  | (at_builtin; refine wpList_append_sl rfl _ _ 24 9 1 16 _ rfl Tryd.underlying24 infFS (by rfl) (by decide) (by decide) w.heap.size (by rfl) _ n xs (by rfl) H.out hn (Nat.le_refl _) ?_; intro v' w' k1 k2; have HK : Hid (w'.ownsRow w.heap.size 9 1 v' n xs ∧ Ok w w') := ⟨k1, k2⟩; clear k1 k2)
  | fail)
 go_ret
 exact ⟨_, rfl, HK.out.1, HK.out.2⟩
theorem infFA : (Tryd.prog.info? 64).map (fun i => (i.zero, i.size, i.bytes)) = some (some (.agg #[.string ⟨#[]⟩, .int .i64 0]), 2, 24) := by kernel_rfl
set_option maxHeartbeats 2000000 in
theorem freshA_any (v : Value) (n : Nat) (xs : List Value) (w : World) (h : SL w 2 v n xs) (hn : n ≤ 1000000) :
  Calls Tryd.prog 39 #[v] w fun e w' => ∃ v', e = .returned v' ∧ w'.ownsRow w.heap.size 64 2 v' n xs ∧ Ok w w' := by
 have H : Hid (SL w 2 v n xs) := h
 obtain ⟨_, _, ao, cap, rfl, _⟩ := h
 go_enter Tryd.func39, Tryd.ntmps39
 go_wp2_with (first
  | (at_builtin; refine wpList_append_sl rfl _ _ 25 64 2 24 _ rfl Tryd.underlying25 infFA (by rfl) (by decide) (by decide) w.heap.size (by rfl) _ n xs (by rfl) H.out hn (Nat.le_refl _) ?_; intro v' w' k1 k2; have HK : Hid (w'.ownsRow w.heap.size 64 2 v' n xs ∧ Ok w w') := ⟨k1, k2⟩; clear k1 k2)
  | fail)
 go_ret
 exact ⟨_, rfl, HK.out.1, HK.out.2⟩
theorem infFI : (Tryd.prog.info? 3).map (fun i => (i.zero, i.size, i.bytes)) = some (some (.int .i64 0), 1, 8) := by kernel_rfl
set_option maxHeartbeats 2000000 in
theorem freshI_any (v : Value) (n : Nat) (xs : List Value) (w : World) (h : SL w 1 v n xs) (hn : n ≤ 1000000) :
  Calls Tryd.prog 40 #[v] w fun e w' => ∃ v', e = .returned v' ∧ w'.ownsRow w.heap.size 3 1 v' n xs ∧ Ok w w' := by
 have H : Hid (SL w 1 v n xs) := h
 obtain ⟨_, _, ao, cap, rfl, _⟩ := h
 go_enter Tryd.func40, Tryd.ntmps40
 go_wp2_with (first
  | (at_builtin; refine wpList_append_sl rfl _ _ 26 3 1 8 _ rfl Tryd.underlying26 infFI (by rfl) (by decide) (by decide) w.heap.size (by rfl) _ n xs (by rfl) H.out hn (Nat.le_refl _) ?_; intro v' w' k1 k2; have HK : Hid (w'.ownsRow w.heap.size 3 1 v' n xs ∧ Ok w w') := ⟨k1, k2⟩; clear k1 k2)
  | fail)
 go_ret
 exact ⟨_, rfl, HK.out.1, HK.out.2⟩
end
end Go.Proofs.YtklkpaekdpaloaaDoor
