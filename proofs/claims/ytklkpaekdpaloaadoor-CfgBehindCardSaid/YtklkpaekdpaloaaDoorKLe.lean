import Derived.Test.YtklkpaekdpaloaaDoorKLb
set_option linter.unusedVariables false
set_option linter.unusedSimpArgs false
set_option linter.unnecessarySimpa false
namespace Go.Proofs.YtklkpaekdpaloaaDoor
section
open Go.RowKit
def sgs : List ByteArray := [⟨#[60, 61]⟩, ⟨#[62, 61]⟩, ⟨#[61, 61]⟩, ⟨#[33, 61]⟩, ⟨#[38, 38]⟩, ⟨#[124, 124]⟩, ⟨#[58, 61]⟩, ⟨#[43]⟩, ⟨#[45]⟩, ⟨#[42]⟩, ⟨#[47]⟩, ⟨#[37]⟩, ⟨#[60]⟩, ⟨#[62]⟩, ⟨#[33]⟩, ⟨#[40]⟩, ⟨#[41]⟩, ⟨#[91]⟩, ⟨#[93]⟩, ⟨#[123]⟩, ⟨#[125]⟩, ⟨#[59]⟩]
set_option maxHeartbeats 2000000 in
theorem signs_any (w : World) : Calls Tryd.prog 73 #[] w fun e w' => e = .returned (.slice (some ⟨w.heap.size, 0, none⟩) 22 22) ∧ w' = w.alloc (.cells (sgs.map Value.string).toArray 9) := by
 go_enter Tryd.func73, Tryd.ntmps73
 go_wp2_with fail
 go_ret
 exact ⟨rfl, rfl⟩
def okc (c : UInt8) : Bool := isLet c || isDig c
def signF : List ByteArray → List UInt8 → Option ByteArray
 | [], _ => none
 | x :: r, l => if x.toList == l.take x.size && decide (x.size ≤ l.length) then some x else signF r l
def pieceS (l : List UInt8) : Nat ⊕ (Nat × List UInt8 × Int) :=
 match l with
 | [] => .inl 20
 | c :: r =>
  if isLet c then (if 16 < runF okc l then .inl 21 else .inr (0, l.take (runF okc l), 0))
  else if isDig c then
   (if !smallS (l.take (runF isDig l)) || ((l.drop (runF isDig l)).head?.map isLet).getD false then .inl 22 else .inr (1, l.take (runF isDig l), valF 0 (l.take (runF isDig l))))
  else match signF sgs l with
   | none => .inl 20
   | some x => .inr (2, x.toList, 0)
def tok0 : Value := .agg #[.int .i64 0, .string ⟨#[]⟩, .int .i64 0, .int .i64 0]
def PieceIs (l : List UInt8) (i : Nat) (e : Ending) : Prop :=
 match pieceS l with
 | .inl err => e = .returned (.tuple #[tok0, .int .i64 (err : Nat)])
 | .inr (k, t, n) => ∃ b : ByteArray, b.toList = t ∧ e = .returned (.tuple #[.agg #[.int .i64 (k : Nat), .string b, .int .i64 n, .int .i64 (i : Nat)], .int .i64 0])
theorem row_set4 {w : World} {g : Nat} {a b c d : Value} {t : TypeId} (hg : w.heap[g]? = some (.cells #[a, b, c, d] t (0, 0))) (x y z u : Value) : ((((w.setCell ⟨g, 0, none⟩ x).setCell ⟨g, 1, none⟩ y).setCell ⟨g, 2, none⟩ z).setCell ⟨g, 3, none⟩ u).heap[g]? = some (.cells #[x, y, z, u] t (0, 0)) := by
 have h1 := heap_setCell_same w g 0 _ t x hg
 have h2 := heap_setCell_same _ g 1 _ t y h1
 have h3 := heap_setCell_same _ g 2 _ t z h2
 have h4 := heap_setCell_same _ g 3 _ t u h3
 simpa using h4
theorem row4_facts {w : World} {g : Nat} {a b c d : Value} {t : TypeId} (h : w.heap[g]? = some (.cells #[a, b, c, d] t (0, 0))) :
  w.cell? ⟨g, 0, none⟩ = some a ∧ w.cell? ⟨g, 1, none⟩ = some b ∧ w.cell? ⟨g, 2, none⟩ = some c ∧ w.cell? ⟨g, 3, none⟩ = some d ∧ w.frozen? ⟨g, 0, none⟩ = false ∧ w.frozen? ⟨g, 1, none⟩ = false ∧ w.frozen? ⟨g, 2, none⟩ = false ∧ w.frozen? ⟨g, 3, none⟩ = false := by
 refine ⟨?_, ?_, ?_, ?_, frozen_of_row _ _ _ _ _ h, frozen_of_row _ _ _ _ _ h, frozen_of_row _ _ _ _ _ h, frozen_of_row _ _ _ _ _ h⟩
 ·exact (cell_of_row _ _ 0 _ _ _ h).trans (by simp)
 ·exact (cell_of_row _ _ 1 _ _ _ h).trans (by simp)
 ·exact (cell_of_row _ _ 2 _ _ _ h).trans (by simp)
 ·exact (cell_of_row _ _ 3 _ _ _ h).trans (by simp)
theorem infoTok : (Tryd.prog.info? 110).map (·.size) = some 4 := by kernel_rfl
def Z4 (w : World) : World := w.alloc (.cells #[.int .i64 0, .string ⟨#[]⟩, .int .i64 0, .int .i64 0] 110)
theorem Z4_row (w : World) : (Z4 w).heap[w.heap.size]? = some (.cells #[.int .i64 0, .string ⟨#[]⟩, .int .i64 0, .int .i64 0] 110 (0, 0)) := heap_new0 _ _
theorem Z4_ok (w : World) (x y z u : Value) : Ok w ((((Z4 w).setCell ⟨w.heap.size, 0, none⟩ x).setCell ⟨w.heap.size, 1, none⟩ y).setCell ⟨w.heap.size, 2, none⟩ z |>.setCell ⟨w.heap.size, 3, none⟩ u) :=
 (((((Ok.refl w).alloc _).set (p := ⟨w.heap.size, 0, none⟩) (Nat.le_refl _) _).set (p := ⟨w.heap.size, 1, none⟩) (Nat.le_refl _) _).set (p := ⟨w.heap.size, 2, none⟩) (Nat.le_refl _) _).set (p := ⟨w.heap.size, 3, none⟩) (Nat.le_refl _) _
set_option maxRecDepth 100000 in
set_option maxHeartbeats 4000000 in
theorem piece_word (s : ByteArray) (i : Nat) (hi : i < s.size) (hs : s.size ≤ 1000000) (hl : isLet s[i] = true) (w : World) :
  Calls Tryd.prog 43 #[.string s, .int .i64 (i : Nat)] w fun e w' => PieceIs (s.toList.drop i) i e ∧ Ok w w' := by
 have hi' : (i : Int) < (s.size : Int) := by omega
 obtain ⟨c, hc⟩ : ∃ c, c = s[i] := ⟨_, rfl⟩
 have HD : Hid (s.toList.drop i = c :: s.toList.drop (i + 1)) := by unfold Hid; rw [hc]; exact bdrop_cons s i hi
 have hci : (s[i].toNat : Int) = (c.toNat : Int) := by rw [hc]
 have hlc : isLet c = true := by rw [hc]; exact hl
 have HI : Hid (i < s.size) := hi
 obtain ⟨n, hn⟩ : ∃ n, n = runF okc (s.toList.drop i) := ⟨_, rfl⟩
 have HP : Hid (pieceS (s.toList.drop i) = if 16 < n then .inl 21 else .inr (0, (s.toList.drop i).take n, 0)) := by
  unfold Hid
  rw [hn, HD.out]
  simp only [pieceS, hlc, if_true]
 have HN : Hid (n = runF okc (s.toList.drop i)) := hn
 clear hn hc hl
 go_enter Tryd.func43, Tryd.ntmps43
 go_wp2_with (go_at_call 69; refine (rletter_any c _).mono ?_; rintro e w1 ⟨rfl, hw⟩; replace hw := hw.symm; subst hw; rw [hlc])
 obtain ⟨W, hW⟩ : ∃ W, W = Z4 w := ⟨_, rfl⟩
 have hW' : W = w.alloc (.cells #[.int .i64 0, .string ⟨#[]⟩, .int .i64 0, .int .i64 0] 110) := hW
 rw [← hW']
 have HR : Hid (W.heap[w.heap.size]? = some (.cells #[.int .i64 0, .string ⟨#[]⟩, .int .i64 0, .int .i64 0] 110 (0, 0))) := by unfold Hid; rw [hW]; exact Z4_row w
 have HW : Hid (W = Z4 w) := hW
 clear hW hW'
 go_loopw [6] (fun x wr => ∃ (j : Nat), i ≤ j ∧ j ≤ s.size ∧ x = .int .i64 (j : Nat) ∧ Hid (n = (j - i) + runF okc (s.toList.drop j)) ∧ wr = W) (fun x _ => ((s.size : Int) - intOf x).toNat)
 case atStart => exact ⟨i, Nat.le_refl _, Nat.le_of_lt HI.out, rfl, by unfold Hid; rw [HN.out]; omega, rfl⟩
 case round =>
  obtain ⟨j, hij, hj, rfl, HJ, rfl⟩ := hrel
  clear hi' hci hlc hi
  by_cases hjl : j < s.size
  ·have hjl' : (j : Int) < (s.size : Int) := cast_lt' hjl
   have hjw : IntKind.i64.wrap ((j : Int) + 1) = ((j + 1 : Nat) : Int) := kw_bnd (by omega)
   obtain ⟨d, hd⟩ : ∃ d, d = s[j] := ⟨_, rfl⟩
   have hdi : (s[j].toNat : Int) = (d.toNat : Int) := by rw [hd]
   cases ho : okc d with
   | true =>
    have HE : Hid (n = (j + 1 - i) + runF okc (s.toList.drop (j + 1))) := by
     unfold Hid; rw [HJ.out, run_yes hjl (by rw [← hd]; exact ho)]; omega
    clear hd
    cases hdl : isLet d with
    | true =>
     clear ho
     go_wp2_with (go_at_call 69; refine (rletter_any d _).mono ?_; rintro e w1 ⟨rfl, hw⟩; replace hw := hw.symm; subst hw; rw [hdl])
     go_roundw
     case rel => exact ⟨j + 1, by omega, hjl, rfl, HE, trivial⟩
     case measure => exact meas hjl
    | false =>
     have hdd : isDig d = true := by unfold okc at ho; rw [hdl] at ho; simpa using ho
     clear ho
     go_wp2_with (first | (go_at_call 69; refine (rletter_any d _).mono ?_; rintro e w1 ⟨rfl, hw⟩; replace hw := hw.symm; subst hw; rw [hdl]) | (go_at_call 70; refine (rdigit_any d _).mono ?_; rintro e w1 ⟨rfl, hw⟩; replace hw := hw.symm; subst hw; rw [hdd]) | fail)
     go_roundw
     case rel => exact ⟨j + 1, by omega, hjl, rfl, HE, trivial⟩
     case measure => exact meas hjl
   | false =>
    have HE : Hid (n = j - i) := by
     unfold Hid; rw [HJ.out, run_no hjl (by rw [← hd]; exact ho)]; omega
    have hdl : isLet d = false := by unfold okc at ho; cases h : isLet d <;> simp_all
    have hdd : isDig d = false := by unfold okc at ho; cases h : isDig d <;> simp_all
    clear hd ho
    have hnw : IntKind.i64.wrap ((j : Int) - (i : Int)) = (n : Int) := wrap_nat (by have := HE.out; omega) (by have := HE.out; omega)
    have hijI : (i : Int) ≤ (j : Int) := by omega
    obtain ⟨f0, f1, f2, f3, z0, z1, z2, z3⟩ := row4_facts HR.out
    have hlt := lt_row HR.out
    by_cases h16 : 16 < n
    ·have h16' : (16 : Int) < (n : Int) := by omega
     have HPP : Hid (pieceS (s.toList.drop i) = .inl 21) := by unfold Hid; rw [HP.out, if_pos h16]
     clear h16
     go_wp2_with (first | (go_at_call 69; refine (rletter_any d _).mono ?_; rintro e w1 ⟨rfl, hw⟩; replace hw := hw.symm; subst hw; rw [hdl]) | (go_at_call 70; refine (rdigit_any d _).mono ?_; rintro e w1 ⟨rfl, hw⟩; replace hw := hw.symm; subst hw; rw [hdd]) | fail)
     (try simp only [Exit.inBlock, Exit.then]); refine bodyPost_ret (results_iv rfl _ _ (w.heap.size) 110 #[_, _, _, _] (0, 0) _ rfl (row_set4 HR.out _ _ _ _) Tryd.underlying110 rfl infoTok) rfl ?_
     refine ⟨?_, by rw [HW.out]; exact Z4_ok w _ _ _ _⟩
     unfold PieceIs
     rw [HPP.out]
     rfl
    ·have h16' : ¬ (16 : Int) < (n : Int) := by omega
     have HPP : Hid (pieceS (s.toList.drop i) = .inr (0, (s.toList.drop i).take n, 0)) := by unfold Hid; rw [HP.out, if_neg h16]
     clear h16
     go_wp2_with (first | (go_at_call 69; refine (rletter_any d _).mono ?_; rintro e w1 ⟨rfl, hw⟩; replace hw := hw.symm; subst hw; rw [hdl]) | (go_at_call 70; refine (rdigit_any d _).mono ?_; rintro e w1 ⟨rfl, hw⟩; replace hw := hw.symm; subst hw; rw [hdd]) | fail)
     (try simp only [Exit.inBlock, Exit.then]); refine bodyPost_ret (results_iv rfl _ _ (w.heap.size) 110 #[_, _, _, _] (0, 0) _ rfl (row_set4 HR.out _ _ _ _) Tryd.underlying110 rfl infoTok) rfl ?_
     refine ⟨?_, by rw [HW.out]; exact Z4_ok w _ _ _ _⟩
     unfold PieceIs
     rw [HPP.out]
     exact ⟨s.extract i j, by rw [toList_ext, HE.out], rfl⟩
  ·have hjl' : ¬ (j : Int) < (s.size : Int) := cast_nlt hjl
   have HE : Hid (n = j - i) := by unfold Hid; rw [HJ.out, run_end hjl]; omega
   have hnw : IntKind.i64.wrap ((j : Int) - (i : Int)) = (n : Int) := wrap_nat (by have := HE.out; omega) (by have := HE.out; omega)
   have hijI : (i : Int) ≤ (j : Int) := by omega
   obtain ⟨f0, f1, f2, f3, z0, z1, z2, z3⟩ := row4_facts HR.out
   have hlt := lt_row HR.out
   by_cases h16 : 16 < n
   ·have h16' : (16 : Int) < (n : Int) := by omega
    have HPP : Hid (pieceS (s.toList.drop i) = .inl 21) := by unfold Hid; rw [HP.out, if_pos h16]
    clear h16
    go_wp2_with fail
    (try simp only [Exit.inBlock, Exit.then]); refine bodyPost_ret (results_iv rfl _ _ (w.heap.size) 110 #[_, _, _, _] (0, 0) _ rfl (row_set4 HR.out _ _ _ _) Tryd.underlying110 rfl infoTok) rfl ?_
    refine ⟨?_, by rw [HW.out]; exact Z4_ok w _ _ _ _⟩
    unfold PieceIs
    rw [HPP.out]
    rfl
   ·have h16' : ¬ (16 : Int) < (n : Int) := by omega
    have HPP : Hid (pieceS (s.toList.drop i) = .inr (0, (s.toList.drop i).take n, 0)) := by unfold Hid; rw [HP.out, if_neg h16]
    clear h16
    go_wp2_with fail
    (try simp only [Exit.inBlock, Exit.then]); refine bodyPost_ret (results_iv rfl _ _ (w.heap.size) 110 #[_, _, _, _] (0, 0) _ rfl (row_set4 HR.out _ _ _ _) Tryd.underlying110 rfl infoTok) rfl ?_
    refine ⟨?_, by rw [HW.out]; exact Z4_ok w _ _ _ _⟩
    unfold PieceIs
    rw [HPP.out]
    exact ⟨s.extract i j, by rw [toList_ext, HE.out], rfl⟩
end
section
open Go.RowKit
theorem ext_size (s : ByteArray) {i j : Nat} (h : i ≤ j) (hj : j ≤ s.size) : (s.extract i j).size = j - i := by rw [ByteArray.size_extract]; omega
theorem ext_get (s : ByteArray) {i j k : Nat} (hj : j ≤ s.size) (hk : k < (s.extract i j).size) : (s.extract i j)[k] = s[i + k]'(by rw [ByteArray.size_extract] at hk; omega) := by rw [ByteArray.getElem_extract]
set_option maxRecDepth 100000 in
set_option maxHeartbeats 4000000 in
theorem piece_num (s : ByteArray) (i : Nat) (hi : i < s.size) (hs : s.size ≤ 1000000) (hl : isLet s[i] = false) (hdg : isDig s[i] = true) (w : World) :
  Calls Tryd.prog 43 #[.string s, .int .i64 (i : Nat)] w fun e w' => PieceIs (s.toList.drop i) i e ∧ Ok w w' := by
 have hi' : (i : Int) < (s.size : Int) := by omega
 obtain ⟨c, hc⟩ : ∃ c, c = s[i] := ⟨_, rfl⟩
 have HD : Hid (s.toList.drop i = c :: s.toList.drop (i + 1)) := by unfold Hid; rw [hc]; exact bdrop_cons s i hi
 have hci : (s[i].toNat : Int) = (c.toNat : Int) := by rw [hc]
 have hlc : isLet c = false := by rw [hc]; exact hl
 have hdc : isDig c = true := by rw [hc]; exact hdg
 have HI : Hid (i < s.size) := hi
 obtain ⟨n, hn⟩ : ∃ n, n = runF isDig (s.toList.drop i) := ⟨_, rfl⟩
 have HP : Hid (pieceS (s.toList.drop i) = if (!smallS ((s.toList.drop i).take n) || (((s.toList.drop i).drop n).head?.map isLet).getD false) = true then .inl 22 else .inr (1, (s.toList.drop i).take n, valF 0 ((s.toList.drop i).take n))) := by
  unfold Hid
  rw [hn, HD.out]
  simp only [pieceS, hlc, hdc]
  rfl
 have HN : Hid (n = runF isDig (s.toList.drop i)) := hn
 clear hn hc hl hdg
 go_enter Tryd.func43, Tryd.ntmps43
 go_wp2_with (first | (go_at_call 69; refine (rletter_any c _).mono ?_; rintro e w1 ⟨rfl, hw⟩; replace hw := hw.symm; subst hw; rw [hlc]) | (go_at_call 70; refine (rdigit_any c _).mono ?_; rintro e w1 ⟨rfl, hw⟩; replace hw := hw.symm; subst hw; rw [hdc]) | fail)
 obtain ⟨W, hW⟩ : ∃ W, W = Z4 w := ⟨_, rfl⟩
 have hW' : W = w.alloc (.cells #[.int .i64 0, .string ⟨#[]⟩, .int .i64 0, .int .i64 0] 110) := hW
 rw [← hW']
 have HR : Hid (W.heap[w.heap.size]? = some (.cells #[.int .i64 0, .string ⟨#[]⟩, .int .i64 0, .int .i64 0] 110 (0, 0))) := by unfold Hid; rw [hW]; exact Z4_row w
 have HW : Hid (W = Z4 w) := hW
 clear hW hW'
 go_loopw [6] (fun x wr => ∃ (j : Nat), i ≤ j ∧ j ≤ s.size ∧ x = .int .i64 (j : Nat) ∧ Hid (n = (j - i) + runF isDig (s.toList.drop j) ∧ ∀ k (h : k < s.size), i ≤ k → k < j → isDig s[k] = true) ∧ wr = W) (fun x _ => ((s.size : Int) - intOf x).toNat)
 case atStart => exact ⟨i, Nat.le_refl _, Nat.le_of_lt HI.out, rfl, ⟨by rw [HN.out]; omega, fun k h h1 h2 => by omega⟩, rfl⟩
 case round =>
  obtain ⟨j, hij, hj, rfl, HJ, rfl⟩ := hrel
  clear hi' hci hlc hdc hi
  have hijI : (i : Int) ≤ (j : Int) := by omega
  obtain ⟨f0, f1, f2, f3, z0, z1, z2, z3⟩ := row4_facts HR.out
  have hlt := lt_row HR.out
  have HSZ : Hid ((s.extract i j).size = j - i ∧ (s.extract i j).size ≤ 1000000) := by have := ext_size s hij hj; exact ⟨this, by omega⟩
  have HDG : Hid (∀ k (h : k < (s.extract i j).size), isDig (s.extract i j)[k] = true) := fun k h => by rw [ext_get s hj h]; exact HJ.out.2 _ _ (by omega) (by rw [HSZ.out.1] at h; omega)
  obtain ⟨vl, hvl⟩ : ∃ vl, vl = valF 0 (s.extract i j).toList := ⟨_, rfl⟩
  have HVL : Hid (vl = valF 0 (s.extract i j).toList) := hvl
  clear hvl
  obtain ⟨sm, hsm0⟩ : ∃ sm, sm = smallS (s.extract i j).toList := ⟨_, rfl⟩
  have HS0 : Hid (sm = smallS (s.extract i j).toList) := hsm0
  clear hsm0
  by_cases hjl : j < s.size
  ·have hjl' : (j : Int) < (s.size : Int) := cast_lt' hjl
   have hjw : IntKind.i64.wrap ((j : Int) + 1) = ((j + 1 : Nat) : Int) := kw_bnd (by omega)
   obtain ⟨d, hd⟩ : ∃ d, d = s[j] := ⟨_, rfl⟩
   have hdi : (s[j].toNat : Int) = (d.toNat : Int) := by rw [hd]
   cases hdd : isDig d with
   | true =>
    have HE : Hid (n = (j + 1 - i) + runF isDig (s.toList.drop (j + 1)) ∧ ∀ k (h : k < s.size), i ≤ k → k < j + 1 → isDig s[k] = true) := by
     refine ⟨by rw [HJ.out.1, run_yes hjl (by rw [← hd]; exact hdd)]; omega, fun k h h1 h2 => ?_⟩
     by_cases e : k = j
     ·subst e; rw [← hd]; exact hdd
     ·exact HJ.out.2 k h h1 (by omega)
    clear hd
    go_wp2_with (first | (go_at_call 70; refine (rdigit_any d _).mono ?_; rintro e w1 ⟨rfl, hw⟩; replace hw := hw.symm; subst hw; rw [hdd]) | fail)
    go_roundw
    case rel => exact ⟨j + 1, by omega, hjl, rfl, HE, trivial⟩
    case measure => exact meas hjl
   | false =>
    have HE : Hid (n = j - i) := by
     unfold Hid; rw [HJ.out.1, run_no hjl (by rw [← hd]; exact hdd)]; omega
    have HSM : Hid (sm = smallS ((s.toList.drop i).take n)) := by unfold Hid; rw [HS0.out, toList_ext, HE.out]
    have HHD : Hid ((((s.toList.drop i).drop n).head?.map isLet).getD false = isLet d) := by
     unfold Hid; rw [List.drop_drop, show i + n = j by rw [HE.out]; omega, bdrop_cons s j hjl, ← hd]; rfl
    clear hd
    cases hsmv : sm with
    | false =>
     have hsm : smallS (s.extract i j).toList = false := by rw [← HS0.out]; exact hsmv
     have HPP : Hid (pieceS (s.toList.drop i) = .inl 22) := by
      unfold Hid; rw [HP.out, if_pos]; rw [Bool.or_eq_true]; left; rw [← HSM.out, hsmv]; rfl
     go_wp2_with (first | (go_at_call 70; refine (rdigit_any d _).mono ?_; rintro e w1 ⟨rfl, hw⟩; replace hw := hw.symm; subst hw; rw [hdd]) | (go_at_call 71; refine (small_any (s.extract i j) HSZ.out.2 _).mono ?_; rintro e w1 ⟨rfl, hw⟩; replace hw := hw.symm; subst hw; rw [hsm]) | fail)
     (try simp only [Exit.inBlock, Exit.then]); refine bodyPost_ret (results_iv rfl _ _ (w.heap.size) 110 #[_, _, _, _] (0, 0) _ rfl (row_set4 HR.out _ _ _ _) Tryd.underlying110 rfl infoTok) rfl ?_
     refine ⟨?_, by rw [HW.out]; exact Z4_ok w _ _ _ _⟩
     unfold PieceIs
     rw [HPP.out]
     rfl
    | true =>
     have hsm : smallS (s.extract i j).toList = true := by rw [← HS0.out]; exact hsmv
     cases hdl : isLet d with
     | true =>
      have HPP : Hid (pieceS (s.toList.drop i) = .inl 22) := by
       unfold Hid; rw [HP.out, if_pos]; rw [Bool.or_eq_true]; right; rw [HHD.out, hdl]
      go_wp2_with (first | (go_at_call 70; refine (rdigit_any d _).mono ?_; rintro e w1 ⟨rfl, hw⟩; replace hw := hw.symm; subst hw; rw [hdd]) | (go_at_call 71; refine (small_any (s.extract i j) HSZ.out.2 _).mono ?_; rintro e w1 ⟨rfl, hw⟩; replace hw := hw.symm; subst hw; rw [hsm]) | (go_at_call 69; refine (rletter_any d _).mono ?_; rintro e w1 ⟨rfl, hw⟩; replace hw := hw.symm; subst hw; rw [hdl]) | fail)
      (try simp only [Exit.inBlock, Exit.then]); refine bodyPost_ret (results_iv rfl _ _ (w.heap.size) 110 #[_, _, _, _] (0, 0) _ rfl (row_set4 HR.out _ _ _ _) Tryd.underlying110 rfl infoTok) rfl ?_
      refine ⟨?_, by rw [HW.out]; exact Z4_ok w _ _ _ _⟩
      unfold PieceIs
      rw [HPP.out]
      rfl
     | false =>
      have HPP : Hid (pieceS (s.toList.drop i) = .inr (1, (s.toList.drop i).take n, vl)) := by
       unfold Hid; rw [HP.out, if_neg, HVL.out, toList_ext, HE.out]; rw [Bool.or_eq_true]; rintro (h | h)
       ·rw [← HSM.out, hsmv] at h; cases h
       ·rw [HHD.out, hdl] at h; cases h
      go_wp2_with (first | (go_at_call 70; refine (rdigit_any d _).mono ?_; rintro e w1 ⟨rfl, hw⟩; replace hw := hw.symm; subst hw; rw [hdd]) | (go_at_call 71; refine (small_any (s.extract i j) HSZ.out.2 _).mono ?_; rintro e w1 ⟨rfl, hw⟩; replace hw := hw.symm; subst hw; rw [hsm]) | (go_at_call 69; refine (rletter_any d _).mono ?_; rintro e w1 ⟨rfl, hw⟩; replace hw := hw.symm; subst hw; rw [hdl]) | fail)
      go_region_with (go_at_call 72; refine (value_any (s.extract i j) HSZ.out.2 HDG.out _).mono ?_; rintro e w1 ⟨rfl, hw⟩; replace hw := hw.symm; subst hw; rw [← HVL.out])
      all_goals
       go_wp2_with fail
       (try simp only [Exit.inBlock, Exit.then]); refine bodyPost_ret (results_iv rfl _ _ (w.heap.size) 110 #[_, _, _, _] (0, 0) _ rfl (row_set4 HR.out _ _ _ _) Tryd.underlying110 rfl infoTok) rfl ?_
       refine ⟨?_, by rw [HW.out]; exact (Z4_ok w _ _ _ _).draws 1⟩
       unfold PieceIs
       rw [HPP.out]
       exact ⟨s.extract i j, by rw [toList_ext, HE.out], rfl⟩
  ·have hjl' : ¬ (j : Int) < (s.size : Int) := cast_nlt hjl
   have HE : Hid (n = j - i) := by unfold Hid; rw [HJ.out.1, run_end hjl]; omega
   have HSM : Hid (sm = smallS ((s.toList.drop i).take n)) := by unfold Hid; rw [HS0.out, toList_ext, HE.out]
   have HHD : Hid ((((s.toList.drop i).drop n).head?.map isLet).getD false = false) := by
    unfold Hid; rw [List.drop_drop, show i + n = j by rw [HE.out]; omega, bdrop_end s j hjl]; rfl
   cases hsmv : sm with
   | false =>
    have hsm : smallS (s.extract i j).toList = false := by rw [← HS0.out]; exact hsmv
    have HPP : Hid (pieceS (s.toList.drop i) = .inl 22) := by
     unfold Hid; rw [HP.out, if_pos]; rw [Bool.or_eq_true]; left; rw [← HSM.out, hsmv]; rfl
    go_wp2_with (first | (go_at_call 71; refine (small_any (s.extract i j) HSZ.out.2 _).mono ?_; rintro e w1 ⟨rfl, hw⟩; replace hw := hw.symm; subst hw; rw [hsm]) | fail)
    (try simp only [Exit.inBlock, Exit.then]); refine bodyPost_ret (results_iv rfl _ _ (w.heap.size) 110 #[_, _, _, _] (0, 0) _ rfl (row_set4 HR.out _ _ _ _) Tryd.underlying110 rfl infoTok) rfl ?_
    refine ⟨?_, by rw [HW.out]; exact Z4_ok w _ _ _ _⟩
    unfold PieceIs
    rw [HPP.out]
    rfl
   | true =>
    have hsm : smallS (s.extract i j).toList = true := by rw [← HS0.out]; exact hsmv
    have HPP : Hid (pieceS (s.toList.drop i) = .inr (1, (s.toList.drop i).take n, vl)) := by
     unfold Hid; rw [HP.out, if_neg, HVL.out, toList_ext, HE.out]; rw [Bool.or_eq_true]; rintro (h | h)
     ·rw [← HSM.out, hsmv] at h; cases h
     ·rw [HHD.out] at h; cases h
    go_wp2_with (first | (go_at_call 71; refine (small_any (s.extract i j) HSZ.out.2 _).mono ?_; rintro e w1 ⟨rfl, hw⟩; replace hw := hw.symm; subst hw; rw [hsm]) | fail)
    go_region_with (go_at_call 72; refine (value_any (s.extract i j) HSZ.out.2 HDG.out _).mono ?_; rintro e w1 ⟨rfl, hw⟩; replace hw := hw.symm; subst hw; rw [← HVL.out])
    all_goals
     go_wp2_with fail
     (try simp only [Exit.inBlock, Exit.then]); refine bodyPost_ret (results_iv rfl _ _ (w.heap.size) 110 #[_, _, _, _] (0, 0) _ rfl (row_set4 HR.out _ _ _ _) Tryd.underlying110 rfl infoTok) rfl ?_
     refine ⟨?_, by rw [HW.out]; exact (Z4_ok w _ _ _ _).draws 1⟩
     unfold PieceIs
     rw [HPP.out]
     exact ⟨s.extract i j, by rw [toList_ext, HE.out], rfl⟩
end
section
open Go.RowKit
theorem sgs_size : ∀ b ∈ sgs, 1 ≤ b.size ∧ b.size ≤ 2 := by decide
theorem sgs_len : sgs.length = 22 := rfl
theorem sign_miss {k : Nat} (h : k < 22) {l : List UInt8} (hn : ((sgs[k]'h).toList == l.take (sgs[k]'h).size && decide ((sgs[k]'h).size ≤ l.length)) = false) : signF (sgs.drop k) l = signF (sgs.drop (k + 1)) l := by
 rw [List.drop_eq_getElem_cons h]
 simp only [signF]
 rw [hn]; rfl
theorem sign_hit {k : Nat} (h : k < 22) {l : List UInt8} (hn : ((sgs[k]'h).toList == l.take (sgs[k]'h).size && decide ((sgs[k]'h).size ≤ l.length)) = true) : signF (sgs.drop k) l = some (sgs[k]'h) := by
 rw [List.drop_eq_getElem_cons h]
 simp only [signF]
 rw [hn]; rfl
theorem ba_eq {a b : ByteArray} (h : a.toList = b.toList) : a = b := by
 rw [ByteArray.toList_eq, ByteArray.toList_eq] at h
 cases a; cases b; simp only at h; congr 1; exact Array.toList_inj.1 h
def Z5 (w : World) : World := (Z4 w).alloc (.cells (sgs.map Value.string).toArray 9)
theorem Z5_row (w : World) : (Z5 w).heap[w.heap.size]? = some (.cells #[.int .i64 0, .string ⟨#[]⟩, .int .i64 0, .int .i64 0] 110 (0, 0)) := heap_past _ _ _ (lt_row (Z4_row w)) (Z4_row w)
theorem Z4_size (w : World) : (Z4 w).heap.size = w.heap.size + 1 := Array.size_push _
theorem Z5_sgs (w : World) : (Z5 w).heap[w.heap.size + 1]? = some (.cells (sgs.map Value.string).toArray 9 (0, 0)) := heap_at _ _ _ (Z4_size w).symm
theorem Z5_ok (w : World) : Ok w (Z5 w) := ((Ok.refl w).alloc _).alloc _
theorem sgs_cell {w : World} {g k : Nat} (h : k < 22) (hg : w.heap[g]? = some (.cells (sgs.map Value.string).toArray 9 (0, 0))) : w.cell? ⟨g, k, none⟩ = some (.string (sgs[k]'h)) := by
 have hx : (sgs.map Value.string).toArray[k]? = some (.string (sgs[k]'h)) := by
  rw [List.getElem?_toArray, List.getElem?_map, List.getElem?_eq_getElem (show k < sgs.length from h)]; rfl
 exact (cell_of_row _ _ k _ _ _ hg).trans hx
theorem sign_is {s : ByteArray} {i : Nat} {b : ByteArray} (h : i + b.size ≤ s.size) : (b.toList == (s.toList.drop i).take b.size && decide (b.size ≤ (s.toList.drop i).length)) = ((s.extract i (i + b.size)).toList == b.toList) := by
 rw [toList_ext, show i + b.size - i = b.size by omega, decide_eq_true (by rw [List.length_drop, toList_len]; omega), Bool.and_true]
 exact BEq.comm
theorem sign_far {s : ByteArray} {i : Nat} {b : ByteArray} (hi : i < s.size) (h : ¬ i + b.size ≤ s.size) : (b.toList == (s.toList.drop i).take b.size && decide (b.size ≤ (s.toList.drop i).length)) = false := by
 rw [decide_eq_false (by rw [List.length_drop, toList_len]; omega), Bool.and_false]
theorem ok_set4 {w w1 : World} (h : Ok w w1) (x y z u : Value) : Ok w ((((w1.setCell ⟨w.heap.size, 0, none⟩ x).setCell ⟨w.heap.size, 1, none⟩ y).setCell ⟨w.heap.size, 2, none⟩ z).setCell ⟨w.heap.size, 3, none⟩ u) :=
 (((h.set (p := ⟨w.heap.size, 0, none⟩) (Nat.le_refl _) _).set (p := ⟨w.heap.size, 1, none⟩) (Nat.le_refl _) _).set (p := ⟨w.heap.size, 2, none⟩) (Nat.le_refl _) _).set (p := ⟨w.heap.size, 3, none⟩) (Nat.le_refl _) _
theorem meas22 {k : Nat} (h : k < 22) : ((22 : Int) - intOf (.int .i64 ((k : Int) + 1))).toNat < ((22 : Int) - intOf (.int .i64 (k : Int))).toNat := by simp only [intOf]; omega
def SW (w wr : World) : Prop := Ok w wr ∧ wr.heap[w.heap.size]? = some (.cells #[.int .i64 0, .string ⟨#[]⟩, .int .i64 0, .int .i64 0] 110 (0, 0)) ∧ wr.heap[w.heap.size + 1]? = some (.cells (sgs.map Value.string).toArray 9 (0, 0))
theorem SW.draws {w wr : World} (h : SW w wr) (n : Nat) : SW w (wr.drewN n) := ⟨h.1.draws n, h.2.1, h.2.2⟩
set_option maxRecDepth 100000 in
set_option maxHeartbeats 4000000 in
theorem piece_sign (s : ByteArray) (i : Nat) (hi : i < s.size) (hs : s.size ≤ 1000000) (hl : isLet s[i] = false) (hdg : isDig s[i] = false) (w : World) :
  Calls Tryd.prog 43 #[.string s, .int .i64 (i : Nat)] w fun e w' => PieceIs (s.toList.drop i) i e ∧ Ok w w' := by
 have hi' : (i : Int) < (s.size : Int) := by omega
 obtain ⟨c, hc⟩ : ∃ c, c = s[i] := ⟨_, rfl⟩
 have HD : Hid (s.toList.drop i = c :: s.toList.drop (i + 1)) := by unfold Hid; rw [hc]; exact bdrop_cons s i hi
 have hci : (s[i].toNat : Int) = (c.toNat : Int) := by rw [hc]
 have hlc : isLet c = false := by rw [hc]; exact hl
 have hdc : isDig c = false := by rw [hc]; exact hdg
 have HI : Hid (i < s.size) := hi
 have HP : Hid (pieceS (s.toList.drop i) = match signF sgs (s.toList.drop i) with | none => .inl 20 | some x => .inr (2, x.toList, 0)) := by
  unfold Hid
  rw [HD.out]
  simp only [pieceS, hlc, hdc]
  rfl
 clear hc hl hdg
 go_enter Tryd.func43, Tryd.ntmps43
 go_wp2_with (first | (go_at_call 69; refine (rletter_any c _).mono ?_; rintro e w1 ⟨rfl, hw⟩; replace hw := hw.symm; subst hw; rw [hlc]) | (go_at_call 70; refine (rdigit_any c _).mono ?_; rintro e w1 ⟨rfl, hw⟩; replace hw := hw.symm; subst hw; rw [hdc]) | (go_at_call 73; refine (signs_any _).mono ?_; rintro e w1 ⟨rfl, rfl⟩) | fail)
 obtain ⟨W, hW⟩ : ∃ W, W = Z5 w := ⟨_, rfl⟩
 have hW' : W = (w.alloc (.cells #[.int .i64 0, .string ⟨#[]⟩, .int .i64 0, .int .i64 0] 110)).alloc (.cells (sgs.map Value.string).toArray 9) := hW
 rw [← hW']
 have HW : Hid (SW w W) := by unfold Hid; rw [hW]; exact ⟨Z5_ok w, Z5_row w, Z5_sgs w⟩
 clear hW hW'
 go_loopw [8] (fun x wr => ∃ (k : Nat), k ≤ 22 ∧ x = .int .i64 (k : Nat) ∧ Hid (signF sgs (s.toList.drop i) = signF (sgs.drop k) (s.toList.drop i)) ∧ Hid (SW w wr)) (fun x _ => ((22 : Int) - intOf x).toNat)
 case atStart => exact ⟨0, Nat.zero_le _, rfl, rfl, HW⟩
 case round =>
  obtain ⟨k, hk, rfl, HK, HW⟩ := hrel
  clear hi' hci hlc hdc hi
  obtain ⟨f0, f1, f2, f3, z0, z1, z2, z3⟩ := row4_facts HW.out.2.1
  have hlt := lt_row HW.out.2.1
  by_cases hkl : k < 22
  ·have hkl' : (k : Int) < 22 := by omega
   have hkw : IntKind.i64.wrap ((k : Int) + 1) = ((k + 1 : Nat) : Int) := kw_bnd (by omega)
   have hcell := sgs_cell hkl HW.out.2.2
   obtain ⟨b, hb⟩ : ∃ b, b = sgs[k]'hkl := ⟨_, rfl⟩
   rw [← hb] at hcell
   have HB : Hid (b = sgs[k]'hkl ∧ 1 ≤ b.size ∧ b.size ≤ 2) := ⟨hb, sgs_size b (by rw [hb]; exact List.getElem_mem _)⟩
   clear hb
   obtain ⟨m, hm⟩ : ∃ m, m = i + b.size := ⟨_, rfl⟩
   have hbw : IntKind.i64.wrap ((i : Int) + (b.size : Int)) = (m : Int) := wrap_nat (by omega) (by have := HB.out; have := HI.out; omega)
   have hib : (i : Int) ≤ (m : Int) := by omega
   have HM : Hid (m = i + b.size) := hm
   clear hm
   by_cases hle : m ≤ s.size
   ·have hle' : decide (m ≤ s.size) = true := decide_eq_true hle
    have hleI : (m : Int) ≤ (s.size : Int) := by omega
    have HS := sign_is (b := b) (i := i) (s := s) (by rw [← HM.out]; exact hle)
    rw [← HM.out] at HS
    cases he : ((s.extract i m).toList == b.toList) with
    | true =>
     have HPP : Hid (pieceS (s.toList.drop i) = .inr (2, b.toList, 0)) := by
      unfold Hid; rw [HP.out, HK.out, sign_hit hkl (by rw [← HB.out.1, HS, he]), HB.out.1]
     clear HS
     go_wp2_with fail
     go_quiet (fail)
     go_wp2_with fail
     (try simp only [Exit.inBlock, Exit.then]); refine bodyPost_ret (results_iv rfl _ _ (w.heap.size) 110 #[_, _, _, _] (0, 0) _ rfl (row_set4 (HW.out.draws _).2.1 _ _ _ _) Tryd.underlying110 rfl infoTok) rfl ?_
     refine ⟨?_, ok_set4 (HW.out.draws _).1 _ _ _ _⟩
     unfold PieceIs
     rw [HPP.out]
     exact ⟨b, rfl, rfl⟩
    | false =>
     have HN : Hid (signF sgs (s.toList.drop i) = signF (sgs.drop (k + 1)) (s.toList.drop i)) := by
      unfold Hid; rw [HK.out, sign_miss hkl (by rw [← HB.out.1, HS, he])]
     clear HS
     go_wp2_with fail
     go_quiet (fail)
     go_wp2_with fail
     exact ⟨⟨k + 1, hkl, rfl, HN, HW.out.draws _⟩, meas22 hkl⟩
   ·have hle' : decide (m ≤ s.size) = false := decide_eq_false hle
    have hleI : ¬ (m : Int) ≤ (s.size : Int) := by omega
    have HN : Hid (signF sgs (s.toList.drop i) = signF (sgs.drop (k + 1)) (s.toList.drop i)) := by
     unfold Hid; rw [HK.out, sign_miss hkl (by rw [← HB.out.1]; exact sign_far HI.out (by rw [← HM.out]; exact hle))]
    go_wp2_with fail
    go_quiet (fail)
    go_wp2_with fail
    exact ⟨⟨k + 1, hkl, rfl, HN, HW.out.draws _⟩, meas22 hkl⟩
  ·have hk22 : k = 22 := by omega
   subst hk22
   have HPP : Hid (pieceS (s.toList.drop i) = .inl 20) := by unfold Hid; rw [HP.out, HK.out]; rfl
   go_wp2_with fail
   (try simp only [Exit.inBlock, Exit.then]); refine bodyPost_ret (results_iv rfl _ _ (w.heap.size) 110 #[_, _, _, _] (0, 0) _ rfl (row_set4 HW.out.2.1 _ _ _ _) Tryd.underlying110 rfl infoTok) rfl ?_
   refine ⟨?_, ok_set4 HW.out.1 _ _ _ _⟩
   unfold PieceIs
   rw [HPP.out]
   rfl
theorem piece_any (s : ByteArray) (i : Nat) (hi : i < s.size) (hs : s.size ≤ 1000000) (w : World) :
  Calls Tryd.prog 43 #[.string s, .int .i64 (i : Nat)] w fun e w' => PieceIs (s.toList.drop i) i e ∧ Ok w w' := by
 cases hl : isLet s[i] with
 | true => exact piece_word s i hi hs hl w
 | false =>
  cases hd : isDig s[i] with
  | true => exact piece_num s i hi hs hl hd w
  | false => exact piece_sign s i hi hs hl hd w
end
end Go.Proofs.YtklkpaekdpaloaaDoor
