import Derived.Test.YtbndcaglohfnbaaGreatDoorVE
import Derived.Deep.Strs
import Derived.Carry
set_option linter.unusedVariables false
set_option linter.unusedSimpArgs false
set_option linter.unnecessarySimpa false
namespace Go.Proofs.YtbndcaglohfnbaaGreatDoor.cfgTexts
open Go.ChangeShapes Go.WideShapes Go.ChangeAt Go.RowKit
open Go.ChangeMaps (open_string shut_string)
open Go.Deep
set_option maxRecDepth 100000 in
theorem laidOut : laidOutB Tryz.prog = true := by kernel_rfl
theorem strs_in {H : Type} {enc : TypeId × Value → H} {w : World} {fuel : Nat} {held : Bool} {a : Option Addr} {len cap : Nat} {x : DataW H × List MemPlace} (h : DataW.trod enc Tryz.prog w 0 (fun _ => true) held fuel 24 (Value.slice a len cap).cells.toList = some x) : ∃ l : List ByteArray, SStr w (.slice a len cap) l := by
 rcases open_strs (e := 9) Tryz.underlying24 Tryz.underlying9 (by kernel_rfl) h with ⟨hcs, hx⟩ | ⟨ad, len', cap', m, Sx, hcs, _, hl, hcm, hmm, hx, hat⟩
 ·have hcs' : Value.slice a len cap = .slice none 0 0 := by simpa [Value.cells] using hcs
  injection hcs' with e1 e2 e3
  subst e1 e2 e3
  exact ⟨[], Nat.zero_le _, none, 0, rfl, .inl rfl⟩
 ·have hcs' : Value.slice a len cap = .slice (some ad) len' cap' := by simpa [Value.cells] using hcs
  injection hcs' with e1 e2 e3
  subst e1 e2 e3
  simp only [if_true] at hmm
  subst hmm
  refine ⟨(List.range len).map Sx, by simp; omega, some ad, m, by simp, ?_⟩
  by_cases c : len = 0
  ·left; rw [c]; rfl
  ·right
   obtain ⟨b, o, y⟩ := ad
   have h0 := (hat 0 (by omega)).1
   have hy : y = none := by simpa [Addr.add] using World.cell?_spot h0
   subst hy
   have key : ∀ i, i < m → w.cell? ⟨b, o + i, none⟩ = some (.string (Sx i)) := fun i hi => by
    have h9 := (hat i hi).1
    rw [Go.WideShapes.add_plain] at h9
    exact h9
   refine ⟨b, o, rfl, ⟨?_, fun i hi => ?_⟩⟩
   ·have h1 := key 0 (by omega)
    rcases Nat.lt_or_ge b w.heap.size with hh | hh
    ·exact hh
    ·simp [World.cell?, Array.getElem?_eq_none hh] at h1
   ·simp at hi ⊢
    exact key i (by omega)
set_option maxRecDepth 100000 in
theorem lifted (os : Os) (started : os.Started) (H : Type) (enc : TypeId × Value → H) :
  ReturnsInHanded {} Tryz.checked os 5 .any (fun w args => (Rows.cfgTextsSpec.pre enc Tryz.prog Tryz.f5 [] false w args ∧ laidMetH Tryz.prog Rows.cfgRefusesRow.laid w) ∧ sizedMet enc Tryz.prog Tryz.f5 (OpenSpec.ofChange Rows.cfgTextsSpec) false w args)
   (Rows.cfgTextsSpec.post enc Tryz.prog Tryz.f5 false true false false) := by
 refine returnsInHanded_of_change_and (C := Tryz.checked) (X := fun w _ => laidMetH Tryz.prog Rows.cfgRefusesRow.laid w) (fun _ _ _ hh h => h.of_heap hh) own started (by kernel_rfl) Tryz.func5
  (ChangeSpec.witness_shaped (enc := enc) (C := Tryz.checked) (os := os) (X := fun w _ => laidMetH Tryz.prog Rows.cfgRefusesRow.laid w) false (World.doorLaid Tryz.prog 4000 os) #[.slice none 0 0] 8 rfl (World.shaped_of_RefB (by kernel_rfl) (by kernel_rfl)) (by kernel_rfl) (by kernel_rfl) (by kernel_rfl) (door_met os _)) ?_
 intro W base args ds gs before hval0 hW _ _ hL _
 have hval : ∀ (j : Nat) t v, Tryz.f5.params[j]? = some t → args[j]? = some v → Value.okWide Tryz.prog W .any base t v := hval0
 have hW' := hW
 obtain ⟨p, q, hA0, hV, rfl, hfz, hnd⟩ := hW
 have hA : DataW.TrodAll enc Tryz.prog W 0 (fun _ => true) true Tryz.f5.params.toList args.toList ds p := hA0
 rw [Tryz.params5] at hA hval
 obtain ⟨v0, vs0, d0, ds0, p0, q0, hargs, rfl, rfl, h0, r0⟩ := trodAll_cons hA
 obtain ⟨rfl, rfl, rfl⟩ := trodAll_nil r0
 obtain rfl : args = #[v0] := by cases args; simp_all
 obtain ⟨rfl, rfl⟩ := trodVars_none hV
 have h0k := h0
 obtain ⟨b0, len0, cap0, rfl⟩ := okWide_slice Tryz.underlying24 (hval 0 24 v0 rfl rfl)
 obtain ⟨fuel0, hf0⟩ := h0
 have hlt0 : ∀ y ∈ p0, y.block < W.heap.size := fun y hy => hW'.lt y (by simp [hy])
 obtain ⟨l0, hl0⟩ := strs_in (x := (d0, p0)) hf0
 clear hA0 hval0
 simp only [List.append_nil] at hW'
 refine (texts_any _ l0 W hl0 (vars_of_laid hL).1 (vars_of_laid hL).2 ).mono fun e W' ⟨he, hg⟩ => ?_
 subst he
 have hg' : Below W.heap.size W W' := hg
 refine ⟨_, rfl, _, _, _, [], (p0 ++ []), [], hW', ?_, ?_, rfl, hg'.frame _, fun h => by cases h⟩
 ·exact trodAll_cons_mk (shut_bool Tryz.underlying4 _) trodAll_mk0
 ·exact (trodAll_cons_mk (Below.trod laidOut (by kernel_rfl) (of_decide_eq_true (by kernel_rfl)) h0k hg' hlt0) trodAll_mk0)
theorem over : Rows.CfgTextsSaid :=
 OpenClaim.holds_of_wide 5 Tryz.f5 rfl rfl rfl rfl rfl rfl rfl ⟨rfl, rfl, rfl, rfl, rfl⟩ rfl rfl rfl rfl rfl (by kernel_rfl) Tryz.func5 (by kernel_rfl)
  (of_decide_eq_true (by kernel_rfl)) (by unfold Func.isWrapper; first | (rw [if_pos (by decide +kernel)]; kernel_rfl) | (rw [if_neg (by decide +kernel)]; exact ⟨rfl, rfl⟩))
  (fun os started H enc _ => lifted os started H enc)
set_option maxRecDepth 100000 in
theorem plain (f : FuncId) (fn : Func) (hf : Tryz.pinned.checked.prog.funcNamed "winnow/winnowlaw08.CfgTexts" = some f) (hfn : Tryz.pinned.checked.prog.funcs[f]? = some fn) :
  false = Tryz.pinned.checked.prog.looks [] ∧ ∀ (j : Nat) t, fn.params[j]? = some t → Tryz.pinned.checked.prog.wantsStandIn t = false := by
 obtain rfl : f = 5 := Option.some.inj ((show Tryz.prog.funcNamed "winnow/winnowlaw08.CfgTexts" = some 5 by kernel_rfl).symm.trans hf) |>.symm
 obtain rfl : fn = Tryz.f5 := (Option.some.inj (Tryz.func5.symm.trans hfn)).symm
 refine ⟨by kernel_rfl, fun j t ht => ?_⟩
 rw [Tryz.params5] at ht
 have hm : t ∈ [24] := by simpa using Array.mem_of_getElem? ht
 have hall : ([24].all fun u => !Tryz.prog.wantsStandIn u) = true := by kernel_rfl
 exact (show Tryz.prog.wantsStandIn t = false by simpa using List.all_eq_true.1 hall t hm)
end Go.Proofs.YtbndcaglohfnbaaGreatDoor.cfgTexts
namespace Go.Proofs.YtbndcaglohfnbaaGreatDoor
open Go
set_option maxRecDepth 100000 in
theorem cfgTexts_card : Rows.CfgTextsCardSaid :=
 Claim7.holds_tied_plain_at .later [] _ _ _ _ cfgTexts.over (fun _ h => by cases h) (by kernel_rfl) (fun _ h => by cases h) cfgTexts_row_tie rfl ⟨rfl, rfl⟩ (by kernel_rfl) rfl cfgTexts.plain (by kernel_rfl)
#print axioms cfgTexts_card
end Go.Proofs.YtbndcaglohfnbaaGreatDoor

