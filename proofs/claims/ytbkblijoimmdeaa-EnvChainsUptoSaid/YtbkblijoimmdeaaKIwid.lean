import Derived.Deep.RegionHeld3
import Derived.Test.YtbkblijoimmdeaaKIref
set_option linter.unusedVariables false
set_option linter.unusedSimpArgs false
set_option linter.unnecessarySimpa false
/- Iwid -/
namespace Go.Proofs.Ytbkblijoimmdeaa
open Go.RowKit
def stLo (bl m t : Int) : Int := if t ≤ bl ∧ m < t then t else m
def stHi (bh m t : Int) : Int := if bh ≤ t ∧ t < m then t else m
def wLo (bl : Int) (ts : List Int) : Int := ts.foldl (stLo bl) (-9223372036854775808)
def wHi (bh : Int) (ts : List Int) : Int := ts.foldl (stHi bh) 9223372036854775807
def widenI (al ah bl bh : Int) (ts : List Int) : Int × Int :=
  if ah < al then normI bl bh else if bh < bl then (al, ah) else (if bl < al then wLo bl ts else al, if ah < bh then wHi bh ts else ah)
theorem fold_take {f : Int → Int → Int} {m : Int} {ts : List Int} {k : Nat} (h : k < ts.length) : (ts.take (k + 1)).foldl f m = f ((ts.take k).foldl f m) ts[k] := by
  rw [List.take_succ_eq_append_getElem h, List.foldl_append]; rfl
/-- Numbers in a row of memory. -/
def IntsAt (w : World) (tb o : Nat) (ts : List Int) : Prop := (∀ i (h : i < ts.length), w.cell? ⟨tb, o + i, none⟩ = some (.int .i64 ts[i])) ∧ tb < w.heap.size ∧ ts.length ≤ 4611686018427387904
theorem IntsAt.ok {w w1 : World} {tb o : Nat} {ts : List Int} (h : IntsAt w tb o ts) (hb : Ok w w1) : IntsAt w1 tb o ts :=
  ⟨fun i hi => Ok.cell hb h.2.1 (h.1 i hi), Nat.lt_of_lt_of_le h.2.1 hb.le, h.2.2⟩
/-- A slice of numbers; an empty one may have any address. -/
def SInts (w : World) (v : Value) (ts : List Int) : Prop := (∃ tb o cap, v = .slice (some ⟨tb, o, none⟩) ts.length cap ∧ IntsAt w tb o ts) ∨ (∃ ao cap, v = .slice ao 0 cap ∧ ts = [])
theorem SInts.form {w : World} {v : Value} {ts : List Int} (h : SInts w v ts) : ∃ ao n cap, v = .slice ao n cap := by
  rcases h with ⟨tb, o, cap, rfl, _⟩ | ⟨ao, cap, rfl, _⟩
  · exact ⟨_, _, _, rfl⟩
  · exact ⟨_, _, _, rfl⟩
end Go.Proofs.Ytbkblijoimmdeaa
