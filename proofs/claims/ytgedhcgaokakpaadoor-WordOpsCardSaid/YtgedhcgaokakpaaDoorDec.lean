import Derived.WalkKit
import Derived.Lib.ItoaNum
import Derived.Lib.ItoaMem
/- Decimal texts: what Parse answers, in plain lists. -/
namespace Go.Proofs.YtgedhcgaokakpaaDoor
open Go.RowKit

def isDig (c : UInt8) : Bool := decide (48 ≤ c.toNat) && decide (c.toNat ≤ 57)
/-- How many digits stand at the front. -/
def run (l : List UInt8) : Nat := (l.takeWhile isDig).length
theorem run_nil : run [] = 0 := rfl
theorem run_yes {c : UInt8} (t : List UInt8) (h : isDig c = true) : run (c :: t) = run t + 1 := by simp [run, h]
theorem run_no {c : UInt8} (t : List UInt8) (h : isDig c = false) : run (c :: t) = 0 := by simp [run, h]
theorem run_le (l : List UInt8) : run l ≤ l.length := by
  unfold run
  exact (List.takeWhile_sublist _).length_le
theorem all_of_run {l : List UInt8} (h : run l = l.length) : ∀ c ∈ l, isDig c = true := by
  induction l with
  | nil => simp
  | cons c t ih =>
    cases hc : isDig c with
    | false => rw [run_no t hc] at h; simp at h
    | true =>
      rw [run_yes t hc] at h
      simp only [List.length_cons] at h
      intro d hd
      rcases List.mem_cons.1 hd with rfl | hd
      · exact hc
      · exact ih (by omega) d hd
theorem run_of_all {l : List UInt8} (h : ∀ c ∈ l, isDig c = true) : run l = l.length := by
  induction l with
  | nil => rfl
  | cons c t ih =>
    rw [run_yes t (h c (by simp)), ih (fun d hd => h d (by simp [hd]))]
    simp
theorem drop_cons (s : ByteArray) (k : Nat) (h : k < s.size) : s.data.toList.drop k = s[k] :: s.data.toList.drop (k + 1) := by
  rw [List.drop_eq_getElem_cons (by simpa using h)]; rfl
theorem take_snoc (s : ByteArray) (k : Nat) (h : k < s.size) : s.data.toList.take (k + 1) = s.data.toList.take k ++ [s[k]] := by
  rw [List.take_succ_eq_append_getElem (by simpa using h)]; rfl
theorem run_step_yes (s : ByteArray) (k : Nat) (h : k < s.size) (h1 : 48 ≤ (s[k].toNat : Int)) (h2 : (s[k].toNat : Int) ≤ 57) (hr : run s.data.toList = k + run (s.data.toList.drop k)) : run s.data.toList = (k + 1) + run (s.data.toList.drop (k + 1)) := by
  rw [drop_cons s k h, run_yes _ (by simp [isDig]; omega)] at hr
  omega
theorem run_step_no (s : ByteArray) (k : Nat) (h : k < s.size) (h1 : ¬ (48 ≤ (s[k].toNat : Int) ∧ (s[k].toNat : Int) ≤ 57)) (hr : run s.data.toList = k + run (s.data.toList.drop k)) : run s.data.toList = k := by
  rw [drop_cons s k h, run_no _ (by simp [isDig]; omega)] at hr
  omega

/-- What digits say. -/
def val (l : List UInt8) : Nat := l.foldl (fun a c => a * 10 + (c.toNat - 48)) 0
theorem val_nil : val [] = 0 := rfl
theorem val_snoc (l : List UInt8) (c : UInt8) : val (l ++ [c]) = val l * 10 + (c.toNat - 48) := by simp [val]
theorem fold_ge (r : List UInt8) (n : Nat) : n ≤ r.foldl (fun a c => a * 10 + (c.toNat - 48)) n := by
  induction r generalizing n with
  | nil => simp
  | cons c t ih =>
    simp only [List.foldl_cons]
    exact Nat.le_trans (by omega) (ih _)
theorem val_append_ge (l r : List UInt8) : val l ≤ val (l ++ r) := by
  unfold val
  rw [List.foldl_append]
  exact fold_ge r _
theorem val_take_le (l : List UInt8) (k : Nat) : val (l.take k) ≤ val l := by
  have := val_append_ge (l.take k) (l.drop k)
  rwa [List.take_append_drop] at this

/-- Parse: the number, the error's number, the place. -/
def most (neg : Bool) : Nat := if neg then 9223372036854775808 else 9223372036854775807
def num (neg : Bool) (n : Nat) : Int := if neg then -(n : Int) else n
def neg? (l : List UInt8) : Bool := l.head? == some 45
def body (l : List UInt8) : List UInt8 := if neg? l then l.tail else l
def off (l : List UInt8) : Nat := if neg? l then 1 else 0
/-- The text is no number. -/
def bad (l : List UInt8) : Bool := run (body l) == 0 || decide (run (body l) < (body l).length)
def big (l : List UInt8) : Bool := decide (most (neg? l) < val (body l))
def pv (l : List UInt8) : Int := if bad l then 0 else if big l then 0 else num (neg? l) (val (body l))
def pe (l : List UInt8) : Int := if bad l then 10 else if big l then 11 else 0
def pa (l : List UInt8) : Int := if bad l then ((off l + run (body l) : Nat) : Int) else 0
end Go.Proofs.YtgedhcgaokakpaaDoor
