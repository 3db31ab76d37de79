import Derived.Test.YtdbdgpcbhojcnaaIopen
import Derived.Deep.DeepHandedRow
import Derived.Deep.DeepWitnessRowRef
import Derived.JoinedCond
import Derived.Stop.Joined
set_option linter.unusedVariables false
set_option linter.unusedSimpArgs false
/- The rows of stage 11's laws. -/
namespace Go.Proofs.Ytdbdgpcbhojcnaa
open Go.ChangeShapes Go.WideShapes Go.ChangeAt Go.RowKit Go.Deep
theorem own : ownKnob Try.prog.godebug = none := by kernel_rfl
set_option maxRecDepth 100000 in
theorem laidOut : laidOutB Try.prog = true := by kernel_rfl
theorem bytesN : Try.prog.bytesOf 2 = 8 := by kernel_rfl
theorem bytesI : Try.prog.bytesOf 23 = 16 := by kernel_rfl
theorem weight_nums {H : Type} {a b : List (DataW H)} {t0 : TypeId} {d0 : DataW H} {ts : List TypeId} {r : List (DataW H)} (h : (DataW.weightsEach Try.prog (t0 :: 24 :: ts) (d0 :: .slice a b :: r)).all (· ≤ reachBytes) = true) : (a.length + b.length) * 8 ≤ reachBytes := by
  simp only [DataW.weightsEach, DataW.weights, Try.underlying24, bytesN, List.cons_append, List.all_cons, List.all_append, Bool.and_eq_true, decide_eq_true_eq] at h
  exact h.2.1
theorem weight_ivs {H : Type} {a b : List (DataW H)} {t0 t1 : TypeId} {d0 d1 : DataW H} {ts : List TypeId} {r : List (DataW H)} (h : (DataW.weightsEach Try.prog (t0 :: t1 :: 25 :: ts) (d0 :: d1 :: .slice a b :: r)).all (· ≤ reachBytes) = true) : (a.length + b.length) * 16 ≤ reachBytes := by
  simp only [DataW.weightsEach, DataW.weights, Try.underlying25, bytesI, List.cons_append, List.all_cons, List.all_append, Bool.and_eq_true, decide_eq_true_eq] at h
  exact h.2.2.1
end Go.Proofs.Ytdbdgpcbhojcnaa
