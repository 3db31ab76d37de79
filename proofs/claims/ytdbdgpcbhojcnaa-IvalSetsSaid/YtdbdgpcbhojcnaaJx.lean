import Derived.Test.YtdbdgpcbhojcnaaJw
import Derived.Shelf.Bits.Mul64
set_option linter.unusedVariables false
set_option linter.unusedSimpArgs false
set_option linter.unnecessarySimpa false
/- word.Wide, and package ival's product: contracts. -/
namespace Go.Proofs.Ytdbdgpcbhojcnaa
open Go.RowKit Go.Shelf
def laysM_ren : Go.Shelf.Ren := ⟨fun | 264 => 82 | n => n, fun | 53 => 49 | 46 => 77 | n => n, fun | n => n⟩
theorem laysMul : Go.Proofs.Lays.n264 Try.prog laysM_ren := {
  mixed := by kernel_rfl
  f264 := Try.func82.trans (congrArg some (by kernel_rfl))
  t46 := Try.underlying77
  a46 := Try.isAgg77
  z46 := Try.sizeOf77
  v46 := Try.zeroValue77
  t53 := Try.underlying49
  a53 := Try.isAgg49
  z53 := Try.sizeOf49
  v53 := Try.zeroValue49 }
theorem ret2 {k j : IntKind} {a b c d : Int} (h : a = b) (g : c = d) : Ending.returned (.tuple #[.int k a, .int j c]) = .returned (.tuple #[.int k b, .int j d]) := by rw [h, g]
theorem mul64_any (a b : Int) (w : World) :
    Calls Try.prog 82 #[.int .u64 (IntKind.u64.wrap a), .int .u64 (IntKind.u64.wrap b)] w fun e w' => e = .returned (.tuple #[.int .u64 (hiW (IntKind.u64.wrap a * IntKind.u64.wrap b)), .int .u64 (loW (IntKind.u64.wrap a * IntKind.u64.wrap b))]) ∧ w' = w := by
  obtain ⟨x, hx⟩ := Int.eq_ofNat_of_zero_le (show 0 ≤ IntKind.u64.wrap a by rw [u64w]; omega)
  obtain ⟨y, hy⟩ := Int.eq_ofNat_of_zero_le (show 0 ≤ IntKind.u64.wrap b by rw [u64w]; omega)
  have hx1 : x < 18446744073709551616 := by rw [u64w] at hx; omega
  have hy1 : y < 18446744073709551616 := by rw [u64w] at hy; omega
  rw [hx, hy]
  refine (Any.bits_Mul64 laysMul x y hx1 hy1 w).mono ?_
  rintro e w' ⟨rfl, rfl⟩
  refine ⟨ret2 ?_ ?_, rfl⟩
  · unfold hiW; rw [Int.natCast_ediv, Int.natCast_mul]; rfl
  · unfold loW; rw [Int.natCast_emod, Int.natCast_mul]; rfl
/-- The product of two numbers of 64 bits has at most 126 bits and a sign. -/
theorem prod_bound {a b : Int} (ha : In64 a) (hb : In64 b) : -85070591730234615865843651857942052864 ≤ a * b ∧ a * b ≤ 85070591730234615865843651857942052864 := by
  have h1 : a.natAbs ≤ 9223372036854775808 := by unfold In64 at ha; omega
  have h2 : b.natAbs ≤ 9223372036854775808 := by unfold In64 at hb; omega
  have h3 := Nat.mul_le_mul h1 h2
  rw [← Int.natAbs_mul] at h3
  generalize a * b = p at *
  omega
theorem hiW_in {a b : Int} (ha : In64 a) (hb : In64 b) : In64 (hiW (a * b)) := by
  have := prod_bound ha hb
  unfold In64 hiW
  generalize a * b = p at *
  omega
theorem wide_pp {a b : Int} (ha : In64 a) (hb : In64 b) (h0 : 0 ≤ a) (h1 : 0 ≤ b) : wrap64 (hiW (IntKind.u64.wrap a * IntKind.u64.wrap b)) = hiW (a * b) ∧ loW (IntKind.u64.wrap a * IntKind.u64.wrap b) = loW (a * b) := by
  have e1 : IntKind.u64.wrap a = a := by rw [u64w]; unfold In64 at ha; omega
  have e2 : IntKind.u64.wrap b = b := by rw [u64w]; unfold In64 at hb; omega
  rw [e1, e2]
  exact ⟨wrap64_id (hiW_in ha hb), rfl⟩
theorem wide_np {a b : Int} (ha : In64 a) (hb : In64 b) (h0 : a < 0) (h1 : 0 ≤ b) : wrap64 (IntKind.u64.wrap (hiW (IntKind.u64.wrap a * IntKind.u64.wrap b) - IntKind.u64.wrap b)) = hiW (a * b) ∧ loW (IntKind.u64.wrap a * IntKind.u64.wrap b) = loW (a * b) := by
  have hh := hiW_in ha hb
  have e1 : IntKind.u64.wrap a = a + 18446744073709551616 := by rw [u64w]; unfold In64 at ha; omega
  have e2 : IntKind.u64.wrap b = b := by rw [u64w]; unfold In64 at hb; omega
  rw [e1, e2, Int.add_mul, u64w]
  unfold hiW loW In64 at *
  generalize a * b = p at *
  unfold wrap64
  omega
theorem wide_pn {a b : Int} (ha : In64 a) (hb : In64 b) (h0 : 0 ≤ a) (h1 : b < 0) : wrap64 (IntKind.u64.wrap (hiW (IntKind.u64.wrap a * IntKind.u64.wrap b) - IntKind.u64.wrap a)) = hiW (a * b) ∧ loW (IntKind.u64.wrap a * IntKind.u64.wrap b) = loW (a * b) := by
  have h := wide_np hb ha h1 h0
  rw [Int.mul_comm b a, Int.mul_comm (IntKind.u64.wrap b)] at h
  exact h
theorem wide_nn {a b : Int} (ha : In64 a) (hb : In64 b) (h0 : a < 0) (h1 : b < 0) : wrap64 (IntKind.u64.wrap (IntKind.u64.wrap (hiW (IntKind.u64.wrap a * IntKind.u64.wrap b) - IntKind.u64.wrap b) - IntKind.u64.wrap a)) = hiW (a * b) ∧ loW (IntKind.u64.wrap a * IntKind.u64.wrap b) = loW (a * b) := by
  have hh := hiW_in ha hb
  have e1 : IntKind.u64.wrap a = a + 18446744073709551616 := by rw [u64w]; unfold In64 at ha; omega
  have e2 : IntKind.u64.wrap b = b + 18446744073709551616 := by rw [u64w]; unfold In64 at hb; omega
  rw [e1, e2, Int.add_mul, Int.mul_add, u64w, u64w]
  unfold hiW loW In64 at *
  generalize a * b = p at *
  unfold wrap64
  omega
set_option maxHeartbeats 400000 in
theorem pwide_any (a b : Int) (ha : In64 a) (hb : In64 b) (w : World) :
    Calls Try.prog 78 #[.int .i64 a, .int .i64 b] w fun e w' => e = .returned (.tuple #[.int .i64 (hiW (a * b)), .int .u64 (loW (a * b))]) ∧ w' = w := by
  by_cases h0 : a < 0 <;> by_cases h1 : b < 0
  · have H := wide_nn ha hb h0 h1
    have HH : Hid _ := H
    clear H ha hb
    go_enter Try.func78, Try.ntmps78
    go_wp2_with (go_at_call 82; refine (mul64_any _ _ _).mono ?_; rintro e w' ⟨rfl, rfl⟩)
    go_ret2
    exact ⟨ret2 HH.out.1 HH.out.2, rfl⟩
  · have H := wide_np ha hb h0 (by omega)
    have HH : Hid _ := H
    clear H ha hb
    go_enter Try.func78, Try.ntmps78
    go_wp2_with (go_at_call 82; refine (mul64_any _ _ _).mono ?_; rintro e w' ⟨rfl, rfl⟩)
    go_ret2
    exact ⟨ret2 HH.out.1 HH.out.2, rfl⟩
  · have H := wide_pn ha hb (by omega) h1
    have HH : Hid _ := H
    clear H ha hb
    go_enter Try.func78, Try.ntmps78
    go_wp2_with (go_at_call 82; refine (mul64_any _ _ _).mono ?_; rintro e w' ⟨rfl, rfl⟩)
    go_ret2
    exact ⟨ret2 HH.out.1 HH.out.2, rfl⟩
  · have H := wide_pp ha hb (by omega) (by omega)
    have HH : Hid _ := H
    clear H ha hb
    go_enter Try.func78, Try.ntmps78
    go_wp2_with (go_at_call 82; refine (mul64_any _ _ _).mono ?_; rintro e w' ⟨rfl, rfl⟩)
    go_ret2
    exact ⟨ret2 HH.out.1 HH.out.2, rfl⟩
set_option maxHeartbeats 400000 in
theorem pproduct_any (x y : Int) (hx : In64 x) (hy : In64 y) (w0 w : World) (hok : Ok w0 w) :
    Calls Try.prog 53 #[.int .i64 x, .int .i64 y] w fun e w' => e = .returned (.agg #[.int .i64 (tW (x * y)), .int .i64 (wrap64 (x * y))]) ∧ Ok w0 w' := by
  have HX : Hid (In64 x ∧ In64 y) := ⟨hx, hy⟩
  clear hx hy
  go_enter Try.func53, Try.ntmps53
  go_wp2_with (first | (go_at_call 78; refine (pwide_any _ _ HX.out.1 HX.out.2 _).mono ?_; rintro e w' ⟨rfl, rfl⟩) | (go_at_call 74; refine (phalves_ex _ _ (x * y) _ (prod_bound HX.out.1 HX.out.2) rfl rfl).mono ?_; rintro e w' ⟨rfl, rfl⟩) | fail)
  (try simp only [Exit.inBlock, Exit.then]); refine bodyPost_ret (results_cell_row rfl _ _ (w.heap.size) 60 #[_, _] (0, 0) _ rfl (by repeat (first | (refine heap_at _ _ _ ?hx; case hx => (first | (simp; done) | (simp; omega))) | (refine heap_past _ _ _ ?hy ?_; case hy => (first | (simp; done) | (simp; omega))) | fail)) Try.underlying60 rfl infoT) rfl ?_
  exact ⟨rfl, (by repeat (first | exact hok | refine Ok.alloc ?_ _ | refine Ok.draws ?_ _ | fail))⟩
end Go.Proofs.Ytdbdgpcbhojcnaa
