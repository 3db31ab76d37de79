import Derived.Test.YtgedhcgaokakpaaDoorHalves
/- The document's exact product. -/
namespace Go.Proofs.YtgedhcgaokakpaaDoor
open Go.RowKit
set_option maxRecDepth 100000 in
set_option maxHeartbeats 400000 in
theorem full_any (x y : Nat) (hx : x < 18446744073709551616) (hy : y < 18446744073709551616) (w : World) :
    Calls Tryd.prog 46 #[.int .u64 x, .int .u64 y] w fun e w' => e = .returned (.tuple #[.int .u64 (hi64 ((x : Int) * y)), .int .u64 (lo64 ((x : Int) * y))]) ∧ w' = w := by
  have H : Hid _ := full_eq (x : Int) (y : Int) (by omega) (by omega)
  go_enter Tryd.func46, Tryd.ntmps46
  go_wp2_with fail
  go_ret2
  exact ⟨ret2 H.out.1 H.out.2, rfl⟩
theorem not_int {n : Int} (h0 : 0 ≤ n) (h1 : n < 18446744073709551616) : bits .xor .u64 IntKind.u64.max n = 18446744073709551615 - n := by
  obtain ⟨x, rfl⟩ := Int.eq_ofNat_of_zero_le h0
  rw [not_u64 x (by omega)]
  omega
theorem rwide_eq {a b : Int} (ha : In64 a) (hb : In64 b) :
    ((!(decide (a < 0) == decide (b < 0))) = false → wrap64 (hi64 ((a.natAbs : Int) * (b.natAbs : Int))) = hi64 (a * b) ∧ lo64 ((a.natAbs : Int) * (b.natAbs : Int)) = lo64 (a * b)) ∧
    ((!(decide (a < 0) == decide (b < 0))) = true → ((IntKind.u64.wrap (bits .xor .u64 IntKind.u64.max (lo64 ((a.natAbs : Int) * (b.natAbs : Int))) + 1) == 0) = true → wrap64 (IntKind.u64.wrap (bits .xor .u64 IntKind.u64.max (hi64 ((a.natAbs : Int) * (b.natAbs : Int))) + 1)) = hi64 (a * b)) ∧
      ((IntKind.u64.wrap (bits .xor .u64 IntKind.u64.max (lo64 ((a.natAbs : Int) * (b.natAbs : Int))) + 1) == 0) = false → wrap64 (bits .xor .u64 IntKind.u64.max (hi64 ((a.natAbs : Int) * (b.natAbs : Int)))) = hi64 (a * b)) ∧
      IntKind.u64.wrap (bits .xor .u64 IntKind.u64.max (lo64 ((a.natAbs : Int) * (b.natAbs : Int))) + 1) = lo64 (a * b)) := by
  obtain ⟨p1, p2⟩ := abs_prod a b
  have hb1 := prod_bound ha hb
  have hi := hi64_in ha hb
  constructor
  · intro h
    have : (decide (a < 0) == decide (b < 0)) = true := by
      cases hx : (decide (a < 0) == decide (b < 0))
      · rw [hx] at h; cases h
      · rfl
    rw [p1 this]
    exact ⟨wrap64_id hi, rfl⟩
  · intro h
    have : (decide (a < 0) == decide (b < 0)) = false := by
      cases hx : (decide (a < 0) == decide (b < 0))
      · rfl
      · rw [hx] at h; cases h
    have hP := p2 this
    have hnn : 0 ≤ (a.natAbs : Int) * (b.natAbs : Int) := Int.mul_nonneg (by omega) (by omega)
    generalize (a.natAbs : Int) * (b.natAbs : Int) = P at *
    generalize a * b = p at *
    have eL := not_int (n := lo64 P) (by unfold lo64; omega) (by unfold lo64; omega)
    have eH := not_int (n := hi64 P) (by unfold hi64; omega) (by unfold hi64; omega)
    rw [eL, eH, u64w, u64w]
    unfold hi64 lo64 In64 at *
    refine ⟨?_, ?_, by omega⟩
    · intro hz
      rw [beq_iff_eq] at hz
      unfold wrap64
      omega
    · intro hz
      rw [beq_eq_false_iff_ne] at hz
      unfold wrap64
      omega
set_option maxRecDepth 100000 in
set_option maxHeartbeats 400000 in
theorem rwide_any (a b : Int) (ha : In64 a) (hb : In64 b) (w : World) :
    Calls Tryd.prog 25 #[.int .i64 a, .int .i64 b] w fun e w' => e = .returned (.tuple #[.int .i64 (hi64 (a * b)), .int .u64 (lo64 (a * b))]) ∧ w' = w := by
  have E : Hid _ := rwide_eq ha hb
  have hsg : IntKind.u64.signed = false := rfl
  go_enter Tryd.func25, Tryd.ntmps25
  go_wp2_with fail
  refine (rabs_any a ha _).mono ?_
  rintro e w' ⟨rfl, rfl⟩
  go_wp2_with fail
  refine (rabs_any b hb _).mono ?_
  rintro e w' ⟨rfl, rfl⟩
  go_wp2_with fail
  refine (full_any _ _ (abs_lt ha) (abs_lt hb) _).mono ?_
  rintro e w' ⟨rfl, rfl⟩
  generalize hi64 ((a.natAbs : Int) * (b.natAbs : Int)) = H at *
  generalize lo64 ((a.natAbs : Int) * (b.natAbs : Int)) = L at *
  cases hc : (!(decide (a < 0) == decide (b < 0)))
  · have E1 : Hid _ := E.out.1 hc
    clear E
    go_wp2_with fail
    go_ret2
    exact ⟨ret2 E1.out.1 E1.out.2, rfl⟩
  · have E1 : Hid _ := E.out.2 hc
    clear E
    cases hz : (IntKind.u64.wrap (bits .xor .u64 IntKind.u64.max L + 1) == 0)
    · have E2 : Hid _ := E1.out.2.1 hz
      go_wp2_with fail
      go_ret2
      exact ⟨ret2 E2.out E1.out.2.2, rfl⟩
    · have E2 : Hid _ := E1.out.1 hz
      go_wp2_with fail
      go_ret2
      exact ⟨ret2 E2.out E1.out.2.2, rfl⟩
end Go.Proofs.YtgedhcgaokakpaaDoor
