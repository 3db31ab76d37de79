import Derived.Test.YtgedhcgaokakpaaDoorRef
import Derived.Lib.ItoaLen
/- The document's Print. -/
namespace Go.Proofs.YtgedhcgaokakpaaDoor
open Go.RowKit
def Left (N n : Nat) (l : List UInt8) : Prop := (l = [] ∧ n = N) ∨ (l ≠ [] ∧ Lib.decDigits N = (if n = 0 then [] else Lib.decDigits n) ++ l)
/-- The last digit. -/
def dgt (n : Nat) : UInt8 := UInt8.ofNat (48 + n % 10)
theorem dig_nat (n : Nat) : ((dgt n).toNat : Int) = 48 + (n : Int) % 10 := by
  unfold dgt
  rw [UInt8.toNat_ofNat']
  omega
theorem one_byte (W : World) (n : Nat) : (convert 55 9 (.slice (some ⟨W.heap.size, 0, none⟩) 1 1)).run Tryd.prog (W.alloc (.cells #[.int .u8 (48 + (n : Int) % 10)] 5)) = .ok (.string ⟨#[dgt n]⟩) (W.alloc (.cells #[.int .u8 (48 + (n : Int) % 10)] 5)) := by
  refine run_convert_bytes_back (P := Tryd.prog) (W.alloc (.cells #[.int .u8 (48 + (n : Int) % 10)] 5)) 55 9 5 ⟨W.heap.size, 0, none⟩ 1 [dgt n] Tryd.underlying55 Tryd.underlying5 Tryd.underlying9 ?_
  intro j hj
  have : j = 0 := by simpa using hj
  subst this
  rw [show ([dgt n][0]'hj) = dgt n from rfl, dig_nat]
  simp [Addr.add, go_sem]
theorem ret_str {a b : ByteArray} (h : a = b) : Ending.returned (.string a) = .returned (.string b) := by rw [h]
def emptyOf : Value → Nat
  | .string b => if b.size = 0 then 1 else 0
  | _ => 0
theorem left_len {N n : Nat} {l : List UInt8} (h : Left N n l) : l.length ≤ (Lib.decDigits N).length := by
  rcases h with ⟨h, _⟩ | ⟨_, h⟩
  · rw [h]; simp
  · rw [h, List.length_append]; omega
/-- One round. -/
theorem left_next {N n : Nat} {l : List UInt8} (h : Left N n l) (hgo : 0 < n ∨ l = []) : Left N (n / 10) (dgt n :: l) := by
  right
  refine ⟨by simp, ?_⟩
  have key : Lib.decDigits n = (if n / 10 = 0 then [] else Lib.decDigits (n / 10)) ++ [dgt n] := by
    by_cases hn : n < 10
    · rw [Lib.decDigits_one hn, if_pos (by omega)]; unfold dgt; rw [Nat.mod_eq_of_lt hn]; rfl
    · rw [if_neg (by omega)]
      conv => lhs; rw [Lib.decDigits, dif_neg hn]
      rfl
  have e : ∀ x : List UInt8, (x ++ [dgt n]) ++ l = x ++ dgt n :: l := fun x => by simp
  rcases h with ⟨h1, h2⟩ | ⟨h1, h2⟩
  · rw [← h2, h1, key]
  · rcases hgo with hgo | hgo
    · rw [h2, if_neg (by omega), key, e]
    · exact absurd hgo h1
theorem left_end {N : Nat} {l : List UInt8} (h : Left N 0 l) (hl : l ≠ []) : Lib.decDigits N = l := by
  rcases h with ⟨h1, _⟩ | ⟨_, h2⟩
  · exact absurd h1 hl
  · simpa using h2
theorem dec_len {v : Int} (hv : In64 v) : (Lib.decDigits v.natAbs).length ≤ 21 := by
  have h := Lib.itoa_length_le v hv.1 hv.2
  unfold Lib.itoa at h
  split at h
  · simp only [List.length_cons] at h; omega
  · rw [show v.natAbs = v.toNat by omega]; exact h
theorem join_one (c : UInt8) (l : List UInt8) : ((⟨#[c]⟩ : ByteArray) ++ (⟨l.toArray⟩ : ByteArray)) = ⟨(c :: l).toArray⟩ := by
  apply ByteArray.ext
  simp
theorem print_next {N k : Nat} {l : List UInt8} {w0 w1 : World} (h : Left N k l) (hgo : 0 < k ∨ l = []) (hk : k < 18446744073709551616) (hw : Ok w0 w1) :
    (∃ (k1 : Nat) (l1 : List UInt8), k1 < 18446744073709551616 ∧ Value.int .u64 ((k : Int) / 10) = .int .u64 k1 ∧ Value.string ((⟨#[dgt k]⟩ : ByteArray) ++ (⟨l.toArray⟩ : ByteArray)) = .string ⟨l1.toArray⟩ ∧ Hid (Left N k1 l1) ∧ Ok w0 w1) ∧
    (intOf (Value.int .u64 ((k : Int) / 10))).toNat + emptyOf (Value.string ((⟨#[dgt k]⟩ : ByteArray) ++ (⟨l.toArray⟩ : ByteArray))) < (intOf (Value.int .u64 (k : Int))).toNat + emptyOf (Value.string ⟨l.toArray⟩) := by
  rw [join_one]
  refine ⟨⟨k / 10, dgt k :: l, by omega, by rw [Int.natCast_ediv]; rfl, rfl, left_next h hgo, hw⟩, ?_⟩
  have e1 : emptyOf (Value.string ⟨(dgt k :: l).toArray⟩) = 0 := rfl
  rw [e1]
  simp only [intOf]
  rcases hgo with hgo | hgo
  · omega
  · subst hgo
    have e2 : emptyOf (Value.string ⟨([] : List UInt8).toArray⟩) = 1 := rfl
    rw [e2]
    omega
set_option maxHeartbeats 400000 in
theorem rprint_any (v : Int) (hv : In64 v) (w0 w : World) (hok : Ok w0 w) :
    Calls Tryd.prog 22 #[.int .i64 v] w fun e w' => e = .returned (.string ⟨(Lib.itoa v).toArray⟩) ∧ Ok w0 w' := by
  go_enter Tryd.func22, Tryd.ntmps22
  go_wp2_with (go_at_call 44; refine (rabs_any _ hv _).mono ?_; rintro e w' ⟨rfl, rfl⟩)
  go_loopw [3, 4] (fun n s wr => ∃ (k : Nat) (l : List UInt8), k < 18446744073709551616 ∧ n = .int .u64 k ∧ s = .string ⟨l.toArray⟩ ∧ Hid (Left v.natAbs k l) ∧ Ok w0 wr) (fun n s _ => (intOf n).toNat + emptyOf s)
  case atStart => exact ⟨v.natAbs, [], by unfold In64 at hv; omega, rfl, rfl, .inl ⟨rfl, rfl⟩, hok⟩
  case round =>
    obtain ⟨k, l, hk, rfl, rfl, hl, hw⟩ := hrel
    have hconv := one_byte wr k
    have h21 : l.length ≤ 21 := Nat.le_trans (left_len hl.out) (dec_len hv)
    by_cases hgo : 0 < k
    · have g1 : decide (0 < k) = true := decide_eq_true hgo
      go_wp2
      exact print_next hl.out (.inl hgo) hk (hw.alloc _)
    · have g1 : decide (0 < k) = false := decide_eq_false hgo
      cases l with
      | nil =>
        go_wp2
        exact print_next hl.out (.inr rfl) hk (hw.alloc _)
      | cons c r =>
        have hk0 : k = 0 := by omega
        subst hk0
        have H : Hid _ := left_end hl.out (by simp)
        have hr : r.length ≤ 20 := by simpa using h21
        by_cases hneg : v < 0
        · have HE : Hid ((⟨#[45]⟩ : ByteArray) ++ (⟨(c :: r).toArray⟩ : ByteArray) = ⟨(Lib.itoa v).toArray⟩) := by
            rw [join_one, ← H.out]
            unfold Lib.itoa
            rw [if_pos hneg]
            exact rfl
          go_wp2
          go_ret
          exact ⟨ret_str HE.out, hw⟩
        · have HE : Hid ((⟨(c :: r).toArray⟩ : ByteArray) = ⟨(Lib.itoa v).toArray⟩) := by
            rw [← H.out]
            unfold Lib.itoa
            rw [if_neg hneg, show v.natAbs = v.toNat by omega]
            exact rfl
          go_wp2
          go_ret
          exact ⟨ret_str HE.out, hw⟩
end Go.Proofs.YtgedhcgaokakpaaDoor
