import Derived.Test.YtgkbegmaffknbaaGreatHNfm
import Derived.Test.YtgkbegmaffknbaaGreatHNm
import Derived.Test.YtgkbegmaffknbaaGreatHNp
import Derived.Test.YtgkbegmaffknbaaGreatHNpd
import Derived.Test.YtgkbegmaffknbaaGreatHNpn
import Derived.Test.YtgkbegmaffknbaaGreatHNps
import Derived.Test.YtgkbegmaffknbaaGreatHNu
set_option linter.unusedVariables false
set_option linter.unusedSimpArgs false
set_option linter.unnecessarySimpa false
/- Nh Nd -/
namespace Go.Proofs.YtgkbegmaffknbaaGreat
section
open Go.RowKit
theorem norm_const {x : Int} (hx : In64 x) : normN (constN x) = constN x := normN_id (const_raw hx) (const_norm hx)
theorem nz_const {y : Int} (hy : In64 y) (h : y ≠ 0) : nonZeroN (constN y) = constN y := by
  unfold nonZeroN
  rw [norm_const hy]
  exact nz_mid (const_raw hy) (const_norm hy) (Or.inr ⟨h, h⟩)
theorem nz_const0 : nonZeroN (constN 0) = botN := by
  unfold nonZeroN
  rw [norm_const in_zero, nz_low (x := constN 0) rfl rfl]
  unfold makeN
  rw [if_pos (show (constN 0).2.1 < 1 by show (0 : Int) < 1; omega)]
theorem neg_alone {x : Int} (hx : In64 x) : negN (constN x) = constN (wrap64 (-x)) := by
  have m := negN_mem hx ((const_mem hx).2 rfl)
  unfold negN at m ⊢
  refine make_alone (wrap64_in _) (nneg_in _ _).1 (nneg_in _ _).2 m (Or.inl ?_)
  show (negC 0 _ _).1 = 0
  unfold negC; rw [if_pos rfl]
theorem add_alone {x y : Int} (hx : In64 x) (hy : In64 y) : addN (constN x) (constN y) = constN (wrap64 (x + y)) := by
  have m := addN_mem ((const_mem hx).2 rfl) ((const_mem hy).2 rfl)
  unfold addN at m ⊢
  refine make_alone (wrap64_in _) (nadd_in _ _ _ _).1 (nadd_in _ _ _ _).2 m (Or.inl ?_)
  show (addC 0 _ 0 _ _).1 = 0
  unfold addC; rw [if_pos ⟨rfl, rfl⟩]
theorem sub_alone {x y : Int} (hx : In64 x) (hy : In64 y) : subN (constN x) (constN y) = constN (wrap64 (x - y)) := by
  have m := subN_mem ((const_mem hx).2 rfl) ((const_mem hy).2 rfl)
  unfold subN at m ⊢
  refine make_alone (wrap64_in _) (nsub_in _ _ _ _).1 (nsub_in _ _ _ _).2 m (Or.inl ?_)
  show (subC 0 _ 0 _ _).1 = 0
  unfold subC; rw [if_pos ⟨rfl, rfl⟩]
theorem mul_alone {x y : Int} (hx : In64 x) (hy : In64 y) : mulN (constN x) (constN y) = constN (wrap64 (x * y)) := by
  have m := mulN_mem (const_raw hx) (const_raw hy) ((const_mem hx).2 rfl) ((const_mem hy).2 rfl)
  unfold mulN at m ⊢
  refine make_alone (wrap64_in _) (mulI_in _ _ _ _).1 (mulI_in _ _ _ _).2 m (Or.inl ?_)
  show (mulC 0 _ 0 _ _).1 = 0
  unfold mulC; rw [if_pos ⟨rfl, rfl⟩]
theorem div_alone {x y : Int} (hx : In64 x) (hy : In64 y) (h0 : y ≠ 0) : divN (constN x) (constN y) = constN (wrap64 (x.tdiv y)) := by
  have m := divN_mem (const_raw hx) (const_raw hy) ((const_mem hx).2 rfl) ((const_mem hy).2 rfl) h0
  have i := divI_in hx hx hy hy
  unfold divN at m ⊢
  refine make_alone (wrap64_in _) i.1 i.2 m (Or.inl ?_)
  show (divC 0 _ 0 (bitsN y)).1 = 0
  unfold divC; rw [if_neg (by rw [wrap_bits hy]; omega), if_pos rfl]
theorem rem_alone2 {x y : Int} (hx : In64 x) (hy : In64 y) (h0 : y ≠ 0) : remN (constN x) (constN y) = constN (x.tmod y) := by
  have m := remN_mem (const_raw hx) (const_raw hy) ((const_mem hx).2 rfl) ((const_mem hy).2 rfl) h0
  have i := remI_in hx hx hy hy
  unfold remN at m ⊢
  refine make_alone (tmod_in hx h0) i.1 i.2 m (Or.inl ?_)
  show (remC 0 _ 0 (bitsN y)).1 = 0
  unfold remC
  rw [if_neg (fun k => h0 (by have := wrap_bits hy; rw [k.2] at this; exact this.symm.trans (by unfold wrap64; omega))), if_pos ⟨rfl, rfl⟩]
/-- The number that Apply answers, of the six operators. -/
def apN (op : Int) (a b : Int × Int × Nat × Nat × Bool) : Int × Int × Nat × Nat × Bool :=
  if op = 1 then ap2 neg2N (normN a) (normN a) else if op = 3 then ap2 addN (normN a) (normN b) else if op = 4 then ap2 subN (normN a) (normN b) else if op = 5 then ap2 mulN (normN a) (normN b) else if op = 6 then ap2 divN (normN a) (nonZeroN b) else ap2 remN (normN a) (nonZeroN b)
/-- An operator on two numbers. -/
def doneV (op x y : Int) : Int := if op = 1 then wrap64 (-x) else if op = 3 then wrap64 (x + y) else if op = 4 then wrap64 (x - y) else if op = 5 then wrap64 (x * y) else if y = 0 then 0 else if op = 6 then (if y = -1 then wrap64 (-x) else x.tdiv y) else if y = -1 then 0 else x.tmod y
def doneB (op y : Int) : Bool := if op = 1 ∨ op = 3 ∨ op = 4 ∨ op = 5 then true else !(decide (y = 0))
def Op6 (op : Int) : Prop := op = 1 ∨ op = 3 ∨ op = 4 ∨ op = 5 ∨ op = 6 ∨ op = 7
theorem apN_norm {op : Int} (ho : Op6 op) {a b : Int × Int × Nat × Nat × Bool} (ha : RawN a) (hb : RawN b) : NormN (apN op a b) := by
  have p := normN_raw ha
  have q := normN_raw hb
  have z := nonZeroN_raw hb
  rcases ho with rfl | rfl | rfl | rfl | rfl | rfl
  · exact ap2_norm (negN_norm p)
  · exact ap2_norm (addN_norm p q)
  · exact ap2_norm (subN_norm p q)
  · exact ap2_norm (mulN_norm p q)
  · exact ap2_norm (divN_norm p z)
  · exact ap2_norm (remN_norm p z)
theorem apN_raw {op : Int} (ho : Op6 op) {a b : Int × Int × Nat × Nat × Bool} (ha : RawN a) (hb : RawN b) : RawN (apN op a b) := by
  have p := normN_raw ha
  have q := normN_raw hb
  have z := nonZeroN_raw hb
  rcases ho with rfl | rfl | rfl | rfl | rfl | rfl
  · exact ap2_raw (negN_raw p)
  · exact ap2_raw (addN_raw p q)
  · exact ap2_raw (subN_raw p q)
  · exact ap2_raw (mulN_raw p q)
  · exact ap2_raw (divN_raw p z)
  · exact ap2_raw (remN_raw p z)
theorem nz_bot {b : Int × Int × Nat × Nat × Bool} (hb : RawN b) (h : (normN b).2.2.2.2 = true) : (nonZeroN b).2.2.2.2 = true := by
  unfold nonZeroN
  rw [nz_mid (normN_raw hb) (normN_norm hb) (Or.inl h)]; exact h
theorem apN_bot {op : Int} (ho : Op6 op) {a b : Int × Int × Nat × Nat × Bool} (hb : RawN b) (h : (normN a).2.2.2.2 = true ∨ ((normN b).2.2.2.2 = true ∧ op ≠ 1)) : (apN op a b).2.2.2.2 = true := by
  have e : apN op a b = botN := by
    rcases ho with rfl | rfl | rfl | rfl | rfl | rfl
    · exact ap2_left (h.resolve_right (fun k => k.2 rfl))
    · rcases h with h | h; exact ap2_left h; exact ap2_right h.1
    · rcases h with h | h; exact ap2_left h; exact ap2_right h.1
    · rcases h with h | h; exact ap2_left h; exact ap2_right h.1
    · rcases h with h | h; exact ap2_left h; exact ap2_right (nz_bot hb h.1)
    · rcases h with h | h; exact ap2_left h; exact ap2_right (nz_bot hb h.1)
  rw [e]; rfl
theorem nz_mem {b : Int × Int × Nat × Nat × Bool} (hb : RawN b) {y : Int} (h : MemN (normN b) y) (h0 : y ≠ 0) : MemN (nonZeroN b) y := by
  unfold nonZeroN
  exact (nzRaw_mem (normN_raw hb) (mem_in (normN_raw hb) h)).2 ⟨h, fun c => absurd c h0⟩
theorem tmod_m1 (x : Int) : x.tmod (-1) = 0 := by rw [Int.tmod_neg, Int.tmod_one]
theorem apN_mem {op : Int} (ho : Op6 op) {a b : Int × Int × Nat × Nat × Bool} (ha : RawN a) (hb : RawN b) {x y : Int} (hx : MemN (normN a) x) (hy : MemN (normN b) y) (h : doneB op y = true) : MemN (apN op a b) (doneV op x y) := by
  have p := normN_raw ha
  have q := normN_raw hb
  have z := nonZeroN_raw hb
  have ix := mem_in p hx
  rcases ho with rfl | rfl | rfl | rfl | rfl | rfl
  · show MemN (ap2 neg2N (normN a) (normN a)) (wrap64 (-x)); rw [ap2_some hx.1 hx.1]; exact negN_mem ix hx
  · show MemN (ap2 addN (normN a) (normN b)) (wrap64 (x + y)); rw [ap2_some hx.1 hy.1]; exact addN_mem hx hy
  · show MemN (ap2 subN (normN a) (normN b)) (wrap64 (x - y)); rw [ap2_some hx.1 hy.1]; exact subN_mem hx hy
  · show MemN (ap2 mulN (normN a) (normN b)) (wrap64 (x * y)); rw [ap2_some hx.1 hy.1]; exact mulN_mem p q hx hy
  · have h0 : y ≠ 0 := by intro c; rw [c] at h; exact absurd h (by decide)
    have m := nz_mem hb hy h0
    show MemN (ap2 divN (normN a) (nonZeroN b)) (if y = 0 then 0 else (if y = -1 then wrap64 (-x) else x.tdiv y))
    rw [ap2_some hx.1 m.1, if_neg h0, ← quo_minus ix]
    exact divN_mem p z hx m h0
  · have h0 : y ≠ 0 := by intro c; rw [c] at h; exact absurd h (by decide)
    have m := nz_mem hb hy h0
    show MemN (ap2 remN (normN a) (nonZeroN b)) (if y = 0 then 0 else (if y = -1 then 0 else x.tmod y))
    rw [ap2_some hx.1 m.1, if_neg h0]
    have k := remN_mem p z hx m h0
    split
    · rename_i c; rw [c, tmod_m1] at k; exact k
    · exact k
theorem apN_one {op : Int} (ho : Op6 op) {x y : Int} (hx : In64 x) (hy : In64 y) (h : doneB op y = true) : apN op (constN x) (constN y) = constN (doneV op x y) := by
  rcases ho with rfl | rfl | rfl | rfl | rfl | rfl
  · show ap2 neg2N (normN (constN x)) (normN (constN x)) = _
    rw [norm_const hx, ap2_some rfl rfl]; exact neg_alone hx
  · show ap2 addN (normN (constN x)) (normN (constN y)) = _
    rw [norm_const hx, norm_const hy, ap2_some rfl rfl]; exact add_alone hx hy
  · show ap2 subN (normN (constN x)) (normN (constN y)) = _
    rw [norm_const hx, norm_const hy, ap2_some rfl rfl]; exact sub_alone hx hy
  · show ap2 mulN (normN (constN x)) (normN (constN y)) = _
    rw [norm_const hx, norm_const hy, ap2_some rfl rfl]; exact mul_alone hx hy
  · have h0 : y ≠ 0 := by intro c; rw [c] at h; exact absurd h (by decide)
    show ap2 divN (normN (constN x)) (nonZeroN (constN y)) = constN (if y = 0 then 0 else (if y = -1 then wrap64 (-x) else x.tdiv y))
    rw [norm_const hx, nz_const hy h0, ap2_some rfl rfl, if_neg h0, ← quo_minus hx]; exact div_alone hx hy h0
  · have h0 : y ≠ 0 := by intro c; rw [c] at h; exact absurd h (by decide)
    show ap2 remN (normN (constN x)) (nonZeroN (constN y)) = constN (if y = 0 then 0 else (if y = -1 then 0 else x.tmod y))
    rw [norm_const hx, nz_const hy h0, ap2_some rfl rfl, if_neg h0, rem_alone2 hx hy h0]
    split
    · rename_i c; rw [c, tmod_m1]
    · rfl
theorem apN_none {op : Int} (ho : Op6 op) {x y : Int} (h : doneB op y = false) : (apN op (constN x) (constN y)).2.2.2.2 = true := by
  have e : apN op (constN x) (constN y) = botN := by
    rcases ho with rfl | rfl | rfl | rfl | rfl | rfl
    · exact absurd h (by unfold doneB; simp)
    · exact absurd h (by unfold doneB; simp)
    · exact absurd h (by unfold doneB; simp)
    · exact absurd h (by unfold doneB; simp)
    · have h0 : y = 0 := by have : (!(decide (y = 0))) = false := h; simpa using this
      subst h0
      exact ap2_right (by rw [nz_const0]; rfl)
    · have h0 : y = 0 := by have : (!(decide (y = 0))) = false := h; simpa using this
      subst h0
      exact ap2_right (by rw [nz_const0]; rfl)
  rw [e]; rfl
theorem doneV_in {op : Int} (ho : Op6 op) {x y : Int} (hx : In64 x) : In64 (doneV op x y) := by
  rcases ho with rfl | rfl | rfl | rfl | rfl | rfl
  · exact wrap64_in _
  · exact wrap64_in _
  · exact wrap64_in _
  · exact wrap64_in _
  · show In64 (if y = 0 then 0 else (if y = -1 then wrap64 (-x) else x.tdiv y))
    split
    · exact in_zero
    · split
      · exact wrap64_in _
      · rename_i c; exact tdiv_in64 hx c
  · show In64 (if y = 0 then 0 else (if y = -1 then 0 else x.tmod y))
    split
    · exact in_zero
    · split
      · exact in_zero
      · rename_i h0 _; exact tmod_in hx h0
end
section
open Go.RowKit
theorem napply_op (op : Int) (ho : Op6 op) (a b : Int × Int × Nat × Nat × Bool) (ha : RawN a) (hb : RawN b) (w0 w : World) (hok : Ok w0 w) :
    Calls Tryz.prog 20 #[.int .i64 op, nv a, nv b] w fun e w' => e = .returned (.tuple #[nv (apN op a b), .int .i64 0]) ∧ Ok w0 w' := by
  rcases ho with rfl | rfl | rfl | rfl | rfl | rfl
  · exact napply_neg a b ha hb w0 w hok
  · exact napply_add a b ha hb w0 w hok
  · exact napply_sub a b ha hb w0 w hok
  · exact napply_mul a b ha hb w0 w hok
  · exact napply_div a b ha hb w0 w hok
  · exact napply_rem a b ha hb w0 w hok
theorem retvb {a b : Int} {t u : Bool} (h1 : a = b) (h2 : u = t) : Ending.returned (.tuple #[.int .i64 a, .bool u]) = .returned (.tuple #[.int .i64 b, .bool t]) := by rw [h1, h2]
theorem wi64 (z : Int) : IntKind.i64.wrap z = wrap64 z := by rw [IntKind.wrap_i64]; unfold wrap64; omega
set_option maxHeartbeats 4000000 in
theorem wdone_any (op x y : Int) (ho : Op6 op) (hx : In64 x) (w0 w : World) (hok : Ok w0 w) :
    Calls Tryz.prog 21 #[.int .i64 op, .int .i64 x, .int .i64 y] w fun e w' => e = .returned (.tuple #[.int .i64 (doneV op x y), .bool (doneB op y)]) ∧ Ok w0 w' := by
  have HX : Hid (In64 x) := hx
  clear hx
  rcases ho with rfl | rfl | rfl | rfl | rfl | rfl
  · go_enter Tryz.func21, Tryz.ntmps21
    go_wp2_with fail
    refine bodyPost_ret (results_tmp2 rfl _ _ _) rfl ?_
    exact ⟨retvb (by first | rfl | exact wi64 _) rfl, hok⟩
  · go_enter Tryz.func21, Tryz.ntmps21
    go_wp2_with fail
    refine bodyPost_ret (results_tmp2 rfl _ _ _) rfl ?_
    exact ⟨retvb (by first | rfl | exact wi64 _) rfl, hok⟩
  · go_enter Tryz.func21, Tryz.ntmps21
    go_wp2_with fail
    refine bodyPost_ret (results_tmp2 rfl _ _ _) rfl ?_
    exact ⟨retvb (by first | rfl | exact wi64 _) rfl, hok⟩
  · go_enter Tryz.func21, Tryz.ntmps21
    go_wp2_with fail
    refine bodyPost_ret (results_tmp2 rfl _ _ _) rfl ?_
    exact ⟨retvb (by first | rfl | exact wi64 _) rfl, hok⟩
  · by_cases h0 : y = 0
    · have k0 : (y == 0) = true := by simpa using h0
      have E : Hid (doneV 6 x y = 0 ∧ doneB 6 y = false) := by subst h0; exact ⟨rfl, rfl⟩
      clear h0
      go_enter Tryz.func21, Tryz.ntmps21
      go_wp2_with fail
      refine bodyPost_ret (results_tmp2 rfl _ _ _) rfl ?_
      exact ⟨retvb E.out.1.symm E.out.2.symm, hok⟩
    · have k0 : (y == 0) = false := by simpa using h0
      have D : Hid (doneB 6 y = true) := by show (!(decide (y = 0))) = true; simpa using h0
      by_cases h1 : y = -1
      · have k1 : (y == -1) = true := by simpa using h1
        have E : Hid (doneV 6 x y = wrap64 (-x)) := by unfold Hid; subst h1; rfl
        clear h1
        go_enter Tryz.func21, Tryz.ntmps21
        go_wp2_with fail
        refine bodyPost_ret (results_tmp2 rfl _ _ _) rfl ?_
        exact ⟨retvb (by first | (rw [E.out]; done) | (rw [E.out]; exact wi64 _)) D.out.symm, hok⟩
      · have k1 : (y == -1) = false := by simpa using h1
        have E : Hid (doneV 6 x y = x.tdiv y) := by
          show (if y = 0 then 0 else (if y = -1 then wrap64 (-x) else x.tdiv y)) = x.tdiv y
          rw [if_neg h0, if_neg h1]
        have I : Hid (wrap64 (x.tdiv y) = x.tdiv y) := wrap64_id (tdiv_in64 HX.out h1)
        go_enter Tryz.func21, Tryz.ntmps21
        go_wp2_with fail
        refine bodyPost_ret (results_tmp2 rfl _ _ _) rfl ?_
        exact ⟨retvb (by first | (rw [E.out]; done) | (rw [E.out]; exact I.out) | (rw [E.out, wi64]; exact I.out)) D.out.symm, hok⟩
  · by_cases h0 : y = 0
    · have k0 : (y == 0) = true := by simpa using h0
      have E : Hid (doneV 7 x y = 0 ∧ doneB 7 y = false) := by subst h0; exact ⟨rfl, rfl⟩
      clear h0
      go_enter Tryz.func21, Tryz.ntmps21
      go_wp2_with fail
      refine bodyPost_ret (results_tmp2 rfl _ _ _) rfl ?_
      exact ⟨retvb E.out.1.symm E.out.2.symm, hok⟩
    · have k0 : (y == 0) = false := by simpa using h0
      have D : Hid (doneB 7 y = true) := by show (!(decide (y = 0))) = true; simpa using h0
      by_cases h1 : y = -1
      · have k1 : (y == -1) = true := by simpa using h1
        have E : Hid (doneV 7 x y = 0) := by unfold Hid; subst h1; rfl
        clear h1
        go_enter Tryz.func21, Tryz.ntmps21
        go_wp2_with fail
        refine bodyPost_ret (results_tmp2 rfl _ _ _) rfl ?_
        exact ⟨retvb E.out.symm D.out.symm, hok⟩
      · have k1 : (y == -1) = false := by simpa using h1
        have E : Hid (doneV 7 x y = x.tmod y) := by
          show (if y = 0 then 0 else (if y = -1 then 0 else x.tmod y)) = x.tmod y
          rw [if_neg h0, if_neg h1]
        have I : Hid (wrap64 (x.tmod y) = x.tmod y) := wrap64_id (tmod_in HX.out h0)
        go_enter Tryz.func21, Tryz.ntmps21
        go_wp2_with fail
        refine bodyPost_ret (results_tmp2 rfl _ _ _) rfl ?_
        exact ⟨retvb (by first | (rw [E.out]; done) | (rw [E.out]; exact I.out) | (rw [E.out, wi64]; exact I.out)) D.out.symm, hok⟩
end
end Go.Proofs.YtgkbegmaffknbaaGreat
