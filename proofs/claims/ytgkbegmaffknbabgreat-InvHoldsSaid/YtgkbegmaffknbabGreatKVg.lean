import Derived.Test.YtgkbegmaffknbabGreatKVf
set_option linter.unusedVariables false
set_option linter.unusedSimpArgs false
set_option linter.unnecessarySimpa false
/- Vg -/
namespace Go.Proofs.YtgkbegmaffknbabGreat
open Go.RowKit Go.Shelf
def CPost (w0 : World) (l r : Int × Int × Nat × Nat × Bool) (e : Ending) (w' : World) : Prop := ∃ f, e = .returned f ∧ Tells w' f l r ∧ Ok w0 w'
set_option maxHeartbeats 400000 in
theorem vabout_any (fid : Nat) (caps : Array Value) (w : World) :
    Calls Tryz.prog 58 #[.func (.func fid) #[] caps] w fun e w' => e = .returned (.func (.func 104) #[] #[.pointer (some ⟨w.heap.size, 0, none⟩)]) ∧ w' = w.alloc (.cells #[.func (.func fid) #[] caps] 50) := by
  have hmf := run_mf
  go_enter Tryz.func58, Tryz.ntmps58
  go_wp2_with fail
  go_ret
  exact ⟨rfl, rfl⟩
theorem tells_about {w w2 : World} {l r : Int × Int × Nat × Nat × Bool} {fid : Nat} {caps : Array Value} (hen : ∀ w : World, (callFunc fid caps).run Tryz.prog w = .ok (.enter fid caps) w) (hf : ∀ w1, Ok w w1 → Calls Tryz.prog fid caps w1 fun e w' => e = .returned (.tuple #[nv l, nv r]) ∧ Ok w1 w') (e2 : w2 = w.alloc (.cells #[.func (.func fid) #[] caps] 50)) :
    Tells w2 (.func (.func 104) #[] #[.pointer (some ⟨w.heap.size, 0, none⟩)]) r l := by
  refine ⟨104, #[.pointer (some ⟨w.heap.size, 0, none⟩)], rfl, fun w => by kernel_rfl, fun w1 h1 => ?_⟩
  subst e2
  exact vabout1 fid caps l r hen _ w1 (Ok.row' h1 (heap_new0 _ _)) (fun w3 h3 => hf w3 ((Ok.alloc (Ok.refl w) _).step h1 |>.step h3))

set_option maxRecDepth 100000 in
set_option maxHeartbeats 4000000 in
theorem vcomparing_8 (x y : Int × Int × Nat × Nat × Bool) (hx : RawN x) (hy : RawN y) (w0 w : World) (hok : Ok w0 w) :
    Calls Tryz.prog 20 #[.int .i64 8, nv x, nv y] w (CPost w0 (compN 8 x y).1 (compN 8 x y).2) := by
  have hmf := run_mf
  have HX : Hid (RawN x ∧ RawN y) := ⟨hx, hy⟩
  clear hx hy
  obtain ⟨L, hL⟩ : ∃ t, t = (compN 8 x y).1 := ⟨_, rfl⟩
  obtain ⟨R, hR⟩ : ∃ t, t = (compN 8 x y).2 := ⟨_, rfl⟩
  rw [← hL, ← hR]
  have HL : Hid _ := hL
  have HR : Hid _ := hR
  clear hL hR
  unfold nv
  go_enter Tryz.func20, Tryz.ntmps20
  go_wp2_with fail
  go_ret
  refine ⟨_, rfl, ⟨50, _, rfl, fun w => by kernel_rfl, fun w1 h1 => ?_⟩, (hok.alloc _).alloc _⟩
  rw [HL.out, HR.out]
  exact vclo1 x y HX.out.1 HX.out.2 _ _ w1 (Ok.row' h1 (by repeat (first | (refine heap_at _ _ _ ?hx; case hx => (first | (simp; done) | (simp; omega))) | (refine heap_past _ _ _ ?hy ?_; case hy => (first | (simp; done) | (simp; omega))) | fail))) (Ok.row' h1 (by repeat (first | (refine heap_at _ _ _ ?hx; case hx => (first | (simp; done) | (simp; omega))) | (refine heap_past _ _ _ ?hy ?_; case hy => (first | (simp; done) | (simp; omega))) | fail)))
set_option maxRecDepth 100000 in
set_option maxHeartbeats 4000000 in
theorem vcomparing_9 (x y : Int × Int × Nat × Nat × Bool) (hx : RawN x) (hy : RawN y) (w0 w : World) (hok : Ok w0 w) :
    Calls Tryz.prog 20 #[.int .i64 9, nv x, nv y] w (CPost w0 (compN 9 x y).1 (compN 9 x y).2) := by
  have hmf := run_mf
  have HX : Hid (RawN x ∧ RawN y) := ⟨hx, hy⟩
  clear hx hy
  obtain ⟨L, hL⟩ : ∃ t, t = (compN 9 x y).1 := ⟨_, rfl⟩
  obtain ⟨R, hR⟩ : ∃ t, t = (compN 9 x y).2 := ⟨_, rfl⟩
  rw [← hL, ← hR]
  have HL : Hid _ := hL
  have HR : Hid _ := hR
  clear hL hR
  unfold nv
  go_enter Tryz.func20, Tryz.ntmps20
  go_wp2_with fail
  go_ret
  refine ⟨_, rfl, ⟨53, _, rfl, fun w => by kernel_rfl, fun w1 h1 => ?_⟩, (hok.alloc _).alloc _⟩
  rw [HL.out, HR.out]
  exact vclo2 x y HX.out.1 HX.out.2 _ _ w1 (Ok.row' h1 (by repeat (first | (refine heap_at _ _ _ ?hx; case hx => (first | (simp; done) | (simp; omega))) | (refine heap_past _ _ _ ?hy ?_; case hy => (first | (simp; done) | (simp; omega))) | fail))) (Ok.row' h1 (by repeat (first | (refine heap_at _ _ _ ?hx; case hx => (first | (simp; done) | (simp; omega))) | (refine heap_past _ _ _ ?hy ?_; case hy => (first | (simp; done) | (simp; omega))) | fail)))
set_option maxRecDepth 100000 in
set_option maxHeartbeats 4000000 in
theorem vcomparing_12 (x y : Int × Int × Nat × Nat × Bool) (hx : RawN x) (hy : RawN y) (w0 w : World) (hok : Ok w0 w) :
    Calls Tryz.prog 20 #[.int .i64 12, nv x, nv y] w (CPost w0 (compN 12 x y).1 (compN 12 x y).2) := by
  have hmf := run_mf
  have HX : Hid (RawN x ∧ RawN y) := ⟨hx, hy⟩
  clear hx hy
  obtain ⟨L, hL⟩ : ∃ t, t = (compN 12 x y).1 := ⟨_, rfl⟩
  obtain ⟨R, hR⟩ : ∃ t, t = (compN 12 x y).2 := ⟨_, rfl⟩
  rw [← hL, ← hR]
  have HL : Hid _ := hL
  have HR : Hid _ := hR
  clear hL hR
  unfold nv
  go_enter Tryz.func20, Tryz.ntmps20
  go_wp2_with fail
  go_ret
  refine ⟨_, rfl, ⟨59, _, rfl, fun w => by kernel_rfl, fun w1 h1 => ?_⟩, (hok.alloc _).alloc _⟩
  rw [HL.out, HR.out]
  exact vclo3 x y HX.out.1 HX.out.2 _ _ w1 (Ok.row' h1 (by repeat (first | (refine heap_at _ _ _ ?hx; case hx => (first | (simp; done) | (simp; omega))) | (refine heap_past _ _ _ ?hy ?_; case hy => (first | (simp; done) | (simp; omega))) | fail))) (Ok.row' h1 (by repeat (first | (refine heap_at _ _ _ ?hx; case hx => (first | (simp; done) | (simp; omega))) | (refine heap_past _ _ _ ?hy ?_; case hy => (first | (simp; done) | (simp; omega))) | fail)))
set_option maxRecDepth 100000 in
set_option maxHeartbeats 4000000 in
theorem vcomparing_13 (x y : Int × Int × Nat × Nat × Bool) (hx : RawN x) (hy : RawN y) (w0 w : World) (hok : Ok w0 w) :
    Calls Tryz.prog 20 #[.int .i64 13, nv x, nv y] w (CPost w0 (compN 13 x y).1 (compN 13 x y).2) := by
  have hmf := run_mf
  have HX : Hid (RawN x ∧ RawN y) := ⟨hx, hy⟩
  clear hx hy
  obtain ⟨L, hL⟩ : ∃ t, t = (compN 13 x y).1 := ⟨_, rfl⟩
  obtain ⟨R, hR⟩ : ∃ t, t = (compN 13 x y).2 := ⟨_, rfl⟩
  rw [← hL, ← hR]
  have HL : Hid _ := hL
  have HR : Hid _ := hR
  clear hL hR
  unfold nv
  go_enter Tryz.func20, Tryz.ntmps20
  go_wp2_with fail
  go_ret
  refine ⟨_, rfl, ⟨60, _, rfl, fun w => by kernel_rfl, fun w1 h1 => ?_⟩, (hok.alloc _).alloc _⟩
  rw [HL.out, HR.out]
  exact vclo4 x y HX.out.1 HX.out.2 _ _ w1 (Ok.row' h1 (by repeat (first | (refine heap_at _ _ _ ?hx; case hx => (first | (simp; done) | (simp; omega))) | (refine heap_past _ _ _ ?hy ?_; case hy => (first | (simp; done) | (simp; omega))) | fail))) (Ok.row' h1 (by repeat (first | (refine heap_at _ _ _ ?hx; case hx => (first | (simp; done) | (simp; omega))) | (refine heap_past _ _ _ ?hy ?_; case hy => (first | (simp; done) | (simp; omega))) | fail)))
set_option maxRecDepth 100000 in
set_option maxHeartbeats 4000000 in
theorem vcomparing_10 (x y : Int × Int × Nat × Nat × Bool) (hx : RawN x) (hy : RawN y) (w0 w : World) (hok : Ok w0 w) :
    Calls Tryz.prog 20 #[.int .i64 10, nv x, nv y] w (CPost w0 (compN 10 x y).1 (compN 10 x y).2) := by
  have hle := hok.le
  have HX : Hid (RawN x ∧ RawN y) := ⟨hx, hy⟩
  clear hx hy
  obtain ⟨L, hL⟩ : ∃ t, t = (compN 10 x y).1 := ⟨_, rfl⟩
  obtain ⟨R, hR⟩ : ∃ t, t = (compN 10 x y).2 := ⟨_, rfl⟩
  have HL : Hid (L = (compN 8 y x).2) := by rw [hL]; exact rfl
  have HR : Hid (R = (compN 8 y x).1) := by rw [hR]; exact rfl
  rw [← hL, ← hR]
  clear hL hR
  unfold nv
  go_enter Tryz.func20, Tryz.ntmps20
  go_wp2_with fail
  obtain ⟨W, hW⟩ : ∃ W, W = ((w).alloc (.cells #[.bool x.2.2.2.2, .int .i64 x.1, .int .i64 x.2.1, .int .u64 (x.2.2.1 : Int), .int .u64 (x.2.2.2.1 : Int)] 29)).alloc (.cells #[.bool y.2.2.2.2, .int .i64 y.1, .int .i64 y.2.1, .int .u64 (y.2.2.1 : Int), .int .u64 (y.2.2.2.1 : Int)] 29) := ⟨_, rfl⟩
  have HW : Hid (Ok w0 W) := by unfold Hid; rw [hW]; exact (by repeat (first | exact hok | refine Ok.alloc ?_ _ | refine Ok.draws ?_ _ | fail))
  rw [← hW]
  clear hW
  refine (vcomparing_8 y x HX.out.2 HX.out.1 W _ (Ok.refl _)).mono ?_
  rintro e w1 ⟨f, rfl, hT, hb⟩
  rw [← HL.out, ← HR.out] at hT
  obtain ⟨fid, caps, rfl, hen, hf⟩ := hT
  have HF : Hid _ := And.intro hen hf
  have Hw1 : Hid (Ok w0 w1) := HW.out.step hb
  clear hen hf hb HW
  go_wp2_with fail
  refine (vabout_any fid caps w1).mono ?_
  rintro e w2 ⟨rfl, e2⟩
  have E2 : Hid _ := e2
  clear e2
  go_wp2_with fail
  go_ret
  exact ⟨_, rfl, tells_about HF.out.1 HF.out.2 E2.out, by rw [E2.out]; exact Hw1.out.alloc _⟩
set_option maxRecDepth 100000 in
set_option maxHeartbeats 4000000 in
theorem vcomparing_11 (x y : Int × Int × Nat × Nat × Bool) (hx : RawN x) (hy : RawN y) (w0 w : World) (hok : Ok w0 w) :
    Calls Tryz.prog 20 #[.int .i64 11, nv x, nv y] w (CPost w0 (compN 11 x y).1 (compN 11 x y).2) := by
  have hle := hok.le
  have HX : Hid (RawN x ∧ RawN y) := ⟨hx, hy⟩
  clear hx hy
  obtain ⟨L, hL⟩ : ∃ t, t = (compN 11 x y).1 := ⟨_, rfl⟩
  obtain ⟨R, hR⟩ : ∃ t, t = (compN 11 x y).2 := ⟨_, rfl⟩
  have HL : Hid (L = (compN 9 y x).2) := by rw [hL]; exact rfl
  have HR : Hid (R = (compN 9 y x).1) := by rw [hR]; exact rfl
  rw [← hL, ← hR]
  clear hL hR
  unfold nv
  go_enter Tryz.func20, Tryz.ntmps20
  go_wp2_with fail
  obtain ⟨W, hW⟩ : ∃ W, W = ((w).alloc (.cells #[.bool x.2.2.2.2, .int .i64 x.1, .int .i64 x.2.1, .int .u64 (x.2.2.1 : Int), .int .u64 (x.2.2.2.1 : Int)] 29)).alloc (.cells #[.bool y.2.2.2.2, .int .i64 y.1, .int .i64 y.2.1, .int .u64 (y.2.2.1 : Int), .int .u64 (y.2.2.2.1 : Int)] 29) := ⟨_, rfl⟩
  have HW : Hid (Ok w0 W) := by unfold Hid; rw [hW]; exact (by repeat (first | exact hok | refine Ok.alloc ?_ _ | refine Ok.draws ?_ _ | fail))
  rw [← hW]
  clear hW
  refine (vcomparing_9 y x HX.out.2 HX.out.1 W _ (Ok.refl _)).mono ?_
  rintro e w1 ⟨f, rfl, hT, hb⟩
  rw [← HL.out, ← HR.out] at hT
  obtain ⟨fid, caps, rfl, hen, hf⟩ := hT
  have HF : Hid _ := And.intro hen hf
  have Hw1 : Hid (Ok w0 w1) := HW.out.step hb
  clear hen hf hb HW
  go_wp2_with fail
  refine (vabout_any fid caps w1).mono ?_
  rintro e w2 ⟨rfl, e2⟩
  have E2 : Hid _ := e2
  clear e2
  go_wp2_with fail
  go_ret
  exact ⟨_, rfl, tells_about HF.out.1 HF.out.2 E2.out, by rw [E2.out]; exact Hw1.out.alloc _⟩
theorem vcomparing_any (op : Int) (ho : OpC op) (x y : Int × Int × Nat × Nat × Bool) (hx : RawN x) (hy : RawN y) (w0 w : World) (hok : Ok w0 w) :
    Calls Tryz.prog 20 #[.int .i64 op, nv x, nv y] w (CPost w0 (compN op x y).1 (compN op x y).2) := by
  rcases ho with rfl | rfl | rfl | rfl | rfl | rfl
  · exact vcomparing_8 x y hx hy w0 w hok
  · exact vcomparing_9 x y hx hy w0 w hok
  · exact vcomparing_10 x y hx hy w0 w hok
  · exact vcomparing_11 x y hx hy w0 w hok
  · exact vcomparing_12 x y hx hy w0 w hok
  · exact vcomparing_13 x y hx hy w0 w hok
set_option maxRecDepth 100000 in
set_option maxHeartbeats 4000000 in
theorem vcomparing_nil (op : Int) (ho : ¬ OpC op) (x y : Int × Int × Nat × Nat × Bool) (w0 w : World) (hok : Ok w0 w) :
    Calls Tryz.prog 20 #[.int .i64 op, nv x, nv y] w fun e w' => e = .returned .nilFunc ∧ Ok w0 w' := by
  have HO : Hid (¬ OpC op) := ho
  have k8 : (op == 8) = false := by rw [beq_eq_false_iff_ne]; intro h; exact ho (Or.inl h)
  have k9 : (op == 9) = false := by rw [beq_eq_false_iff_ne]; intro h; exact ho (Or.inr (Or.inl h))
  have k10 : (op == 10) = false := by rw [beq_eq_false_iff_ne]; intro h; exact ho (Or.inr (Or.inr (Or.inl h)))
  have k11 : (op == 11) = false := by rw [beq_eq_false_iff_ne]; intro h; exact ho (Or.inr (Or.inr (Or.inr (Or.inl h))))
  have k12 : (op == 12) = false := by rw [beq_eq_false_iff_ne]; intro h; exact ho (Or.inr (Or.inr (Or.inr (Or.inr (Or.inl h)))))
  have k13 : (op == 13) = false := by rw [beq_eq_false_iff_ne]; intro h; exact ho (Or.inr (Or.inr (Or.inr (Or.inr (Or.inr h)))))
  clear ho
  unfold nv
  go_enter Tryz.func20, Tryz.ntmps20
  go_wp2_with fail
  go_ret
  exact ⟨rfl, (hok.alloc _).alloc _⟩
end Go.Proofs.YtgkbegmaffknbabGreat
