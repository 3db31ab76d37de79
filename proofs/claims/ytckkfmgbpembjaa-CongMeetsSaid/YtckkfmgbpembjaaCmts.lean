import Derived.Test.YtckkfmgbpembjaaCwk
import Derived.Test.YtckkfmgbpembjaaClw
set_option linter.unusedVariables false
set_option linter.unusedSimpArgs false
set_option linter.unnecessarySimpa false
/- CongMeets: the law's walk. -/
namespace Go.Proofs.Ytckkfmgbpembjaa
open Go.RowKit List
theorem joinC_u64 {cM cR dM dR : Nat} (h1 : U64 cM) (h3 : U64 dM) : U64 (joinC cM cR dM dR).1 ∧ U64 (joinC cM cR dM dR).2 := classC_u64 (joinG_u64 h1 h3)
theorem joinC_comm {cM cR dM dR : Nat} (h1 : U64 cM) (h3 : U64 dM) : joinC dM dR cM cR = joinC cM cR dM dR := by
  have e := class_ext (joinC_u64 (cR := dR) (dR := cR) h3 h1).2 (joinC_u64 (cR := cR) (dR := dR) h1 h3).2 (classC_normal _ _) (classC_normal _ _) (fun v => ⟨fun h => join_least (fun _ a => join_right a) (fun _ a => join_left a) h, fun h => join_least (fun _ a => join_right a) (fun _ a => join_left a) h⟩)
  exact Prod.ext e.1 e.2
theorem bool_of (p : Prop) : ∃ b : Bool, b = true ↔ p := by
  by_cases h : p
  · exact ⟨true, by simp [h]⟩
  · exact ⟨false, by simp [h]⟩
def CG (M R : Nat) : Obj := .cells #[.int .u64 (M : Int), .int .u64 (R : Int)] 24
theorem CG_facts {w : World} {g M R : Nat} (h : w.heap[g]? = some (CG M R)) : w.cell? ⟨g, 0, none⟩ = some (.int .u64 (M : Int)) ∧ w.cell? ⟨g, 1, none⟩ = some (.int .u64 (R : Int)) := ⟨(row_facts h).1, (row_facts h).2.1⟩
/-- The six classes that lie there. -/
def Six (w0 : World) (g gm gn gj cM cR dM dR eM eR mM mR jM jR : Nat) (Y : World) : Prop :=
  Y.heap[g]? = some (CG cM cR) ∧ Y.heap[g + 1]? = some (CG dM dR) ∧ Y.heap[g + 2]? = some (CG eM eR) ∧ Y.heap[gm]? = some (CG mM mR) ∧ Y.heap[gn]? = some (CG mM mR) ∧ Y.heap[gj]? = some (CG jM jR) ∧ Ok w0 Y
theorem Six.step {w0 Y Z : World} {g gm gn gj cM cR dM dR eM eR mM mR jM jR : Nat} (h : Six w0 g gm gn gj cM cR dM dR eM eR mM mR jM jR Y) (hb : Ok Y Z) : Six w0 g gm gn gj cM cR dM dR eM eR mM mR jM jR Z :=
  ⟨Ok.row' hb h.1, Ok.row' hb h.2.1, Ok.row' hb h.2.2.1, Ok.row' hb h.2.2.2.1, Ok.row' hb h.2.2.2.2.1, Ok.row' hb h.2.2.2.2.2.1, h.2.2.2.2.2.2.step hb⟩
set_option maxRecDepth 100000 in
set_option maxHeartbeats 40000000 in
theorem meets_any (cM cR dM dR eM eR : Nat) (v : Int) (h1 : U64 cM) (h2 : U64 cR) (h3 : U64 dM) (h4 : U64 dR) (h5 : U64 eM) (h6 : U64 eR) (hv : In64 v) (w0 w : World) (hok : Ok w0 w) :
    Calls Try.prog 3 #[cv cM cR, cv dM dR, cv eM eR, .int .i64 v] w fun e w' => e = .returned (.bool true) ∧ Ok w0 w' := by
  have HU : Hid _ := And.intro h1 (And.intro h2 (And.intro h3 (And.intro h4 (And.intro h5 (And.intro h6 hv)))))
  obtain ⟨Xm, hXm⟩ : ∃ y, y = meetC cM cR dM dR := ⟨_, rfl⟩
  obtain ⟨Xj, hXj⟩ : ∃ y, y = joinC cM cR dM dR := ⟨_, rfl⟩
  have FM := meet_mem (cM := cM) (dM := dM) h2 h4 hv
  have FN := meet_normal cM cR dM dR
  have FU := meet_u64 h1 h2 h3 h4
  have FZ := meet_none (cM := cM) (cR := cR) (dM := dM) (dR := dR)
  have JU := joinC_u64 (cR := cR) (dR := dR) h1 h3
  have JN : NormalC (joinC cM cR dM dR).1 (joinC cM cR dM dR).2 := classC_normal _ _
  have JL : ∀ u, MemC cM cR u → MemC (joinC cM cR dM dR).1 (joinC cM cR dM dR).2 u := fun u h => join_left h
  have JR : ∀ u, MemC dM dR u → MemC (joinC cM cR dM dR).1 (joinC cM cR dM dR).2 u := fun u h => join_right h
  have JB : (∀ u, MemC cM cR u → MemC eM eR u) → (∀ u, MemC dM dR u → MemC eM eR u) → ∀ u, MemC (joinC cM cR dM dR).1 (joinC cM cR dM dR).2 u → MemC eM eR u := fun a b u h => join_least a b h
  have LJ := leq_join h1 h2 h3 h4
  have HC1 : Hid (meetC dM dR cM cR = Xm) := by rw [hXm]; exact (meet_comm h1 h2 h3 h4).symm
  have HC2 : Hid (joinC dM dR cM cR = Xj) := by rw [hXj]; exact joinC_comm h1 h3
  rw [← hXm] at FM FN FU FZ
  rw [← hXj] at JU JN JL JR JB LJ
  have HXm : Hid _ := hXm
  have HXj : Hid _ := hXj
  have HF : Hid (((Xm.2.2 = true ∧ MemC Xm.1 Xm.2.1 v) ↔ MemC cM cR v ∧ MemC dM dR v) ∧ NormalC Xm.1 Xm.2.1 ∧ (U64 Xm.1 ∧ U64 Xm.2.1) ∧ (Xm.2.2 = false → Xm.1 = 0 ∧ Xm.2.1 = 0)) := ⟨FM, FN, FU, FZ⟩
  have HJ : Hid ((U64 Xj.1 ∧ U64 Xj.2) ∧ NormalC Xj.1 Xj.2 ∧ (∀ u, MemC cM cR u → MemC Xj.1 Xj.2 u) ∧ (∀ u, MemC dM dR u → MemC Xj.1 Xj.2 u) ∧ ((∀ u, MemC cM cR u → MemC eM eR u) → (∀ u, MemC dM dR u → MemC eM eR u) → ∀ u, MemC Xj.1 Xj.2 u → MemC eM eR u)) := ⟨JU, JN, JL, JR, JB⟩
  have HLJ : Hid (leqC cM cR dM dR = decide (normC dM dR = Xj)) := LJ
  clear h1 h2 h3 h4 h5 h6 hv hXm hXj FM FN FU FZ JU JN JL JR JB LJ
  unfold cv
  go_enter Try.func3, Try.ntmps3
  go_wp2_with fail
  obtain ⟨W, hW⟩ : ∃ W, W = ((w.alloc (.cells #[.int .u64 (cM : Int), .int .u64 (cR : Int)] 24)).alloc (.cells #[.int .u64 (dM : Int), .int .u64 (dR : Int)] 24)).alloc (.cells #[.int .u64 (eM : Int), .int .u64 (eR : Int)] 24) := ⟨_, rfl⟩
  have ra : W.heap[w.heap.size]? = some (CG cM cR) := by rw [hW]; exact (by repeat (first | (refine heap_at _ _ _ ?hx; case hx => (first | (simp; done) | (simp; omega))) | (refine heap_past _ _ _ ?hy ?_; case hy => (first | (simp; done) | (simp; omega))) | fail))
  have rb : W.heap[w.heap.size + 1]? = some (CG dM dR) := by rw [hW]; exact (by repeat (first | (refine heap_at _ _ _ ?hx; case hx => (first | (simp; done) | (simp; omega))) | (refine heap_past _ _ _ ?hy ?_; case hy => (first | (simp; done) | (simp; omega))) | fail))
  have rc : W.heap[w.heap.size + 2]? = some (CG eM eR) := by rw [hW]; exact (by repeat (first | (refine heap_at _ _ _ ?hx; case hx => (first | (simp; done) | (simp; omega))) | (refine heap_past _ _ _ ?hy ?_; case hy => (first | (simp; done) | (simp; omega))) | fail))
  have hoW : Ok w0 W := by rw [hW]; exact (by repeat (first | exact hok | refine Ok.alloc ?_ _ | refine Ok.draws ?_ _ | fail))
  rw [← hW]
  clear hW hok
  obtain ⟨g, hg⟩ : ∃ g, g = w.heap.size := ⟨_, rfl⟩
  rw [← hg] at ra rb rc ⊢
  rw [show g + 1 + 1 = g + 2 from rfl]
  clear hg
  refine (works_any W W (Ok.refl _)).mono ?_
  rintro e w1 ⟨rfl, hb1⟩
  have HR1 : Hid (_ ∧ _ ∧ _ ∧ _) := And.intro (Ok.row' hb1 ra) (And.intro (Ok.row' hb1 rb) (And.intro (Ok.row' hb1 rc) (hoW.step hb1)))
  clear hb1 ra rb rc hoW
  obtain ⟨c0, c1⟩ := CG_facts HR1.out.1
  obtain ⟨d0, d1⟩ := CG_facts HR1.out.2.1
  go_wp2_with fail
  refine (pmeet_any cM cR dM dR HU.out.1 HU.out.2.1 HU.out.2.2.1 HU.out.2.2.2.1 w1 _ (Ok.refl _)).mono ?_
  rintro e w2 ⟨rfl, hb2⟩
  rw [← HXm.out]
  have HR2 : Hid (_ ∧ _ ∧ _ ∧ _) := And.intro (Ok.row' hb2 HR1.out.1) (And.intro (Ok.row' hb2 HR1.out.2.1) (And.intro (Ok.row' hb2 HR1.out.2.2.1) (HR1.out.2.2.2.step hb2)))
  clear hb2 c0 c1 d0 d1
  obtain ⟨c0, c1⟩ := CG_facts HR2.out.1
  obtain ⟨d0, d1⟩ := CG_facts HR2.out.2.1
  have z0 := lt_row HR2.out.1
  have z1 := lt_row HR2.out.2.1
  have z2 := lt_row HR2.out.2.2.1
  have n0 : ¬ w2.heap.size = g := by omega
  have n1 : ¬ w2.heap.size = g + 1 := by omega
  unfold cv
  go_wp2_with fail
  refine (pmeet_any dM dR cM cR HU.out.2.2.1 HU.out.2.2.2.1 HU.out.1 HU.out.2.1 _ _ (Ok.refl _)).mono ?_
  rintro e w3 ⟨rfl, hb3⟩
  rw [HC1.out]
  have HR3 : Hid (_ ∧ _ ∧ _ ∧ w3.heap[w2.heap.size]? = some (CG Xm.1 Xm.2.1) ∧ _) := And.intro (Ok.row' hb3 (heap_past _ _ _ z0 HR2.out.1)) (And.intro (Ok.row' hb3 (heap_past _ _ _ z1 HR2.out.2.1)) (And.intro (Ok.row' hb3 (heap_past _ _ _ z2 HR2.out.2.2.1)) (And.intro (Ok.row' hb3 (heap_new0 _ _)) ((HR2.out.2.2.2.alloc _).step hb3))))
  obtain ⟨gm, hgm⟩ : ∃ gm, gm = w2.heap.size := ⟨_, rfl⟩
  rw [← hgm] at HR3 ⊢
  clear hb3 hgm c0 c1 d0 d1 z0 z1 z2 n0 n1
  obtain ⟨c0, c1⟩ := CG_facts HR3.out.1
  obtain ⟨d0, d1⟩ := CG_facts HR3.out.2.1
  have z0 := lt_row HR3.out.1
  have z1 := lt_row HR3.out.2.1
  have z2 := lt_row HR3.out.2.2.1
  have z3 := lt_row HR3.out.2.2.2.1
  have n0 : ¬ w3.heap.size = g := by omega
  have n1 : ¬ w3.heap.size = g + 1 := by omega
  unfold cv
  go_wp2_with fail
  refine (pjoin_any cM cR dM dR HU.out.1 HU.out.2.1 HU.out.2.2.1 HU.out.2.2.2.1 _ _ (Ok.refl _)).mono ?_
  rintro e w4 ⟨rfl, hb4⟩
  rw [← HXj.out]
  have HR4 : Hid (_ ∧ _ ∧ _ ∧ _ ∧ w4.heap[w3.heap.size]? = some (CG Xm.1 Xm.2.1) ∧ _) := And.intro (Ok.row' hb4 (heap_past _ _ _ z0 HR3.out.1)) (And.intro (Ok.row' hb4 (heap_past _ _ _ z1 HR3.out.2.1)) (And.intro (Ok.row' hb4 (heap_past _ _ _ z2 HR3.out.2.2.1)) (And.intro (Ok.row' hb4 (heap_past _ _ _ z3 HR3.out.2.2.2.1)) (And.intro (Ok.row' hb4 (heap_new0 _ _)) ((HR3.out.2.2.2.2.alloc _).step hb4)))))
  obtain ⟨gn, hgn⟩ : ∃ gn, gn = w3.heap.size := ⟨_, rfl⟩
  rw [← hgn] at HR4 ⊢
  clear hb4 hgn c0 c1 d0 d1 z0 z1 z2 z3 n0 n1
  obtain ⟨mM, mR, ok⟩ := Xm
  obtain ⟨jM, jR⟩ := Xj
  unfold cv
  go_wp2_with fail
  obtain ⟨Y, hY⟩ : ∃ Y, Y = w4.alloc (.cells #[.int .u64 (jM : Int), .int .u64 (jR : Int)] 24) := ⟨_, rfl⟩
  obtain ⟨gj, hgj⟩ : ∃ gj, gj = w4.heap.size := ⟨_, rfl⟩
  have HS0 : Hid (Six w0 g gm gn gj cM cR dM dR eM eR mM mR jM jR Y) := by
    rw [hY, hgj]
    exact ⟨heap_past _ _ _ (lt_row HR4.out.1) HR4.out.1, heap_past _ _ _ (lt_row HR4.out.2.1) HR4.out.2.1, heap_past _ _ _ (lt_row HR4.out.2.2.1) HR4.out.2.2.1, heap_past _ _ _ (lt_row HR4.out.2.2.2.1) HR4.out.2.2.2.1, heap_past _ _ _ (lt_row HR4.out.2.2.2.2.1) HR4.out.2.2.2.2.1, heap_new0 _ _, HR4.out.2.2.2.2.2.alloc _⟩
  rw [← hY, ← hgj]
  clear hY hgj
  (try simp only at HF)
  (try simp only at HJ)
  obtain ⟨c0, c1⟩ := CG_facts HS0.out.1
  obtain ⟨d0, d1⟩ := CG_facts HS0.out.2.1
  have z0 := lt_row HS0.out.1
  have z1 := lt_row HS0.out.2.1
  have bz : Ok Y Y := Ok.refl _
  obtain ⟨bi, hbi⟩ : ∃ b : Bool, b = true ↔ MemC cM cR v := bool_of _
  obtain ⟨bs, hbs⟩ : ∃ b : Bool, b = true ↔ MemC dM dR v := bool_of _
  have cin : ∀ u u0, Ok u0 u → Calls Try.prog 11 #[cv cM cR, .int .i64 v] u fun e w' => e = .returned (.bool bi) ∧ Ok u0 w' := by
    intro u u0 hu
    refine (linside_any cM cR v HU.out.1 HU.out.2.1 HU.out.2.2.2.2.2.2 u0 u hu).mono ?_
    rintro e w' ⟨⟨b, rfl, hb⟩, hbN⟩
    refine ⟨?_, hbN⟩
    obtain rfl : b = bi := by rw [Bool.eq_iff_iff, hb, hbi]
    rfl
  have din : ∀ u u0, Ok u0 u → Calls Try.prog 11 #[cv dM dR, .int .i64 v] u fun e w' => e = .returned (.bool bs) ∧ Ok u0 w' := by
    intro u u0 hu
    refine (linside_any dM dR v HU.out.2.2.1 HU.out.2.2.2.1 HU.out.2.2.2.2.2.2 u0 u hu).mono ?_
    rintro e w' ⟨⟨b, rfl, hb⟩, hbN⟩
    refine ⟨?_, hbN⟩
    obtain rfl : b = bs := by rw [Bool.eq_iff_iff, hb, hbs]
    rfl
  have HCI : Hid _ := And.intro cin din
  have HB : Hid ((bi = true ↔ MemC cM cR v) ∧ (bs = true ↔ MemC dM dR v)) := ⟨hbi, hbs⟩
  clear cin din hbi hbs
  go_region_held3 (fun w' => w'.cell? ⟨g, 0, none⟩ = some (.int .u64 (cM : Int)) ∧ w'.cell? ⟨g, 1, none⟩ = some (.int .u64 (cR : Int)) ∧ w'.cell? ⟨g + 1, 0, none⟩ = some (.int .u64 (dM : Int)) ∧ w'.cell? ⟨g + 1, 1, none⟩ = some (.int .u64 (dR : Int))) (go_keep)
    (first
    | (go_at_call_of 11 (cR); refine (HCI.out.1 _ Y (by repeat (first | assumption | refine Ok.alloc ?_ _ | refine Below.drew ?_))).mono ?_; rintro e w' ⟨rfl, hb⟩; have q0 := Ok.cell hb z0 c0; have q1 := Ok.cell hb z0 c1; have q2 := Ok.cell hb z1 d0; have q3 := Ok.cell hb z1 d1)
    | (go_at_call_of 11 (dR); refine (HCI.out.2 _ Y (by repeat (first | assumption | refine Ok.alloc ?_ _ | refine Below.drew ?_))).mono ?_; rintro e w' ⟨rfl, hb⟩; have q0 := Ok.cell hb z0 c0; have q1 := Ok.cell hb z0 c1; have q2 := Ok.cell hb z1 d0; have q3 := Ok.cell hb z1 d1)
    | fail)
  have HS1 : Hid (Six w0 g gm gn gj cM cR dM dR eM eR mM mR jM jR w') := HS0.out.step hb
  obtain ⟨V, hV⟩ : ∃ V, V = w' := ⟨_, rfl⟩
  rw [← hV] at HS1 ⊢
  clear hV hb q0 q1 q2 q3 c0 c1 d0 d1 z0 z1 bz
  go_wp2_with fail
  rename_i Qq wI hHI K0 aK0 Kk aK
  clear hHI
  have tail7 : ∀ (y39 y40 y41 y42 y43 y44 y45 y46 y47 y48 y49 y50 y51 y52 y53 y54 y55 y56 y57 y58 y59 y60 y61 y62 y63 y64 y65 y66 y67 y68 y69 y70 y71 y72 y73 y74 y75 y76 y77 y78 y79 y80 y81 y82 y83 y84 y85 : Value) (Z : World), Six w0 g gm gn gj cM cR dM dR eM eR mM mR jM jR Z → K0 { tmps := #[.agg #[.int .u64 (cM : Int), .int .u64 (cR : Int)], .agg #[.int .u64 (dM : Int), .int .u64 (dR : Int)], .agg #[.int .u64 (eM : Int), .int .u64 (eR : Int)], .int .i64 v, .pointer (some ⟨g, 0, none⟩), .pointer (some ⟨g + 1, 0, none⟩), .pointer (some ⟨g + 2, 0, none⟩), undef, .bool false, .pointer (some ⟨gm, 0, none⟩), .bool ok, .pointer (some ⟨gn, 0, none⟩), .bool ok, .pointer (some ⟨gj, 0, none⟩), .bool bi, .bool bs, .bool true, .bool false, .tuple #[.agg #[.int .u64 (mM : Int), .int .u64 (mR : Int)], .bool ok], .agg #[.int .u64 (cM : Int), .int .u64 (cR : Int)], .agg #[.int .u64 (dM : Int), .int .u64 (dR : Int)], .tuple #[.agg #[.int .u64 (mM : Int), .int .u64 (mR : Int)], .bool ok], .agg #[.int .u64 (mM : Int), .int .u64 (mR : Int)], .bool ok, .tuple #[.agg #[.int .u64 (mM : Int), .int .u64 (mR : Int)], .bool ok], .agg #[.int .u64 (dM : Int), .int .u64 (dR : Int)], .agg #[.int .u64 (cM : Int), .int .u64 (cR : Int)], .tuple #[.agg #[.int .u64 (mM : Int), .int .u64 (mR : Int)], .bool ok], .agg #[.int .u64 (mM : Int), .int .u64 (mR : Int)], .bool ok, .agg #[.int .u64 (cM : Int), .int .u64 (cR : Int)], .agg #[.int .u64 (dM : Int), .int .u64 (dR : Int)], .agg #[.int .u64 (jM : Int), .int .u64 (jR : Int)], .agg #[.int .u64 (cM : Int), .int .u64 (cR : Int)], .int .i64 v, .bool bi, .agg #[.int .u64 (dM : Int), .int .u64 (dR : Int)], .int .i64 v, .bool bs, y39, y40, y41, y42, y43, y44, y45, y46, y47, y48, y49, y50, y51, y52, y53, y54, y55, y56, y57, y58, y59, y60, y61, y62, y63, y64, y65, y66, y67, y68, y69, y70, y71, y72, y73, y74, y75, y76, y77, y78, y79, y80, y81, y82, y83, y84, y85, undef, undef, undef, undef, undef, undef, undef, undef, undef, undef, undef, undef, undef, undef, undef, undef, undef, undef, undef, undef, undef, undef, undef, undef, undef, undef, undef, undef, undef, undef, undef, undef, undef, undef, undef, undef, undef, undef, undef, undef, undef, undef, undef, undef, undef, undef, undef, undef, undef, undef, undef, undef, undef, undef, undef, undef, undef, undef, undef, undef, undef, undef, undef, undef, undef, undef, undef, undef, undef, undef, undef, undef, undef, undef, undef, undef, undef, undef, undef, undef, undef, undef, undef, undef, undef, undef, undef, undef, undef, undef, undef], defers := [] } Z := by
    intro y39 y40 y41 y42 y43 y44 y45 y46 y47 y48 y49 y50 y51 y52 y53 y54 y55 y56 y57 y58 y59 y60 y61 y62 y63 y64 y65 y66 y67 y68 y69 y70 y71 y72 y73 y74 y75 y76 y77 y78 y79 y80 y81 y82 y83 y84 y85 Z hSZ
    have HZ0 : Hid (Six w0 g gm gn gj cM cR dM dR eM eR mM mR jM jR Z) := hSZ
    clear hSZ
    obtain ⟨c0, c1⟩ := CG_facts HZ0.out.1
    obtain ⟨d0, d1⟩ := CG_facts HZ0.out.2.1
    obtain ⟨e0, e1⟩ := CG_facts HZ0.out.2.2.1
    obtain ⟨m0, m1⟩ := CG_facts HZ0.out.2.2.2.1
    obtain ⟨j0, j1⟩ := CG_facts HZ0.out.2.2.2.2.2.1
    refine aK0 _ _ ?_
    go_wp2_with fail
    rename_i K2 aK2 K1 aK1 K3 aK3
    have tail13 : ∀ (y86 y87 y88 y89 y90 y91 y92 y93 y94 y95 y96 y97 y98 y99 y100 y101 y102 y103 y104 y105 y106 y107 y108 y109 y110 y111 y112 y113 y114 y115 y116 y117 y118 y119 y120 y121 y122 y123 y124 y125 y126 y127 y128 y129 y130 y131 y132 y133 y134 y135 y136 y137 y138 y139 : Value) (Z : World), Six w0 g gm gn gj cM cR dM dR eM eR mM mR jM jR Z → K2 { tmps := #[.agg #[.int .u64 (cM : Int), .int .u64 (cR : Int)], .agg #[.int .u64 (dM : Int), .int .u64 (dR : Int)], .agg #[.int .u64 (eM : Int), .int .u64 (eR : Int)], .int .i64 v, .pointer (some ⟨g, 0, none⟩), .pointer (some ⟨g + 1, 0, none⟩), .pointer (some ⟨g + 2, 0, none⟩), undef, .bool false, .pointer (some ⟨gm, 0, none⟩), .bool ok, .pointer (some ⟨gn, 0, none⟩), .bool ok, .pointer (some ⟨gj, 0, none⟩), .bool bi, .bool bs, .bool true, .bool false, .tuple #[.agg #[.int .u64 (mM : Int), .int .u64 (mR : Int)], .bool ok], .agg #[.int .u64 (cM : Int), .int .u64 (cR : Int)], .agg #[.int .u64 (dM : Int), .int .u64 (dR : Int)], .tuple #[.agg #[.int .u64 (mM : Int), .int .u64 (mR : Int)], .bool ok], .agg #[.int .u64 (mM : Int), .int .u64 (mR : Int)], .bool ok, .tuple #[.agg #[.int .u64 (mM : Int), .int .u64 (mR : Int)], .bool ok], .agg #[.int .u64 (dM : Int), .int .u64 (dR : Int)], .agg #[.int .u64 (cM : Int), .int .u64 (cR : Int)], .tuple #[.agg #[.int .u64 (mM : Int), .int .u64 (mR : Int)], .bool ok], .agg #[.int .u64 (mM : Int), .int .u64 (mR : Int)], .bool ok, .agg #[.int .u64 (cM : Int), .int .u64 (cR : Int)], .agg #[.int .u64 (dM : Int), .int .u64 (dR : Int)], .agg #[.int .u64 (jM : Int), .int .u64 (jR : Int)], .agg #[.int .u64 (cM : Int), .int .u64 (cR : Int)], .int .i64 v, .bool bi, .agg #[.int .u64 (dM : Int), .int .u64 (dR : Int)], .int .i64 v, .bool bs, y39, y40, y41, y42, y43, y44, y45, y46, y47, y48, y49, y50, y51, y52, y53, y54, y55, y56, y57, y58, y59, y60, y61, y62, y63, y64, y65, y66, y67, y68, y69, y70, y71, y72, y73, y74, y75, y76, y77, y78, y79, y80, y81, y82, y83, y84, y85, y86, y87, y88, y89, y90, y91, y92, y93, y94, y95, y96, y97, y98, y99, y100, y101, y102, y103, y104, y105, y106, y107, y108, y109, y110, y111, y112, y113, y114, y115, y116, y117, y118, y119, y120, y121, y122, y123, y124, y125, y126, y127, y128, y129, y130, y131, y132, y133, y134, y135, y136, y137, y138, y139, undef, undef, undef, undef, undef, undef, undef, undef, undef, undef, undef, undef, undef, undef, undef, undef, undef, undef, undef, undef, undef, undef, undef, undef, undef, undef, undef, undef, undef, undef, undef, undef, undef, undef, undef, undef, undef], defers := [] } Z := by
      intro y86 y87 y88 y89 y90 y91 y92 y93 y94 y95 y96 y97 y98 y99 y100 y101 y102 y103 y104 y105 y106 y107 y108 y109 y110 y111 y112 y113 y114 y115 y116 y117 y118 y119 y120 y121 y122 y123 y124 y125 y126 y127 y128 y129 y130 y131 y132 y133 y134 y135 y136 y137 y138 y139 Z hSZ
      have HQ : Hid (Six w0 g gm gn gj cM cR dM dR eM eR mM mR jM jR Z) := hSZ
      clear hSZ
      obtain ⟨c0, c1⟩ := CG_facts HQ.out.1
      obtain ⟨d0, d1⟩ := CG_facts HQ.out.2.1
      obtain ⟨j0, j1⟩ := CG_facts HQ.out.2.2.2.2.2.1
      obtain ⟨m0, m1⟩ := CG_facts HQ.out.2.2.2.1
      refine aK2 _ _ ?_
      cases ok
      · obtain ⟨rfl, rfl⟩ := HF.out.2.2.2 rfl
        go_wp2_with fail
        go_ret
        exact ⟨rfl, HQ.out.2.2.2.2.2.2⟩
      · obtain ⟨l3, hl3⟩ : ∃ l, l = leqC cM cR dM dR := ⟨_, rfl⟩
        obtain ⟨Rd, hRd⟩ : ∃ r, r = (normC dM dR).2 := ⟨_, rfl⟩
        have HND : Hid (normC dM dR = (dM, Rd)) := by rw [hRd]; rfl
        have HEQ : Hid (l3 = decide (dM = jM ∧ Rd = jR)) := by
          unfold Hid
          rw [hl3, HLJ.out, HND.out]
          congr 1
          exact propext ⟨fun h => ⟨(Prod.mk.inj h).1, (Prod.mk.inj h).2⟩, fun h => by rw [h.1, h.2]⟩
        have HL3 : Hid (leqC cM cR dM dR = l3) := hl3.symm
        clear hl3 hRd
        go_wp2_with fail
        have HQ0 : Hid (Six w0 g gm gn gj cM cR dM dR eM eR mM mR jM jR Z.drew) := HQ.out.step (Below.drew (Ok.refl _))
        by_cases jz : jM = 0
        · by_cases mz : mM = 0
          · skip
            as_aux_lemma =>
              have jz2 : ((jM : Int) == 0) = true := by simp [jz]
              have mz2 : ((mM : Int) == 0) = true := by simp [mz]
              clear jz mz
              refine wp_region_held_drew (S := (fun w' => w'.cell? ⟨g, 0, none⟩ = some (.int .u64 (cM : Int)) ∧ w'.cell? ⟨g, 1, none⟩ = some (.int .u64 (cR : Int)) ∧ w'.cell? ⟨g + 1, 0, none⟩ = some (.int .u64 (dM : Int)) ∧ w'.cell? ⟨g + 1, 1, none⟩ = some (.int .u64 (dR : Int)) ∧ w'.cell? ⟨gj, 0, none⟩ = some (.int .u64 (jM : Int)) ∧ w'.cell? ⟨gj, 1, none⟩ = some (.int .u64 (jR : Int)) ∧ w'.cell? ⟨gm, 0, none⟩ = some (.int .u64 (mM : Int)) ∧ w'.cell? ⟨gm, 1, none⟩ = some (.int .u64 (mR : Int)))) (by kernel_rfl) (by (try dsimp only); go_keep) (fun hHeld => ?_)
              refine wpAnyH_take (i := 0) (v := ?_) rfl (by kernel_rfl) (by kernel_rfl) (by kernel_rfl) (fun _ _ _ h => h) (Or.inl ⟨by rfl, ?_⟩) (by assumption) ?_
              rotate_left
              · intro w h; (try dsimp only at h); first | (go_simp; done) | (go_simp; with_reducible rfl)
              try simp only [Act.put, getElem_toArray, getElem_cons_succ, getElem_cons_zero, setIfInBounds_toArray, set_cons_zero, set_cons_succ]
              refine wpAnyH_take (i := 1) (v := ?_) rfl (by kernel_rfl) (by kernel_rfl) (by kernel_rfl) (fun _ _ _ h => h) (Or.inl ⟨by rfl, ?_⟩) (by assumption) ?_
              rotate_left
              · intro w h; (try dsimp only at h); first | (go_simp; done) | (go_simp; with_reducible rfl)
              try simp only [Act.put, getElem_toArray, getElem_cons_succ, getElem_cons_zero, setIfInBounds_toArray, set_cons_zero, set_cons_succ]
              refine wpAnyH_take (i := 3) (v := ?_) rfl (by kernel_rfl) (by kernel_rfl) (by kernel_rfl) (fun _ _ _ h => h) (Or.inl ⟨by rfl, ?_⟩) (by assumption) ?_
              rotate_left
              · intro w h; (try dsimp only at h); first | (go_simp; done) | (go_simp; with_reducible rfl)
              try simp only [Act.put, getElem_toArray, getElem_cons_succ, getElem_cons_zero, setIfInBounds_toArray, set_cons_zero, set_cons_succ]
              refine wpAnyH_take (i := 5) (v := ?_) rfl (by kernel_rfl) (by kernel_rfl) (by kernel_rfl) (fun _ _ _ h => h) (Or.inl ⟨by rfl, ?_⟩) (by assumption) ?_
              rotate_left
              · intro w h; (try dsimp only at h); first | (go_simp; done) | (go_simp; with_reducible rfl)
              try simp only [Act.put, getElem_toArray, getElem_cons_succ, getElem_cons_zero, setIfInBounds_toArray, set_cons_zero, set_cons_succ]
              refine wpAnyH_ready (rs := [2]) (by kernel_rfl) (by simp) ?_
              refine AllReadyH.cons rfl (fun K hK => ?_) AllReadyH.nil
              go_simp
              refine (pleq_any cM cR dM dR HU.out.1 HU.out.2.1 HU.out.2.2.1 HU.out.2.2.2.1 _ _ (Ok.refl _)).mono ?_
              rintro e u1 ⟨rfl, hc⟩
              rw [HL3.out]
              have HQ1 : Hid (Six w0 g gm gn gj cM cR dM dR eM eR mM mR jM jR u1) := HQ0.out.step hc
              clear hc
              clear c0 c1 d0 d1 j0 j1 m0 m1
              obtain ⟨c0, c1⟩ := CG_facts HQ1.out.1
              obtain ⟨d0, d1⟩ := CG_facts HQ1.out.2.1
              obtain ⟨j0, j1⟩ := CG_facts HQ1.out.2.2.2.2.2.1
              obtain ⟨m0, m1⟩ := CG_facts HQ1.out.2.2.2.1
              go_wp2_with fail
              refine hK.out _ _ (by (try dsimp only); go_keep) (fun hHeld => ?_)
              clear hK K
              try simp only [Act.put, getElem_toArray, getElem_cons_succ, getElem_cons_zero, setIfInBounds_toArray, set_cons_zero, set_cons_succ]
              refine wpAnyH_ready (rs := [4]) (by kernel_rfl) (by simp) ?_
              refine AllReadyH.cons rfl (fun K hK => ?_) AllReadyH.nil
              go_simp
              refine (pnorm_any dM dR HU.out.2.2.1 HU.out.2.2.2.1 _ _ (Ok.refl _)).mono ?_
              rintro e u2 ⟨rfl, hc⟩
              rw [HND.out]
              unfold cv
              have HQ2 : Hid (Six w0 g gm gn gj cM cR dM dR eM eR mM mR jM jR u2) := HQ1.out.step hc
              clear hc
              clear c0 c1 d0 d1 j0 j1 m0 m1
              obtain ⟨c0, c1⟩ := CG_facts HQ2.out.1
              obtain ⟨d0, d1⟩ := CG_facts HQ2.out.2.1
              obtain ⟨j0, j1⟩ := CG_facts HQ2.out.2.2.2.2.2.1
              obtain ⟨m0, m1⟩ := CG_facts HQ2.out.2.2.2.1
              go_wp2_with fail
              refine hK.out _ _ (by (try dsimp only); go_keep) (fun hHeld => ?_)
              clear hK K
              try simp only [Act.put, getElem_toArray, getElem_cons_succ, getElem_cons_zero, setIfInBounds_toArray, set_cons_zero, set_cons_succ]
              refine wpAnyH_take (i := 6) (v := .bool l3) rfl (by kernel_rfl) (by kernel_rfl) (by kernel_rfl) (fun _ _ _ h => h) (Or.inl ⟨by rfl, ?_⟩) (by assumption) ?_
              · intro w hSw; (try dsimp only at hSw); go_simp; rw [HEQ.out]; by_cases a : dM = jM <;> by_cases b : Rd = jR <;> simp [a, b] <;> omega
              try simp only [Act.put, getElem_toArray, getElem_cons_succ, getElem_cons_zero, setIfInBounds_toArray, set_cons_zero, set_cons_succ]
              refine wpAnyH_take (i := 7) (v := ?_) rfl (by kernel_rfl) (by kernel_rfl) (by kernel_rfl) (fun _ _ _ h => h) (Or.inl ⟨by rfl, ?_⟩) (by assumption) ?_
              rotate_left
              · intro w h; (try dsimp only at h); first | (go_simp; done) | (go_simp; with_reducible rfl)
              try simp only [Act.put, getElem_toArray, getElem_cons_succ, getElem_cons_zero, setIfInBounds_toArray, set_cons_zero, set_cons_succ]
              refine wpAnyH_take (i := 8) (v := ?_) rfl (by kernel_rfl) (by kernel_rfl) (by kernel_rfl) (fun _ _ _ h => h) (Or.inl ⟨by rfl, ?_⟩) (by assumption) ?_
              rotate_left
              · intro w h; (try dsimp only at h); first | (go_simp; done) | (go_simp; with_reducible rfl)
              try simp only [Act.put, getElem_toArray, getElem_cons_succ, getElem_cons_zero, setIfInBounds_toArray, set_cons_zero, set_cons_succ]
              refine wpAnyH_take (i := 9) (v := ?_) rfl (by kernel_rfl) (by kernel_rfl) (by kernel_rfl) (fun _ _ _ h => h) (Or.inl ⟨by rfl, ?_⟩) (by assumption) ?_
              rotate_left
              · intro w h; (try dsimp only at h); first | (go_simp; done) | (go_simp; with_reducible rfl)
              try simp only [Act.put, getElem_toArray, getElem_cons_succ, getElem_cons_zero, setIfInBounds_toArray, set_cons_zero, set_cons_succ]
              refine wpAnyH_take (i := 10) (v := ?_) rfl (by kernel_rfl) (by kernel_rfl) (by kernel_rfl) (fun _ _ _ h => h) (Or.inl ⟨by rfl, ?_⟩) (by assumption) ?_
              rotate_left
              · intro w h; (try dsimp only at h); first | (go_simp; done) | (go_simp; with_reducible rfl)
              try simp only [Act.put, getElem_toArray, getElem_cons_succ, getElem_cons_zero, setIfInBounds_toArray, set_cons_zero, set_cons_succ]
              refine wpAnyH_take (i := 11) (v := ?_) rfl (by kernel_rfl) (by kernel_rfl) (by kernel_rfl) (fun _ _ _ h => h) (Or.inl ⟨by rfl, ?_⟩) (by assumption) ?_
              rotate_left
              · intro w h; (try dsimp only at h); first | (go_simp; done) | (go_simp; with_reducible rfl)
              try simp only [Act.put, getElem_toArray, getElem_cons_succ, getElem_cons_zero, setIfInBounds_toArray, set_cons_zero, set_cons_succ]
              refine wpAnyH_take (i := 12) (v := ?_) rfl (by kernel_rfl) (by kernel_rfl) (by kernel_rfl) (fun _ _ _ h => h) (Or.inl ⟨by rfl, ?_⟩) (by assumption) ?_
              rotate_left
              · intro w h; (try dsimp only at h); first | (go_simp; done) | (go_simp; with_reducible rfl)
              try simp only [Act.put, getElem_toArray, getElem_cons_succ, getElem_cons_zero, setIfInBounds_toArray, set_cons_zero, set_cons_succ]
              refine wpAnyH_take (i := 13) (v := undef) rfl (by kernel_rfl) (by kernel_rfl) (by kernel_rfl) (fun _ _ _ h => h) (Or.inr ⟨by rfl, rfl⟩) (by assumption) ?_
              try simp only [Act.put, getElem_toArray, getElem_cons_succ, getElem_cons_zero, setIfInBounds_toArray, set_cons_zero, set_cons_succ]
              refine wpAnyH_take (i := 14) (v := undef) rfl (by kernel_rfl) (by kernel_rfl) (by kernel_rfl) (fun _ _ _ h => h) (Or.inr ⟨by rfl, rfl⟩) (by assumption) ?_
              try simp only [Act.put, getElem_toArray, getElem_cons_succ, getElem_cons_zero, setIfInBounds_toArray, set_cons_zero, set_cons_succ]
              refine wpAnyH_take (i := 15) (v := undef) rfl (by kernel_rfl) (by kernel_rfl) (by kernel_rfl) (fun _ _ _ h => h) (Or.inr ⟨by rfl, rfl⟩) (by assumption) ?_
              try simp only [Act.put, getElem_toArray, getElem_cons_succ, getElem_cons_zero, setIfInBounds_toArray, set_cons_zero, set_cons_succ]
              refine wpAnyH_take (i := 16) (v := undef) rfl (by kernel_rfl) (by kernel_rfl) (by kernel_rfl) (fun _ _ _ h => h) (Or.inr ⟨by rfl, rfl⟩) (by assumption) ?_
              try simp only [Act.put, getElem_toArray, getElem_cons_succ, getElem_cons_zero, setIfInBounds_toArray, set_cons_zero, set_cons_succ]
              refine wpAnyH_take (i := 17) (v := undef) rfl (by kernel_rfl) (by kernel_rfl) (by kernel_rfl) (fun _ _ _ h => h) (Or.inr ⟨by rfl, rfl⟩) (by assumption) ?_
              try simp only [Act.put, getElem_toArray, getElem_cons_succ, getElem_cons_zero, setIfInBounds_toArray, set_cons_zero, set_cons_succ]
              refine wpAnyH_take (i := 18) (v := ?_) rfl (by kernel_rfl) (by kernel_rfl) (by kernel_rfl) (fun _ _ _ h => h) (Or.inl ⟨by rfl, ?_⟩) (by assumption) ?_
              rotate_left
              · intro w h; (try dsimp only at h); first | (go_simp; done) | (go_simp; with_reducible rfl)
              try simp only [Act.put, getElem_toArray, getElem_cons_succ, getElem_cons_zero, setIfInBounds_toArray, set_cons_zero, set_cons_succ]
              refine wpAnyH_take (i := 19) (v := ?_) rfl (by kernel_rfl) (by kernel_rfl) (by kernel_rfl) (fun _ _ _ h => h) (Or.inl ⟨by rfl, ?_⟩) (by assumption) ?_
              rotate_left
              · intro w h; (try dsimp only at h); first | (go_simp; done) | (go_simp; with_reducible rfl)
              try simp only [Act.put, getElem_toArray, getElem_cons_succ, getElem_cons_zero, setIfInBounds_toArray, set_cons_zero, set_cons_succ]
              refine wpAnyH_take (i := 20) (v := ?_) rfl (by kernel_rfl) (by kernel_rfl) (by kernel_rfl) (fun _ _ _ h => h) (Or.inl ⟨by rfl, ?_⟩) (by assumption) ?_
              rotate_left
              · intro w h; (try dsimp only at h); first | (go_simp; done) | (go_simp; with_reducible rfl)
              try simp only [Act.put, getElem_toArray, getElem_cons_succ, getElem_cons_zero, setIfInBounds_toArray, set_cons_zero, set_cons_succ]
              refine wpAnyH_take (i := 21) (v := ?_) rfl (by kernel_rfl) (by kernel_rfl) (by kernel_rfl) (fun _ _ _ h => h) (Or.inl ⟨by rfl, ?_⟩) (by assumption) ?_
              rotate_left
              · intro w h; (try dsimp only at h); first | (go_simp; done) | (go_simp; with_reducible rfl)
              try simp only [Act.put, getElem_toArray, getElem_cons_succ, getElem_cons_zero, setIfInBounds_toArray, set_cons_zero, set_cons_succ]
              refine wpAnyH_take (i := 22) (v := ?_) rfl (by kernel_rfl) (by kernel_rfl) (by kernel_rfl) (fun _ _ _ h => h) (Or.inl ⟨by rfl, ?_⟩) (by assumption) ?_
              rotate_left
              · intro w h; (try dsimp only at h); first | (go_simp; done) | (go_simp; with_reducible rfl)
              try simp only [Act.put, getElem_toArray, getElem_cons_succ, getElem_cons_zero, setIfInBounds_toArray, set_cons_zero, set_cons_succ]
              refine wpAnyH_take (i := 23) (v := ?_) rfl (by kernel_rfl) (by kernel_rfl) (by kernel_rfl) (fun _ _ _ h => h) (Or.inl ⟨by rfl, ?_⟩) (by assumption) ?_
              rotate_left
              · intro w h; (try dsimp only at h); first | (go_simp; done) | (go_simp; with_reducible rfl)
              try simp only [Act.put, getElem_toArray, getElem_cons_succ, getElem_cons_zero, setIfInBounds_toArray, set_cons_zero, set_cons_succ]
              refine wpAnyH_take (i := 24) (v := ?_) rfl (by kernel_rfl) (by kernel_rfl) (by kernel_rfl) (fun _ _ _ h => h) (Or.inl ⟨by rfl, ?_⟩) (by assumption) ?_
              rotate_left
              · intro w h; (try dsimp only at h); first | (go_simp; done) | (go_simp; with_reducible rfl)
              try simp only [Act.put, getElem_toArray, getElem_cons_succ, getElem_cons_zero, setIfInBounds_toArray, set_cons_zero, set_cons_succ]
              refine wpAnyH_take (i := 25) (v := undef) rfl (by kernel_rfl) (by kernel_rfl) (by kernel_rfl) (fun _ _ _ h => h) (Or.inr ⟨by rfl, rfl⟩) (by assumption) ?_
              try simp only [Act.put, getElem_toArray, getElem_cons_succ, getElem_cons_zero, setIfInBounds_toArray, set_cons_zero, set_cons_succ]
              refine wpAnyH_take (i := 26) (v := undef) rfl (by kernel_rfl) (by kernel_rfl) (by kernel_rfl) (fun _ _ _ h => h) (Or.inr ⟨by rfl, rfl⟩) (by assumption) ?_
              try simp only [Act.put, getElem_toArray, getElem_cons_succ, getElem_cons_zero, setIfInBounds_toArray, set_cons_zero, set_cons_succ]
              refine wpAnyH_take (i := 27) (v := undef) rfl (by kernel_rfl) (by kernel_rfl) (by kernel_rfl) (fun _ _ _ h => h) (Or.inr ⟨by rfl, rfl⟩) (by assumption) ?_
              try simp only [Act.put, getElem_toArray, getElem_cons_succ, getElem_cons_zero, setIfInBounds_toArray, set_cons_zero, set_cons_succ]
              refine wpAnyH_take (i := 28) (v := undef) rfl (by kernel_rfl) (by kernel_rfl) (by kernel_rfl) (fun _ _ _ h => h) (Or.inr ⟨by rfl, rfl⟩) (by assumption) ?_
              try simp only [Act.put, getElem_toArray, getElem_cons_succ, getElem_cons_zero, setIfInBounds_toArray, set_cons_zero, set_cons_succ]
              refine wpAnyH_take (i := 29) (v := undef) rfl (by kernel_rfl) (by kernel_rfl) (by kernel_rfl) (fun _ _ _ h => h) (Or.inr ⟨by rfl, rfl⟩) (by assumption) ?_
              try simp only [Act.put, getElem_toArray, getElem_cons_succ, getElem_cons_zero, setIfInBounds_toArray, set_cons_zero, set_cons_succ]
              refine wpAnyH_take (i := 30) (v := ?_) rfl (by kernel_rfl) (by kernel_rfl) (by kernel_rfl) (fun _ _ _ h => h) (Or.inl ⟨by rfl, ?_⟩) (by assumption) ?_
              rotate_left
              · intro w h; (try dsimp only at h); first | (go_simp; done) | (go_simp; with_reducible rfl)
              try simp only [Act.put, getElem_toArray, getElem_cons_succ, getElem_cons_zero, setIfInBounds_toArray, set_cons_zero, set_cons_succ]
              refine wpAnyH_take (i := 31) (v := ?_) rfl (by kernel_rfl) (by kernel_rfl) (by kernel_rfl) (fun _ _ _ h => h) (Or.inl ⟨by rfl, ?_⟩) (by assumption) ?_
              rotate_left
              · intro w h; (try dsimp only at h); first | (go_simp; done) | (go_simp; with_reducible rfl)
              try simp only [Act.put, getElem_toArray, getElem_cons_succ, getElem_cons_zero, setIfInBounds_toArray, set_cons_zero, set_cons_succ]
              refine wpAnyH_take (i := 32) (v := ?_) rfl (by kernel_rfl) (by kernel_rfl) (by kernel_rfl) (fun _ _ _ h => h) (Or.inl ⟨by rfl, ?_⟩) (by assumption) ?_
              rotate_left
              · intro w h; (try dsimp only at h); first | (go_simp; done) | (go_simp; with_reducible rfl)
              try simp only [Act.put, getElem_toArray, getElem_cons_succ, getElem_cons_zero, setIfInBounds_toArray, set_cons_zero, set_cons_succ]
              refine wpAnyH_done (by kernel_rfl) ?_ _
              go_wp2_with fail
              go_ret
              exact ⟨rfl, HQ2.out.2.2.2.2.2.2⟩
          · skip
            as_aux_lemma =>
              have jz2 : ((jM : Int) == 0) = true := by simp [jz]
              have mz2 : ((mM : Int) == 0) = false := by simp [mz]
              have ml : (mR : Int) < (mM : Int) := by rcases HF.out.2.1 with h | h
                                                      · exact absurd h mz
                                                      · omega
              clear jz mz
              refine wp_region_held_drew (S := (fun w' => w'.cell? ⟨g, 0, none⟩ = some (.int .u64 (cM : Int)) ∧ w'.cell? ⟨g, 1, none⟩ = some (.int .u64 (cR : Int)) ∧ w'.cell? ⟨g + 1, 0, none⟩ = some (.int .u64 (dM : Int)) ∧ w'.cell? ⟨g + 1, 1, none⟩ = some (.int .u64 (dR : Int)) ∧ w'.cell? ⟨gj, 0, none⟩ = some (.int .u64 (jM : Int)) ∧ w'.cell? ⟨gj, 1, none⟩ = some (.int .u64 (jR : Int)) ∧ w'.cell? ⟨gm, 0, none⟩ = some (.int .u64 (mM : Int)) ∧ w'.cell? ⟨gm, 1, none⟩ = some (.int .u64 (mR : Int)))) (by kernel_rfl) (by (try dsimp only); go_keep) (fun hHeld => ?_)
              refine wpAnyH_take (i := 0) (v := ?_) rfl (by kernel_rfl) (by kernel_rfl) (by kernel_rfl) (fun _ _ _ h => h) (Or.inl ⟨by rfl, ?_⟩) (by assumption) ?_
              rotate_left
              · intro w h; (try dsimp only at h); first | (go_simp; done) | (go_simp; with_reducible rfl)
              try simp only [Act.put, getElem_toArray, getElem_cons_succ, getElem_cons_zero, setIfInBounds_toArray, set_cons_zero, set_cons_succ]
              refine wpAnyH_take (i := 1) (v := ?_) rfl (by kernel_rfl) (by kernel_rfl) (by kernel_rfl) (fun _ _ _ h => h) (Or.inl ⟨by rfl, ?_⟩) (by assumption) ?_
              rotate_left
              · intro w h; (try dsimp only at h); first | (go_simp; done) | (go_simp; with_reducible rfl)
              try simp only [Act.put, getElem_toArray, getElem_cons_succ, getElem_cons_zero, setIfInBounds_toArray, set_cons_zero, set_cons_succ]
              refine wpAnyH_take (i := 3) (v := ?_) rfl (by kernel_rfl) (by kernel_rfl) (by kernel_rfl) (fun _ _ _ h => h) (Or.inl ⟨by rfl, ?_⟩) (by assumption) ?_
              rotate_left
              · intro w h; (try dsimp only at h); first | (go_simp; done) | (go_simp; with_reducible rfl)
              try simp only [Act.put, getElem_toArray, getElem_cons_succ, getElem_cons_zero, setIfInBounds_toArray, set_cons_zero, set_cons_succ]
              refine wpAnyH_take (i := 5) (v := ?_) rfl (by kernel_rfl) (by kernel_rfl) (by kernel_rfl) (fun _ _ _ h => h) (Or.inl ⟨by rfl, ?_⟩) (by assumption) ?_
              rotate_left
              · intro w h; (try dsimp only at h); first | (go_simp; done) | (go_simp; with_reducible rfl)
              try simp only [Act.put, getElem_toArray, getElem_cons_succ, getElem_cons_zero, setIfInBounds_toArray, set_cons_zero, set_cons_succ]
              refine wpAnyH_ready (rs := [2]) (by kernel_rfl) (by simp) ?_
              refine AllReadyH.cons rfl (fun K hK => ?_) AllReadyH.nil
              go_simp
              refine (pleq_any cM cR dM dR HU.out.1 HU.out.2.1 HU.out.2.2.1 HU.out.2.2.2.1 _ _ (Ok.refl _)).mono ?_
              rintro e u1 ⟨rfl, hc⟩
              rw [HL3.out]
              have HQ1 : Hid (Six w0 g gm gn gj cM cR dM dR eM eR mM mR jM jR u1) := HQ0.out.step hc
              clear hc
              clear c0 c1 d0 d1 j0 j1 m0 m1
              obtain ⟨c0, c1⟩ := CG_facts HQ1.out.1
              obtain ⟨d0, d1⟩ := CG_facts HQ1.out.2.1
              obtain ⟨j0, j1⟩ := CG_facts HQ1.out.2.2.2.2.2.1
              obtain ⟨m0, m1⟩ := CG_facts HQ1.out.2.2.2.1
              go_wp2_with fail
              refine hK.out _ _ (by (try dsimp only); go_keep) (fun hHeld => ?_)
              clear hK K
              try simp only [Act.put, getElem_toArray, getElem_cons_succ, getElem_cons_zero, setIfInBounds_toArray, set_cons_zero, set_cons_succ]
              refine wpAnyH_ready (rs := [4]) (by kernel_rfl) (by simp) ?_
              refine AllReadyH.cons rfl (fun K hK => ?_) AllReadyH.nil
              go_simp
              refine (pnorm_any dM dR HU.out.2.2.1 HU.out.2.2.2.1 _ _ (Ok.refl _)).mono ?_
              rintro e u2 ⟨rfl, hc⟩
              rw [HND.out]
              unfold cv
              have HQ2 : Hid (Six w0 g gm gn gj cM cR dM dR eM eR mM mR jM jR u2) := HQ1.out.step hc
              clear hc
              clear c0 c1 d0 d1 j0 j1 m0 m1
              obtain ⟨c0, c1⟩ := CG_facts HQ2.out.1
              obtain ⟨d0, d1⟩ := CG_facts HQ2.out.2.1
              obtain ⟨j0, j1⟩ := CG_facts HQ2.out.2.2.2.2.2.1
              obtain ⟨m0, m1⟩ := CG_facts HQ2.out.2.2.2.1
              go_wp2_with fail
              refine hK.out _ _ (by (try dsimp only); go_keep) (fun hHeld => ?_)
              clear hK K
              try simp only [Act.put, getElem_toArray, getElem_cons_succ, getElem_cons_zero, setIfInBounds_toArray, set_cons_zero, set_cons_succ]
              refine wpAnyH_take (i := 6) (v := .bool l3) rfl (by kernel_rfl) (by kernel_rfl) (by kernel_rfl) (fun _ _ _ h => h) (Or.inl ⟨by rfl, ?_⟩) (by assumption) ?_
              · intro w hSw; (try dsimp only at hSw); go_simp; rw [HEQ.out]; by_cases a : dM = jM <;> by_cases b : Rd = jR <;> simp [a, b] <;> omega
              try simp only [Act.put, getElem_toArray, getElem_cons_succ, getElem_cons_zero, setIfInBounds_toArray, set_cons_zero, set_cons_succ]
              refine wpAnyH_take (i := 7) (v := ?_) rfl (by kernel_rfl) (by kernel_rfl) (by kernel_rfl) (fun _ _ _ h => h) (Or.inl ⟨by rfl, ?_⟩) (by assumption) ?_
              rotate_left
              · intro w h; (try dsimp only at h); first | (go_simp; done) | (go_simp; with_reducible rfl)
              try simp only [Act.put, getElem_toArray, getElem_cons_succ, getElem_cons_zero, setIfInBounds_toArray, set_cons_zero, set_cons_succ]
              refine wpAnyH_take (i := 8) (v := ?_) rfl (by kernel_rfl) (by kernel_rfl) (by kernel_rfl) (fun _ _ _ h => h) (Or.inl ⟨by rfl, ?_⟩) (by assumption) ?_
              rotate_left
              · intro w h; (try dsimp only at h); first | (go_simp; done) | (go_simp; with_reducible rfl)
              try simp only [Act.put, getElem_toArray, getElem_cons_succ, getElem_cons_zero, setIfInBounds_toArray, set_cons_zero, set_cons_succ]
              refine wpAnyH_take (i := 9) (v := ?_) rfl (by kernel_rfl) (by kernel_rfl) (by kernel_rfl) (fun _ _ _ h => h) (Or.inl ⟨by rfl, ?_⟩) (by assumption) ?_
              rotate_left
              · intro w h; (try dsimp only at h); first | (go_simp; done) | (go_simp; with_reducible rfl)
              try simp only [Act.put, getElem_toArray, getElem_cons_succ, getElem_cons_zero, setIfInBounds_toArray, set_cons_zero, set_cons_succ]
              refine wpAnyH_take (i := 10) (v := ?_) rfl (by kernel_rfl) (by kernel_rfl) (by kernel_rfl) (fun _ _ _ h => h) (Or.inl ⟨by rfl, ?_⟩) (by assumption) ?_
              rotate_left
              · intro w h; (try dsimp only at h); first | (go_simp; done) | (go_simp; with_reducible rfl)
              try simp only [Act.put, getElem_toArray, getElem_cons_succ, getElem_cons_zero, setIfInBounds_toArray, set_cons_zero, set_cons_succ]
              refine wpAnyH_take (i := 11) (v := ?_) rfl (by kernel_rfl) (by kernel_rfl) (by kernel_rfl) (fun _ _ _ h => h) (Or.inl ⟨by rfl, ?_⟩) (by assumption) ?_
              rotate_left
              · intro w h; (try dsimp only at h); first | (go_simp; done) | (go_simp; with_reducible rfl)
              try simp only [Act.put, getElem_toArray, getElem_cons_succ, getElem_cons_zero, setIfInBounds_toArray, set_cons_zero, set_cons_succ]
              refine wpAnyH_take (i := 12) (v := ?_) rfl (by kernel_rfl) (by kernel_rfl) (by kernel_rfl) (fun _ _ _ h => h) (Or.inl ⟨by rfl, ?_⟩) (by assumption) ?_
              rotate_left
              · intro w h; (try dsimp only at h); first | (go_simp; done) | (go_simp; with_reducible rfl)
              try simp only [Act.put, getElem_toArray, getElem_cons_succ, getElem_cons_zero, setIfInBounds_toArray, set_cons_zero, set_cons_succ]
              refine wpAnyH_take (i := 13) (v := undef) rfl (by kernel_rfl) (by kernel_rfl) (by kernel_rfl) (fun _ _ _ h => h) (Or.inr ⟨by rfl, rfl⟩) (by assumption) ?_
              try simp only [Act.put, getElem_toArray, getElem_cons_succ, getElem_cons_zero, setIfInBounds_toArray, set_cons_zero, set_cons_succ]
              refine wpAnyH_take (i := 14) (v := undef) rfl (by kernel_rfl) (by kernel_rfl) (by kernel_rfl) (fun _ _ _ h => h) (Or.inr ⟨by rfl, rfl⟩) (by assumption) ?_
              try simp only [Act.put, getElem_toArray, getElem_cons_succ, getElem_cons_zero, setIfInBounds_toArray, set_cons_zero, set_cons_succ]
              refine wpAnyH_take (i := 15) (v := undef) rfl (by kernel_rfl) (by kernel_rfl) (by kernel_rfl) (fun _ _ _ h => h) (Or.inr ⟨by rfl, rfl⟩) (by assumption) ?_
              try simp only [Act.put, getElem_toArray, getElem_cons_succ, getElem_cons_zero, setIfInBounds_toArray, set_cons_zero, set_cons_succ]
              refine wpAnyH_take (i := 16) (v := undef) rfl (by kernel_rfl) (by kernel_rfl) (by kernel_rfl) (fun _ _ _ h => h) (Or.inr ⟨by rfl, rfl⟩) (by assumption) ?_
              try simp only [Act.put, getElem_toArray, getElem_cons_succ, getElem_cons_zero, setIfInBounds_toArray, set_cons_zero, set_cons_succ]
              refine wpAnyH_take (i := 17) (v := undef) rfl (by kernel_rfl) (by kernel_rfl) (by kernel_rfl) (fun _ _ _ h => h) (Or.inr ⟨by rfl, rfl⟩) (by assumption) ?_
              try simp only [Act.put, getElem_toArray, getElem_cons_succ, getElem_cons_zero, setIfInBounds_toArray, set_cons_zero, set_cons_succ]
              refine wpAnyH_take (i := 18) (v := ?_) rfl (by kernel_rfl) (by kernel_rfl) (by kernel_rfl) (fun _ _ _ h => h) (Or.inl ⟨by rfl, ?_⟩) (by assumption) ?_
              rotate_left
              · intro w h; (try dsimp only at h); first | (go_simp; done) | (go_simp; with_reducible rfl)
              try simp only [Act.put, getElem_toArray, getElem_cons_succ, getElem_cons_zero, setIfInBounds_toArray, set_cons_zero, set_cons_succ]
              refine wpAnyH_take (i := 19) (v := ?_) rfl (by kernel_rfl) (by kernel_rfl) (by kernel_rfl) (fun _ _ _ h => h) (Or.inl ⟨by rfl, ?_⟩) (by assumption) ?_
              rotate_left
              · intro w h; (try dsimp only at h); first | (go_simp; done) | (go_simp; with_reducible rfl)
              try simp only [Act.put, getElem_toArray, getElem_cons_succ, getElem_cons_zero, setIfInBounds_toArray, set_cons_zero, set_cons_succ]
              refine wpAnyH_take (i := 20) (v := ?_) rfl (by kernel_rfl) (by kernel_rfl) (by kernel_rfl) (fun _ _ _ h => h) (Or.inl ⟨by rfl, ?_⟩) (by assumption) ?_
              rotate_left
              · intro w h; (try dsimp only at h); first | (go_simp; done) | (go_simp; with_reducible rfl)
              try simp only [Act.put, getElem_toArray, getElem_cons_succ, getElem_cons_zero, setIfInBounds_toArray, set_cons_zero, set_cons_succ]
              refine wpAnyH_take (i := 21) (v := ?_) rfl (by kernel_rfl) (by kernel_rfl) (by kernel_rfl) (fun _ _ _ h => h) (Or.inl ⟨by rfl, ?_⟩) (by assumption) ?_
              rotate_left
              · intro w h; (try dsimp only at h); first | (go_simp; done) | (go_simp; with_reducible rfl)
              try simp only [Act.put, getElem_toArray, getElem_cons_succ, getElem_cons_zero, setIfInBounds_toArray, set_cons_zero, set_cons_succ]
              refine wpAnyH_take (i := 22) (v := ?_) rfl (by kernel_rfl) (by kernel_rfl) (by kernel_rfl) (fun _ _ _ h => h) (Or.inl ⟨by rfl, ?_⟩) (by assumption) ?_
              rotate_left
              · intro w h; (try dsimp only at h); first | (go_simp; done) | (go_simp; with_reducible rfl)
              try simp only [Act.put, getElem_toArray, getElem_cons_succ, getElem_cons_zero, setIfInBounds_toArray, set_cons_zero, set_cons_succ]
              refine wpAnyH_take (i := 23) (v := ?_) rfl (by kernel_rfl) (by kernel_rfl) (by kernel_rfl) (fun _ _ _ h => h) (Or.inl ⟨by rfl, ?_⟩) (by assumption) ?_
              rotate_left
              · intro w h; (try dsimp only at h); first | (go_simp; done) | (go_simp; with_reducible rfl)
              try simp only [Act.put, getElem_toArray, getElem_cons_succ, getElem_cons_zero, setIfInBounds_toArray, set_cons_zero, set_cons_succ]
              refine wpAnyH_take (i := 24) (v := ?_) rfl (by kernel_rfl) (by kernel_rfl) (by kernel_rfl) (fun _ _ _ h => h) (Or.inl ⟨by rfl, ?_⟩) (by assumption) ?_
              rotate_left
              · intro w h; (try dsimp only at h); first | (go_simp; done) | (go_simp; with_reducible rfl)
              try simp only [Act.put, getElem_toArray, getElem_cons_succ, getElem_cons_zero, setIfInBounds_toArray, set_cons_zero, set_cons_succ]
              refine wpAnyH_take (i := 25) (v := ?_) rfl (by kernel_rfl) (by kernel_rfl) (by kernel_rfl) (fun _ _ _ h => h) (Or.inl ⟨by rfl, ?_⟩) (by assumption) ?_
              rotate_left
              · intro w h; (try dsimp only at h); first | (go_simp; done) | (go_simp; with_reducible rfl)
              try simp only [Act.put, getElem_toArray, getElem_cons_succ, getElem_cons_zero, setIfInBounds_toArray, set_cons_zero, set_cons_succ]
              refine wpAnyH_take (i := 26) (v := ?_) rfl (by kernel_rfl) (by kernel_rfl) (by kernel_rfl) (fun _ _ _ h => h) (Or.inl ⟨by rfl, ?_⟩) (by assumption) ?_
              rotate_left
              · intro w h; (try dsimp only at h); first | (go_simp; done) | (go_simp; with_reducible rfl)
              try simp only [Act.put, getElem_toArray, getElem_cons_succ, getElem_cons_zero, setIfInBounds_toArray, set_cons_zero, set_cons_succ]
              refine wpAnyH_take (i := 27) (v := ?_) rfl (by kernel_rfl) (by kernel_rfl) (by kernel_rfl) (fun _ _ _ h => h) (Or.inl ⟨by rfl, ?_⟩) (by assumption) ?_
              rotate_left
              · intro w h; (try dsimp only at h); first | (go_simp; done) | (go_simp; with_reducible rfl)
              try simp only [Act.put, getElem_toArray, getElem_cons_succ, getElem_cons_zero, setIfInBounds_toArray, set_cons_zero, set_cons_succ]
              refine wpAnyH_take (i := 28) (v := ?_) rfl (by kernel_rfl) (by kernel_rfl) (by kernel_rfl) (fun _ _ _ h => h) (Or.inl ⟨by rfl, ?_⟩) (by assumption) ?_
              rotate_left
              · intro w h; (try dsimp only at h); first | (go_simp; done) | (go_simp; with_reducible rfl)
              try simp only [Act.put, getElem_toArray, getElem_cons_succ, getElem_cons_zero, setIfInBounds_toArray, set_cons_zero, set_cons_succ]
              refine wpAnyH_take (i := 29) (v := ?_) rfl (by kernel_rfl) (by kernel_rfl) (by kernel_rfl) (fun _ _ _ h => h) (Or.inl ⟨by rfl, ?_⟩) (by assumption) ?_
              rotate_left
              · intro w h; (try dsimp only at h); first | (go_simp; done) | (go_simp; with_reducible rfl)
              try simp only [Act.put, getElem_toArray, getElem_cons_succ, getElem_cons_zero, setIfInBounds_toArray, set_cons_zero, set_cons_succ]
              refine wpAnyH_take (i := 30) (v := ?_) rfl (by kernel_rfl) (by kernel_rfl) (by kernel_rfl) (fun _ _ _ h => h) (Or.inl ⟨by rfl, ?_⟩) (by assumption) ?_
              rotate_left
              · intro w h; (try dsimp only at h); first | (go_simp; done) | (go_simp; with_reducible rfl)
              try simp only [Act.put, getElem_toArray, getElem_cons_succ, getElem_cons_zero, setIfInBounds_toArray, set_cons_zero, set_cons_succ]
              refine wpAnyH_take (i := 31) (v := ?_) rfl (by kernel_rfl) (by kernel_rfl) (by kernel_rfl) (fun _ _ _ h => h) (Or.inl ⟨by rfl, ?_⟩) (by assumption) ?_
              rotate_left
              · intro w h; (try dsimp only at h); first | (go_simp; done) | (go_simp; with_reducible rfl)
              try simp only [Act.put, getElem_toArray, getElem_cons_succ, getElem_cons_zero, setIfInBounds_toArray, set_cons_zero, set_cons_succ]
              refine wpAnyH_take (i := 32) (v := ?_) rfl (by kernel_rfl) (by kernel_rfl) (by kernel_rfl) (fun _ _ _ h => h) (Or.inl ⟨by rfl, ?_⟩) (by assumption) ?_
              rotate_left
              · intro w h; (try dsimp only at h); first | (go_simp; done) | (go_simp; with_reducible rfl)
              try simp only [Act.put, getElem_toArray, getElem_cons_succ, getElem_cons_zero, setIfInBounds_toArray, set_cons_zero, set_cons_succ]
              refine wpAnyH_done (by kernel_rfl) ?_ _
              go_wp2_with fail
              go_ret
              exact ⟨rfl, HQ2.out.2.2.2.2.2.2⟩
        · by_cases mz : mM = 0
          · skip
            as_aux_lemma =>
              have jz2 : ((jM : Int) == 0) = false := by simp [jz]
              have jl : (jR : Int) < (jM : Int) := by rcases HJ.out.2.1 with h | h
                                                      · exact absurd h jz
                                                      · omega
              have mz2 : ((mM : Int) == 0) = true := by simp [mz]
              clear jz mz
              refine wp_region_held_drew (S := (fun w' => w'.cell? ⟨g, 0, none⟩ = some (.int .u64 (cM : Int)) ∧ w'.cell? ⟨g, 1, none⟩ = some (.int .u64 (cR : Int)) ∧ w'.cell? ⟨g + 1, 0, none⟩ = some (.int .u64 (dM : Int)) ∧ w'.cell? ⟨g + 1, 1, none⟩ = some (.int .u64 (dR : Int)) ∧ w'.cell? ⟨gj, 0, none⟩ = some (.int .u64 (jM : Int)) ∧ w'.cell? ⟨gj, 1, none⟩ = some (.int .u64 (jR : Int)) ∧ w'.cell? ⟨gm, 0, none⟩ = some (.int .u64 (mM : Int)) ∧ w'.cell? ⟨gm, 1, none⟩ = some (.int .u64 (mR : Int)))) (by kernel_rfl) (by (try dsimp only); go_keep) (fun hHeld => ?_)
              refine wpAnyH_take (i := 0) (v := ?_) rfl (by kernel_rfl) (by kernel_rfl) (by kernel_rfl) (fun _ _ _ h => h) (Or.inl ⟨by rfl, ?_⟩) (by assumption) ?_
              rotate_left
              · intro w h; (try dsimp only at h); first | (go_simp; done) | (go_simp; with_reducible rfl)
              try simp only [Act.put, getElem_toArray, getElem_cons_succ, getElem_cons_zero, setIfInBounds_toArray, set_cons_zero, set_cons_succ]
              refine wpAnyH_take (i := 1) (v := ?_) rfl (by kernel_rfl) (by kernel_rfl) (by kernel_rfl) (fun _ _ _ h => h) (Or.inl ⟨by rfl, ?_⟩) (by assumption) ?_
              rotate_left
              · intro w h; (try dsimp only at h); first | (go_simp; done) | (go_simp; with_reducible rfl)
              try simp only [Act.put, getElem_toArray, getElem_cons_succ, getElem_cons_zero, setIfInBounds_toArray, set_cons_zero, set_cons_succ]
              refine wpAnyH_take (i := 3) (v := ?_) rfl (by kernel_rfl) (by kernel_rfl) (by kernel_rfl) (fun _ _ _ h => h) (Or.inl ⟨by rfl, ?_⟩) (by assumption) ?_
              rotate_left
              · intro w h; (try dsimp only at h); first | (go_simp; done) | (go_simp; with_reducible rfl)
              try simp only [Act.put, getElem_toArray, getElem_cons_succ, getElem_cons_zero, setIfInBounds_toArray, set_cons_zero, set_cons_succ]
              refine wpAnyH_take (i := 5) (v := ?_) rfl (by kernel_rfl) (by kernel_rfl) (by kernel_rfl) (fun _ _ _ h => h) (Or.inl ⟨by rfl, ?_⟩) (by assumption) ?_
              rotate_left
              · intro w h; (try dsimp only at h); first | (go_simp; done) | (go_simp; with_reducible rfl)
              try simp only [Act.put, getElem_toArray, getElem_cons_succ, getElem_cons_zero, setIfInBounds_toArray, set_cons_zero, set_cons_succ]
              refine wpAnyH_ready (rs := [2]) (by kernel_rfl) (by simp) ?_
              refine AllReadyH.cons rfl (fun K hK => ?_) AllReadyH.nil
              go_simp
              refine (pleq_any cM cR dM dR HU.out.1 HU.out.2.1 HU.out.2.2.1 HU.out.2.2.2.1 _ _ (Ok.refl _)).mono ?_
              rintro e u1 ⟨rfl, hc⟩
              rw [HL3.out]
              have HQ1 : Hid (Six w0 g gm gn gj cM cR dM dR eM eR mM mR jM jR u1) := HQ0.out.step hc
              clear hc
              clear c0 c1 d0 d1 j0 j1 m0 m1
              obtain ⟨c0, c1⟩ := CG_facts HQ1.out.1
              obtain ⟨d0, d1⟩ := CG_facts HQ1.out.2.1
              obtain ⟨j0, j1⟩ := CG_facts HQ1.out.2.2.2.2.2.1
              obtain ⟨m0, m1⟩ := CG_facts HQ1.out.2.2.2.1
              go_wp2_with fail
              refine hK.out _ _ (by (try dsimp only); go_keep) (fun hHeld => ?_)
              clear hK K
              try simp only [Act.put, getElem_toArray, getElem_cons_succ, getElem_cons_zero, setIfInBounds_toArray, set_cons_zero, set_cons_succ]
              refine wpAnyH_ready (rs := [4]) (by kernel_rfl) (by simp) ?_
              refine AllReadyH.cons rfl (fun K hK => ?_) AllReadyH.nil
              go_simp
              refine (pnorm_any dM dR HU.out.2.2.1 HU.out.2.2.2.1 _ _ (Ok.refl _)).mono ?_
              rintro e u2 ⟨rfl, hc⟩
              rw [HND.out]
              unfold cv
              have HQ2 : Hid (Six w0 g gm gn gj cM cR dM dR eM eR mM mR jM jR u2) := HQ1.out.step hc
              clear hc
              clear c0 c1 d0 d1 j0 j1 m0 m1
              obtain ⟨c0, c1⟩ := CG_facts HQ2.out.1
              obtain ⟨d0, d1⟩ := CG_facts HQ2.out.2.1
              obtain ⟨j0, j1⟩ := CG_facts HQ2.out.2.2.2.2.2.1
              obtain ⟨m0, m1⟩ := CG_facts HQ2.out.2.2.2.1
              go_wp2_with fail
              refine hK.out _ _ (by (try dsimp only); go_keep) (fun hHeld => ?_)
              clear hK K
              try simp only [Act.put, getElem_toArray, getElem_cons_succ, getElem_cons_zero, setIfInBounds_toArray, set_cons_zero, set_cons_succ]
              refine wpAnyH_take (i := 6) (v := .bool l3) rfl (by kernel_rfl) (by kernel_rfl) (by kernel_rfl) (fun _ _ _ h => h) (Or.inl ⟨by rfl, ?_⟩) (by assumption) ?_
              · intro w hSw; (try dsimp only at hSw); go_simp; rw [HEQ.out]; by_cases a : dM = jM <;> by_cases b : Rd = jR <;> simp [a, b] <;> omega
              try simp only [Act.put, getElem_toArray, getElem_cons_succ, getElem_cons_zero, setIfInBounds_toArray, set_cons_zero, set_cons_succ]
              refine wpAnyH_take (i := 7) (v := ?_) rfl (by kernel_rfl) (by kernel_rfl) (by kernel_rfl) (fun _ _ _ h => h) (Or.inl ⟨by rfl, ?_⟩) (by assumption) ?_
              rotate_left
              · intro w h; (try dsimp only at h); first | (go_simp; done) | (go_simp; with_reducible rfl)
              try simp only [Act.put, getElem_toArray, getElem_cons_succ, getElem_cons_zero, setIfInBounds_toArray, set_cons_zero, set_cons_succ]
              refine wpAnyH_take (i := 8) (v := ?_) rfl (by kernel_rfl) (by kernel_rfl) (by kernel_rfl) (fun _ _ _ h => h) (Or.inl ⟨by rfl, ?_⟩) (by assumption) ?_
              rotate_left
              · intro w h; (try dsimp only at h); first | (go_simp; done) | (go_simp; with_reducible rfl)
              try simp only [Act.put, getElem_toArray, getElem_cons_succ, getElem_cons_zero, setIfInBounds_toArray, set_cons_zero, set_cons_succ]
              refine wpAnyH_take (i := 9) (v := ?_) rfl (by kernel_rfl) (by kernel_rfl) (by kernel_rfl) (fun _ _ _ h => h) (Or.inl ⟨by rfl, ?_⟩) (by assumption) ?_
              rotate_left
              · intro w h; (try dsimp only at h); first | (go_simp; done) | (go_simp; with_reducible rfl)
              try simp only [Act.put, getElem_toArray, getElem_cons_succ, getElem_cons_zero, setIfInBounds_toArray, set_cons_zero, set_cons_succ]
              refine wpAnyH_take (i := 10) (v := ?_) rfl (by kernel_rfl) (by kernel_rfl) (by kernel_rfl) (fun _ _ _ h => h) (Or.inl ⟨by rfl, ?_⟩) (by assumption) ?_
              rotate_left
              · intro w h; (try dsimp only at h); first | (go_simp; done) | (go_simp; with_reducible rfl)
              try simp only [Act.put, getElem_toArray, getElem_cons_succ, getElem_cons_zero, setIfInBounds_toArray, set_cons_zero, set_cons_succ]
              refine wpAnyH_take (i := 11) (v := ?_) rfl (by kernel_rfl) (by kernel_rfl) (by kernel_rfl) (fun _ _ _ h => h) (Or.inl ⟨by rfl, ?_⟩) (by assumption) ?_
              rotate_left
              · intro w h; (try dsimp only at h); first | (go_simp; done) | (go_simp; with_reducible rfl)
              try simp only [Act.put, getElem_toArray, getElem_cons_succ, getElem_cons_zero, setIfInBounds_toArray, set_cons_zero, set_cons_succ]
              refine wpAnyH_take (i := 12) (v := ?_) rfl (by kernel_rfl) (by kernel_rfl) (by kernel_rfl) (fun _ _ _ h => h) (Or.inl ⟨by rfl, ?_⟩) (by assumption) ?_
              rotate_left
              · intro w h; (try dsimp only at h); first | (go_simp; done) | (go_simp; with_reducible rfl)
              try simp only [Act.put, getElem_toArray, getElem_cons_succ, getElem_cons_zero, setIfInBounds_toArray, set_cons_zero, set_cons_succ]
              refine wpAnyH_take (i := 13) (v := ?_) rfl (by kernel_rfl) (by kernel_rfl) (by kernel_rfl) (fun _ _ _ h => h) (Or.inl ⟨by rfl, ?_⟩) (by assumption) ?_
              rotate_left
              · intro w h; (try dsimp only at h); first | (go_simp; done) | (go_simp; with_reducible rfl)
              try simp only [Act.put, getElem_toArray, getElem_cons_succ, getElem_cons_zero, setIfInBounds_toArray, set_cons_zero, set_cons_succ]
              refine wpAnyH_take (i := 14) (v := ?_) rfl (by kernel_rfl) (by kernel_rfl) (by kernel_rfl) (fun _ _ _ h => h) (Or.inl ⟨by rfl, ?_⟩) (by assumption) ?_
              rotate_left
              · intro w h; (try dsimp only at h); first | (go_simp; done) | (go_simp; with_reducible rfl)
              try simp only [Act.put, getElem_toArray, getElem_cons_succ, getElem_cons_zero, setIfInBounds_toArray, set_cons_zero, set_cons_succ]
              refine wpAnyH_take (i := 15) (v := ?_) rfl (by kernel_rfl) (by kernel_rfl) (by kernel_rfl) (fun _ _ _ h => h) (Or.inl ⟨by rfl, ?_⟩) (by assumption) ?_
              rotate_left
              · intro w h; (try dsimp only at h); first | (go_simp; done) | (go_simp; with_reducible rfl)
              try simp only [Act.put, getElem_toArray, getElem_cons_succ, getElem_cons_zero, setIfInBounds_toArray, set_cons_zero, set_cons_succ]
              refine wpAnyH_take (i := 16) (v := ?_) rfl (by kernel_rfl) (by kernel_rfl) (by kernel_rfl) (fun _ _ _ h => h) (Or.inl ⟨by rfl, ?_⟩) (by assumption) ?_
              rotate_left
              · intro w h; (try dsimp only at h); first | (go_simp; done) | (go_simp; with_reducible rfl)
              try simp only [Act.put, getElem_toArray, getElem_cons_succ, getElem_cons_zero, setIfInBounds_toArray, set_cons_zero, set_cons_succ]
              refine wpAnyH_take (i := 17) (v := ?_) rfl (by kernel_rfl) (by kernel_rfl) (by kernel_rfl) (fun _ _ _ h => h) (Or.inl ⟨by rfl, ?_⟩) (by assumption) ?_
              rotate_left
              · intro w h; (try dsimp only at h); first | (go_simp; done) | (go_simp; with_reducible rfl)
              try simp only [Act.put, getElem_toArray, getElem_cons_succ, getElem_cons_zero, setIfInBounds_toArray, set_cons_zero, set_cons_succ]
              refine wpAnyH_take (i := 18) (v := ?_) rfl (by kernel_rfl) (by kernel_rfl) (by kernel_rfl) (fun _ _ _ h => h) (Or.inl ⟨by rfl, ?_⟩) (by assumption) ?_
              rotate_left
              · intro w h; (try dsimp only at h); first | (go_simp; done) | (go_simp; with_reducible rfl)
              try simp only [Act.put, getElem_toArray, getElem_cons_succ, getElem_cons_zero, setIfInBounds_toArray, set_cons_zero, set_cons_succ]
              refine wpAnyH_take (i := 19) (v := ?_) rfl (by kernel_rfl) (by kernel_rfl) (by kernel_rfl) (fun _ _ _ h => h) (Or.inl ⟨by rfl, ?_⟩) (by assumption) ?_
              rotate_left
              · intro w h; (try dsimp only at h); first | (go_simp; done) | (go_simp; with_reducible rfl)
              try simp only [Act.put, getElem_toArray, getElem_cons_succ, getElem_cons_zero, setIfInBounds_toArray, set_cons_zero, set_cons_succ]
              refine wpAnyH_take (i := 20) (v := ?_) rfl (by kernel_rfl) (by kernel_rfl) (by kernel_rfl) (fun _ _ _ h => h) (Or.inl ⟨by rfl, ?_⟩) (by assumption) ?_
              rotate_left
              · intro w h; (try dsimp only at h); first | (go_simp; done) | (go_simp; with_reducible rfl)
              try simp only [Act.put, getElem_toArray, getElem_cons_succ, getElem_cons_zero, setIfInBounds_toArray, set_cons_zero, set_cons_succ]
              refine wpAnyH_take (i := 21) (v := ?_) rfl (by kernel_rfl) (by kernel_rfl) (by kernel_rfl) (fun _ _ _ h => h) (Or.inl ⟨by rfl, ?_⟩) (by assumption) ?_
              rotate_left
              · intro w h; (try dsimp only at h); first | (go_simp; done) | (go_simp; with_reducible rfl)
              try simp only [Act.put, getElem_toArray, getElem_cons_succ, getElem_cons_zero, setIfInBounds_toArray, set_cons_zero, set_cons_succ]
              refine wpAnyH_take (i := 22) (v := ?_) rfl (by kernel_rfl) (by kernel_rfl) (by kernel_rfl) (fun _ _ _ h => h) (Or.inl ⟨by rfl, ?_⟩) (by assumption) ?_
              rotate_left
              · intro w h; (try dsimp only at h); first | (go_simp; done) | (go_simp; with_reducible rfl)
              try simp only [Act.put, getElem_toArray, getElem_cons_succ, getElem_cons_zero, setIfInBounds_toArray, set_cons_zero, set_cons_succ]
              refine wpAnyH_take (i := 23) (v := ?_) rfl (by kernel_rfl) (by kernel_rfl) (by kernel_rfl) (fun _ _ _ h => h) (Or.inl ⟨by rfl, ?_⟩) (by assumption) ?_
              rotate_left
              · intro w h; (try dsimp only at h); first | (go_simp; done) | (go_simp; with_reducible rfl)
              try simp only [Act.put, getElem_toArray, getElem_cons_succ, getElem_cons_zero, setIfInBounds_toArray, set_cons_zero, set_cons_succ]
              refine wpAnyH_take (i := 24) (v := ?_) rfl (by kernel_rfl) (by kernel_rfl) (by kernel_rfl) (fun _ _ _ h => h) (Or.inl ⟨by rfl, ?_⟩) (by assumption) ?_
              rotate_left
              · intro w h; (try dsimp only at h); first | (go_simp; done) | (go_simp; with_reducible rfl)
              try simp only [Act.put, getElem_toArray, getElem_cons_succ, getElem_cons_zero, setIfInBounds_toArray, set_cons_zero, set_cons_succ]
              refine wpAnyH_take (i := 25) (v := undef) rfl (by kernel_rfl) (by kernel_rfl) (by kernel_rfl) (fun _ _ _ h => h) (Or.inr ⟨by rfl, rfl⟩) (by assumption) ?_
              try simp only [Act.put, getElem_toArray, getElem_cons_succ, getElem_cons_zero, setIfInBounds_toArray, set_cons_zero, set_cons_succ]
              refine wpAnyH_take (i := 26) (v := undef) rfl (by kernel_rfl) (by kernel_rfl) (by kernel_rfl) (fun _ _ _ h => h) (Or.inr ⟨by rfl, rfl⟩) (by assumption) ?_
              try simp only [Act.put, getElem_toArray, getElem_cons_succ, getElem_cons_zero, setIfInBounds_toArray, set_cons_zero, set_cons_succ]
              refine wpAnyH_take (i := 27) (v := undef) rfl (by kernel_rfl) (by kernel_rfl) (by kernel_rfl) (fun _ _ _ h => h) (Or.inr ⟨by rfl, rfl⟩) (by assumption) ?_
              try simp only [Act.put, getElem_toArray, getElem_cons_succ, getElem_cons_zero, setIfInBounds_toArray, set_cons_zero, set_cons_succ]
              refine wpAnyH_take (i := 28) (v := undef) rfl (by kernel_rfl) (by kernel_rfl) (by kernel_rfl) (fun _ _ _ h => h) (Or.inr ⟨by rfl, rfl⟩) (by assumption) ?_
              try simp only [Act.put, getElem_toArray, getElem_cons_succ, getElem_cons_zero, setIfInBounds_toArray, set_cons_zero, set_cons_succ]
              refine wpAnyH_take (i := 29) (v := undef) rfl (by kernel_rfl) (by kernel_rfl) (by kernel_rfl) (fun _ _ _ h => h) (Or.inr ⟨by rfl, rfl⟩) (by assumption) ?_
              try simp only [Act.put, getElem_toArray, getElem_cons_succ, getElem_cons_zero, setIfInBounds_toArray, set_cons_zero, set_cons_succ]
              refine wpAnyH_take (i := 30) (v := ?_) rfl (by kernel_rfl) (by kernel_rfl) (by kernel_rfl) (fun _ _ _ h => h) (Or.inl ⟨by rfl, ?_⟩) (by assumption) ?_
              rotate_left
              · intro w h; (try dsimp only at h); first | (go_simp; done) | (go_simp; with_reducible rfl)
              try simp only [Act.put, getElem_toArray, getElem_cons_succ, getElem_cons_zero, setIfInBounds_toArray, set_cons_zero, set_cons_succ]
              refine wpAnyH_take (i := 31) (v := ?_) rfl (by kernel_rfl) (by kernel_rfl) (by kernel_rfl) (fun _ _ _ h => h) (Or.inl ⟨by rfl, ?_⟩) (by assumption) ?_
              rotate_left
              · intro w h; (try dsimp only at h); first | (go_simp; done) | (go_simp; with_reducible rfl)
              try simp only [Act.put, getElem_toArray, getElem_cons_succ, getElem_cons_zero, setIfInBounds_toArray, set_cons_zero, set_cons_succ]
              refine wpAnyH_take (i := 32) (v := ?_) rfl (by kernel_rfl) (by kernel_rfl) (by kernel_rfl) (fun _ _ _ h => h) (Or.inl ⟨by rfl, ?_⟩) (by assumption) ?_
              rotate_left
              · intro w h; (try dsimp only at h); first | (go_simp; done) | (go_simp; with_reducible rfl)
              try simp only [Act.put, getElem_toArray, getElem_cons_succ, getElem_cons_zero, setIfInBounds_toArray, set_cons_zero, set_cons_succ]
              refine wpAnyH_done (by kernel_rfl) ?_ _
              go_wp2_with fail
              go_ret
              exact ⟨rfl, HQ2.out.2.2.2.2.2.2⟩
          · skip
            as_aux_lemma =>
              have jz2 : ((jM : Int) == 0) = false := by simp [jz]
              have jl : (jR : Int) < (jM : Int) := by rcases HJ.out.2.1 with h | h
                                                      · exact absurd h jz
                                                      · omega
              have mz2 : ((mM : Int) == 0) = false := by simp [mz]
              have ml : (mR : Int) < (mM : Int) := by rcases HF.out.2.1 with h | h
                                                      · exact absurd h mz
                                                      · omega
              clear jz mz
              refine wp_region_held_drew (S := (fun w' => w'.cell? ⟨g, 0, none⟩ = some (.int .u64 (cM : Int)) ∧ w'.cell? ⟨g, 1, none⟩ = some (.int .u64 (cR : Int)) ∧ w'.cell? ⟨g + 1, 0, none⟩ = some (.int .u64 (dM : Int)) ∧ w'.cell? ⟨g + 1, 1, none⟩ = some (.int .u64 (dR : Int)) ∧ w'.cell? ⟨gj, 0, none⟩ = some (.int .u64 (jM : Int)) ∧ w'.cell? ⟨gj, 1, none⟩ = some (.int .u64 (jR : Int)) ∧ w'.cell? ⟨gm, 0, none⟩ = some (.int .u64 (mM : Int)) ∧ w'.cell? ⟨gm, 1, none⟩ = some (.int .u64 (mR : Int)))) (by kernel_rfl) (by (try dsimp only); go_keep) (fun hHeld => ?_)
              refine wpAnyH_take (i := 0) (v := ?_) rfl (by kernel_rfl) (by kernel_rfl) (by kernel_rfl) (fun _ _ _ h => h) (Or.inl ⟨by rfl, ?_⟩) (by assumption) ?_
              rotate_left
              · intro w h; (try dsimp only at h); first | (go_simp; done) | (go_simp; with_reducible rfl)
              try simp only [Act.put, getElem_toArray, getElem_cons_succ, getElem_cons_zero, setIfInBounds_toArray, set_cons_zero, set_cons_succ]
              refine wpAnyH_take (i := 1) (v := ?_) rfl (by kernel_rfl) (by kernel_rfl) (by kernel_rfl) (fun _ _ _ h => h) (Or.inl ⟨by rfl, ?_⟩) (by assumption) ?_
              rotate_left
              · intro w h; (try dsimp only at h); first | (go_simp; done) | (go_simp; with_reducible rfl)
              try simp only [Act.put, getElem_toArray, getElem_cons_succ, getElem_cons_zero, setIfInBounds_toArray, set_cons_zero, set_cons_succ]
              refine wpAnyH_take (i := 3) (v := ?_) rfl (by kernel_rfl) (by kernel_rfl) (by kernel_rfl) (fun _ _ _ h => h) (Or.inl ⟨by rfl, ?_⟩) (by assumption) ?_
              rotate_left
              · intro w h; (try dsimp only at h); first | (go_simp; done) | (go_simp; with_reducible rfl)
              try simp only [Act.put, getElem_toArray, getElem_cons_succ, getElem_cons_zero, setIfInBounds_toArray, set_cons_zero, set_cons_succ]
              refine wpAnyH_take (i := 5) (v := ?_) rfl (by kernel_rfl) (by kernel_rfl) (by kernel_rfl) (fun _ _ _ h => h) (Or.inl ⟨by rfl, ?_⟩) (by assumption) ?_
              rotate_left
              · intro w h; (try dsimp only at h); first | (go_simp; done) | (go_simp; with_reducible rfl)
              try simp only [Act.put, getElem_toArray, getElem_cons_succ, getElem_cons_zero, setIfInBounds_toArray, set_cons_zero, set_cons_succ]
              refine wpAnyH_ready (rs := [2]) (by kernel_rfl) (by simp) ?_
              refine AllReadyH.cons rfl (fun K hK => ?_) AllReadyH.nil
              go_simp
              refine (pleq_any cM cR dM dR HU.out.1 HU.out.2.1 HU.out.2.2.1 HU.out.2.2.2.1 _ _ (Ok.refl _)).mono ?_
              rintro e u1 ⟨rfl, hc⟩
              rw [HL3.out]
              have HQ1 : Hid (Six w0 g gm gn gj cM cR dM dR eM eR mM mR jM jR u1) := HQ0.out.step hc
              clear hc
              clear c0 c1 d0 d1 j0 j1 m0 m1
              obtain ⟨c0, c1⟩ := CG_facts HQ1.out.1
              obtain ⟨d0, d1⟩ := CG_facts HQ1.out.2.1
              obtain ⟨j0, j1⟩ := CG_facts HQ1.out.2.2.2.2.2.1
              obtain ⟨m0, m1⟩ := CG_facts HQ1.out.2.2.2.1
              go_wp2_with fail
              refine hK.out _ _ (by (try dsimp only); go_keep) (fun hHeld => ?_)
              clear hK K
              try simp only [Act.put, getElem_toArray, getElem_cons_succ, getElem_cons_zero, setIfInBounds_toArray, set_cons_zero, set_cons_succ]
              refine wpAnyH_ready (rs := [4]) (by kernel_rfl) (by simp) ?_
              refine AllReadyH.cons rfl (fun K hK => ?_) AllReadyH.nil
              go_simp
              refine (pnorm_any dM dR HU.out.2.2.1 HU.out.2.2.2.1 _ _ (Ok.refl _)).mono ?_
              rintro e u2 ⟨rfl, hc⟩
              rw [HND.out]
              unfold cv
              have HQ2 : Hid (Six w0 g gm gn gj cM cR dM dR eM eR mM mR jM jR u2) := HQ1.out.step hc
              clear hc
              clear c0 c1 d0 d1 j0 j1 m0 m1
              obtain ⟨c0, c1⟩ := CG_facts HQ2.out.1
              obtain ⟨d0, d1⟩ := CG_facts HQ2.out.2.1
              obtain ⟨j0, j1⟩ := CG_facts HQ2.out.2.2.2.2.2.1
              obtain ⟨m0, m1⟩ := CG_facts HQ2.out.2.2.2.1
              go_wp2_with fail
              refine hK.out _ _ (by (try dsimp only); go_keep) (fun hHeld => ?_)
              clear hK K
              try simp only [Act.put, getElem_toArray, getElem_cons_succ, getElem_cons_zero, setIfInBounds_toArray, set_cons_zero, set_cons_succ]
              refine wpAnyH_take (i := 6) (v := .bool l3) rfl (by kernel_rfl) (by kernel_rfl) (by kernel_rfl) (fun _ _ _ h => h) (Or.inl ⟨by rfl, ?_⟩) (by assumption) ?_
              · intro w hSw; (try dsimp only at hSw); go_simp; rw [HEQ.out]; by_cases a : dM = jM <;> by_cases b : Rd = jR <;> simp [a, b] <;> omega
              try simp only [Act.put, getElem_toArray, getElem_cons_succ, getElem_cons_zero, setIfInBounds_toArray, set_cons_zero, set_cons_succ]
              refine wpAnyH_take (i := 7) (v := ?_) rfl (by kernel_rfl) (by kernel_rfl) (by kernel_rfl) (fun _ _ _ h => h) (Or.inl ⟨by rfl, ?_⟩) (by assumption) ?_
              rotate_left
              · intro w h; (try dsimp only at h); first | (go_simp; done) | (go_simp; with_reducible rfl)
              try simp only [Act.put, getElem_toArray, getElem_cons_succ, getElem_cons_zero, setIfInBounds_toArray, set_cons_zero, set_cons_succ]
              refine wpAnyH_take (i := 8) (v := ?_) rfl (by kernel_rfl) (by kernel_rfl) (by kernel_rfl) (fun _ _ _ h => h) (Or.inl ⟨by rfl, ?_⟩) (by assumption) ?_
              rotate_left
              · intro w h; (try dsimp only at h); first | (go_simp; done) | (go_simp; with_reducible rfl)
              try simp only [Act.put, getElem_toArray, getElem_cons_succ, getElem_cons_zero, setIfInBounds_toArray, set_cons_zero, set_cons_succ]
              refine wpAnyH_take (i := 9) (v := ?_) rfl (by kernel_rfl) (by kernel_rfl) (by kernel_rfl) (fun _ _ _ h => h) (Or.inl ⟨by rfl, ?_⟩) (by assumption) ?_
              rotate_left
              · intro w h; (try dsimp only at h); first | (go_simp; done) | (go_simp; with_reducible rfl)
              try simp only [Act.put, getElem_toArray, getElem_cons_succ, getElem_cons_zero, setIfInBounds_toArray, set_cons_zero, set_cons_succ]
              refine wpAnyH_take (i := 10) (v := ?_) rfl (by kernel_rfl) (by kernel_rfl) (by kernel_rfl) (fun _ _ _ h => h) (Or.inl ⟨by rfl, ?_⟩) (by assumption) ?_
              rotate_left
              · intro w h; (try dsimp only at h); first | (go_simp; done) | (go_simp; with_reducible rfl)
              try simp only [Act.put, getElem_toArray, getElem_cons_succ, getElem_cons_zero, setIfInBounds_toArray, set_cons_zero, set_cons_succ]
              refine wpAnyH_take (i := 11) (v := ?_) rfl (by kernel_rfl) (by kernel_rfl) (by kernel_rfl) (fun _ _ _ h => h) (Or.inl ⟨by rfl, ?_⟩) (by assumption) ?_
              rotate_left
              · intro w h; (try dsimp only at h); first | (go_simp; done) | (go_simp; with_reducible rfl)
              try simp only [Act.put, getElem_toArray, getElem_cons_succ, getElem_cons_zero, setIfInBounds_toArray, set_cons_zero, set_cons_succ]
              refine wpAnyH_take (i := 12) (v := ?_) rfl (by kernel_rfl) (by kernel_rfl) (by kernel_rfl) (fun _ _ _ h => h) (Or.inl ⟨by rfl, ?_⟩) (by assumption) ?_
              rotate_left
              · intro w h; (try dsimp only at h); first | (go_simp; done) | (go_simp; with_reducible rfl)
              try simp only [Act.put, getElem_toArray, getElem_cons_succ, getElem_cons_zero, setIfInBounds_toArray, set_cons_zero, set_cons_succ]
              refine wpAnyH_take (i := 13) (v := ?_) rfl (by kernel_rfl) (by kernel_rfl) (by kernel_rfl) (fun _ _ _ h => h) (Or.inl ⟨by rfl, ?_⟩) (by assumption) ?_
              rotate_left
              · intro w h; (try dsimp only at h); first | (go_simp; done) | (go_simp; with_reducible rfl)
              try simp only [Act.put, getElem_toArray, getElem_cons_succ, getElem_cons_zero, setIfInBounds_toArray, set_cons_zero, set_cons_succ]
              refine wpAnyH_take (i := 14) (v := ?_) rfl (by kernel_rfl) (by kernel_rfl) (by kernel_rfl) (fun _ _ _ h => h) (Or.inl ⟨by rfl, ?_⟩) (by assumption) ?_
              rotate_left
              · intro w h; (try dsimp only at h); first | (go_simp; done) | (go_simp; with_reducible rfl)
              try simp only [Act.put, getElem_toArray, getElem_cons_succ, getElem_cons_zero, setIfInBounds_toArray, set_cons_zero, set_cons_succ]
              refine wpAnyH_take (i := 15) (v := ?_) rfl (by kernel_rfl) (by kernel_rfl) (by kernel_rfl) (fun _ _ _ h => h) (Or.inl ⟨by rfl, ?_⟩) (by assumption) ?_
              rotate_left
              · intro w h; (try dsimp only at h); first | (go_simp; done) | (go_simp; with_reducible rfl)
              try simp only [Act.put, getElem_toArray, getElem_cons_succ, getElem_cons_zero, setIfInBounds_toArray, set_cons_zero, set_cons_succ]
              refine wpAnyH_take (i := 16) (v := ?_) rfl (by kernel_rfl) (by kernel_rfl) (by kernel_rfl) (fun _ _ _ h => h) (Or.inl ⟨by rfl, ?_⟩) (by assumption) ?_
              rotate_left
              · intro w h; (try dsimp only at h); first | (go_simp; done) | (go_simp; with_reducible rfl)
              try simp only [Act.put, getElem_toArray, getElem_cons_succ, getElem_cons_zero, setIfInBounds_toArray, set_cons_zero, set_cons_succ]
              refine wpAnyH_take (i := 17) (v := ?_) rfl (by kernel_rfl) (by kernel_rfl) (by kernel_rfl) (fun _ _ _ h => h) (Or.inl ⟨by rfl, ?_⟩) (by assumption) ?_
              rotate_left
              · intro w h; (try dsimp only at h); first | (go_simp; done) | (go_simp; with_reducible rfl)
              try simp only [Act.put, getElem_toArray, getElem_cons_succ, getElem_cons_zero, setIfInBounds_toArray, set_cons_zero, set_cons_succ]
              refine wpAnyH_take (i := 18) (v := ?_) rfl (by kernel_rfl) (by kernel_rfl) (by kernel_rfl) (fun _ _ _ h => h) (Or.inl ⟨by rfl, ?_⟩) (by assumption) ?_
              rotate_left
              · intro w h; (try dsimp only at h); first | (go_simp; done) | (go_simp; with_reducible rfl)
              try simp only [Act.put, getElem_toArray, getElem_cons_succ, getElem_cons_zero, setIfInBounds_toArray, set_cons_zero, set_cons_succ]
              refine wpAnyH_take (i := 19) (v := ?_) rfl (by kernel_rfl) (by kernel_rfl) (by kernel_rfl) (fun _ _ _ h => h) (Or.inl ⟨by rfl, ?_⟩) (by assumption) ?_
              rotate_left
              · intro w h; (try dsimp only at h); first | (go_simp; done) | (go_simp; with_reducible rfl)
              try simp only [Act.put, getElem_toArray, getElem_cons_succ, getElem_cons_zero, setIfInBounds_toArray, set_cons_zero, set_cons_succ]
              refine wpAnyH_take (i := 20) (v := ?_) rfl (by kernel_rfl) (by kernel_rfl) (by kernel_rfl) (fun _ _ _ h => h) (Or.inl ⟨by rfl, ?_⟩) (by assumption) ?_
              rotate_left
              · intro w h; (try dsimp only at h); first | (go_simp; done) | (go_simp; with_reducible rfl)
              try simp only [Act.put, getElem_toArray, getElem_cons_succ, getElem_cons_zero, setIfInBounds_toArray, set_cons_zero, set_cons_succ]
              refine wpAnyH_take (i := 21) (v := ?_) rfl (by kernel_rfl) (by kernel_rfl) (by kernel_rfl) (fun _ _ _ h => h) (Or.inl ⟨by rfl, ?_⟩) (by assumption) ?_
              rotate_left
              · intro w h; (try dsimp only at h); first | (go_simp; done) | (go_simp; with_reducible rfl)
              try simp only [Act.put, getElem_toArray, getElem_cons_succ, getElem_cons_zero, setIfInBounds_toArray, set_cons_zero, set_cons_succ]
              refine wpAnyH_take (i := 22) (v := ?_) rfl (by kernel_rfl) (by kernel_rfl) (by kernel_rfl) (fun _ _ _ h => h) (Or.inl ⟨by rfl, ?_⟩) (by assumption) ?_
              rotate_left
              · intro w h; (try dsimp only at h); first | (go_simp; done) | (go_simp; with_reducible rfl)
              try simp only [Act.put, getElem_toArray, getElem_cons_succ, getElem_cons_zero, setIfInBounds_toArray, set_cons_zero, set_cons_succ]
              refine wpAnyH_take (i := 23) (v := ?_) rfl (by kernel_rfl) (by kernel_rfl) (by kernel_rfl) (fun _ _ _ h => h) (Or.inl ⟨by rfl, ?_⟩) (by assumption) ?_
              rotate_left
              · intro w h; (try dsimp only at h); first | (go_simp; done) | (go_simp; with_reducible rfl)
              try simp only [Act.put, getElem_toArray, getElem_cons_succ, getElem_cons_zero, setIfInBounds_toArray, set_cons_zero, set_cons_succ]
              refine wpAnyH_take (i := 24) (v := ?_) rfl (by kernel_rfl) (by kernel_rfl) (by kernel_rfl) (fun _ _ _ h => h) (Or.inl ⟨by rfl, ?_⟩) (by assumption) ?_
              rotate_left
              · intro w h; (try dsimp only at h); first | (go_simp; done) | (go_simp; with_reducible rfl)
              try simp only [Act.put, getElem_toArray, getElem_cons_succ, getElem_cons_zero, setIfInBounds_toArray, set_cons_zero, set_cons_succ]
              refine wpAnyH_take (i := 25) (v := ?_) rfl (by kernel_rfl) (by kernel_rfl) (by kernel_rfl) (fun _ _ _ h => h) (Or.inl ⟨by rfl, ?_⟩) (by assumption) ?_
              rotate_left
              · intro w h; (try dsimp only at h); first | (go_simp; done) | (go_simp; with_reducible rfl)
              try simp only [Act.put, getElem_toArray, getElem_cons_succ, getElem_cons_zero, setIfInBounds_toArray, set_cons_zero, set_cons_succ]
              refine wpAnyH_take (i := 26) (v := ?_) rfl (by kernel_rfl) (by kernel_rfl) (by kernel_rfl) (fun _ _ _ h => h) (Or.inl ⟨by rfl, ?_⟩) (by assumption) ?_
              rotate_left
              · intro w h; (try dsimp only at h); first | (go_simp; done) | (go_simp; with_reducible rfl)
              try simp only [Act.put, getElem_toArray, getElem_cons_succ, getElem_cons_zero, setIfInBounds_toArray, set_cons_zero, set_cons_succ]
              refine wpAnyH_take (i := 27) (v := ?_) rfl (by kernel_rfl) (by kernel_rfl) (by kernel_rfl) (fun _ _ _ h => h) (Or.inl ⟨by rfl, ?_⟩) (by assumption) ?_
              rotate_left
              · intro w h; (try dsimp only at h); first | (go_simp; done) | (go_simp; with_reducible rfl)
              try simp only [Act.put, getElem_toArray, getElem_cons_succ, getElem_cons_zero, setIfInBounds_toArray, set_cons_zero, set_cons_succ]
              refine wpAnyH_take (i := 28) (v := ?_) rfl (by kernel_rfl) (by kernel_rfl) (by kernel_rfl) (fun _ _ _ h => h) (Or.inl ⟨by rfl, ?_⟩) (by assumption) ?_
              rotate_left
              · intro w h; (try dsimp only at h); first | (go_simp; done) | (go_simp; with_reducible rfl)
              try simp only [Act.put, getElem_toArray, getElem_cons_succ, getElem_cons_zero, setIfInBounds_toArray, set_cons_zero, set_cons_succ]
              refine wpAnyH_take (i := 29) (v := ?_) rfl (by kernel_rfl) (by kernel_rfl) (by kernel_rfl) (fun _ _ _ h => h) (Or.inl ⟨by rfl, ?_⟩) (by assumption) ?_
              rotate_left
              · intro w h; (try dsimp only at h); first | (go_simp; done) | (go_simp; with_reducible rfl)
              try simp only [Act.put, getElem_toArray, getElem_cons_succ, getElem_cons_zero, setIfInBounds_toArray, set_cons_zero, set_cons_succ]
              refine wpAnyH_take (i := 30) (v := ?_) rfl (by kernel_rfl) (by kernel_rfl) (by kernel_rfl) (fun _ _ _ h => h) (Or.inl ⟨by rfl, ?_⟩) (by assumption) ?_
              rotate_left
              · intro w h; (try dsimp only at h); first | (go_simp; done) | (go_simp; with_reducible rfl)
              try simp only [Act.put, getElem_toArray, getElem_cons_succ, getElem_cons_zero, setIfInBounds_toArray, set_cons_zero, set_cons_succ]
              refine wpAnyH_take (i := 31) (v := ?_) rfl (by kernel_rfl) (by kernel_rfl) (by kernel_rfl) (fun _ _ _ h => h) (Or.inl ⟨by rfl, ?_⟩) (by assumption) ?_
              rotate_left
              · intro w h; (try dsimp only at h); first | (go_simp; done) | (go_simp; with_reducible rfl)
              try simp only [Act.put, getElem_toArray, getElem_cons_succ, getElem_cons_zero, setIfInBounds_toArray, set_cons_zero, set_cons_succ]
              refine wpAnyH_take (i := 32) (v := ?_) rfl (by kernel_rfl) (by kernel_rfl) (by kernel_rfl) (fun _ _ _ h => h) (Or.inl ⟨by rfl, ?_⟩) (by assumption) ?_
              rotate_left
              · intro w h; (try dsimp only at h); first | (go_simp; done) | (go_simp; with_reducible rfl)
              try simp only [Act.put, getElem_toArray, getElem_cons_succ, getElem_cons_zero, setIfInBounds_toArray, set_cons_zero, set_cons_succ]
              refine wpAnyH_done (by kernel_rfl) ?_ _
              go_wp2_with fail
              go_ret
              exact ⟨rfl, HQ2.out.2.2.2.2.2.2⟩
    have HT13 : Hid _ := tail13
    clear tail13 aK2 m0 m1
    have HLC : Hid (leqC cM cR jM jR = true ∧ leqC dM dR jM jR = true) := ⟨(leqC_iff HU.out.2.1 HJ.out.1.2).2 HJ.out.2.2.1, (leqC_iff HU.out.2.2.2.1 HJ.out.1.2).2 HJ.out.2.2.2.1⟩
    obtain ⟨l1, hl1⟩ : ∃ l, l = leqC cM cR eM eR := ⟨_, rfl⟩
    obtain ⟨l2, hl2⟩ : ∃ l, l = leqC dM dR eM eR := ⟨_, rfl⟩
    obtain ⟨l3, hl3⟩ : ∃ l, l = leqC cM cR dM dR := ⟨_, rfl⟩
    have HLE : Hid (leqC cM cR eM eR = l1 ∧ leqC dM dR eM eR = l2 ∧ leqC cM cR dM dR = l3) := ⟨hl1.symm, hl2.symm, hl3.symm⟩
    have HLL : Hid ((l1 = true → l2 = true → leqC jM jR eM eR = true) ∧ (l3 = true → l2 = true → l1 = true) ∧ (l3 = true → bi = true → bs = true)) := by
      refine ⟨fun a b => ?_, fun a b => ?_, fun a b => ?_⟩
      · rw [hl1] at a; rw [hl2] at b
        exact (leqC_iff HJ.out.1.2 HU.out.2.2.2.2.2.1).2 (HJ.out.2.2.2.2 ((leqC_iff HU.out.2.1 HU.out.2.2.2.2.2.1).1 a) ((leqC_iff HU.out.2.2.2.1 HU.out.2.2.2.2.2.1).1 b))
      · rw [hl3] at a; rw [hl2] at b
        rw [hl1]
        exact (leqC_iff HU.out.2.1 HU.out.2.2.2.2.2.1).2 (fun u hu => (leqC_iff HU.out.2.2.2.1 HU.out.2.2.2.2.2.1).1 b u ((leqC_iff HU.out.2.1 HU.out.2.2.2.1).1 a u hu))
      · rw [hl3] at a
        exact HB.out.2.2 ((leqC_iff HU.out.2.1 HU.out.2.2.2.1).1 a _ (HB.out.1.1 b))
    clear hl1 hl2 hl3
    cases l3
    · skip
      cases l1
      · cases l2
        · skip
          refine (pleq_any cM cR jM jR HU.out.1 HU.out.2.1 HJ.out.1.1 HJ.out.1.2 _ _ (Ok.refl _)).mono ?_
          rintro e u1 ⟨rfl, hc⟩
          rw [HLC.out.1]
          have HZ1 : Hid (Six w0 g gm gn gj cM cR dM dR eM eR mM mR jM jR u1) := HZ0.out.step hc
          clear hc
          clear c0 c1 d0 d1 e0 e1 j0 j1
          obtain ⟨c0, c1⟩ := CG_facts HZ1.out.1
          obtain ⟨d0, d1⟩ := CG_facts HZ1.out.2.1
          obtain ⟨e0, e1⟩ := CG_facts HZ1.out.2.2.1
          obtain ⟨j0, j1⟩ := CG_facts HZ1.out.2.2.2.2.2.1
          go_wp2_with fail
          refine (pleq_any dM dR jM jR HU.out.2.2.1 HU.out.2.2.2.1 HJ.out.1.1 HJ.out.1.2 _ _ (Ok.refl _)).mono ?_
          rintro e u2 ⟨rfl, hc⟩
          rw [HLC.out.2]
          have HZ2 : Hid (Six w0 g gm gn gj cM cR dM dR eM eR mM mR jM jR u2) := HZ1.out.step hc
          clear hc
          clear c0 c1 d0 d1 e0 e1 j0 j1
          obtain ⟨c0, c1⟩ := CG_facts HZ2.out.1
          obtain ⟨d0, d1⟩ := CG_facts HZ2.out.2.1
          obtain ⟨e0, e1⟩ := CG_facts HZ2.out.2.2.1
          obtain ⟨j0, j1⟩ := CG_facts HZ2.out.2.2.2.2.2.1
          go_wp2_with fail
          refine (pleq_any cM cR eM eR HU.out.1 HU.out.2.1 HU.out.2.2.2.2.1 HU.out.2.2.2.2.2.1 _ _ (Ok.refl _)).mono ?_
          rintro e u3 ⟨rfl, hc⟩
          rw [HLE.out.1]
          have HZ3 : Hid (Six w0 g gm gn gj cM cR dM dR eM eR mM mR jM jR u3) := HZ2.out.step hc
          clear hc
          clear c0 c1 d0 d1 e0 e1 j0 j1
          obtain ⟨c0, c1⟩ := CG_facts HZ3.out.1
          obtain ⟨d0, d1⟩ := CG_facts HZ3.out.2.1
          obtain ⟨e0, e1⟩ := CG_facts HZ3.out.2.2.1
          obtain ⟨j0, j1⟩ := CG_facts HZ3.out.2.2.2.2.2.1
          go_wp2_with fail
          refine (pleq_any cM cR dM dR HU.out.1 HU.out.2.1 HU.out.2.2.1 HU.out.2.2.2.1 _ _ (Ok.refl _)).mono ?_
          rintro e u4 ⟨rfl, hc⟩
          rw [HLE.out.2.2]
          have HZ4 : Hid (Six w0 g gm gn gj cM cR dM dR eM eR mM mR jM jR u4) := HZ3.out.step hc
          clear hc
          clear c0 c1 d0 d1 e0 e1 j0 j1
          obtain ⟨c0, c1⟩ := CG_facts HZ4.out.1
          obtain ⟨d0, d1⟩ := CG_facts HZ4.out.2.1
          obtain ⟨e0, e1⟩ := CG_facts HZ4.out.2.2.1
          obtain ⟨j0, j1⟩ := CG_facts HZ4.out.2.2.2.2.2.1
          go_wp2_with fail
          refine (pleq_any cM cR dM dR HU.out.1 HU.out.2.1 HU.out.2.2.1 HU.out.2.2.2.1 _ _ (Ok.refl _)).mono ?_
          rintro e u5 ⟨rfl, hc⟩
          rw [HLE.out.2.2]
          have HZ5 : Hid (Six w0 g gm gn gj cM cR dM dR eM eR mM mR jM jR u5) := HZ4.out.step hc
          clear hc
          clear c0 c1 d0 d1 e0 e1 j0 j1
          obtain ⟨c0, c1⟩ := CG_facts HZ5.out.1
          obtain ⟨d0, d1⟩ := CG_facts HZ5.out.2.1
          obtain ⟨e0, e1⟩ := CG_facts HZ5.out.2.2.1
          obtain ⟨j0, j1⟩ := CG_facts HZ5.out.2.2.2.2.2.1
          go_wp2_with fail
          exact HT13.out _ _ _ _ _ _ _ _ _ _ _ _ _ _ _ _ _ _ _ _ _ _ _ _ _ _ _ _ _ _ _ _ _ _ _ _ _ _ _ _ _ _ _ _ _ _ _ _ _ _ _ _ _ _ _ HZ5.out
        · skip
          refine (pleq_any cM cR jM jR HU.out.1 HU.out.2.1 HJ.out.1.1 HJ.out.1.2 _ _ (Ok.refl _)).mono ?_
          rintro e u1 ⟨rfl, hc⟩
          rw [HLC.out.1]
          have HZ1 : Hid (Six w0 g gm gn gj cM cR dM dR eM eR mM mR jM jR u1) := HZ0.out.step hc
          clear hc
          clear c0 c1 d0 d1 e0 e1 j0 j1
          obtain ⟨c0, c1⟩ := CG_facts HZ1.out.1
          obtain ⟨d0, d1⟩ := CG_facts HZ1.out.2.1
          obtain ⟨e0, e1⟩ := CG_facts HZ1.out.2.2.1
          obtain ⟨j0, j1⟩ := CG_facts HZ1.out.2.2.2.2.2.1
          go_wp2_with fail
          refine (pleq_any dM dR jM jR HU.out.2.2.1 HU.out.2.2.2.1 HJ.out.1.1 HJ.out.1.2 _ _ (Ok.refl _)).mono ?_
          rintro e u2 ⟨rfl, hc⟩
          rw [HLC.out.2]
          have HZ2 : Hid (Six w0 g gm gn gj cM cR dM dR eM eR mM mR jM jR u2) := HZ1.out.step hc
          clear hc
          clear c0 c1 d0 d1 e0 e1 j0 j1
          obtain ⟨c0, c1⟩ := CG_facts HZ2.out.1
          obtain ⟨d0, d1⟩ := CG_facts HZ2.out.2.1
          obtain ⟨e0, e1⟩ := CG_facts HZ2.out.2.2.1
          obtain ⟨j0, j1⟩ := CG_facts HZ2.out.2.2.2.2.2.1
          go_wp2_with fail
          refine (pleq_any cM cR eM eR HU.out.1 HU.out.2.1 HU.out.2.2.2.2.1 HU.out.2.2.2.2.2.1 _ _ (Ok.refl _)).mono ?_
          rintro e u3 ⟨rfl, hc⟩
          rw [HLE.out.1]
          have HZ3 : Hid (Six w0 g gm gn gj cM cR dM dR eM eR mM mR jM jR u3) := HZ2.out.step hc
          clear hc
          clear c0 c1 d0 d1 e0 e1 j0 j1
          obtain ⟨c0, c1⟩ := CG_facts HZ3.out.1
          obtain ⟨d0, d1⟩ := CG_facts HZ3.out.2.1
          obtain ⟨e0, e1⟩ := CG_facts HZ3.out.2.2.1
          obtain ⟨j0, j1⟩ := CG_facts HZ3.out.2.2.2.2.2.1
          go_wp2_with fail
          refine (pleq_any cM cR dM dR HU.out.1 HU.out.2.1 HU.out.2.2.1 HU.out.2.2.2.1 _ _ (Ok.refl _)).mono ?_
          rintro e u4 ⟨rfl, hc⟩
          rw [HLE.out.2.2]
          have HZ4 : Hid (Six w0 g gm gn gj cM cR dM dR eM eR mM mR jM jR u4) := HZ3.out.step hc
          clear hc
          clear c0 c1 d0 d1 e0 e1 j0 j1
          obtain ⟨c0, c1⟩ := CG_facts HZ4.out.1
          obtain ⟨d0, d1⟩ := CG_facts HZ4.out.2.1
          obtain ⟨e0, e1⟩ := CG_facts HZ4.out.2.2.1
          obtain ⟨j0, j1⟩ := CG_facts HZ4.out.2.2.2.2.2.1
          go_wp2_with fail
          refine (pleq_any cM cR dM dR HU.out.1 HU.out.2.1 HU.out.2.2.1 HU.out.2.2.2.1 _ _ (Ok.refl _)).mono ?_
          rintro e u5 ⟨rfl, hc⟩
          rw [HLE.out.2.2]
          have HZ5 : Hid (Six w0 g gm gn gj cM cR dM dR eM eR mM mR jM jR u5) := HZ4.out.step hc
          clear hc
          clear c0 c1 d0 d1 e0 e1 j0 j1
          obtain ⟨c0, c1⟩ := CG_facts HZ5.out.1
          obtain ⟨d0, d1⟩ := CG_facts HZ5.out.2.1
          obtain ⟨e0, e1⟩ := CG_facts HZ5.out.2.2.1
          obtain ⟨j0, j1⟩ := CG_facts HZ5.out.2.2.2.2.2.1
          go_wp2_with fail
          exact HT13.out _ _ _ _ _ _ _ _ _ _ _ _ _ _ _ _ _ _ _ _ _ _ _ _ _ _ _ _ _ _ _ _ _ _ _ _ _ _ _ _ _ _ _ _ _ _ _ _ _ _ _ _ _ _ _ HZ5.out
      · cases l2
        · skip
          refine (pleq_any cM cR jM jR HU.out.1 HU.out.2.1 HJ.out.1.1 HJ.out.1.2 _ _ (Ok.refl _)).mono ?_
          rintro e u1 ⟨rfl, hc⟩
          rw [HLC.out.1]
          have HZ1 : Hid (Six w0 g gm gn gj cM cR dM dR eM eR mM mR jM jR u1) := HZ0.out.step hc
          clear hc
          clear c0 c1 d0 d1 e0 e1 j0 j1
          obtain ⟨c0, c1⟩ := CG_facts HZ1.out.1
          obtain ⟨d0, d1⟩ := CG_facts HZ1.out.2.1
          obtain ⟨e0, e1⟩ := CG_facts HZ1.out.2.2.1
          obtain ⟨j0, j1⟩ := CG_facts HZ1.out.2.2.2.2.2.1
          go_wp2_with fail
          refine (pleq_any dM dR jM jR HU.out.2.2.1 HU.out.2.2.2.1 HJ.out.1.1 HJ.out.1.2 _ _ (Ok.refl _)).mono ?_
          rintro e u2 ⟨rfl, hc⟩
          rw [HLC.out.2]
          have HZ2 : Hid (Six w0 g gm gn gj cM cR dM dR eM eR mM mR jM jR u2) := HZ1.out.step hc
          clear hc
          clear c0 c1 d0 d1 e0 e1 j0 j1
          obtain ⟨c0, c1⟩ := CG_facts HZ2.out.1
          obtain ⟨d0, d1⟩ := CG_facts HZ2.out.2.1
          obtain ⟨e0, e1⟩ := CG_facts HZ2.out.2.2.1
          obtain ⟨j0, j1⟩ := CG_facts HZ2.out.2.2.2.2.2.1
          go_wp2_with fail
          refine (pleq_any cM cR eM eR HU.out.1 HU.out.2.1 HU.out.2.2.2.2.1 HU.out.2.2.2.2.2.1 _ _ (Ok.refl _)).mono ?_
          rintro e u3 ⟨rfl, hc⟩
          rw [HLE.out.1]
          have HZ3 : Hid (Six w0 g gm gn gj cM cR dM dR eM eR mM mR jM jR u3) := HZ2.out.step hc
          clear hc
          clear c0 c1 d0 d1 e0 e1 j0 j1
          obtain ⟨c0, c1⟩ := CG_facts HZ3.out.1
          obtain ⟨d0, d1⟩ := CG_facts HZ3.out.2.1
          obtain ⟨e0, e1⟩ := CG_facts HZ3.out.2.2.1
          obtain ⟨j0, j1⟩ := CG_facts HZ3.out.2.2.2.2.2.1
          go_wp2_with fail
          refine (pleq_any dM dR eM eR HU.out.2.2.1 HU.out.2.2.2.1 HU.out.2.2.2.2.1 HU.out.2.2.2.2.2.1 _ _ (Ok.refl _)).mono ?_
          rintro e u4 ⟨rfl, hc⟩
          rw [HLE.out.2.1]
          have HZ4 : Hid (Six w0 g gm gn gj cM cR dM dR eM eR mM mR jM jR u4) := HZ3.out.step hc
          clear hc
          clear c0 c1 d0 d1 e0 e1 j0 j1
          obtain ⟨c0, c1⟩ := CG_facts HZ4.out.1
          obtain ⟨d0, d1⟩ := CG_facts HZ4.out.2.1
          obtain ⟨e0, e1⟩ := CG_facts HZ4.out.2.2.1
          obtain ⟨j0, j1⟩ := CG_facts HZ4.out.2.2.2.2.2.1
          go_wp2_with fail
          refine (pleq_any cM cR dM dR HU.out.1 HU.out.2.1 HU.out.2.2.1 HU.out.2.2.2.1 _ _ (Ok.refl _)).mono ?_
          rintro e u5 ⟨rfl, hc⟩
          rw [HLE.out.2.2]
          have HZ5 : Hid (Six w0 g gm gn gj cM cR dM dR eM eR mM mR jM jR u5) := HZ4.out.step hc
          clear hc
          clear c0 c1 d0 d1 e0 e1 j0 j1
          obtain ⟨c0, c1⟩ := CG_facts HZ5.out.1
          obtain ⟨d0, d1⟩ := CG_facts HZ5.out.2.1
          obtain ⟨e0, e1⟩ := CG_facts HZ5.out.2.2.1
          obtain ⟨j0, j1⟩ := CG_facts HZ5.out.2.2.2.2.2.1
          go_wp2_with fail
          refine (pleq_any cM cR dM dR HU.out.1 HU.out.2.1 HU.out.2.2.1 HU.out.2.2.2.1 _ _ (Ok.refl _)).mono ?_
          rintro e u6 ⟨rfl, hc⟩
          rw [HLE.out.2.2]
          have HZ6 : Hid (Six w0 g gm gn gj cM cR dM dR eM eR mM mR jM jR u6) := HZ5.out.step hc
          clear hc
          clear c0 c1 d0 d1 e0 e1 j0 j1
          obtain ⟨c0, c1⟩ := CG_facts HZ6.out.1
          obtain ⟨d0, d1⟩ := CG_facts HZ6.out.2.1
          obtain ⟨e0, e1⟩ := CG_facts HZ6.out.2.2.1
          obtain ⟨j0, j1⟩ := CG_facts HZ6.out.2.2.2.2.2.1
          go_wp2_with fail
          exact HT13.out _ _ _ _ _ _ _ _ _ _ _ _ _ _ _ _ _ _ _ _ _ _ _ _ _ _ _ _ _ _ _ _ _ _ _ _ _ _ _ _ _ _ _ _ _ _ _ _ _ _ _ _ _ _ _ HZ6.out
        · skip
          have HJE : Hid (leqC jM jR eM eR = true) := HLL.out.1 rfl rfl
          refine (pleq_any cM cR jM jR HU.out.1 HU.out.2.1 HJ.out.1.1 HJ.out.1.2 _ _ (Ok.refl _)).mono ?_
          rintro e u1 ⟨rfl, hc⟩
          rw [HLC.out.1]
          have HZ1 : Hid (Six w0 g gm gn gj cM cR dM dR eM eR mM mR jM jR u1) := HZ0.out.step hc
          clear hc
          clear c0 c1 d0 d1 e0 e1 j0 j1
          obtain ⟨c0, c1⟩ := CG_facts HZ1.out.1
          obtain ⟨d0, d1⟩ := CG_facts HZ1.out.2.1
          obtain ⟨e0, e1⟩ := CG_facts HZ1.out.2.2.1
          obtain ⟨j0, j1⟩ := CG_facts HZ1.out.2.2.2.2.2.1
          go_wp2_with fail
          refine (pleq_any dM dR jM jR HU.out.2.2.1 HU.out.2.2.2.1 HJ.out.1.1 HJ.out.1.2 _ _ (Ok.refl _)).mono ?_
          rintro e u2 ⟨rfl, hc⟩
          rw [HLC.out.2]
          have HZ2 : Hid (Six w0 g gm gn gj cM cR dM dR eM eR mM mR jM jR u2) := HZ1.out.step hc
          clear hc
          clear c0 c1 d0 d1 e0 e1 j0 j1
          obtain ⟨c0, c1⟩ := CG_facts HZ2.out.1
          obtain ⟨d0, d1⟩ := CG_facts HZ2.out.2.1
          obtain ⟨e0, e1⟩ := CG_facts HZ2.out.2.2.1
          obtain ⟨j0, j1⟩ := CG_facts HZ2.out.2.2.2.2.2.1
          go_wp2_with fail
          refine (pleq_any cM cR eM eR HU.out.1 HU.out.2.1 HU.out.2.2.2.2.1 HU.out.2.2.2.2.2.1 _ _ (Ok.refl _)).mono ?_
          rintro e u3 ⟨rfl, hc⟩
          rw [HLE.out.1]
          have HZ3 : Hid (Six w0 g gm gn gj cM cR dM dR eM eR mM mR jM jR u3) := HZ2.out.step hc
          clear hc
          clear c0 c1 d0 d1 e0 e1 j0 j1
          obtain ⟨c0, c1⟩ := CG_facts HZ3.out.1
          obtain ⟨d0, d1⟩ := CG_facts HZ3.out.2.1
          obtain ⟨e0, e1⟩ := CG_facts HZ3.out.2.2.1
          obtain ⟨j0, j1⟩ := CG_facts HZ3.out.2.2.2.2.2.1
          go_wp2_with fail
          refine (pleq_any dM dR eM eR HU.out.2.2.1 HU.out.2.2.2.1 HU.out.2.2.2.2.1 HU.out.2.2.2.2.2.1 _ _ (Ok.refl _)).mono ?_
          rintro e u4 ⟨rfl, hc⟩
          rw [HLE.out.2.1]
          have HZ4 : Hid (Six w0 g gm gn gj cM cR dM dR eM eR mM mR jM jR u4) := HZ3.out.step hc
          clear hc
          clear c0 c1 d0 d1 e0 e1 j0 j1
          obtain ⟨c0, c1⟩ := CG_facts HZ4.out.1
          obtain ⟨d0, d1⟩ := CG_facts HZ4.out.2.1
          obtain ⟨e0, e1⟩ := CG_facts HZ4.out.2.2.1
          obtain ⟨j0, j1⟩ := CG_facts HZ4.out.2.2.2.2.2.1
          go_wp2_with fail
          refine (pleq_any jM jR eM eR HJ.out.1.1 HJ.out.1.2 HU.out.2.2.2.2.1 HU.out.2.2.2.2.2.1 _ _ (Ok.refl _)).mono ?_
          rintro e u5 ⟨rfl, hc⟩
          rw [HJE.out]
          have HZ5 : Hid (Six w0 g gm gn gj cM cR dM dR eM eR mM mR jM jR u5) := HZ4.out.step hc
          clear hc
          clear c0 c1 d0 d1 e0 e1 j0 j1
          obtain ⟨c0, c1⟩ := CG_facts HZ5.out.1
          obtain ⟨d0, d1⟩ := CG_facts HZ5.out.2.1
          obtain ⟨e0, e1⟩ := CG_facts HZ5.out.2.2.1
          obtain ⟨j0, j1⟩ := CG_facts HZ5.out.2.2.2.2.2.1
          go_wp2_with fail
          refine (pleq_any cM cR dM dR HU.out.1 HU.out.2.1 HU.out.2.2.1 HU.out.2.2.2.1 _ _ (Ok.refl _)).mono ?_
          rintro e u6 ⟨rfl, hc⟩
          rw [HLE.out.2.2]
          have HZ6 : Hid (Six w0 g gm gn gj cM cR dM dR eM eR mM mR jM jR u6) := HZ5.out.step hc
          clear hc
          clear c0 c1 d0 d1 e0 e1 j0 j1
          obtain ⟨c0, c1⟩ := CG_facts HZ6.out.1
          obtain ⟨d0, d1⟩ := CG_facts HZ6.out.2.1
          obtain ⟨e0, e1⟩ := CG_facts HZ6.out.2.2.1
          obtain ⟨j0, j1⟩ := CG_facts HZ6.out.2.2.2.2.2.1
          go_wp2_with fail
          refine (pleq_any cM cR dM dR HU.out.1 HU.out.2.1 HU.out.2.2.1 HU.out.2.2.2.1 _ _ (Ok.refl _)).mono ?_
          rintro e u7 ⟨rfl, hc⟩
          rw [HLE.out.2.2]
          have HZ7 : Hid (Six w0 g gm gn gj cM cR dM dR eM eR mM mR jM jR u7) := HZ6.out.step hc
          clear hc
          clear c0 c1 d0 d1 e0 e1 j0 j1
          obtain ⟨c0, c1⟩ := CG_facts HZ7.out.1
          obtain ⟨d0, d1⟩ := CG_facts HZ7.out.2.1
          obtain ⟨e0, e1⟩ := CG_facts HZ7.out.2.2.1
          obtain ⟨j0, j1⟩ := CG_facts HZ7.out.2.2.2.2.2.1
          go_wp2_with fail
          exact HT13.out _ _ _ _ _ _ _ _ _ _ _ _ _ _ _ _ _ _ _ _ _ _ _ _ _ _ _ _ _ _ _ _ _ _ _ _ _ _ _ _ _ _ _ _ _ _ _ _ _ _ _ _ _ _ _ HZ7.out
    · cases bi
      · skip
        cases l1
        · cases l2
          · skip
            refine (pleq_any cM cR jM jR HU.out.1 HU.out.2.1 HJ.out.1.1 HJ.out.1.2 _ _ (Ok.refl _)).mono ?_
            rintro e u1 ⟨rfl, hc⟩
            rw [HLC.out.1]
            have HZ1 : Hid (Six w0 g gm gn gj cM cR dM dR eM eR mM mR jM jR u1) := HZ0.out.step hc
            clear hc
            clear c0 c1 d0 d1 e0 e1 j0 j1
            obtain ⟨c0, c1⟩ := CG_facts HZ1.out.1
            obtain ⟨d0, d1⟩ := CG_facts HZ1.out.2.1
            obtain ⟨e0, e1⟩ := CG_facts HZ1.out.2.2.1
            obtain ⟨j0, j1⟩ := CG_facts HZ1.out.2.2.2.2.2.1
            go_wp2_with fail
            refine (pleq_any dM dR jM jR HU.out.2.2.1 HU.out.2.2.2.1 HJ.out.1.1 HJ.out.1.2 _ _ (Ok.refl _)).mono ?_
            rintro e u2 ⟨rfl, hc⟩
            rw [HLC.out.2]
            have HZ2 : Hid (Six w0 g gm gn gj cM cR dM dR eM eR mM mR jM jR u2) := HZ1.out.step hc
            clear hc
            clear c0 c1 d0 d1 e0 e1 j0 j1
            obtain ⟨c0, c1⟩ := CG_facts HZ2.out.1
            obtain ⟨d0, d1⟩ := CG_facts HZ2.out.2.1
            obtain ⟨e0, e1⟩ := CG_facts HZ2.out.2.2.1
            obtain ⟨j0, j1⟩ := CG_facts HZ2.out.2.2.2.2.2.1
            go_wp2_with fail
            refine (pleq_any cM cR eM eR HU.out.1 HU.out.2.1 HU.out.2.2.2.2.1 HU.out.2.2.2.2.2.1 _ _ (Ok.refl _)).mono ?_
            rintro e u3 ⟨rfl, hc⟩
            rw [HLE.out.1]
            have HZ3 : Hid (Six w0 g gm gn gj cM cR dM dR eM eR mM mR jM jR u3) := HZ2.out.step hc
            clear hc
            clear c0 c1 d0 d1 e0 e1 j0 j1
            obtain ⟨c0, c1⟩ := CG_facts HZ3.out.1
            obtain ⟨d0, d1⟩ := CG_facts HZ3.out.2.1
            obtain ⟨e0, e1⟩ := CG_facts HZ3.out.2.2.1
            obtain ⟨j0, j1⟩ := CG_facts HZ3.out.2.2.2.2.2.1
            go_wp2_with fail
            refine (pleq_any cM cR dM dR HU.out.1 HU.out.2.1 HU.out.2.2.1 HU.out.2.2.2.1 _ _ (Ok.refl _)).mono ?_
            rintro e u4 ⟨rfl, hc⟩
            rw [HLE.out.2.2]
            have HZ4 : Hid (Six w0 g gm gn gj cM cR dM dR eM eR mM mR jM jR u4) := HZ3.out.step hc
            clear hc
            clear c0 c1 d0 d1 e0 e1 j0 j1
            obtain ⟨c0, c1⟩ := CG_facts HZ4.out.1
            obtain ⟨d0, d1⟩ := CG_facts HZ4.out.2.1
            obtain ⟨e0, e1⟩ := CG_facts HZ4.out.2.2.1
            obtain ⟨j0, j1⟩ := CG_facts HZ4.out.2.2.2.2.2.1
            go_wp2_with fail
            refine (pleq_any cM cR dM dR HU.out.1 HU.out.2.1 HU.out.2.2.1 HU.out.2.2.2.1 _ _ (Ok.refl _)).mono ?_
            rintro e u5 ⟨rfl, hc⟩
            rw [HLE.out.2.2]
            have HZ5 : Hid (Six w0 g gm gn gj cM cR dM dR eM eR mM mR jM jR u5) := HZ4.out.step hc
            clear hc
            clear c0 c1 d0 d1 e0 e1 j0 j1
            obtain ⟨c0, c1⟩ := CG_facts HZ5.out.1
            obtain ⟨d0, d1⟩ := CG_facts HZ5.out.2.1
            obtain ⟨e0, e1⟩ := CG_facts HZ5.out.2.2.1
            obtain ⟨j0, j1⟩ := CG_facts HZ5.out.2.2.2.2.2.1
            go_wp2_with fail
            refine (pleq_any dM dR eM eR HU.out.2.2.1 HU.out.2.2.2.1 HU.out.2.2.2.2.1 HU.out.2.2.2.2.2.1 _ _ (Ok.refl _)).mono ?_
            rintro e u6 ⟨rfl, hc⟩
            rw [HLE.out.2.1]
            have HZ6 : Hid (Six w0 g gm gn gj cM cR dM dR eM eR mM mR jM jR u6) := HZ5.out.step hc
            clear hc
            clear c0 c1 d0 d1 e0 e1 j0 j1
            obtain ⟨c0, c1⟩ := CG_facts HZ6.out.1
            obtain ⟨d0, d1⟩ := CG_facts HZ6.out.2.1
            obtain ⟨e0, e1⟩ := CG_facts HZ6.out.2.2.1
            obtain ⟨j0, j1⟩ := CG_facts HZ6.out.2.2.2.2.2.1
            go_wp2_with fail
            exact HT13.out _ _ _ _ _ _ _ _ _ _ _ _ _ _ _ _ _ _ _ _ _ _ _ _ _ _ _ _ _ _ _ _ _ _ _ _ _ _ _ _ _ _ _ _ _ _ _ _ _ _ _ _ _ _ _ HZ6.out
          · exact absurd (HLL.out.2.1 rfl rfl) (by simp)
        · cases l2
          · skip
            refine (pleq_any cM cR jM jR HU.out.1 HU.out.2.1 HJ.out.1.1 HJ.out.1.2 _ _ (Ok.refl _)).mono ?_
            rintro e u1 ⟨rfl, hc⟩
            rw [HLC.out.1]
            have HZ1 : Hid (Six w0 g gm gn gj cM cR dM dR eM eR mM mR jM jR u1) := HZ0.out.step hc
            clear hc
            clear c0 c1 d0 d1 e0 e1 j0 j1
            obtain ⟨c0, c1⟩ := CG_facts HZ1.out.1
            obtain ⟨d0, d1⟩ := CG_facts HZ1.out.2.1
            obtain ⟨e0, e1⟩ := CG_facts HZ1.out.2.2.1
            obtain ⟨j0, j1⟩ := CG_facts HZ1.out.2.2.2.2.2.1
            go_wp2_with fail
            refine (pleq_any dM dR jM jR HU.out.2.2.1 HU.out.2.2.2.1 HJ.out.1.1 HJ.out.1.2 _ _ (Ok.refl _)).mono ?_
            rintro e u2 ⟨rfl, hc⟩
            rw [HLC.out.2]
            have HZ2 : Hid (Six w0 g gm gn gj cM cR dM dR eM eR mM mR jM jR u2) := HZ1.out.step hc
            clear hc
            clear c0 c1 d0 d1 e0 e1 j0 j1
            obtain ⟨c0, c1⟩ := CG_facts HZ2.out.1
            obtain ⟨d0, d1⟩ := CG_facts HZ2.out.2.1
            obtain ⟨e0, e1⟩ := CG_facts HZ2.out.2.2.1
            obtain ⟨j0, j1⟩ := CG_facts HZ2.out.2.2.2.2.2.1
            go_wp2_with fail
            refine (pleq_any cM cR eM eR HU.out.1 HU.out.2.1 HU.out.2.2.2.2.1 HU.out.2.2.2.2.2.1 _ _ (Ok.refl _)).mono ?_
            rintro e u3 ⟨rfl, hc⟩
            rw [HLE.out.1]
            have HZ3 : Hid (Six w0 g gm gn gj cM cR dM dR eM eR mM mR jM jR u3) := HZ2.out.step hc
            clear hc
            clear c0 c1 d0 d1 e0 e1 j0 j1
            obtain ⟨c0, c1⟩ := CG_facts HZ3.out.1
            obtain ⟨d0, d1⟩ := CG_facts HZ3.out.2.1
            obtain ⟨e0, e1⟩ := CG_facts HZ3.out.2.2.1
            obtain ⟨j0, j1⟩ := CG_facts HZ3.out.2.2.2.2.2.1
            go_wp2_with fail
            refine (pleq_any dM dR eM eR HU.out.2.2.1 HU.out.2.2.2.1 HU.out.2.2.2.2.1 HU.out.2.2.2.2.2.1 _ _ (Ok.refl _)).mono ?_
            rintro e u4 ⟨rfl, hc⟩
            rw [HLE.out.2.1]
            have HZ4 : Hid (Six w0 g gm gn gj cM cR dM dR eM eR mM mR jM jR u4) := HZ3.out.step hc
            clear hc
            clear c0 c1 d0 d1 e0 e1 j0 j1
            obtain ⟨c0, c1⟩ := CG_facts HZ4.out.1
            obtain ⟨d0, d1⟩ := CG_facts HZ4.out.2.1
            obtain ⟨e0, e1⟩ := CG_facts HZ4.out.2.2.1
            obtain ⟨j0, j1⟩ := CG_facts HZ4.out.2.2.2.2.2.1
            go_wp2_with fail
            refine (pleq_any cM cR dM dR HU.out.1 HU.out.2.1 HU.out.2.2.1 HU.out.2.2.2.1 _ _ (Ok.refl _)).mono ?_
            rintro e u5 ⟨rfl, hc⟩
            rw [HLE.out.2.2]
            have HZ5 : Hid (Six w0 g gm gn gj cM cR dM dR eM eR mM mR jM jR u5) := HZ4.out.step hc
            clear hc
            clear c0 c1 d0 d1 e0 e1 j0 j1
            obtain ⟨c0, c1⟩ := CG_facts HZ5.out.1
            obtain ⟨d0, d1⟩ := CG_facts HZ5.out.2.1
            obtain ⟨e0, e1⟩ := CG_facts HZ5.out.2.2.1
            obtain ⟨j0, j1⟩ := CG_facts HZ5.out.2.2.2.2.2.1
            go_wp2_with fail
            refine (pleq_any cM cR dM dR HU.out.1 HU.out.2.1 HU.out.2.2.1 HU.out.2.2.2.1 _ _ (Ok.refl _)).mono ?_
            rintro e u6 ⟨rfl, hc⟩
            rw [HLE.out.2.2]
            have HZ6 : Hid (Six w0 g gm gn gj cM cR dM dR eM eR mM mR jM jR u6) := HZ5.out.step hc
            clear hc
            clear c0 c1 d0 d1 e0 e1 j0 j1
            obtain ⟨c0, c1⟩ := CG_facts HZ6.out.1
            obtain ⟨d0, d1⟩ := CG_facts HZ6.out.2.1
            obtain ⟨e0, e1⟩ := CG_facts HZ6.out.2.2.1
            obtain ⟨j0, j1⟩ := CG_facts HZ6.out.2.2.2.2.2.1
            go_wp2_with fail
            refine (pleq_any dM dR eM eR HU.out.2.2.1 HU.out.2.2.2.1 HU.out.2.2.2.2.1 HU.out.2.2.2.2.2.1 _ _ (Ok.refl _)).mono ?_
            rintro e u7 ⟨rfl, hc⟩
            rw [HLE.out.2.1]
            have HZ7 : Hid (Six w0 g gm gn gj cM cR dM dR eM eR mM mR jM jR u7) := HZ6.out.step hc
            clear hc
            clear c0 c1 d0 d1 e0 e1 j0 j1
            obtain ⟨c0, c1⟩ := CG_facts HZ7.out.1
            obtain ⟨d0, d1⟩ := CG_facts HZ7.out.2.1
            obtain ⟨e0, e1⟩ := CG_facts HZ7.out.2.2.1
            obtain ⟨j0, j1⟩ := CG_facts HZ7.out.2.2.2.2.2.1
            go_wp2_with fail
            exact HT13.out _ _ _ _ _ _ _ _ _ _ _ _ _ _ _ _ _ _ _ _ _ _ _ _ _ _ _ _ _ _ _ _ _ _ _ _ _ _ _ _ _ _ _ _ _ _ _ _ _ _ _ _ _ _ _ HZ7.out
          · skip
            have HJE : Hid (leqC jM jR eM eR = true) := HLL.out.1 rfl rfl
            refine (pleq_any cM cR jM jR HU.out.1 HU.out.2.1 HJ.out.1.1 HJ.out.1.2 _ _ (Ok.refl _)).mono ?_
            rintro e u1 ⟨rfl, hc⟩
            rw [HLC.out.1]
            have HZ1 : Hid (Six w0 g gm gn gj cM cR dM dR eM eR mM mR jM jR u1) := HZ0.out.step hc
            clear hc
            clear c0 c1 d0 d1 e0 e1 j0 j1
            obtain ⟨c0, c1⟩ := CG_facts HZ1.out.1
            obtain ⟨d0, d1⟩ := CG_facts HZ1.out.2.1
            obtain ⟨e0, e1⟩ := CG_facts HZ1.out.2.2.1
            obtain ⟨j0, j1⟩ := CG_facts HZ1.out.2.2.2.2.2.1
            go_wp2_with fail
            refine (pleq_any dM dR jM jR HU.out.2.2.1 HU.out.2.2.2.1 HJ.out.1.1 HJ.out.1.2 _ _ (Ok.refl _)).mono ?_
            rintro e u2 ⟨rfl, hc⟩
            rw [HLC.out.2]
            have HZ2 : Hid (Six w0 g gm gn gj cM cR dM dR eM eR mM mR jM jR u2) := HZ1.out.step hc
            clear hc
            clear c0 c1 d0 d1 e0 e1 j0 j1
            obtain ⟨c0, c1⟩ := CG_facts HZ2.out.1
            obtain ⟨d0, d1⟩ := CG_facts HZ2.out.2.1
            obtain ⟨e0, e1⟩ := CG_facts HZ2.out.2.2.1
            obtain ⟨j0, j1⟩ := CG_facts HZ2.out.2.2.2.2.2.1
            go_wp2_with fail
            refine (pleq_any cM cR eM eR HU.out.1 HU.out.2.1 HU.out.2.2.2.2.1 HU.out.2.2.2.2.2.1 _ _ (Ok.refl _)).mono ?_
            rintro e u3 ⟨rfl, hc⟩
            rw [HLE.out.1]
            have HZ3 : Hid (Six w0 g gm gn gj cM cR dM dR eM eR mM mR jM jR u3) := HZ2.out.step hc
            clear hc
            clear c0 c1 d0 d1 e0 e1 j0 j1
            obtain ⟨c0, c1⟩ := CG_facts HZ3.out.1
            obtain ⟨d0, d1⟩ := CG_facts HZ3.out.2.1
            obtain ⟨e0, e1⟩ := CG_facts HZ3.out.2.2.1
            obtain ⟨j0, j1⟩ := CG_facts HZ3.out.2.2.2.2.2.1
            go_wp2_with fail
            refine (pleq_any dM dR eM eR HU.out.2.2.1 HU.out.2.2.2.1 HU.out.2.2.2.2.1 HU.out.2.2.2.2.2.1 _ _ (Ok.refl _)).mono ?_
            rintro e u4 ⟨rfl, hc⟩
            rw [HLE.out.2.1]
            have HZ4 : Hid (Six w0 g gm gn gj cM cR dM dR eM eR mM mR jM jR u4) := HZ3.out.step hc
            clear hc
            clear c0 c1 d0 d1 e0 e1 j0 j1
            obtain ⟨c0, c1⟩ := CG_facts HZ4.out.1
            obtain ⟨d0, d1⟩ := CG_facts HZ4.out.2.1
            obtain ⟨e0, e1⟩ := CG_facts HZ4.out.2.2.1
            obtain ⟨j0, j1⟩ := CG_facts HZ4.out.2.2.2.2.2.1
            go_wp2_with fail
            refine (pleq_any jM jR eM eR HJ.out.1.1 HJ.out.1.2 HU.out.2.2.2.2.1 HU.out.2.2.2.2.2.1 _ _ (Ok.refl _)).mono ?_
            rintro e u5 ⟨rfl, hc⟩
            rw [HJE.out]
            have HZ5 : Hid (Six w0 g gm gn gj cM cR dM dR eM eR mM mR jM jR u5) := HZ4.out.step hc
            clear hc
            clear c0 c1 d0 d1 e0 e1 j0 j1
            obtain ⟨c0, c1⟩ := CG_facts HZ5.out.1
            obtain ⟨d0, d1⟩ := CG_facts HZ5.out.2.1
            obtain ⟨e0, e1⟩ := CG_facts HZ5.out.2.2.1
            obtain ⟨j0, j1⟩ := CG_facts HZ5.out.2.2.2.2.2.1
            go_wp2_with fail
            refine (pleq_any cM cR dM dR HU.out.1 HU.out.2.1 HU.out.2.2.1 HU.out.2.2.2.1 _ _ (Ok.refl _)).mono ?_
            rintro e u6 ⟨rfl, hc⟩
            rw [HLE.out.2.2]
            have HZ6 : Hid (Six w0 g gm gn gj cM cR dM dR eM eR mM mR jM jR u6) := HZ5.out.step hc
            clear hc
            clear c0 c1 d0 d1 e0 e1 j0 j1
            obtain ⟨c0, c1⟩ := CG_facts HZ6.out.1
            obtain ⟨d0, d1⟩ := CG_facts HZ6.out.2.1
            obtain ⟨e0, e1⟩ := CG_facts HZ6.out.2.2.1
            obtain ⟨j0, j1⟩ := CG_facts HZ6.out.2.2.2.2.2.1
            go_wp2_with fail
            refine (pleq_any cM cR dM dR HU.out.1 HU.out.2.1 HU.out.2.2.1 HU.out.2.2.2.1 _ _ (Ok.refl _)).mono ?_
            rintro e u7 ⟨rfl, hc⟩
            rw [HLE.out.2.2]
            have HZ7 : Hid (Six w0 g gm gn gj cM cR dM dR eM eR mM mR jM jR u7) := HZ6.out.step hc
            clear hc
            clear c0 c1 d0 d1 e0 e1 j0 j1
            obtain ⟨c0, c1⟩ := CG_facts HZ7.out.1
            obtain ⟨d0, d1⟩ := CG_facts HZ7.out.2.1
            obtain ⟨e0, e1⟩ := CG_facts HZ7.out.2.2.1
            obtain ⟨j0, j1⟩ := CG_facts HZ7.out.2.2.2.2.2.1
            go_wp2_with fail
            refine (pleq_any dM dR eM eR HU.out.2.2.1 HU.out.2.2.2.1 HU.out.2.2.2.2.1 HU.out.2.2.2.2.2.1 _ _ (Ok.refl _)).mono ?_
            rintro e u8 ⟨rfl, hc⟩
            rw [HLE.out.2.1]
            have HZ8 : Hid (Six w0 g gm gn gj cM cR dM dR eM eR mM mR jM jR u8) := HZ7.out.step hc
            clear hc
            clear c0 c1 d0 d1 e0 e1 j0 j1
            obtain ⟨c0, c1⟩ := CG_facts HZ8.out.1
            obtain ⟨d0, d1⟩ := CG_facts HZ8.out.2.1
            obtain ⟨e0, e1⟩ := CG_facts HZ8.out.2.2.1
            obtain ⟨j0, j1⟩ := CG_facts HZ8.out.2.2.2.2.2.1
            go_wp2_with fail
            refine (pleq_any cM cR eM eR HU.out.1 HU.out.2.1 HU.out.2.2.2.2.1 HU.out.2.2.2.2.2.1 _ _ (Ok.refl _)).mono ?_
            rintro e u9 ⟨rfl, hc⟩
            rw [HLE.out.1]
            have HZ9 : Hid (Six w0 g gm gn gj cM cR dM dR eM eR mM mR jM jR u9) := HZ8.out.step hc
            clear hc
            clear c0 c1 d0 d1 e0 e1 j0 j1
            obtain ⟨c0, c1⟩ := CG_facts HZ9.out.1
            obtain ⟨d0, d1⟩ := CG_facts HZ9.out.2.1
            obtain ⟨e0, e1⟩ := CG_facts HZ9.out.2.2.1
            obtain ⟨j0, j1⟩ := CG_facts HZ9.out.2.2.2.2.2.1
            go_wp2_with fail
            exact HT13.out _ _ _ _ _ _ _ _ _ _ _ _ _ _ _ _ _ _ _ _ _ _ _ _ _ _ _ _ _ _ _ _ _ _ _ _ _ _ _ _ _ _ _ _ _ _ _ _ _ _ _ _ _ _ _ HZ9.out
      · cases bs
        · exact absurd (HLL.out.2.2 rfl rfl) (by simp)
        · skip
          cases l1
          · cases l2
            · skip
              refine (pleq_any cM cR jM jR HU.out.1 HU.out.2.1 HJ.out.1.1 HJ.out.1.2 _ _ (Ok.refl _)).mono ?_
              rintro e u1 ⟨rfl, hc⟩
              rw [HLC.out.1]
              have HZ1 : Hid (Six w0 g gm gn gj cM cR dM dR eM eR mM mR jM jR u1) := HZ0.out.step hc
              clear hc
              clear c0 c1 d0 d1 e0 e1 j0 j1
              obtain ⟨c0, c1⟩ := CG_facts HZ1.out.1
              obtain ⟨d0, d1⟩ := CG_facts HZ1.out.2.1
              obtain ⟨e0, e1⟩ := CG_facts HZ1.out.2.2.1
              obtain ⟨j0, j1⟩ := CG_facts HZ1.out.2.2.2.2.2.1
              go_wp2_with fail
              refine (pleq_any dM dR jM jR HU.out.2.2.1 HU.out.2.2.2.1 HJ.out.1.1 HJ.out.1.2 _ _ (Ok.refl _)).mono ?_
              rintro e u2 ⟨rfl, hc⟩
              rw [HLC.out.2]
              have HZ2 : Hid (Six w0 g gm gn gj cM cR dM dR eM eR mM mR jM jR u2) := HZ1.out.step hc
              clear hc
              clear c0 c1 d0 d1 e0 e1 j0 j1
              obtain ⟨c0, c1⟩ := CG_facts HZ2.out.1
              obtain ⟨d0, d1⟩ := CG_facts HZ2.out.2.1
              obtain ⟨e0, e1⟩ := CG_facts HZ2.out.2.2.1
              obtain ⟨j0, j1⟩ := CG_facts HZ2.out.2.2.2.2.2.1
              go_wp2_with fail
              refine (pleq_any cM cR eM eR HU.out.1 HU.out.2.1 HU.out.2.2.2.2.1 HU.out.2.2.2.2.2.1 _ _ (Ok.refl _)).mono ?_
              rintro e u3 ⟨rfl, hc⟩
              rw [HLE.out.1]
              have HZ3 : Hid (Six w0 g gm gn gj cM cR dM dR eM eR mM mR jM jR u3) := HZ2.out.step hc
              clear hc
              clear c0 c1 d0 d1 e0 e1 j0 j1
              obtain ⟨c0, c1⟩ := CG_facts HZ3.out.1
              obtain ⟨d0, d1⟩ := CG_facts HZ3.out.2.1
              obtain ⟨e0, e1⟩ := CG_facts HZ3.out.2.2.1
              obtain ⟨j0, j1⟩ := CG_facts HZ3.out.2.2.2.2.2.1
              go_wp2_with fail
              refine (pleq_any cM cR dM dR HU.out.1 HU.out.2.1 HU.out.2.2.1 HU.out.2.2.2.1 _ _ (Ok.refl _)).mono ?_
              rintro e u4 ⟨rfl, hc⟩
              rw [HLE.out.2.2]
              have HZ4 : Hid (Six w0 g gm gn gj cM cR dM dR eM eR mM mR jM jR u4) := HZ3.out.step hc
              clear hc
              clear c0 c1 d0 d1 e0 e1 j0 j1
              obtain ⟨c0, c1⟩ := CG_facts HZ4.out.1
              obtain ⟨d0, d1⟩ := CG_facts HZ4.out.2.1
              obtain ⟨e0, e1⟩ := CG_facts HZ4.out.2.2.1
              obtain ⟨j0, j1⟩ := CG_facts HZ4.out.2.2.2.2.2.1
              go_wp2_with fail
              refine (pleq_any cM cR dM dR HU.out.1 HU.out.2.1 HU.out.2.2.1 HU.out.2.2.2.1 _ _ (Ok.refl _)).mono ?_
              rintro e u5 ⟨rfl, hc⟩
              rw [HLE.out.2.2]
              have HZ5 : Hid (Six w0 g gm gn gj cM cR dM dR eM eR mM mR jM jR u5) := HZ4.out.step hc
              clear hc
              clear c0 c1 d0 d1 e0 e1 j0 j1
              obtain ⟨c0, c1⟩ := CG_facts HZ5.out.1
              obtain ⟨d0, d1⟩ := CG_facts HZ5.out.2.1
              obtain ⟨e0, e1⟩ := CG_facts HZ5.out.2.2.1
              obtain ⟨j0, j1⟩ := CG_facts HZ5.out.2.2.2.2.2.1
              go_wp2_with fail
              refine (pleq_any dM dR eM eR HU.out.2.2.1 HU.out.2.2.2.1 HU.out.2.2.2.2.1 HU.out.2.2.2.2.2.1 _ _ (Ok.refl _)).mono ?_
              rintro e u6 ⟨rfl, hc⟩
              rw [HLE.out.2.1]
              have HZ6 : Hid (Six w0 g gm gn gj cM cR dM dR eM eR mM mR jM jR u6) := HZ5.out.step hc
              clear hc
              clear c0 c1 d0 d1 e0 e1 j0 j1
              obtain ⟨c0, c1⟩ := CG_facts HZ6.out.1
              obtain ⟨d0, d1⟩ := CG_facts HZ6.out.2.1
              obtain ⟨e0, e1⟩ := CG_facts HZ6.out.2.2.1
              obtain ⟨j0, j1⟩ := CG_facts HZ6.out.2.2.2.2.2.1
              go_wp2_with fail
              exact HT13.out _ _ _ _ _ _ _ _ _ _ _ _ _ _ _ _ _ _ _ _ _ _ _ _ _ _ _ _ _ _ _ _ _ _ _ _ _ _ _ _ _ _ _ _ _ _ _ _ _ _ _ _ _ _ _ HZ6.out
            · exact absurd (HLL.out.2.1 rfl rfl) (by simp)
          · cases l2
            · skip
              refine (pleq_any cM cR jM jR HU.out.1 HU.out.2.1 HJ.out.1.1 HJ.out.1.2 _ _ (Ok.refl _)).mono ?_
              rintro e u1 ⟨rfl, hc⟩
              rw [HLC.out.1]
              have HZ1 : Hid (Six w0 g gm gn gj cM cR dM dR eM eR mM mR jM jR u1) := HZ0.out.step hc
              clear hc
              clear c0 c1 d0 d1 e0 e1 j0 j1
              obtain ⟨c0, c1⟩ := CG_facts HZ1.out.1
              obtain ⟨d0, d1⟩ := CG_facts HZ1.out.2.1
              obtain ⟨e0, e1⟩ := CG_facts HZ1.out.2.2.1
              obtain ⟨j0, j1⟩ := CG_facts HZ1.out.2.2.2.2.2.1
              go_wp2_with fail
              refine (pleq_any dM dR jM jR HU.out.2.2.1 HU.out.2.2.2.1 HJ.out.1.1 HJ.out.1.2 _ _ (Ok.refl _)).mono ?_
              rintro e u2 ⟨rfl, hc⟩
              rw [HLC.out.2]
              have HZ2 : Hid (Six w0 g gm gn gj cM cR dM dR eM eR mM mR jM jR u2) := HZ1.out.step hc
              clear hc
              clear c0 c1 d0 d1 e0 e1 j0 j1
              obtain ⟨c0, c1⟩ := CG_facts HZ2.out.1
              obtain ⟨d0, d1⟩ := CG_facts HZ2.out.2.1
              obtain ⟨e0, e1⟩ := CG_facts HZ2.out.2.2.1
              obtain ⟨j0, j1⟩ := CG_facts HZ2.out.2.2.2.2.2.1
              go_wp2_with fail
              refine (pleq_any cM cR eM eR HU.out.1 HU.out.2.1 HU.out.2.2.2.2.1 HU.out.2.2.2.2.2.1 _ _ (Ok.refl _)).mono ?_
              rintro e u3 ⟨rfl, hc⟩
              rw [HLE.out.1]
              have HZ3 : Hid (Six w0 g gm gn gj cM cR dM dR eM eR mM mR jM jR u3) := HZ2.out.step hc
              clear hc
              clear c0 c1 d0 d1 e0 e1 j0 j1
              obtain ⟨c0, c1⟩ := CG_facts HZ3.out.1
              obtain ⟨d0, d1⟩ := CG_facts HZ3.out.2.1
              obtain ⟨e0, e1⟩ := CG_facts HZ3.out.2.2.1
              obtain ⟨j0, j1⟩ := CG_facts HZ3.out.2.2.2.2.2.1
              go_wp2_with fail
              refine (pleq_any dM dR eM eR HU.out.2.2.1 HU.out.2.2.2.1 HU.out.2.2.2.2.1 HU.out.2.2.2.2.2.1 _ _ (Ok.refl _)).mono ?_
              rintro e u4 ⟨rfl, hc⟩
              rw [HLE.out.2.1]
              have HZ4 : Hid (Six w0 g gm gn gj cM cR dM dR eM eR mM mR jM jR u4) := HZ3.out.step hc
              clear hc
              clear c0 c1 d0 d1 e0 e1 j0 j1
              obtain ⟨c0, c1⟩ := CG_facts HZ4.out.1
              obtain ⟨d0, d1⟩ := CG_facts HZ4.out.2.1
              obtain ⟨e0, e1⟩ := CG_facts HZ4.out.2.2.1
              obtain ⟨j0, j1⟩ := CG_facts HZ4.out.2.2.2.2.2.1
              go_wp2_with fail
              refine (pleq_any cM cR dM dR HU.out.1 HU.out.2.1 HU.out.2.2.1 HU.out.2.2.2.1 _ _ (Ok.refl _)).mono ?_
              rintro e u5 ⟨rfl, hc⟩
              rw [HLE.out.2.2]
              have HZ5 : Hid (Six w0 g gm gn gj cM cR dM dR eM eR mM mR jM jR u5) := HZ4.out.step hc
              clear hc
              clear c0 c1 d0 d1 e0 e1 j0 j1
              obtain ⟨c0, c1⟩ := CG_facts HZ5.out.1
              obtain ⟨d0, d1⟩ := CG_facts HZ5.out.2.1
              obtain ⟨e0, e1⟩ := CG_facts HZ5.out.2.2.1
              obtain ⟨j0, j1⟩ := CG_facts HZ5.out.2.2.2.2.2.1
              go_wp2_with fail
              refine (pleq_any cM cR dM dR HU.out.1 HU.out.2.1 HU.out.2.2.1 HU.out.2.2.2.1 _ _ (Ok.refl _)).mono ?_
              rintro e u6 ⟨rfl, hc⟩
              rw [HLE.out.2.2]
              have HZ6 : Hid (Six w0 g gm gn gj cM cR dM dR eM eR mM mR jM jR u6) := HZ5.out.step hc
              clear hc
              clear c0 c1 d0 d1 e0 e1 j0 j1
              obtain ⟨c0, c1⟩ := CG_facts HZ6.out.1
              obtain ⟨d0, d1⟩ := CG_facts HZ6.out.2.1
              obtain ⟨e0, e1⟩ := CG_facts HZ6.out.2.2.1
              obtain ⟨j0, j1⟩ := CG_facts HZ6.out.2.2.2.2.2.1
              go_wp2_with fail
              refine (pleq_any dM dR eM eR HU.out.2.2.1 HU.out.2.2.2.1 HU.out.2.2.2.2.1 HU.out.2.2.2.2.2.1 _ _ (Ok.refl _)).mono ?_
              rintro e u7 ⟨rfl, hc⟩
              rw [HLE.out.2.1]
              have HZ7 : Hid (Six w0 g gm gn gj cM cR dM dR eM eR mM mR jM jR u7) := HZ6.out.step hc
              clear hc
              clear c0 c1 d0 d1 e0 e1 j0 j1
              obtain ⟨c0, c1⟩ := CG_facts HZ7.out.1
              obtain ⟨d0, d1⟩ := CG_facts HZ7.out.2.1
              obtain ⟨e0, e1⟩ := CG_facts HZ7.out.2.2.1
              obtain ⟨j0, j1⟩ := CG_facts HZ7.out.2.2.2.2.2.1
              go_wp2_with fail
              exact HT13.out _ _ _ _ _ _ _ _ _ _ _ _ _ _ _ _ _ _ _ _ _ _ _ _ _ _ _ _ _ _ _ _ _ _ _ _ _ _ _ _ _ _ _ _ _ _ _ _ _ _ _ _ _ _ _ HZ7.out
            · skip
              have HJE : Hid (leqC jM jR eM eR = true) := HLL.out.1 rfl rfl
              refine (pleq_any cM cR jM jR HU.out.1 HU.out.2.1 HJ.out.1.1 HJ.out.1.2 _ _ (Ok.refl _)).mono ?_
              rintro e u1 ⟨rfl, hc⟩
              rw [HLC.out.1]
              have HZ1 : Hid (Six w0 g gm gn gj cM cR dM dR eM eR mM mR jM jR u1) := HZ0.out.step hc
              clear hc
              clear c0 c1 d0 d1 e0 e1 j0 j1
              obtain ⟨c0, c1⟩ := CG_facts HZ1.out.1
              obtain ⟨d0, d1⟩ := CG_facts HZ1.out.2.1
              obtain ⟨e0, e1⟩ := CG_facts HZ1.out.2.2.1
              obtain ⟨j0, j1⟩ := CG_facts HZ1.out.2.2.2.2.2.1
              go_wp2_with fail
              refine (pleq_any dM dR jM jR HU.out.2.2.1 HU.out.2.2.2.1 HJ.out.1.1 HJ.out.1.2 _ _ (Ok.refl _)).mono ?_
              rintro e u2 ⟨rfl, hc⟩
              rw [HLC.out.2]
              have HZ2 : Hid (Six w0 g gm gn gj cM cR dM dR eM eR mM mR jM jR u2) := HZ1.out.step hc
              clear hc
              clear c0 c1 d0 d1 e0 e1 j0 j1
              obtain ⟨c0, c1⟩ := CG_facts HZ2.out.1
              obtain ⟨d0, d1⟩ := CG_facts HZ2.out.2.1
              obtain ⟨e0, e1⟩ := CG_facts HZ2.out.2.2.1
              obtain ⟨j0, j1⟩ := CG_facts HZ2.out.2.2.2.2.2.1
              go_wp2_with fail
              refine (pleq_any cM cR eM eR HU.out.1 HU.out.2.1 HU.out.2.2.2.2.1 HU.out.2.2.2.2.2.1 _ _ (Ok.refl _)).mono ?_
              rintro e u3 ⟨rfl, hc⟩
              rw [HLE.out.1]
              have HZ3 : Hid (Six w0 g gm gn gj cM cR dM dR eM eR mM mR jM jR u3) := HZ2.out.step hc
              clear hc
              clear c0 c1 d0 d1 e0 e1 j0 j1
              obtain ⟨c0, c1⟩ := CG_facts HZ3.out.1
              obtain ⟨d0, d1⟩ := CG_facts HZ3.out.2.1
              obtain ⟨e0, e1⟩ := CG_facts HZ3.out.2.2.1
              obtain ⟨j0, j1⟩ := CG_facts HZ3.out.2.2.2.2.2.1
              go_wp2_with fail
              refine (pleq_any dM dR eM eR HU.out.2.2.1 HU.out.2.2.2.1 HU.out.2.2.2.2.1 HU.out.2.2.2.2.2.1 _ _ (Ok.refl _)).mono ?_
              rintro e u4 ⟨rfl, hc⟩
              rw [HLE.out.2.1]
              have HZ4 : Hid (Six w0 g gm gn gj cM cR dM dR eM eR mM mR jM jR u4) := HZ3.out.step hc
              clear hc
              clear c0 c1 d0 d1 e0 e1 j0 j1
              obtain ⟨c0, c1⟩ := CG_facts HZ4.out.1
              obtain ⟨d0, d1⟩ := CG_facts HZ4.out.2.1
              obtain ⟨e0, e1⟩ := CG_facts HZ4.out.2.2.1
              obtain ⟨j0, j1⟩ := CG_facts HZ4.out.2.2.2.2.2.1
              go_wp2_with fail
              refine (pleq_any jM jR eM eR HJ.out.1.1 HJ.out.1.2 HU.out.2.2.2.2.1 HU.out.2.2.2.2.2.1 _ _ (Ok.refl _)).mono ?_
              rintro e u5 ⟨rfl, hc⟩
              rw [HJE.out]
              have HZ5 : Hid (Six w0 g gm gn gj cM cR dM dR eM eR mM mR jM jR u5) := HZ4.out.step hc
              clear hc
              clear c0 c1 d0 d1 e0 e1 j0 j1
              obtain ⟨c0, c1⟩ := CG_facts HZ5.out.1
              obtain ⟨d0, d1⟩ := CG_facts HZ5.out.2.1
              obtain ⟨e0, e1⟩ := CG_facts HZ5.out.2.2.1
              obtain ⟨j0, j1⟩ := CG_facts HZ5.out.2.2.2.2.2.1
              go_wp2_with fail
              refine (pleq_any cM cR dM dR HU.out.1 HU.out.2.1 HU.out.2.2.1 HU.out.2.2.2.1 _ _ (Ok.refl _)).mono ?_
              rintro e u6 ⟨rfl, hc⟩
              rw [HLE.out.2.2]
              have HZ6 : Hid (Six w0 g gm gn gj cM cR dM dR eM eR mM mR jM jR u6) := HZ5.out.step hc
              clear hc
              clear c0 c1 d0 d1 e0 e1 j0 j1
              obtain ⟨c0, c1⟩ := CG_facts HZ6.out.1
              obtain ⟨d0, d1⟩ := CG_facts HZ6.out.2.1
              obtain ⟨e0, e1⟩ := CG_facts HZ6.out.2.2.1
              obtain ⟨j0, j1⟩ := CG_facts HZ6.out.2.2.2.2.2.1
              go_wp2_with fail
              refine (pleq_any cM cR dM dR HU.out.1 HU.out.2.1 HU.out.2.2.1 HU.out.2.2.2.1 _ _ (Ok.refl _)).mono ?_
              rintro e u7 ⟨rfl, hc⟩
              rw [HLE.out.2.2]
              have HZ7 : Hid (Six w0 g gm gn gj cM cR dM dR eM eR mM mR jM jR u7) := HZ6.out.step hc
              clear hc
              clear c0 c1 d0 d1 e0 e1 j0 j1
              obtain ⟨c0, c1⟩ := CG_facts HZ7.out.1
              obtain ⟨d0, d1⟩ := CG_facts HZ7.out.2.1
              obtain ⟨e0, e1⟩ := CG_facts HZ7.out.2.2.1
              obtain ⟨j0, j1⟩ := CG_facts HZ7.out.2.2.2.2.2.1
              go_wp2_with fail
              refine (pleq_any dM dR eM eR HU.out.2.2.1 HU.out.2.2.2.1 HU.out.2.2.2.2.1 HU.out.2.2.2.2.2.1 _ _ (Ok.refl _)).mono ?_
              rintro e u8 ⟨rfl, hc⟩
              rw [HLE.out.2.1]
              have HZ8 : Hid (Six w0 g gm gn gj cM cR dM dR eM eR mM mR jM jR u8) := HZ7.out.step hc
              clear hc
              clear c0 c1 d0 d1 e0 e1 j0 j1
              obtain ⟨c0, c1⟩ := CG_facts HZ8.out.1
              obtain ⟨d0, d1⟩ := CG_facts HZ8.out.2.1
              obtain ⟨e0, e1⟩ := CG_facts HZ8.out.2.2.1
              obtain ⟨j0, j1⟩ := CG_facts HZ8.out.2.2.2.2.2.1
              go_wp2_with fail
              refine (pleq_any cM cR eM eR HU.out.1 HU.out.2.1 HU.out.2.2.2.2.1 HU.out.2.2.2.2.2.1 _ _ (Ok.refl _)).mono ?_
              rintro e u9 ⟨rfl, hc⟩
              rw [HLE.out.1]
              have HZ9 : Hid (Six w0 g gm gn gj cM cR dM dR eM eR mM mR jM jR u9) := HZ8.out.step hc
              clear hc
              clear c0 c1 d0 d1 e0 e1 j0 j1
              obtain ⟨c0, c1⟩ := CG_facts HZ9.out.1
              obtain ⟨d0, d1⟩ := CG_facts HZ9.out.2.1
              obtain ⟨e0, e1⟩ := CG_facts HZ9.out.2.2.1
              obtain ⟨j0, j1⟩ := CG_facts HZ9.out.2.2.2.2.2.1
              go_wp2_with fail
              exact HT13.out _ _ _ _ _ _ _ _ _ _ _ _ _ _ _ _ _ _ _ _ _ _ _ _ _ _ _ _ _ _ _ _ _ _ _ _ _ _ _ _ _ _ _ _ _ _ _ _ _ _ _ _ _ _ _ HZ9.out
  have HT7 : Hid _ := tail7
  clear tail7 aK0
  cases ok
  · cases bi
    · cases bs
      · skip
        as_aux_lemma =>
          have HH : Hid (hasC cM cR v = false) := by
            have h := hasC_iff (M := cM) HU.out.2.1 HU.out.2.2.2.2.2.2
            rw [← HB.out.1] at h
            exact Bool.eq_false_iff.2 (fun a => by have := h.1 a; cases this)
          have HQ0 : Hid (Six w0 g gm gn gj cM cR dM dR eM eR mM mR jM jR V.drew) := HS1.out.step (Below.drew (Ok.refl _))
          obtain ⟨c0, c1⟩ := CG_facts HS1.out.1
          obtain ⟨d0, d1⟩ := CG_facts HS1.out.2.1
          obtain ⟨m0, m1⟩ := CG_facts HS1.out.2.2.2.1
          obtain ⟨n0, n1⟩ := CG_facts HS1.out.2.2.2.2.1
          obtain ⟨j0, j1⟩ := CG_facts HS1.out.2.2.2.2.2.1
          refine wp_region_held_drew (S := (fun w' => w'.cell? ⟨g, 0, none⟩ = some (.int .u64 (cM : Int)) ∧ w'.cell? ⟨g, 1, none⟩ = some (.int .u64 (cR : Int)) ∧ w'.cell? ⟨g + 1, 0, none⟩ = some (.int .u64 (dM : Int)) ∧ w'.cell? ⟨g + 1, 1, none⟩ = some (.int .u64 (dR : Int)) ∧ w'.cell? ⟨gm, 0, none⟩ = some (.int .u64 (mM : Int)) ∧ w'.cell? ⟨gm, 1, none⟩ = some (.int .u64 (mR : Int)) ∧ w'.cell? ⟨gn, 0, none⟩ = some (.int .u64 (mM : Int)) ∧ w'.cell? ⟨gn, 1, none⟩ = some (.int .u64 (mR : Int)) ∧ w'.cell? ⟨gj, 0, none⟩ = some (.int .u64 (jM : Int)) ∧ w'.cell? ⟨gj, 1, none⟩ = some (.int .u64 (jR : Int)))) (by kernel_rfl) (by (try dsimp only); go_keep) (fun hHeld => ?_)
          refine wpAnyH_take (i := 0) (v := ?_) rfl (by kernel_rfl) (by kernel_rfl) (by kernel_rfl) (fun _ _ _ h => h) (Or.inl ⟨by rfl, ?_⟩) (by assumption) ?_
          rotate_left
          · intro w h; (try dsimp only at h); first | (go_simp; done) | (go_simp; with_reducible rfl)
          try simp only [Act.put, getElem_toArray, getElem_cons_succ, getElem_cons_zero, setIfInBounds_toArray, set_cons_zero, set_cons_succ]
          refine wpAnyH_take (i := 1) (v := ?_) rfl (by kernel_rfl) (by kernel_rfl) (by kernel_rfl) (fun _ _ _ h => h) (Or.inl ⟨by rfl, ?_⟩) (by assumption) ?_
          rotate_left
          · intro w h; (try dsimp only at h); first | (go_simp; done) | (go_simp; with_reducible rfl)
          try simp only [Act.put, getElem_toArray, getElem_cons_succ, getElem_cons_zero, setIfInBounds_toArray, set_cons_zero, set_cons_succ]
          refine wpAnyH_take (i := 2) (v := ?_) rfl (by kernel_rfl) (by kernel_rfl) (by kernel_rfl) (fun _ _ _ h => h) (Or.inl ⟨by rfl, ?_⟩) (by assumption) ?_
          rotate_left
          · intro w h; (try dsimp only at h); first | (go_simp; done) | (go_simp; with_reducible rfl)
          try simp only [Act.put, getElem_toArray, getElem_cons_succ, getElem_cons_zero, setIfInBounds_toArray, set_cons_zero, set_cons_succ]
          refine wpAnyH_take (i := 3) (v := ?_) rfl (by kernel_rfl) (by kernel_rfl) (by kernel_rfl) (fun _ _ _ h => h) (Or.inl ⟨by rfl, ?_⟩) (by assumption) ?_
          rotate_left
          · intro w h; (try dsimp only at h); first | (go_simp; done) | (go_simp; with_reducible rfl)
          try simp only [Act.put, getElem_toArray, getElem_cons_succ, getElem_cons_zero, setIfInBounds_toArray, set_cons_zero, set_cons_succ]
          refine wpAnyH_take (i := 4) (v := ?_) rfl (by kernel_rfl) (by kernel_rfl) (by kernel_rfl) (fun _ _ _ h => h) (Or.inl ⟨by rfl, ?_⟩) (by assumption) ?_
          rotate_left
          · intro w h; (try dsimp only at h); first | (go_simp; done) | (go_simp; with_reducible rfl)
          try simp only [Act.put, getElem_toArray, getElem_cons_succ, getElem_cons_zero, setIfInBounds_toArray, set_cons_zero, set_cons_succ]
          refine wpAnyH_take (i := 5) (v := ?_) rfl (by kernel_rfl) (by kernel_rfl) (by kernel_rfl) (fun _ _ _ h => h) (Or.inl ⟨by rfl, ?_⟩) (by assumption) ?_
          rotate_left
          · intro w h; (try dsimp only at h); first | (go_simp; done) | (go_simp; with_reducible rfl)
          try simp only [Act.put, getElem_toArray, getElem_cons_succ, getElem_cons_zero, setIfInBounds_toArray, set_cons_zero, set_cons_succ]
          refine wpAnyH_take (i := 6) (v := ?_) rfl (by kernel_rfl) (by kernel_rfl) (by kernel_rfl) (fun _ _ _ h => h) (Or.inl ⟨by rfl, ?_⟩) (by assumption) ?_
          rotate_left
          · intro w h; (try dsimp only at h); first | (go_simp; done) | (go_simp; with_reducible rfl)
          try simp only [Act.put, getElem_toArray, getElem_cons_succ, getElem_cons_zero, setIfInBounds_toArray, set_cons_zero, set_cons_succ]
          refine wpAnyH_take (i := 7) (v := ?_) rfl (by kernel_rfl) (by kernel_rfl) (by kernel_rfl) (fun _ _ _ h => h) (Or.inl ⟨by rfl, ?_⟩) (by assumption) ?_
          rotate_left
          · intro w h; (try dsimp only at h); first | (go_simp; done) | (go_simp; with_reducible rfl)
          try simp only [Act.put, getElem_toArray, getElem_cons_succ, getElem_cons_zero, setIfInBounds_toArray, set_cons_zero, set_cons_succ]
          refine wpAnyH_take (i := 8) (v := ?_) rfl (by kernel_rfl) (by kernel_rfl) (by kernel_rfl) (fun _ _ _ h => h) (Or.inl ⟨by rfl, ?_⟩) (by assumption) ?_
          rotate_left
          · intro w h; (try dsimp only at h); first | (go_simp; done) | (go_simp; with_reducible rfl)
          try simp only [Act.put, getElem_toArray, getElem_cons_succ, getElem_cons_zero, setIfInBounds_toArray, set_cons_zero, set_cons_succ]
          refine wpAnyH_take (i := 9) (v := ?_) rfl (by kernel_rfl) (by kernel_rfl) (by kernel_rfl) (fun _ _ _ h => h) (Or.inl ⟨by rfl, ?_⟩) (by assumption) ?_
          rotate_left
          · intro w h; (try dsimp only at h); first | (go_simp; done) | (go_simp; with_reducible rfl)
          try simp only [Act.put, getElem_toArray, getElem_cons_succ, getElem_cons_zero, setIfInBounds_toArray, set_cons_zero, set_cons_succ]
          refine wpAnyH_take (i := 10) (v := ?_) rfl (by kernel_rfl) (by kernel_rfl) (by kernel_rfl) (fun _ _ _ h => h) (Or.inl ⟨by rfl, ?_⟩) (by assumption) ?_
          rotate_left
          · intro w h; (try dsimp only at h); first | (go_simp; done) | (go_simp; with_reducible rfl)
          try simp only [Act.put, getElem_toArray, getElem_cons_succ, getElem_cons_zero, setIfInBounds_toArray, set_cons_zero, set_cons_succ]
          refine wpAnyH_take (i := 11) (v := ?_) rfl (by kernel_rfl) (by kernel_rfl) (by kernel_rfl) (fun _ _ _ h => h) (Or.inl ⟨by rfl, ?_⟩) (by assumption) ?_
          rotate_left
          · intro w h; (try dsimp only at h); first | (go_simp; done) | (go_simp; with_reducible rfl)
          try simp only [Act.put, getElem_toArray, getElem_cons_succ, getElem_cons_zero, setIfInBounds_toArray, set_cons_zero, set_cons_succ]
          refine wpAnyH_ready (rs := [12]) (by kernel_rfl) (by simp) ?_
          refine AllReadyH.cons rfl (fun K hK => ?_) AllReadyH.nil
          go_simp
          refine (pjoin_any dM dR cM cR HU.out.2.2.1 HU.out.2.2.2.1 HU.out.1 HU.out.2.1 _ _ (Ok.refl _)).mono ?_
          rintro e u1 ⟨rfl, hc⟩
          rw [HC2.out]
          unfold cv
          have HQ1 : Hid (Six w0 g gm gn gj cM cR dM dR eM eR mM mR jM jR u1) := HQ0.out.step hc
          clear hc
          clear c0 c1 d0 d1 m0 m1 n0 n1 j0 j1
          obtain ⟨c0, c1⟩ := CG_facts HQ1.out.1
          obtain ⟨d0, d1⟩ := CG_facts HQ1.out.2.1
          obtain ⟨m0, m1⟩ := CG_facts HQ1.out.2.2.2.1
          obtain ⟨n0, n1⟩ := CG_facts HQ1.out.2.2.2.2.1
          obtain ⟨j0, j1⟩ := CG_facts HQ1.out.2.2.2.2.2.1
          go_wp2_with fail
          refine hK.out _ _ (by (try dsimp only); go_keep) (fun hHeld => ?_)
          clear hK K
          try simp only [Act.put, getElem_toArray, getElem_cons_succ, getElem_cons_zero, setIfInBounds_toArray, set_cons_zero, set_cons_succ]
          refine wpAnyH_take (i := 13) (v := ?_) rfl (by kernel_rfl) (by kernel_rfl) (by kernel_rfl) (fun _ _ _ h => h) (Or.inl ⟨by rfl, ?_⟩) (by assumption) ?_
          rotate_left
          · intro w h; (try dsimp only at h); first | (go_simp; done) | (go_simp; with_reducible rfl)
          try simp only [Act.put, getElem_toArray, getElem_cons_succ, getElem_cons_zero, setIfInBounds_toArray, set_cons_zero, set_cons_succ]
          refine wpAnyH_take (i := 14) (v := ?_) rfl (by kernel_rfl) (by kernel_rfl) (by kernel_rfl) (fun _ _ _ h => h) (Or.inl ⟨by rfl, ?_⟩) (by assumption) ?_
          rotate_left
          · intro w h; (try dsimp only at h); first | (go_simp; done) | (go_simp; with_reducible rfl)
          try simp only [Act.put, getElem_toArray, getElem_cons_succ, getElem_cons_zero, setIfInBounds_toArray, set_cons_zero, set_cons_succ]
          refine wpAnyH_take (i := 15) (v := ?_) rfl (by kernel_rfl) (by kernel_rfl) (by kernel_rfl) (fun _ _ _ h => h) (Or.inl ⟨by rfl, ?_⟩) (by assumption) ?_
          rotate_left
          · intro w h; (try dsimp only at h); first | (go_simp; done) | (go_simp; with_reducible rfl)
          try simp only [Act.put, getElem_toArray, getElem_cons_succ, getElem_cons_zero, setIfInBounds_toArray, set_cons_zero, set_cons_succ]
          refine wpAnyH_take (i := 16) (v := ?_) rfl (by kernel_rfl) (by kernel_rfl) (by kernel_rfl) (fun _ _ _ h => h) (Or.inl ⟨by rfl, ?_⟩) (by assumption) ?_
          rotate_left
          · intro w h; (try dsimp only at h); first | (go_simp; done) | (go_simp; with_reducible rfl)
          try simp only [Act.put, getElem_toArray, getElem_cons_succ, getElem_cons_zero, setIfInBounds_toArray, set_cons_zero, set_cons_succ]
          refine wpAnyH_take (i := 17) (v := ?_) rfl (by kernel_rfl) (by kernel_rfl) (by kernel_rfl) (fun _ _ _ h => h) (Or.inl ⟨by rfl, ?_⟩) (by assumption) ?_
          rotate_left
          · intro w h; (try dsimp only at h); first | (go_simp; done) | (go_simp; with_reducible rfl)
          try simp only [Act.put, getElem_toArray, getElem_cons_succ, getElem_cons_zero, setIfInBounds_toArray, set_cons_zero, set_cons_succ]
          refine wpAnyH_take (i := 19) (v := ?_) rfl (by kernel_rfl) (by kernel_rfl) (by kernel_rfl) (fun _ _ _ h => h) (Or.inl ⟨by rfl, ?_⟩) (by assumption) ?_
          rotate_left
          · intro w h; (try dsimp only at h); first | (go_simp; done) | (go_simp; with_reducible rfl)
          try simp only [Act.put, getElem_toArray, getElem_cons_succ, getElem_cons_zero, setIfInBounds_toArray, set_cons_zero, set_cons_succ]
          refine wpAnyH_ready (rs := [18]) (by kernel_rfl) (by simp) ?_
          refine AllReadyH.cons rfl (fun K hK => ?_) AllReadyH.nil
          go_simp
          refine (phas_any cM cR v HU.out.1 HU.out.2.1 _ _ (Ok.refl _)).mono ?_
          rintro e u2 ⟨rfl, hc⟩
          rw [HH.out]
          have HQ2 : Hid (Six w0 g gm gn gj cM cR dM dR eM eR mM mR jM jR u2) := HQ1.out.step hc
          clear hc
          clear c0 c1 d0 d1 m0 m1 n0 n1 j0 j1
          obtain ⟨c0, c1⟩ := CG_facts HQ2.out.1
          obtain ⟨d0, d1⟩ := CG_facts HQ2.out.2.1
          obtain ⟨m0, m1⟩ := CG_facts HQ2.out.2.2.2.1
          obtain ⟨n0, n1⟩ := CG_facts HQ2.out.2.2.2.2.1
          obtain ⟨j0, j1⟩ := CG_facts HQ2.out.2.2.2.2.2.1
          go_wp2_with fail
          refine hK.out _ _ (by (try dsimp only); go_keep) (fun hHeld => ?_)
          clear hK K
          try simp only [Act.put, getElem_toArray, getElem_cons_succ, getElem_cons_zero, setIfInBounds_toArray, set_cons_zero, set_cons_succ]
          refine wpAnyH_take (i := 20) (v := ?_) rfl (by kernel_rfl) (by kernel_rfl) (by kernel_rfl) (fun _ _ _ h => h) (Or.inl ⟨by rfl, ?_⟩) (by assumption) ?_
          rotate_left
          · intro w h; (try dsimp only at h); first | (go_simp; done) | (go_simp; with_reducible rfl)
          try simp only [Act.put, getElem_toArray, getElem_cons_succ, getElem_cons_zero, setIfInBounds_toArray, set_cons_zero, set_cons_succ]
          refine wpAnyH_take (i := 21) (v := ?_) rfl (by kernel_rfl) (by kernel_rfl) (by kernel_rfl) (fun _ _ _ h => h) (Or.inl ⟨by rfl, ?_⟩) (by assumption) ?_
          rotate_left
          · intro w h; (try dsimp only at h); first | (go_simp; done) | (go_simp; with_reducible rfl)
          try simp only [Act.put, getElem_toArray, getElem_cons_succ, getElem_cons_zero, setIfInBounds_toArray, set_cons_zero, set_cons_succ]
          refine wpAnyH_take (i := 22) (v := ?_) rfl (by kernel_rfl) (by kernel_rfl) (by kernel_rfl) (fun _ _ _ h => h) (Or.inl ⟨by rfl, ?_⟩) (by assumption) ?_
          rotate_left
          · intro w h; (try dsimp only at h); first | (go_simp; done) | (go_simp; with_reducible rfl)
          try simp only [Act.put, getElem_toArray, getElem_cons_succ, getElem_cons_zero, setIfInBounds_toArray, set_cons_zero, set_cons_succ]
          refine wpAnyH_take (i := 23) (v := ?_) rfl (by kernel_rfl) (by kernel_rfl) (by kernel_rfl) (fun _ _ _ h => h) (Or.inl ⟨by rfl, ?_⟩) (by assumption) ?_
          rotate_left
          · intro w h; (try dsimp only at h); first | (go_simp; done) | (go_simp; with_reducible rfl)
          try simp only [Act.put, getElem_toArray, getElem_cons_succ, getElem_cons_zero, setIfInBounds_toArray, set_cons_zero, set_cons_succ]
          refine wpAnyH_take (i := 24) (v := ?_) rfl (by kernel_rfl) (by kernel_rfl) (by kernel_rfl) (fun _ _ _ h => h) (Or.inl ⟨by rfl, ?_⟩) (by assumption) ?_
          rotate_left
          · intro w h; (try dsimp only at h); first | (go_simp; done) | (go_simp; with_reducible rfl)
          try simp only [Act.put, getElem_toArray, getElem_cons_succ, getElem_cons_zero, setIfInBounds_toArray, set_cons_zero, set_cons_succ]
          refine wpAnyH_take (i := 25) (v := undef) rfl (by kernel_rfl) (by kernel_rfl) (by kernel_rfl) (fun _ _ _ h => h) (Or.inr ⟨by rfl, rfl⟩) (by assumption) ?_
          try simp only [Act.put, getElem_toArray, getElem_cons_succ, getElem_cons_zero, setIfInBounds_toArray, set_cons_zero, set_cons_succ]
          refine wpAnyH_take (i := 26) (v := undef) rfl (by kernel_rfl) (by kernel_rfl) (by kernel_rfl) (fun _ _ _ h => h) (Or.inr ⟨by rfl, rfl⟩) (by assumption) ?_
          try simp only [Act.put, getElem_toArray, getElem_cons_succ, getElem_cons_zero, setIfInBounds_toArray, set_cons_zero, set_cons_succ]
          refine wpAnyH_take (i := 27) (v := undef) rfl (by kernel_rfl) (by kernel_rfl) (by kernel_rfl) (fun _ _ _ h => h) (Or.inr ⟨by rfl, rfl⟩) (by assumption) ?_
          try simp only [Act.put, getElem_toArray, getElem_cons_succ, getElem_cons_zero, setIfInBounds_toArray, set_cons_zero, set_cons_succ]
          refine wpAnyH_take (i := 28) (v := ?_) rfl (by kernel_rfl) (by kernel_rfl) (by kernel_rfl) (fun _ _ _ h => h) (Or.inl ⟨by rfl, ?_⟩) (by assumption) ?_
          rotate_left
          · intro w h; (try dsimp only at h); first | (go_simp; done) | (go_simp; with_reducible rfl)
          try simp only [Act.put, getElem_toArray, getElem_cons_succ, getElem_cons_zero, setIfInBounds_toArray, set_cons_zero, set_cons_succ]
          refine wpAnyH_take (i := 29) (v := ?_) rfl (by kernel_rfl) (by kernel_rfl) (by kernel_rfl) (fun _ _ _ h => h) (Or.inl ⟨by rfl, ?_⟩) (by assumption) ?_
          rotate_left
          · intro w h; (try dsimp only at h); first | (go_simp; done) | (go_simp; with_reducible rfl)
          try simp only [Act.put, getElem_toArray, getElem_cons_succ, getElem_cons_zero, setIfInBounds_toArray, set_cons_zero, set_cons_succ]
          refine wpAnyH_take (i := 30) (v := ?_) rfl (by kernel_rfl) (by kernel_rfl) (by kernel_rfl) (fun _ _ _ h => h) (Or.inl ⟨by rfl, ?_⟩) (by assumption) ?_
          rotate_left
          · intro w h; (try dsimp only at h); first | (go_simp; done) | (go_simp; with_reducible rfl)
          try simp only [Act.put, getElem_toArray, getElem_cons_succ, getElem_cons_zero, setIfInBounds_toArray, set_cons_zero, set_cons_succ]
          refine wpAnyH_take (i := 31) (v := undef) rfl (by kernel_rfl) (by kernel_rfl) (by kernel_rfl) (fun _ _ _ h => h) (Or.inr ⟨by rfl, rfl⟩) (by assumption) ?_
          try simp only [Act.put, getElem_toArray, getElem_cons_succ, getElem_cons_zero, setIfInBounds_toArray, set_cons_zero, set_cons_succ]
          refine wpAnyH_take (i := 32) (v := ?_) rfl (by kernel_rfl) (by kernel_rfl) (by kernel_rfl) (fun _ _ _ h => h) (Or.inl ⟨by rfl, ?_⟩) (by assumption) ?_
          rotate_left
          · intro w h; (try dsimp only at h); first | (go_simp; done) | (go_simp; with_reducible rfl)
          try simp only [Act.put, getElem_toArray, getElem_cons_succ, getElem_cons_zero, setIfInBounds_toArray, set_cons_zero, set_cons_succ]
          refine wpAnyH_take (i := 33) (v := ?_) rfl (by kernel_rfl) (by kernel_rfl) (by kernel_rfl) (fun _ _ _ h => h) (Or.inl ⟨by rfl, ?_⟩) (by assumption) ?_
          rotate_left
          · intro w h; (try dsimp only at h); first | (go_simp; done) | (go_simp; with_reducible rfl)
          try simp only [Act.put, getElem_toArray, getElem_cons_succ, getElem_cons_zero, setIfInBounds_toArray, set_cons_zero, set_cons_succ]
          refine wpAnyH_take (i := 34) (v := ?_) rfl (by kernel_rfl) (by kernel_rfl) (by kernel_rfl) (fun _ _ _ h => h) (Or.inl ⟨by rfl, ?_⟩) (by assumption) ?_
          rotate_left
          · intro w h; (try dsimp only at h); first | (go_simp; done) | (go_simp; with_reducible rfl)
          try simp only [Act.put, getElem_toArray, getElem_cons_succ, getElem_cons_zero, setIfInBounds_toArray, set_cons_zero, set_cons_succ]
          refine wpAnyH_take (i := 35) (v := ?_) rfl (by kernel_rfl) (by kernel_rfl) (by kernel_rfl) (fun _ _ _ h => h) (Or.inl ⟨by rfl, ?_⟩) (by assumption) ?_
          rotate_left
          · intro w h; (try dsimp only at h); first | (go_simp; done) | (go_simp; with_reducible rfl)
          try simp only [Act.put, getElem_toArray, getElem_cons_succ, getElem_cons_zero, setIfInBounds_toArray, set_cons_zero, set_cons_succ]
          refine wpAnyH_take (i := 36) (v := ?_) rfl (by kernel_rfl) (by kernel_rfl) (by kernel_rfl) (fun _ _ _ h => h) (Or.inl ⟨by rfl, ?_⟩) (by assumption) ?_
          rotate_left
          · intro w h; (try dsimp only at h); first | (go_simp; done) | (go_simp; with_reducible rfl)
          try simp only [Act.put, getElem_toArray, getElem_cons_succ, getElem_cons_zero, setIfInBounds_toArray, set_cons_zero, set_cons_succ]
          refine wpAnyH_take (i := 37) (v := ?_) rfl (by kernel_rfl) (by kernel_rfl) (by kernel_rfl) (fun _ _ _ h => h) (Or.inl ⟨by rfl, ?_⟩) (by assumption) ?_
          rotate_left
          · intro w h; (try dsimp only at h); first | (go_simp; done) | (go_simp; with_reducible rfl)
          try simp only [Act.put, getElem_toArray, getElem_cons_succ, getElem_cons_zero, setIfInBounds_toArray, set_cons_zero, set_cons_succ]
          refine wpAnyH_take (i := 38) (v := ?_) rfl (by kernel_rfl) (by kernel_rfl) (by kernel_rfl) (fun _ _ _ h => h) (Or.inl ⟨by rfl, ?_⟩) (by assumption) ?_
          rotate_left
          · intro w h; (try dsimp only at h); first | (go_simp; done) | (go_simp; with_reducible rfl)
          try simp only [Act.put, getElem_toArray, getElem_cons_succ, getElem_cons_zero, setIfInBounds_toArray, set_cons_zero, set_cons_succ]
          refine wpAnyH_take (i := 39) (v := ?_) rfl (by kernel_rfl) (by kernel_rfl) (by kernel_rfl) (fun _ _ _ h => h) (Or.inl ⟨by rfl, ?_⟩) (by assumption) ?_
          rotate_left
          · intro w h; (try dsimp only at h); first | (go_simp; done) | (go_simp; with_reducible rfl)
          try simp only [Act.put, getElem_toArray, getElem_cons_succ, getElem_cons_zero, setIfInBounds_toArray, set_cons_zero, set_cons_succ]
          refine wpAnyH_take (i := 40) (v := ?_) rfl (by kernel_rfl) (by kernel_rfl) (by kernel_rfl) (fun _ _ _ h => h) (Or.inl ⟨by rfl, ?_⟩) (by assumption) ?_
          rotate_left
          · intro w h; (try dsimp only at h); first | (go_simp; done) | (go_simp; with_reducible rfl)
          try simp only [Act.put, getElem_toArray, getElem_cons_succ, getElem_cons_zero, setIfInBounds_toArray, set_cons_zero, set_cons_succ]
          refine wpAnyH_take (i := 41) (v := undef) rfl (by kernel_rfl) (by kernel_rfl) (by kernel_rfl) (fun _ _ _ h => h) (Or.inr ⟨by rfl, rfl⟩) (by assumption) ?_
          try simp only [Act.put, getElem_toArray, getElem_cons_succ, getElem_cons_zero, setIfInBounds_toArray, set_cons_zero, set_cons_succ]
          refine wpAnyH_take (i := 42) (v := undef) rfl (by kernel_rfl) (by kernel_rfl) (by kernel_rfl) (fun _ _ _ h => h) (Or.inr ⟨by rfl, rfl⟩) (by assumption) ?_
          try simp only [Act.put, getElem_toArray, getElem_cons_succ, getElem_cons_zero, setIfInBounds_toArray, set_cons_zero, set_cons_succ]
          refine wpAnyH_take (i := 43) (v := undef) rfl (by kernel_rfl) (by kernel_rfl) (by kernel_rfl) (fun _ _ _ h => h) (Or.inr ⟨by rfl, rfl⟩) (by assumption) ?_
          try simp only [Act.put, getElem_toArray, getElem_cons_succ, getElem_cons_zero, setIfInBounds_toArray, set_cons_zero, set_cons_succ]
          refine wpAnyH_take (i := 44) (v := undef) rfl (by kernel_rfl) (by kernel_rfl) (by kernel_rfl) (fun _ _ _ h => h) (Or.inr ⟨by rfl, rfl⟩) (by assumption) ?_
          try simp only [Act.put, getElem_toArray, getElem_cons_succ, getElem_cons_zero, setIfInBounds_toArray, set_cons_zero, set_cons_succ]
          refine wpAnyH_take (i := 45) (v := ?_) rfl (by kernel_rfl) (by kernel_rfl) (by kernel_rfl) (fun _ _ _ h => h) (Or.inl ⟨by rfl, ?_⟩) (by assumption) ?_
          rotate_left
          · intro w h; (try dsimp only at h); first | (go_simp; done) | (go_simp; with_reducible rfl)
          try simp only [Act.put, getElem_toArray, getElem_cons_succ, getElem_cons_zero, setIfInBounds_toArray, set_cons_zero, set_cons_succ]
          refine wpAnyH_take (i := 46) (v := ?_) rfl (by kernel_rfl) (by kernel_rfl) (by kernel_rfl) (fun _ _ _ h => h) (Or.inl ⟨by rfl, ?_⟩) (by assumption) ?_
          rotate_left
          · intro w h; (try dsimp only at h); first | (go_simp; done) | (go_simp; with_reducible rfl)
          try simp only [Act.put, getElem_toArray, getElem_cons_succ, getElem_cons_zero, setIfInBounds_toArray, set_cons_zero, set_cons_succ]
          refine wpAnyH_done (by kernel_rfl) ?_ _
          go_wp2_with fail
          exact HT7.out _ _ _ _ _ _ _ _ _ _ _ _ _ _ _ _ _ _ _ _ _ _ _ _ _ _ _ _ _ _ _ _ _ _ _ _ _ _ _ _ _ _ _ _ _ _ _ _ HQ2.out
      · skip
        as_aux_lemma =>
          have HH : Hid (hasC cM cR v = false) := by
            have h := hasC_iff (M := cM) HU.out.2.1 HU.out.2.2.2.2.2.2
            rw [← HB.out.1] at h
            exact Bool.eq_false_iff.2 (fun a => by have := h.1 a; cases this)
          have HIJ : Hid (MemC jM jR v) := HJ.out.2.2.2.1 v (HB.out.2.1 rfl)
          have HQ0 : Hid (Six w0 g gm gn gj cM cR dM dR eM eR mM mR jM jR V.drew) := HS1.out.step (Below.drew (Ok.refl _))
          obtain ⟨c0, c1⟩ := CG_facts HS1.out.1
          obtain ⟨d0, d1⟩ := CG_facts HS1.out.2.1
          obtain ⟨m0, m1⟩ := CG_facts HS1.out.2.2.2.1
          obtain ⟨n0, n1⟩ := CG_facts HS1.out.2.2.2.2.1
          obtain ⟨j0, j1⟩ := CG_facts HS1.out.2.2.2.2.2.1
          refine wp_region_held_drew (S := (fun w' => w'.cell? ⟨g, 0, none⟩ = some (.int .u64 (cM : Int)) ∧ w'.cell? ⟨g, 1, none⟩ = some (.int .u64 (cR : Int)) ∧ w'.cell? ⟨g + 1, 0, none⟩ = some (.int .u64 (dM : Int)) ∧ w'.cell? ⟨g + 1, 1, none⟩ = some (.int .u64 (dR : Int)) ∧ w'.cell? ⟨gm, 0, none⟩ = some (.int .u64 (mM : Int)) ∧ w'.cell? ⟨gm, 1, none⟩ = some (.int .u64 (mR : Int)) ∧ w'.cell? ⟨gn, 0, none⟩ = some (.int .u64 (mM : Int)) ∧ w'.cell? ⟨gn, 1, none⟩ = some (.int .u64 (mR : Int)) ∧ w'.cell? ⟨gj, 0, none⟩ = some (.int .u64 (jM : Int)) ∧ w'.cell? ⟨gj, 1, none⟩ = some (.int .u64 (jR : Int)))) (by kernel_rfl) (by (try dsimp only); go_keep) (fun hHeld => ?_)
          refine wpAnyH_take (i := 0) (v := ?_) rfl (by kernel_rfl) (by kernel_rfl) (by kernel_rfl) (fun _ _ _ h => h) (Or.inl ⟨by rfl, ?_⟩) (by assumption) ?_
          rotate_left
          · intro w h; (try dsimp only at h); first | (go_simp; done) | (go_simp; with_reducible rfl)
          try simp only [Act.put, getElem_toArray, getElem_cons_succ, getElem_cons_zero, setIfInBounds_toArray, set_cons_zero, set_cons_succ]
          refine wpAnyH_take (i := 1) (v := ?_) rfl (by kernel_rfl) (by kernel_rfl) (by kernel_rfl) (fun _ _ _ h => h) (Or.inl ⟨by rfl, ?_⟩) (by assumption) ?_
          rotate_left
          · intro w h; (try dsimp only at h); first | (go_simp; done) | (go_simp; with_reducible rfl)
          try simp only [Act.put, getElem_toArray, getElem_cons_succ, getElem_cons_zero, setIfInBounds_toArray, set_cons_zero, set_cons_succ]
          refine wpAnyH_take (i := 2) (v := ?_) rfl (by kernel_rfl) (by kernel_rfl) (by kernel_rfl) (fun _ _ _ h => h) (Or.inl ⟨by rfl, ?_⟩) (by assumption) ?_
          rotate_left
          · intro w h; (try dsimp only at h); first | (go_simp; done) | (go_simp; with_reducible rfl)
          try simp only [Act.put, getElem_toArray, getElem_cons_succ, getElem_cons_zero, setIfInBounds_toArray, set_cons_zero, set_cons_succ]
          refine wpAnyH_take (i := 3) (v := ?_) rfl (by kernel_rfl) (by kernel_rfl) (by kernel_rfl) (fun _ _ _ h => h) (Or.inl ⟨by rfl, ?_⟩) (by assumption) ?_
          rotate_left
          · intro w h; (try dsimp only at h); first | (go_simp; done) | (go_simp; with_reducible rfl)
          try simp only [Act.put, getElem_toArray, getElem_cons_succ, getElem_cons_zero, setIfInBounds_toArray, set_cons_zero, set_cons_succ]
          refine wpAnyH_take (i := 4) (v := ?_) rfl (by kernel_rfl) (by kernel_rfl) (by kernel_rfl) (fun _ _ _ h => h) (Or.inl ⟨by rfl, ?_⟩) (by assumption) ?_
          rotate_left
          · intro w h; (try dsimp only at h); first | (go_simp; done) | (go_simp; with_reducible rfl)
          try simp only [Act.put, getElem_toArray, getElem_cons_succ, getElem_cons_zero, setIfInBounds_toArray, set_cons_zero, set_cons_succ]
          refine wpAnyH_take (i := 5) (v := ?_) rfl (by kernel_rfl) (by kernel_rfl) (by kernel_rfl) (fun _ _ _ h => h) (Or.inl ⟨by rfl, ?_⟩) (by assumption) ?_
          rotate_left
          · intro w h; (try dsimp only at h); first | (go_simp; done) | (go_simp; with_reducible rfl)
          try simp only [Act.put, getElem_toArray, getElem_cons_succ, getElem_cons_zero, setIfInBounds_toArray, set_cons_zero, set_cons_succ]
          refine wpAnyH_take (i := 6) (v := ?_) rfl (by kernel_rfl) (by kernel_rfl) (by kernel_rfl) (fun _ _ _ h => h) (Or.inl ⟨by rfl, ?_⟩) (by assumption) ?_
          rotate_left
          · intro w h; (try dsimp only at h); first | (go_simp; done) | (go_simp; with_reducible rfl)
          try simp only [Act.put, getElem_toArray, getElem_cons_succ, getElem_cons_zero, setIfInBounds_toArray, set_cons_zero, set_cons_succ]
          refine wpAnyH_take (i := 7) (v := ?_) rfl (by kernel_rfl) (by kernel_rfl) (by kernel_rfl) (fun _ _ _ h => h) (Or.inl ⟨by rfl, ?_⟩) (by assumption) ?_
          rotate_left
          · intro w h; (try dsimp only at h); first | (go_simp; done) | (go_simp; with_reducible rfl)
          try simp only [Act.put, getElem_toArray, getElem_cons_succ, getElem_cons_zero, setIfInBounds_toArray, set_cons_zero, set_cons_succ]
          refine wpAnyH_take (i := 8) (v := ?_) rfl (by kernel_rfl) (by kernel_rfl) (by kernel_rfl) (fun _ _ _ h => h) (Or.inl ⟨by rfl, ?_⟩) (by assumption) ?_
          rotate_left
          · intro w h; (try dsimp only at h); first | (go_simp; done) | (go_simp; with_reducible rfl)
          try simp only [Act.put, getElem_toArray, getElem_cons_succ, getElem_cons_zero, setIfInBounds_toArray, set_cons_zero, set_cons_succ]
          refine wpAnyH_take (i := 9) (v := ?_) rfl (by kernel_rfl) (by kernel_rfl) (by kernel_rfl) (fun _ _ _ h => h) (Or.inl ⟨by rfl, ?_⟩) (by assumption) ?_
          rotate_left
          · intro w h; (try dsimp only at h); first | (go_simp; done) | (go_simp; with_reducible rfl)
          try simp only [Act.put, getElem_toArray, getElem_cons_succ, getElem_cons_zero, setIfInBounds_toArray, set_cons_zero, set_cons_succ]
          refine wpAnyH_take (i := 10) (v := ?_) rfl (by kernel_rfl) (by kernel_rfl) (by kernel_rfl) (fun _ _ _ h => h) (Or.inl ⟨by rfl, ?_⟩) (by assumption) ?_
          rotate_left
          · intro w h; (try dsimp only at h); first | (go_simp; done) | (go_simp; with_reducible rfl)
          try simp only [Act.put, getElem_toArray, getElem_cons_succ, getElem_cons_zero, setIfInBounds_toArray, set_cons_zero, set_cons_succ]
          refine wpAnyH_take (i := 11) (v := ?_) rfl (by kernel_rfl) (by kernel_rfl) (by kernel_rfl) (fun _ _ _ h => h) (Or.inl ⟨by rfl, ?_⟩) (by assumption) ?_
          rotate_left
          · intro w h; (try dsimp only at h); first | (go_simp; done) | (go_simp; with_reducible rfl)
          try simp only [Act.put, getElem_toArray, getElem_cons_succ, getElem_cons_zero, setIfInBounds_toArray, set_cons_zero, set_cons_succ]
          refine wpAnyH_ready (rs := [12]) (by kernel_rfl) (by simp) ?_
          refine AllReadyH.cons rfl (fun K hK => ?_) AllReadyH.nil
          go_simp
          refine (pjoin_any dM dR cM cR HU.out.2.2.1 HU.out.2.2.2.1 HU.out.1 HU.out.2.1 _ _ (Ok.refl _)).mono ?_
          rintro e u1 ⟨rfl, hc⟩
          rw [HC2.out]
          unfold cv
          have HQ1 : Hid (Six w0 g gm gn gj cM cR dM dR eM eR mM mR jM jR u1) := HQ0.out.step hc
          clear hc
          clear c0 c1 d0 d1 m0 m1 n0 n1 j0 j1
          obtain ⟨c0, c1⟩ := CG_facts HQ1.out.1
          obtain ⟨d0, d1⟩ := CG_facts HQ1.out.2.1
          obtain ⟨m0, m1⟩ := CG_facts HQ1.out.2.2.2.1
          obtain ⟨n0, n1⟩ := CG_facts HQ1.out.2.2.2.2.1
          obtain ⟨j0, j1⟩ := CG_facts HQ1.out.2.2.2.2.2.1
          go_wp2_with fail
          refine hK.out _ _ (by (try dsimp only); go_keep) (fun hHeld => ?_)
          clear hK K
          try simp only [Act.put, getElem_toArray, getElem_cons_succ, getElem_cons_zero, setIfInBounds_toArray, set_cons_zero, set_cons_succ]
          refine wpAnyH_take (i := 13) (v := ?_) rfl (by kernel_rfl) (by kernel_rfl) (by kernel_rfl) (fun _ _ _ h => h) (Or.inl ⟨by rfl, ?_⟩) (by assumption) ?_
          rotate_left
          · intro w h; (try dsimp only at h); first | (go_simp; done) | (go_simp; with_reducible rfl)
          try simp only [Act.put, getElem_toArray, getElem_cons_succ, getElem_cons_zero, setIfInBounds_toArray, set_cons_zero, set_cons_succ]
          refine wpAnyH_take (i := 14) (v := ?_) rfl (by kernel_rfl) (by kernel_rfl) (by kernel_rfl) (fun _ _ _ h => h) (Or.inl ⟨by rfl, ?_⟩) (by assumption) ?_
          rotate_left
          · intro w h; (try dsimp only at h); first | (go_simp; done) | (go_simp; with_reducible rfl)
          try simp only [Act.put, getElem_toArray, getElem_cons_succ, getElem_cons_zero, setIfInBounds_toArray, set_cons_zero, set_cons_succ]
          refine wpAnyH_take (i := 15) (v := ?_) rfl (by kernel_rfl) (by kernel_rfl) (by kernel_rfl) (fun _ _ _ h => h) (Or.inl ⟨by rfl, ?_⟩) (by assumption) ?_
          rotate_left
          · intro w h; (try dsimp only at h); first | (go_simp; done) | (go_simp; with_reducible rfl)
          try simp only [Act.put, getElem_toArray, getElem_cons_succ, getElem_cons_zero, setIfInBounds_toArray, set_cons_zero, set_cons_succ]
          refine wpAnyH_take (i := 16) (v := ?_) rfl (by kernel_rfl) (by kernel_rfl) (by kernel_rfl) (fun _ _ _ h => h) (Or.inl ⟨by rfl, ?_⟩) (by assumption) ?_
          rotate_left
          · intro w h; (try dsimp only at h); first | (go_simp; done) | (go_simp; with_reducible rfl)
          try simp only [Act.put, getElem_toArray, getElem_cons_succ, getElem_cons_zero, setIfInBounds_toArray, set_cons_zero, set_cons_succ]
          refine wpAnyH_take (i := 17) (v := ?_) rfl (by kernel_rfl) (by kernel_rfl) (by kernel_rfl) (fun _ _ _ h => h) (Or.inl ⟨by rfl, ?_⟩) (by assumption) ?_
          rotate_left
          · intro w h; (try dsimp only at h); first | (go_simp; done) | (go_simp; with_reducible rfl)
          try simp only [Act.put, getElem_toArray, getElem_cons_succ, getElem_cons_zero, setIfInBounds_toArray, set_cons_zero, set_cons_succ]
          refine wpAnyH_take (i := 19) (v := ?_) rfl (by kernel_rfl) (by kernel_rfl) (by kernel_rfl) (fun _ _ _ h => h) (Or.inl ⟨by rfl, ?_⟩) (by assumption) ?_
          rotate_left
          · intro w h; (try dsimp only at h); first | (go_simp; done) | (go_simp; with_reducible rfl)
          try simp only [Act.put, getElem_toArray, getElem_cons_succ, getElem_cons_zero, setIfInBounds_toArray, set_cons_zero, set_cons_succ]
          refine wpAnyH_ready (rs := [18]) (by kernel_rfl) (by simp) ?_
          refine AllReadyH.cons rfl (fun K hK => ?_) AllReadyH.nil
          go_simp
          refine (phas_any cM cR v HU.out.1 HU.out.2.1 _ _ (Ok.refl _)).mono ?_
          rintro e u2 ⟨rfl, hc⟩
          rw [HH.out]
          have HQ2 : Hid (Six w0 g gm gn gj cM cR dM dR eM eR mM mR jM jR u2) := HQ1.out.step hc
          clear hc
          clear c0 c1 d0 d1 m0 m1 n0 n1 j0 j1
          obtain ⟨c0, c1⟩ := CG_facts HQ2.out.1
          obtain ⟨d0, d1⟩ := CG_facts HQ2.out.2.1
          obtain ⟨m0, m1⟩ := CG_facts HQ2.out.2.2.2.1
          obtain ⟨n0, n1⟩ := CG_facts HQ2.out.2.2.2.2.1
          obtain ⟨j0, j1⟩ := CG_facts HQ2.out.2.2.2.2.2.1
          go_wp2_with fail
          refine hK.out _ _ (by (try dsimp only); go_keep) (fun hHeld => ?_)
          clear hK K
          try simp only [Act.put, getElem_toArray, getElem_cons_succ, getElem_cons_zero, setIfInBounds_toArray, set_cons_zero, set_cons_succ]
          refine wpAnyH_take (i := 20) (v := ?_) rfl (by kernel_rfl) (by kernel_rfl) (by kernel_rfl) (fun _ _ _ h => h) (Or.inl ⟨by rfl, ?_⟩) (by assumption) ?_
          rotate_left
          · intro w h; (try dsimp only at h); first | (go_simp; done) | (go_simp; with_reducible rfl)
          try simp only [Act.put, getElem_toArray, getElem_cons_succ, getElem_cons_zero, setIfInBounds_toArray, set_cons_zero, set_cons_succ]
          refine wpAnyH_take (i := 21) (v := ?_) rfl (by kernel_rfl) (by kernel_rfl) (by kernel_rfl) (fun _ _ _ h => h) (Or.inl ⟨by rfl, ?_⟩) (by assumption) ?_
          rotate_left
          · intro w h; (try dsimp only at h); first | (go_simp; done) | (go_simp; with_reducible rfl)
          try simp only [Act.put, getElem_toArray, getElem_cons_succ, getElem_cons_zero, setIfInBounds_toArray, set_cons_zero, set_cons_succ]
          refine wpAnyH_take (i := 22) (v := ?_) rfl (by kernel_rfl) (by kernel_rfl) (by kernel_rfl) (fun _ _ _ h => h) (Or.inl ⟨by rfl, ?_⟩) (by assumption) ?_
          rotate_left
          · intro w h; (try dsimp only at h); first | (go_simp; done) | (go_simp; with_reducible rfl)
          try simp only [Act.put, getElem_toArray, getElem_cons_succ, getElem_cons_zero, setIfInBounds_toArray, set_cons_zero, set_cons_succ]
          refine wpAnyH_take (i := 23) (v := ?_) rfl (by kernel_rfl) (by kernel_rfl) (by kernel_rfl) (fun _ _ _ h => h) (Or.inl ⟨by rfl, ?_⟩) (by assumption) ?_
          rotate_left
          · intro w h; (try dsimp only at h); first | (go_simp; done) | (go_simp; with_reducible rfl)
          try simp only [Act.put, getElem_toArray, getElem_cons_succ, getElem_cons_zero, setIfInBounds_toArray, set_cons_zero, set_cons_succ]
          refine wpAnyH_take (i := 24) (v := ?_) rfl (by kernel_rfl) (by kernel_rfl) (by kernel_rfl) (fun _ _ _ h => h) (Or.inl ⟨by rfl, ?_⟩) (by assumption) ?_
          rotate_left
          · intro w h; (try dsimp only at h); first | (go_simp; done) | (go_simp; with_reducible rfl)
          try simp only [Act.put, getElem_toArray, getElem_cons_succ, getElem_cons_zero, setIfInBounds_toArray, set_cons_zero, set_cons_succ]
          refine wpAnyH_take (i := 25) (v := undef) rfl (by kernel_rfl) (by kernel_rfl) (by kernel_rfl) (fun _ _ _ h => h) (Or.inr ⟨by rfl, rfl⟩) (by assumption) ?_
          try simp only [Act.put, getElem_toArray, getElem_cons_succ, getElem_cons_zero, setIfInBounds_toArray, set_cons_zero, set_cons_succ]
          refine wpAnyH_take (i := 26) (v := undef) rfl (by kernel_rfl) (by kernel_rfl) (by kernel_rfl) (fun _ _ _ h => h) (Or.inr ⟨by rfl, rfl⟩) (by assumption) ?_
          try simp only [Act.put, getElem_toArray, getElem_cons_succ, getElem_cons_zero, setIfInBounds_toArray, set_cons_zero, set_cons_succ]
          refine wpAnyH_take (i := 27) (v := undef) rfl (by kernel_rfl) (by kernel_rfl) (by kernel_rfl) (fun _ _ _ h => h) (Or.inr ⟨by rfl, rfl⟩) (by assumption) ?_
          try simp only [Act.put, getElem_toArray, getElem_cons_succ, getElem_cons_zero, setIfInBounds_toArray, set_cons_zero, set_cons_succ]
          refine wpAnyH_take (i := 28) (v := ?_) rfl (by kernel_rfl) (by kernel_rfl) (by kernel_rfl) (fun _ _ _ h => h) (Or.inl ⟨by rfl, ?_⟩) (by assumption) ?_
          rotate_left
          · intro w h; (try dsimp only at h); first | (go_simp; done) | (go_simp; with_reducible rfl)
          try simp only [Act.put, getElem_toArray, getElem_cons_succ, getElem_cons_zero, setIfInBounds_toArray, set_cons_zero, set_cons_succ]
          refine wpAnyH_take (i := 29) (v := ?_) rfl (by kernel_rfl) (by kernel_rfl) (by kernel_rfl) (fun _ _ _ h => h) (Or.inl ⟨by rfl, ?_⟩) (by assumption) ?_
          rotate_left
          · intro w h; (try dsimp only at h); first | (go_simp; done) | (go_simp; with_reducible rfl)
          try simp only [Act.put, getElem_toArray, getElem_cons_succ, getElem_cons_zero, setIfInBounds_toArray, set_cons_zero, set_cons_succ]
          refine wpAnyH_take (i := 30) (v := ?_) rfl (by kernel_rfl) (by kernel_rfl) (by kernel_rfl) (fun _ _ _ h => h) (Or.inl ⟨by rfl, ?_⟩) (by assumption) ?_
          rotate_left
          · intro w h; (try dsimp only at h); first | (go_simp; done) | (go_simp; with_reducible rfl)
          try simp only [Act.put, getElem_toArray, getElem_cons_succ, getElem_cons_zero, setIfInBounds_toArray, set_cons_zero, set_cons_succ]
          refine wpAnyH_take (i := 31) (v := undef) rfl (by kernel_rfl) (by kernel_rfl) (by kernel_rfl) (fun _ _ _ h => h) (Or.inr ⟨by rfl, rfl⟩) (by assumption) ?_
          try simp only [Act.put, getElem_toArray, getElem_cons_succ, getElem_cons_zero, setIfInBounds_toArray, set_cons_zero, set_cons_succ]
          refine wpAnyH_take (i := 32) (v := ?_) rfl (by kernel_rfl) (by kernel_rfl) (by kernel_rfl) (fun _ _ _ h => h) (Or.inl ⟨by rfl, ?_⟩) (by assumption) ?_
          rotate_left
          · intro w h; (try dsimp only at h); first | (go_simp; done) | (go_simp; with_reducible rfl)
          try simp only [Act.put, getElem_toArray, getElem_cons_succ, getElem_cons_zero, setIfInBounds_toArray, set_cons_zero, set_cons_succ]
          refine wpAnyH_take (i := 33) (v := ?_) rfl (by kernel_rfl) (by kernel_rfl) (by kernel_rfl) (fun _ _ _ h => h) (Or.inl ⟨by rfl, ?_⟩) (by assumption) ?_
          rotate_left
          · intro w h; (try dsimp only at h); first | (go_simp; done) | (go_simp; with_reducible rfl)
          try simp only [Act.put, getElem_toArray, getElem_cons_succ, getElem_cons_zero, setIfInBounds_toArray, set_cons_zero, set_cons_succ]
          refine wpAnyH_take (i := 34) (v := ?_) rfl (by kernel_rfl) (by kernel_rfl) (by kernel_rfl) (fun _ _ _ h => h) (Or.inl ⟨by rfl, ?_⟩) (by assumption) ?_
          rotate_left
          · intro w h; (try dsimp only at h); first | (go_simp; done) | (go_simp; with_reducible rfl)
          try simp only [Act.put, getElem_toArray, getElem_cons_succ, getElem_cons_zero, setIfInBounds_toArray, set_cons_zero, set_cons_succ]
          refine wpAnyH_take (i := 35) (v := ?_) rfl (by kernel_rfl) (by kernel_rfl) (by kernel_rfl) (fun _ _ _ h => h) (Or.inl ⟨by rfl, ?_⟩) (by assumption) ?_
          rotate_left
          · intro w h; (try dsimp only at h); first | (go_simp; done) | (go_simp; with_reducible rfl)
          try simp only [Act.put, getElem_toArray, getElem_cons_succ, getElem_cons_zero, setIfInBounds_toArray, set_cons_zero, set_cons_succ]
          refine wpAnyH_take (i := 36) (v := ?_) rfl (by kernel_rfl) (by kernel_rfl) (by kernel_rfl) (fun _ _ _ h => h) (Or.inl ⟨by rfl, ?_⟩) (by assumption) ?_
          rotate_left
          · intro w h; (try dsimp only at h); first | (go_simp; done) | (go_simp; with_reducible rfl)
          try simp only [Act.put, getElem_toArray, getElem_cons_succ, getElem_cons_zero, setIfInBounds_toArray, set_cons_zero, set_cons_succ]
          refine wpAnyH_take (i := 37) (v := ?_) rfl (by kernel_rfl) (by kernel_rfl) (by kernel_rfl) (fun _ _ _ h => h) (Or.inl ⟨by rfl, ?_⟩) (by assumption) ?_
          rotate_left
          · intro w h; (try dsimp only at h); first | (go_simp; done) | (go_simp; with_reducible rfl)
          try simp only [Act.put, getElem_toArray, getElem_cons_succ, getElem_cons_zero, setIfInBounds_toArray, set_cons_zero, set_cons_succ]
          refine wpAnyH_take (i := 38) (v := ?_) rfl (by kernel_rfl) (by kernel_rfl) (by kernel_rfl) (fun _ _ _ h => h) (Or.inl ⟨by rfl, ?_⟩) (by assumption) ?_
          rotate_left
          · intro w h; (try dsimp only at h); first | (go_simp; done) | (go_simp; with_reducible rfl)
          try simp only [Act.put, getElem_toArray, getElem_cons_succ, getElem_cons_zero, setIfInBounds_toArray, set_cons_zero, set_cons_succ]
          refine wpAnyH_take (i := 39) (v := ?_) rfl (by kernel_rfl) (by kernel_rfl) (by kernel_rfl) (fun _ _ _ h => h) (Or.inl ⟨by rfl, ?_⟩) (by assumption) ?_
          rotate_left
          · intro w h; (try dsimp only at h); first | (go_simp; done) | (go_simp; with_reducible rfl)
          try simp only [Act.put, getElem_toArray, getElem_cons_succ, getElem_cons_zero, setIfInBounds_toArray, set_cons_zero, set_cons_succ]
          refine wpAnyH_take (i := 40) (v := ?_) rfl (by kernel_rfl) (by kernel_rfl) (by kernel_rfl) (fun _ _ _ h => h) (Or.inl ⟨by rfl, ?_⟩) (by assumption) ?_
          rotate_left
          · intro w h; (try dsimp only at h); first | (go_simp; done) | (go_simp; with_reducible rfl)
          try simp only [Act.put, getElem_toArray, getElem_cons_succ, getElem_cons_zero, setIfInBounds_toArray, set_cons_zero, set_cons_succ]
          refine wpAnyH_take (i := 41) (v := ?_) rfl (by kernel_rfl) (by kernel_rfl) (by kernel_rfl) (fun _ _ _ h => h) (Or.inl ⟨by rfl, ?_⟩) (by assumption) ?_
          rotate_left
          · intro w h; (try dsimp only at h); first | (go_simp; done) | (go_simp; with_reducible rfl)
          try simp only [Act.put, getElem_toArray, getElem_cons_succ, getElem_cons_zero, setIfInBounds_toArray, set_cons_zero, set_cons_succ]
          refine wpAnyH_take (i := 42) (v := ?_) rfl (by kernel_rfl) (by kernel_rfl) (by kernel_rfl) (fun _ _ _ h => h) (Or.inl ⟨by rfl, ?_⟩) (by assumption) ?_
          rotate_left
          · intro w h; (try dsimp only at h); first | (go_simp; done) | (go_simp; with_reducible rfl)
          try simp only [Act.put, getElem_toArray, getElem_cons_succ, getElem_cons_zero, setIfInBounds_toArray, set_cons_zero, set_cons_succ]
          refine wpAnyH_ready (rs := [43]) (by kernel_rfl) (by simp) ?_
          refine AllReadyH.cons rfl (fun K hK => ?_) AllReadyH.nil
          go_simp
          refine (linside_any jM jR v HJ.out.1.1 HJ.out.1.2 HU.out.2.2.2.2.2.2 _ _ (Ok.refl _)).mono ?_
          rintro e u3 ⟨⟨b, rfl, hbb⟩, hc⟩
          obtain rfl : b = true := hbb.2 HIJ.out
          clear hbb
          have HQ3 : Hid (Six w0 g gm gn gj cM cR dM dR eM eR mM mR jM jR u3) := HQ2.out.step hc
          clear hc
          clear c0 c1 d0 d1 m0 m1 n0 n1 j0 j1
          obtain ⟨c0, c1⟩ := CG_facts HQ3.out.1
          obtain ⟨d0, d1⟩ := CG_facts HQ3.out.2.1
          obtain ⟨m0, m1⟩ := CG_facts HQ3.out.2.2.2.1
          obtain ⟨n0, n1⟩ := CG_facts HQ3.out.2.2.2.2.1
          obtain ⟨j0, j1⟩ := CG_facts HQ3.out.2.2.2.2.2.1
          go_wp2_with fail
          refine hK.out _ _ (by (try dsimp only); go_keep) (fun hHeld => ?_)
          clear hK K
          try simp only [Act.put, getElem_toArray, getElem_cons_succ, getElem_cons_zero, setIfInBounds_toArray, set_cons_zero, set_cons_succ]
          refine wpAnyH_take (i := 44) (v := ?_) rfl (by kernel_rfl) (by kernel_rfl) (by kernel_rfl) (fun _ _ _ h => h) (Or.inl ⟨by rfl, ?_⟩) (by assumption) ?_
          rotate_left
          · intro w h; (try dsimp only at h); first | (go_simp; done) | (go_simp; with_reducible rfl)
          try simp only [Act.put, getElem_toArray, getElem_cons_succ, getElem_cons_zero, setIfInBounds_toArray, set_cons_zero, set_cons_succ]
          refine wpAnyH_take (i := 45) (v := ?_) rfl (by kernel_rfl) (by kernel_rfl) (by kernel_rfl) (fun _ _ _ h => h) (Or.inl ⟨by rfl, ?_⟩) (by assumption) ?_
          rotate_left
          · intro w h; (try dsimp only at h); first | (go_simp; done) | (go_simp; with_reducible rfl)
          try simp only [Act.put, getElem_toArray, getElem_cons_succ, getElem_cons_zero, setIfInBounds_toArray, set_cons_zero, set_cons_succ]
          refine wpAnyH_take (i := 46) (v := ?_) rfl (by kernel_rfl) (by kernel_rfl) (by kernel_rfl) (fun _ _ _ h => h) (Or.inl ⟨by rfl, ?_⟩) (by assumption) ?_
          rotate_left
          · intro w h; (try dsimp only at h); first | (go_simp; done) | (go_simp; with_reducible rfl)
          try simp only [Act.put, getElem_toArray, getElem_cons_succ, getElem_cons_zero, setIfInBounds_toArray, set_cons_zero, set_cons_succ]
          refine wpAnyH_done (by kernel_rfl) ?_ _
          go_wp2_with fail
          exact HT7.out _ _ _ _ _ _ _ _ _ _ _ _ _ _ _ _ _ _ _ _ _ _ _ _ _ _ _ _ _ _ _ _ _ _ _ _ _ _ _ _ _ _ _ _ _ _ _ _ HQ3.out
    · cases bs
      · skip
        as_aux_lemma =>
          have HH : Hid (hasC cM cR v = true) := by
            have h := hasC_iff (M := cM) HU.out.2.1 HU.out.2.2.2.2.2.2
            rw [← HB.out.1] at h
            exact h.2 rfl
          have HIJ : Hid (MemC jM jR v) := HJ.out.2.2.1 v (HB.out.1.1 rfl)
          have HQ0 : Hid (Six w0 g gm gn gj cM cR dM dR eM eR mM mR jM jR V.drew) := HS1.out.step (Below.drew (Ok.refl _))
          obtain ⟨c0, c1⟩ := CG_facts HS1.out.1
          obtain ⟨d0, d1⟩ := CG_facts HS1.out.2.1
          obtain ⟨m0, m1⟩ := CG_facts HS1.out.2.2.2.1
          obtain ⟨n0, n1⟩ := CG_facts HS1.out.2.2.2.2.1
          obtain ⟨j0, j1⟩ := CG_facts HS1.out.2.2.2.2.2.1
          refine wp_region_held_drew (S := (fun w' => w'.cell? ⟨g, 0, none⟩ = some (.int .u64 (cM : Int)) ∧ w'.cell? ⟨g, 1, none⟩ = some (.int .u64 (cR : Int)) ∧ w'.cell? ⟨g + 1, 0, none⟩ = some (.int .u64 (dM : Int)) ∧ w'.cell? ⟨g + 1, 1, none⟩ = some (.int .u64 (dR : Int)) ∧ w'.cell? ⟨gm, 0, none⟩ = some (.int .u64 (mM : Int)) ∧ w'.cell? ⟨gm, 1, none⟩ = some (.int .u64 (mR : Int)) ∧ w'.cell? ⟨gn, 0, none⟩ = some (.int .u64 (mM : Int)) ∧ w'.cell? ⟨gn, 1, none⟩ = some (.int .u64 (mR : Int)) ∧ w'.cell? ⟨gj, 0, none⟩ = some (.int .u64 (jM : Int)) ∧ w'.cell? ⟨gj, 1, none⟩ = some (.int .u64 (jR : Int)))) (by kernel_rfl) (by (try dsimp only); go_keep) (fun hHeld => ?_)
          refine wpAnyH_take (i := 0) (v := ?_) rfl (by kernel_rfl) (by kernel_rfl) (by kernel_rfl) (fun _ _ _ h => h) (Or.inl ⟨by rfl, ?_⟩) (by assumption) ?_
          rotate_left
          · intro w h; (try dsimp only at h); first | (go_simp; done) | (go_simp; with_reducible rfl)
          try simp only [Act.put, getElem_toArray, getElem_cons_succ, getElem_cons_zero, setIfInBounds_toArray, set_cons_zero, set_cons_succ]
          refine wpAnyH_take (i := 1) (v := ?_) rfl (by kernel_rfl) (by kernel_rfl) (by kernel_rfl) (fun _ _ _ h => h) (Or.inl ⟨by rfl, ?_⟩) (by assumption) ?_
          rotate_left
          · intro w h; (try dsimp only at h); first | (go_simp; done) | (go_simp; with_reducible rfl)
          try simp only [Act.put, getElem_toArray, getElem_cons_succ, getElem_cons_zero, setIfInBounds_toArray, set_cons_zero, set_cons_succ]
          refine wpAnyH_take (i := 2) (v := ?_) rfl (by kernel_rfl) (by kernel_rfl) (by kernel_rfl) (fun _ _ _ h => h) (Or.inl ⟨by rfl, ?_⟩) (by assumption) ?_
          rotate_left
          · intro w h; (try dsimp only at h); first | (go_simp; done) | (go_simp; with_reducible rfl)
          try simp only [Act.put, getElem_toArray, getElem_cons_succ, getElem_cons_zero, setIfInBounds_toArray, set_cons_zero, set_cons_succ]
          refine wpAnyH_take (i := 3) (v := ?_) rfl (by kernel_rfl) (by kernel_rfl) (by kernel_rfl) (fun _ _ _ h => h) (Or.inl ⟨by rfl, ?_⟩) (by assumption) ?_
          rotate_left
          · intro w h; (try dsimp only at h); first | (go_simp; done) | (go_simp; with_reducible rfl)
          try simp only [Act.put, getElem_toArray, getElem_cons_succ, getElem_cons_zero, setIfInBounds_toArray, set_cons_zero, set_cons_succ]
          refine wpAnyH_take (i := 4) (v := ?_) rfl (by kernel_rfl) (by kernel_rfl) (by kernel_rfl) (fun _ _ _ h => h) (Or.inl ⟨by rfl, ?_⟩) (by assumption) ?_
          rotate_left
          · intro w h; (try dsimp only at h); first | (go_simp; done) | (go_simp; with_reducible rfl)
          try simp only [Act.put, getElem_toArray, getElem_cons_succ, getElem_cons_zero, setIfInBounds_toArray, set_cons_zero, set_cons_succ]
          refine wpAnyH_take (i := 5) (v := ?_) rfl (by kernel_rfl) (by kernel_rfl) (by kernel_rfl) (fun _ _ _ h => h) (Or.inl ⟨by rfl, ?_⟩) (by assumption) ?_
          rotate_left
          · intro w h; (try dsimp only at h); first | (go_simp; done) | (go_simp; with_reducible rfl)
          try simp only [Act.put, getElem_toArray, getElem_cons_succ, getElem_cons_zero, setIfInBounds_toArray, set_cons_zero, set_cons_succ]
          refine wpAnyH_take (i := 6) (v := ?_) rfl (by kernel_rfl) (by kernel_rfl) (by kernel_rfl) (fun _ _ _ h => h) (Or.inl ⟨by rfl, ?_⟩) (by assumption) ?_
          rotate_left
          · intro w h; (try dsimp only at h); first | (go_simp; done) | (go_simp; with_reducible rfl)
          try simp only [Act.put, getElem_toArray, getElem_cons_succ, getElem_cons_zero, setIfInBounds_toArray, set_cons_zero, set_cons_succ]
          refine wpAnyH_take (i := 7) (v := ?_) rfl (by kernel_rfl) (by kernel_rfl) (by kernel_rfl) (fun _ _ _ h => h) (Or.inl ⟨by rfl, ?_⟩) (by assumption) ?_
          rotate_left
          · intro w h; (try dsimp only at h); first | (go_simp; done) | (go_simp; with_reducible rfl)
          try simp only [Act.put, getElem_toArray, getElem_cons_succ, getElem_cons_zero, setIfInBounds_toArray, set_cons_zero, set_cons_succ]
          refine wpAnyH_take (i := 8) (v := ?_) rfl (by kernel_rfl) (by kernel_rfl) (by kernel_rfl) (fun _ _ _ h => h) (Or.inl ⟨by rfl, ?_⟩) (by assumption) ?_
          rotate_left
          · intro w h; (try dsimp only at h); first | (go_simp; done) | (go_simp; with_reducible rfl)
          try simp only [Act.put, getElem_toArray, getElem_cons_succ, getElem_cons_zero, setIfInBounds_toArray, set_cons_zero, set_cons_succ]
          refine wpAnyH_take (i := 9) (v := ?_) rfl (by kernel_rfl) (by kernel_rfl) (by kernel_rfl) (fun _ _ _ h => h) (Or.inl ⟨by rfl, ?_⟩) (by assumption) ?_
          rotate_left
          · intro w h; (try dsimp only at h); first | (go_simp; done) | (go_simp; with_reducible rfl)
          try simp only [Act.put, getElem_toArray, getElem_cons_succ, getElem_cons_zero, setIfInBounds_toArray, set_cons_zero, set_cons_succ]
          refine wpAnyH_take (i := 10) (v := ?_) rfl (by kernel_rfl) (by kernel_rfl) (by kernel_rfl) (fun _ _ _ h => h) (Or.inl ⟨by rfl, ?_⟩) (by assumption) ?_
          rotate_left
          · intro w h; (try dsimp only at h); first | (go_simp; done) | (go_simp; with_reducible rfl)
          try simp only [Act.put, getElem_toArray, getElem_cons_succ, getElem_cons_zero, setIfInBounds_toArray, set_cons_zero, set_cons_succ]
          refine wpAnyH_take (i := 11) (v := ?_) rfl (by kernel_rfl) (by kernel_rfl) (by kernel_rfl) (fun _ _ _ h => h) (Or.inl ⟨by rfl, ?_⟩) (by assumption) ?_
          rotate_left
          · intro w h; (try dsimp only at h); first | (go_simp; done) | (go_simp; with_reducible rfl)
          try simp only [Act.put, getElem_toArray, getElem_cons_succ, getElem_cons_zero, setIfInBounds_toArray, set_cons_zero, set_cons_succ]
          refine wpAnyH_ready (rs := [12]) (by kernel_rfl) (by simp) ?_
          refine AllReadyH.cons rfl (fun K hK => ?_) AllReadyH.nil
          go_simp
          refine (pjoin_any dM dR cM cR HU.out.2.2.1 HU.out.2.2.2.1 HU.out.1 HU.out.2.1 _ _ (Ok.refl _)).mono ?_
          rintro e u1 ⟨rfl, hc⟩
          rw [HC2.out]
          unfold cv
          have HQ1 : Hid (Six w0 g gm gn gj cM cR dM dR eM eR mM mR jM jR u1) := HQ0.out.step hc
          clear hc
          clear c0 c1 d0 d1 m0 m1 n0 n1 j0 j1
          obtain ⟨c0, c1⟩ := CG_facts HQ1.out.1
          obtain ⟨d0, d1⟩ := CG_facts HQ1.out.2.1
          obtain ⟨m0, m1⟩ := CG_facts HQ1.out.2.2.2.1
          obtain ⟨n0, n1⟩ := CG_facts HQ1.out.2.2.2.2.1
          obtain ⟨j0, j1⟩ := CG_facts HQ1.out.2.2.2.2.2.1
          go_wp2_with fail
          refine hK.out _ _ (by (try dsimp only); go_keep) (fun hHeld => ?_)
          clear hK K
          try simp only [Act.put, getElem_toArray, getElem_cons_succ, getElem_cons_zero, setIfInBounds_toArray, set_cons_zero, set_cons_succ]
          refine wpAnyH_take (i := 13) (v := ?_) rfl (by kernel_rfl) (by kernel_rfl) (by kernel_rfl) (fun _ _ _ h => h) (Or.inl ⟨by rfl, ?_⟩) (by assumption) ?_
          rotate_left
          · intro w h; (try dsimp only at h); first | (go_simp; done) | (go_simp; with_reducible rfl)
          try simp only [Act.put, getElem_toArray, getElem_cons_succ, getElem_cons_zero, setIfInBounds_toArray, set_cons_zero, set_cons_succ]
          refine wpAnyH_take (i := 14) (v := ?_) rfl (by kernel_rfl) (by kernel_rfl) (by kernel_rfl) (fun _ _ _ h => h) (Or.inl ⟨by rfl, ?_⟩) (by assumption) ?_
          rotate_left
          · intro w h; (try dsimp only at h); first | (go_simp; done) | (go_simp; with_reducible rfl)
          try simp only [Act.put, getElem_toArray, getElem_cons_succ, getElem_cons_zero, setIfInBounds_toArray, set_cons_zero, set_cons_succ]
          refine wpAnyH_take (i := 15) (v := ?_) rfl (by kernel_rfl) (by kernel_rfl) (by kernel_rfl) (fun _ _ _ h => h) (Or.inl ⟨by rfl, ?_⟩) (by assumption) ?_
          rotate_left
          · intro w h; (try dsimp only at h); first | (go_simp; done) | (go_simp; with_reducible rfl)
          try simp only [Act.put, getElem_toArray, getElem_cons_succ, getElem_cons_zero, setIfInBounds_toArray, set_cons_zero, set_cons_succ]
          refine wpAnyH_take (i := 16) (v := ?_) rfl (by kernel_rfl) (by kernel_rfl) (by kernel_rfl) (fun _ _ _ h => h) (Or.inl ⟨by rfl, ?_⟩) (by assumption) ?_
          rotate_left
          · intro w h; (try dsimp only at h); first | (go_simp; done) | (go_simp; with_reducible rfl)
          try simp only [Act.put, getElem_toArray, getElem_cons_succ, getElem_cons_zero, setIfInBounds_toArray, set_cons_zero, set_cons_succ]
          refine wpAnyH_take (i := 17) (v := ?_) rfl (by kernel_rfl) (by kernel_rfl) (by kernel_rfl) (fun _ _ _ h => h) (Or.inl ⟨by rfl, ?_⟩) (by assumption) ?_
          rotate_left
          · intro w h; (try dsimp only at h); first | (go_simp; done) | (go_simp; with_reducible rfl)
          try simp only [Act.put, getElem_toArray, getElem_cons_succ, getElem_cons_zero, setIfInBounds_toArray, set_cons_zero, set_cons_succ]
          refine wpAnyH_take (i := 19) (v := ?_) rfl (by kernel_rfl) (by kernel_rfl) (by kernel_rfl) (fun _ _ _ h => h) (Or.inl ⟨by rfl, ?_⟩) (by assumption) ?_
          rotate_left
          · intro w h; (try dsimp only at h); first | (go_simp; done) | (go_simp; with_reducible rfl)
          try simp only [Act.put, getElem_toArray, getElem_cons_succ, getElem_cons_zero, setIfInBounds_toArray, set_cons_zero, set_cons_succ]
          refine wpAnyH_ready (rs := [18]) (by kernel_rfl) (by simp) ?_
          refine AllReadyH.cons rfl (fun K hK => ?_) AllReadyH.nil
          go_simp
          refine (phas_any cM cR v HU.out.1 HU.out.2.1 _ _ (Ok.refl _)).mono ?_
          rintro e u2 ⟨rfl, hc⟩
          rw [HH.out]
          have HQ2 : Hid (Six w0 g gm gn gj cM cR dM dR eM eR mM mR jM jR u2) := HQ1.out.step hc
          clear hc
          clear c0 c1 d0 d1 m0 m1 n0 n1 j0 j1
          obtain ⟨c0, c1⟩ := CG_facts HQ2.out.1
          obtain ⟨d0, d1⟩ := CG_facts HQ2.out.2.1
          obtain ⟨m0, m1⟩ := CG_facts HQ2.out.2.2.2.1
          obtain ⟨n0, n1⟩ := CG_facts HQ2.out.2.2.2.2.1
          obtain ⟨j0, j1⟩ := CG_facts HQ2.out.2.2.2.2.2.1
          go_wp2_with fail
          refine hK.out _ _ (by (try dsimp only); go_keep) (fun hHeld => ?_)
          clear hK K
          try simp only [Act.put, getElem_toArray, getElem_cons_succ, getElem_cons_zero, setIfInBounds_toArray, set_cons_zero, set_cons_succ]
          refine wpAnyH_take (i := 20) (v := ?_) rfl (by kernel_rfl) (by kernel_rfl) (by kernel_rfl) (fun _ _ _ h => h) (Or.inl ⟨by rfl, ?_⟩) (by assumption) ?_
          rotate_left
          · intro w h; (try dsimp only at h); first | (go_simp; done) | (go_simp; with_reducible rfl)
          try simp only [Act.put, getElem_toArray, getElem_cons_succ, getElem_cons_zero, setIfInBounds_toArray, set_cons_zero, set_cons_succ]
          refine wpAnyH_take (i := 21) (v := ?_) rfl (by kernel_rfl) (by kernel_rfl) (by kernel_rfl) (fun _ _ _ h => h) (Or.inl ⟨by rfl, ?_⟩) (by assumption) ?_
          rotate_left
          · intro w h; (try dsimp only at h); first | (go_simp; done) | (go_simp; with_reducible rfl)
          try simp only [Act.put, getElem_toArray, getElem_cons_succ, getElem_cons_zero, setIfInBounds_toArray, set_cons_zero, set_cons_succ]
          refine wpAnyH_take (i := 22) (v := ?_) rfl (by kernel_rfl) (by kernel_rfl) (by kernel_rfl) (fun _ _ _ h => h) (Or.inl ⟨by rfl, ?_⟩) (by assumption) ?_
          rotate_left
          · intro w h; (try dsimp only at h); first | (go_simp; done) | (go_simp; with_reducible rfl)
          try simp only [Act.put, getElem_toArray, getElem_cons_succ, getElem_cons_zero, setIfInBounds_toArray, set_cons_zero, set_cons_succ]
          refine wpAnyH_take (i := 23) (v := ?_) rfl (by kernel_rfl) (by kernel_rfl) (by kernel_rfl) (fun _ _ _ h => h) (Or.inl ⟨by rfl, ?_⟩) (by assumption) ?_
          rotate_left
          · intro w h; (try dsimp only at h); first | (go_simp; done) | (go_simp; with_reducible rfl)
          try simp only [Act.put, getElem_toArray, getElem_cons_succ, getElem_cons_zero, setIfInBounds_toArray, set_cons_zero, set_cons_succ]
          refine wpAnyH_take (i := 24) (v := ?_) rfl (by kernel_rfl) (by kernel_rfl) (by kernel_rfl) (fun _ _ _ h => h) (Or.inl ⟨by rfl, ?_⟩) (by assumption) ?_
          rotate_left
          · intro w h; (try dsimp only at h); first | (go_simp; done) | (go_simp; with_reducible rfl)
          try simp only [Act.put, getElem_toArray, getElem_cons_succ, getElem_cons_zero, setIfInBounds_toArray, set_cons_zero, set_cons_succ]
          refine wpAnyH_take (i := 25) (v := undef) rfl (by kernel_rfl) (by kernel_rfl) (by kernel_rfl) (fun _ _ _ h => h) (Or.inr ⟨by rfl, rfl⟩) (by assumption) ?_
          try simp only [Act.put, getElem_toArray, getElem_cons_succ, getElem_cons_zero, setIfInBounds_toArray, set_cons_zero, set_cons_succ]
          refine wpAnyH_take (i := 26) (v := undef) rfl (by kernel_rfl) (by kernel_rfl) (by kernel_rfl) (fun _ _ _ h => h) (Or.inr ⟨by rfl, rfl⟩) (by assumption) ?_
          try simp only [Act.put, getElem_toArray, getElem_cons_succ, getElem_cons_zero, setIfInBounds_toArray, set_cons_zero, set_cons_succ]
          refine wpAnyH_take (i := 27) (v := undef) rfl (by kernel_rfl) (by kernel_rfl) (by kernel_rfl) (fun _ _ _ h => h) (Or.inr ⟨by rfl, rfl⟩) (by assumption) ?_
          try simp only [Act.put, getElem_toArray, getElem_cons_succ, getElem_cons_zero, setIfInBounds_toArray, set_cons_zero, set_cons_succ]
          refine wpAnyH_take (i := 28) (v := ?_) rfl (by kernel_rfl) (by kernel_rfl) (by kernel_rfl) (fun _ _ _ h => h) (Or.inl ⟨by rfl, ?_⟩) (by assumption) ?_
          rotate_left
          · intro w h; (try dsimp only at h); first | (go_simp; done) | (go_simp; with_reducible rfl)
          try simp only [Act.put, getElem_toArray, getElem_cons_succ, getElem_cons_zero, setIfInBounds_toArray, set_cons_zero, set_cons_succ]
          refine wpAnyH_take (i := 29) (v := ?_) rfl (by kernel_rfl) (by kernel_rfl) (by kernel_rfl) (fun _ _ _ h => h) (Or.inl ⟨by rfl, ?_⟩) (by assumption) ?_
          rotate_left
          · intro w h; (try dsimp only at h); first | (go_simp; done) | (go_simp; with_reducible rfl)
          try simp only [Act.put, getElem_toArray, getElem_cons_succ, getElem_cons_zero, setIfInBounds_toArray, set_cons_zero, set_cons_succ]
          refine wpAnyH_take (i := 30) (v := ?_) rfl (by kernel_rfl) (by kernel_rfl) (by kernel_rfl) (fun _ _ _ h => h) (Or.inl ⟨by rfl, ?_⟩) (by assumption) ?_
          rotate_left
          · intro w h; (try dsimp only at h); first | (go_simp; done) | (go_simp; with_reducible rfl)
          try simp only [Act.put, getElem_toArray, getElem_cons_succ, getElem_cons_zero, setIfInBounds_toArray, set_cons_zero, set_cons_succ]
          refine wpAnyH_take (i := 31) (v := ?_) rfl (by kernel_rfl) (by kernel_rfl) (by kernel_rfl) (fun _ _ _ h => h) (Or.inl ⟨by rfl, ?_⟩) (by assumption) ?_
          rotate_left
          · intro w h; (try dsimp only at h); first | (go_simp; done) | (go_simp; with_reducible rfl)
          try simp only [Act.put, getElem_toArray, getElem_cons_succ, getElem_cons_zero, setIfInBounds_toArray, set_cons_zero, set_cons_succ]
          refine wpAnyH_take (i := 32) (v := ?_) rfl (by kernel_rfl) (by kernel_rfl) (by kernel_rfl) (fun _ _ _ h => h) (Or.inl ⟨by rfl, ?_⟩) (by assumption) ?_
          rotate_left
          · intro w h; (try dsimp only at h); first | (go_simp; done) | (go_simp; with_reducible rfl)
          try simp only [Act.put, getElem_toArray, getElem_cons_succ, getElem_cons_zero, setIfInBounds_toArray, set_cons_zero, set_cons_succ]
          refine wpAnyH_take (i := 33) (v := ?_) rfl (by kernel_rfl) (by kernel_rfl) (by kernel_rfl) (fun _ _ _ h => h) (Or.inl ⟨by rfl, ?_⟩) (by assumption) ?_
          rotate_left
          · intro w h; (try dsimp only at h); first | (go_simp; done) | (go_simp; with_reducible rfl)
          try simp only [Act.put, getElem_toArray, getElem_cons_succ, getElem_cons_zero, setIfInBounds_toArray, set_cons_zero, set_cons_succ]
          refine wpAnyH_take (i := 34) (v := ?_) rfl (by kernel_rfl) (by kernel_rfl) (by kernel_rfl) (fun _ _ _ h => h) (Or.inl ⟨by rfl, ?_⟩) (by assumption) ?_
          rotate_left
          · intro w h; (try dsimp only at h); first | (go_simp; done) | (go_simp; with_reducible rfl)
          try simp only [Act.put, getElem_toArray, getElem_cons_succ, getElem_cons_zero, setIfInBounds_toArray, set_cons_zero, set_cons_succ]
          refine wpAnyH_take (i := 35) (v := ?_) rfl (by kernel_rfl) (by kernel_rfl) (by kernel_rfl) (fun _ _ _ h => h) (Or.inl ⟨by rfl, ?_⟩) (by assumption) ?_
          rotate_left
          · intro w h; (try dsimp only at h); first | (go_simp; done) | (go_simp; with_reducible rfl)
          try simp only [Act.put, getElem_toArray, getElem_cons_succ, getElem_cons_zero, setIfInBounds_toArray, set_cons_zero, set_cons_succ]
          refine wpAnyH_take (i := 36) (v := ?_) rfl (by kernel_rfl) (by kernel_rfl) (by kernel_rfl) (fun _ _ _ h => h) (Or.inl ⟨by rfl, ?_⟩) (by assumption) ?_
          rotate_left
          · intro w h; (try dsimp only at h); first | (go_simp; done) | (go_simp; with_reducible rfl)
          try simp only [Act.put, getElem_toArray, getElem_cons_succ, getElem_cons_zero, setIfInBounds_toArray, set_cons_zero, set_cons_succ]
          refine wpAnyH_take (i := 37) (v := ?_) rfl (by kernel_rfl) (by kernel_rfl) (by kernel_rfl) (fun _ _ _ h => h) (Or.inl ⟨by rfl, ?_⟩) (by assumption) ?_
          rotate_left
          · intro w h; (try dsimp only at h); first | (go_simp; done) | (go_simp; with_reducible rfl)
          try simp only [Act.put, getElem_toArray, getElem_cons_succ, getElem_cons_zero, setIfInBounds_toArray, set_cons_zero, set_cons_succ]
          refine wpAnyH_take (i := 38) (v := undef) rfl (by kernel_rfl) (by kernel_rfl) (by kernel_rfl) (fun _ _ _ h => h) (Or.inr ⟨by rfl, rfl⟩) (by assumption) ?_
          try simp only [Act.put, getElem_toArray, getElem_cons_succ, getElem_cons_zero, setIfInBounds_toArray, set_cons_zero, set_cons_succ]
          refine wpAnyH_take (i := 39) (v := ?_) rfl (by kernel_rfl) (by kernel_rfl) (by kernel_rfl) (fun _ _ _ h => h) (Or.inl ⟨by rfl, ?_⟩) (by assumption) ?_
          rotate_left
          · intro w h; (try dsimp only at h); first | (go_simp; done) | (go_simp; with_reducible rfl)
          try simp only [Act.put, getElem_toArray, getElem_cons_succ, getElem_cons_zero, setIfInBounds_toArray, set_cons_zero, set_cons_succ]
          refine wpAnyH_take (i := 40) (v := ?_) rfl (by kernel_rfl) (by kernel_rfl) (by kernel_rfl) (fun _ _ _ h => h) (Or.inl ⟨by rfl, ?_⟩) (by assumption) ?_
          rotate_left
          · intro w h; (try dsimp only at h); first | (go_simp; done) | (go_simp; with_reducible rfl)
          try simp only [Act.put, getElem_toArray, getElem_cons_succ, getElem_cons_zero, setIfInBounds_toArray, set_cons_zero, set_cons_succ]
          refine wpAnyH_take (i := 41) (v := ?_) rfl (by kernel_rfl) (by kernel_rfl) (by kernel_rfl) (fun _ _ _ h => h) (Or.inl ⟨by rfl, ?_⟩) (by assumption) ?_
          rotate_left
          · intro w h; (try dsimp only at h); first | (go_simp; done) | (go_simp; with_reducible rfl)
          try simp only [Act.put, getElem_toArray, getElem_cons_succ, getElem_cons_zero, setIfInBounds_toArray, set_cons_zero, set_cons_succ]
          refine wpAnyH_take (i := 42) (v := ?_) rfl (by kernel_rfl) (by kernel_rfl) (by kernel_rfl) (fun _ _ _ h => h) (Or.inl ⟨by rfl, ?_⟩) (by assumption) ?_
          rotate_left
          · intro w h; (try dsimp only at h); first | (go_simp; done) | (go_simp; with_reducible rfl)
          try simp only [Act.put, getElem_toArray, getElem_cons_succ, getElem_cons_zero, setIfInBounds_toArray, set_cons_zero, set_cons_succ]
          refine wpAnyH_ready (rs := [43]) (by kernel_rfl) (by simp) ?_
          refine AllReadyH.cons rfl (fun K hK => ?_) AllReadyH.nil
          go_simp
          refine (linside_any jM jR v HJ.out.1.1 HJ.out.1.2 HU.out.2.2.2.2.2.2 _ _ (Ok.refl _)).mono ?_
          rintro e u3 ⟨⟨b, rfl, hbb⟩, hc⟩
          obtain rfl : b = true := hbb.2 HIJ.out
          clear hbb
          have HQ3 : Hid (Six w0 g gm gn gj cM cR dM dR eM eR mM mR jM jR u3) := HQ2.out.step hc
          clear hc
          clear c0 c1 d0 d1 m0 m1 n0 n1 j0 j1
          obtain ⟨c0, c1⟩ := CG_facts HQ3.out.1
          obtain ⟨d0, d1⟩ := CG_facts HQ3.out.2.1
          obtain ⟨m0, m1⟩ := CG_facts HQ3.out.2.2.2.1
          obtain ⟨n0, n1⟩ := CG_facts HQ3.out.2.2.2.2.1
          obtain ⟨j0, j1⟩ := CG_facts HQ3.out.2.2.2.2.2.1
          go_wp2_with fail
          refine hK.out _ _ (by (try dsimp only); go_keep) (fun hHeld => ?_)
          clear hK K
          try simp only [Act.put, getElem_toArray, getElem_cons_succ, getElem_cons_zero, setIfInBounds_toArray, set_cons_zero, set_cons_succ]
          refine wpAnyH_take (i := 44) (v := ?_) rfl (by kernel_rfl) (by kernel_rfl) (by kernel_rfl) (fun _ _ _ h => h) (Or.inl ⟨by rfl, ?_⟩) (by assumption) ?_
          rotate_left
          · intro w h; (try dsimp only at h); first | (go_simp; done) | (go_simp; with_reducible rfl)
          try simp only [Act.put, getElem_toArray, getElem_cons_succ, getElem_cons_zero, setIfInBounds_toArray, set_cons_zero, set_cons_succ]
          refine wpAnyH_take (i := 45) (v := ?_) rfl (by kernel_rfl) (by kernel_rfl) (by kernel_rfl) (fun _ _ _ h => h) (Or.inl ⟨by rfl, ?_⟩) (by assumption) ?_
          rotate_left
          · intro w h; (try dsimp only at h); first | (go_simp; done) | (go_simp; with_reducible rfl)
          try simp only [Act.put, getElem_toArray, getElem_cons_succ, getElem_cons_zero, setIfInBounds_toArray, set_cons_zero, set_cons_succ]
          refine wpAnyH_take (i := 46) (v := ?_) rfl (by kernel_rfl) (by kernel_rfl) (by kernel_rfl) (fun _ _ _ h => h) (Or.inl ⟨by rfl, ?_⟩) (by assumption) ?_
          rotate_left
          · intro w h; (try dsimp only at h); first | (go_simp; done) | (go_simp; with_reducible rfl)
          try simp only [Act.put, getElem_toArray, getElem_cons_succ, getElem_cons_zero, setIfInBounds_toArray, set_cons_zero, set_cons_succ]
          refine wpAnyH_done (by kernel_rfl) ?_ _
          go_wp2_with fail
          exact HT7.out _ _ _ _ _ _ _ _ _ _ _ _ _ _ _ _ _ _ _ _ _ _ _ _ _ _ _ _ _ _ _ _ _ _ _ _ _ _ _ _ _ _ _ _ _ _ _ _ HQ3.out
      · skip
        as_aux_lemma =>
          exact absurd (HF.out.1.2 ⟨HB.out.1.1 rfl, HB.out.2.1 rfl⟩).1 (by simp)
  · cases bi
    · cases bs
      · skip
        as_aux_lemma =>
          have HH : Hid (hasC cM cR v = false) := by
            have h := hasC_iff (M := cM) HU.out.2.1 HU.out.2.2.2.2.2.2
            rw [← HB.out.1] at h
            exact Bool.eq_false_iff.2 (fun a => by have := h.1 a; cases this)
          have HIM : Hid (∀ b : Bool, (b = true ↔ MemC mM mR v) → b = false) := by
            intro b hb
            refine Bool.eq_false_iff.2 (fun a => ?_)
            have h := HF.out.1.1 ⟨rfl, hb.1 a⟩
            have := HB.out.1.2 h.1
            cases this
          have HQ0 : Hid (Six w0 g gm gn gj cM cR dM dR eM eR mM mR jM jR V.drew) := HS1.out.step (Below.drew (Ok.refl _))
          obtain ⟨c0, c1⟩ := CG_facts HS1.out.1
          obtain ⟨d0, d1⟩ := CG_facts HS1.out.2.1
          obtain ⟨m0, m1⟩ := CG_facts HS1.out.2.2.2.1
          obtain ⟨n0, n1⟩ := CG_facts HS1.out.2.2.2.2.1
          obtain ⟨j0, j1⟩ := CG_facts HS1.out.2.2.2.2.2.1
          refine wp_region_held_drew (S := (fun w' => w'.cell? ⟨g, 0, none⟩ = some (.int .u64 (cM : Int)) ∧ w'.cell? ⟨g, 1, none⟩ = some (.int .u64 (cR : Int)) ∧ w'.cell? ⟨g + 1, 0, none⟩ = some (.int .u64 (dM : Int)) ∧ w'.cell? ⟨g + 1, 1, none⟩ = some (.int .u64 (dR : Int)) ∧ w'.cell? ⟨gm, 0, none⟩ = some (.int .u64 (mM : Int)) ∧ w'.cell? ⟨gm, 1, none⟩ = some (.int .u64 (mR : Int)) ∧ w'.cell? ⟨gn, 0, none⟩ = some (.int .u64 (mM : Int)) ∧ w'.cell? ⟨gn, 1, none⟩ = some (.int .u64 (mR : Int)) ∧ w'.cell? ⟨gj, 0, none⟩ = some (.int .u64 (jM : Int)) ∧ w'.cell? ⟨gj, 1, none⟩ = some (.int .u64 (jR : Int)))) (by kernel_rfl) (by (try dsimp only); go_keep) (fun hHeld => ?_)
          refine wpAnyH_take (i := 0) (v := ?_) rfl (by kernel_rfl) (by kernel_rfl) (by kernel_rfl) (fun _ _ _ h => h) (Or.inl ⟨by rfl, ?_⟩) (by assumption) ?_
          rotate_left
          · intro w h; (try dsimp only at h); first | (go_simp; done) | (go_simp; with_reducible rfl)
          try simp only [Act.put, getElem_toArray, getElem_cons_succ, getElem_cons_zero, setIfInBounds_toArray, set_cons_zero, set_cons_succ]
          refine wpAnyH_take (i := 1) (v := ?_) rfl (by kernel_rfl) (by kernel_rfl) (by kernel_rfl) (fun _ _ _ h => h) (Or.inl ⟨by rfl, ?_⟩) (by assumption) ?_
          rotate_left
          · intro w h; (try dsimp only at h); first | (go_simp; done) | (go_simp; with_reducible rfl)
          try simp only [Act.put, getElem_toArray, getElem_cons_succ, getElem_cons_zero, setIfInBounds_toArray, set_cons_zero, set_cons_succ]
          refine wpAnyH_take (i := 2) (v := ?_) rfl (by kernel_rfl) (by kernel_rfl) (by kernel_rfl) (fun _ _ _ h => h) (Or.inl ⟨by rfl, ?_⟩) (by assumption) ?_
          rotate_left
          · intro w h; (try dsimp only at h); first | (go_simp; done) | (go_simp; with_reducible rfl)
          try simp only [Act.put, getElem_toArray, getElem_cons_succ, getElem_cons_zero, setIfInBounds_toArray, set_cons_zero, set_cons_succ]
          refine wpAnyH_take (i := 3) (v := ?_) rfl (by kernel_rfl) (by kernel_rfl) (by kernel_rfl) (fun _ _ _ h => h) (Or.inl ⟨by rfl, ?_⟩) (by assumption) ?_
          rotate_left
          · intro w h; (try dsimp only at h); first | (go_simp; done) | (go_simp; with_reducible rfl)
          try simp only [Act.put, getElem_toArray, getElem_cons_succ, getElem_cons_zero, setIfInBounds_toArray, set_cons_zero, set_cons_succ]
          refine wpAnyH_take (i := 4) (v := ?_) rfl (by kernel_rfl) (by kernel_rfl) (by kernel_rfl) (fun _ _ _ h => h) (Or.inl ⟨by rfl, ?_⟩) (by assumption) ?_
          rotate_left
          · intro w h; (try dsimp only at h); first | (go_simp; done) | (go_simp; with_reducible rfl)
          try simp only [Act.put, getElem_toArray, getElem_cons_succ, getElem_cons_zero, setIfInBounds_toArray, set_cons_zero, set_cons_succ]
          refine wpAnyH_take (i := 5) (v := ?_) rfl (by kernel_rfl) (by kernel_rfl) (by kernel_rfl) (fun _ _ _ h => h) (Or.inl ⟨by rfl, ?_⟩) (by assumption) ?_
          rotate_left
          · intro w h; (try dsimp only at h); first | (go_simp; done) | (go_simp; with_reducible rfl)
          try simp only [Act.put, getElem_toArray, getElem_cons_succ, getElem_cons_zero, setIfInBounds_toArray, set_cons_zero, set_cons_succ]
          refine wpAnyH_take (i := 6) (v := ?_) rfl (by kernel_rfl) (by kernel_rfl) (by kernel_rfl) (fun _ _ _ h => h) (Or.inl ⟨by rfl, ?_⟩) (by assumption) ?_
          rotate_left
          · intro w h; (try dsimp only at h); first | (go_simp; done) | (go_simp; with_reducible rfl)
          try simp only [Act.put, getElem_toArray, getElem_cons_succ, getElem_cons_zero, setIfInBounds_toArray, set_cons_zero, set_cons_succ]
          refine wpAnyH_take (i := 7) (v := ?_) rfl (by kernel_rfl) (by kernel_rfl) (by kernel_rfl) (fun _ _ _ h => h) (Or.inl ⟨by rfl, ?_⟩) (by assumption) ?_
          rotate_left
          · intro w h; (try dsimp only at h); first | (go_simp; done) | (go_simp; with_reducible rfl)
          try simp only [Act.put, getElem_toArray, getElem_cons_succ, getElem_cons_zero, setIfInBounds_toArray, set_cons_zero, set_cons_succ]
          refine wpAnyH_take (i := 8) (v := ?_) rfl (by kernel_rfl) (by kernel_rfl) (by kernel_rfl) (fun _ _ _ h => h) (Or.inl ⟨by rfl, ?_⟩) (by assumption) ?_
          rotate_left
          · intro w h; (try dsimp only at h); first | (go_simp; done) | (go_simp; with_reducible rfl)
          try simp only [Act.put, getElem_toArray, getElem_cons_succ, getElem_cons_zero, setIfInBounds_toArray, set_cons_zero, set_cons_succ]
          refine wpAnyH_take (i := 9) (v := ?_) rfl (by kernel_rfl) (by kernel_rfl) (by kernel_rfl) (fun _ _ _ h => h) (Or.inl ⟨by rfl, ?_⟩) (by assumption) ?_
          rotate_left
          · intro w h; (try dsimp only at h); first | (go_simp; done) | (go_simp; with_reducible rfl)
          try simp only [Act.put, getElem_toArray, getElem_cons_succ, getElem_cons_zero, setIfInBounds_toArray, set_cons_zero, set_cons_succ]
          refine wpAnyH_take (i := 10) (v := ?_) rfl (by kernel_rfl) (by kernel_rfl) (by kernel_rfl) (fun _ _ _ h => h) (Or.inl ⟨by rfl, ?_⟩) (by assumption) ?_
          rotate_left
          · intro w h; (try dsimp only at h); first | (go_simp; done) | (go_simp; with_reducible rfl)
          try simp only [Act.put, getElem_toArray, getElem_cons_succ, getElem_cons_zero, setIfInBounds_toArray, set_cons_zero, set_cons_succ]
          refine wpAnyH_take (i := 11) (v := ?_) rfl (by kernel_rfl) (by kernel_rfl) (by kernel_rfl) (fun _ _ _ h => h) (Or.inl ⟨by rfl, ?_⟩) (by assumption) ?_
          rotate_left
          · intro w h; (try dsimp only at h); first | (go_simp; done) | (go_simp; with_reducible rfl)
          try simp only [Act.put, getElem_toArray, getElem_cons_succ, getElem_cons_zero, setIfInBounds_toArray, set_cons_zero, set_cons_succ]
          refine wpAnyH_ready (rs := [12]) (by kernel_rfl) (by simp) ?_
          refine AllReadyH.cons rfl (fun K hK => ?_) AllReadyH.nil
          go_simp
          refine (pjoin_any dM dR cM cR HU.out.2.2.1 HU.out.2.2.2.1 HU.out.1 HU.out.2.1 _ _ (Ok.refl _)).mono ?_
          rintro e u1 ⟨rfl, hc⟩
          rw [HC2.out]
          unfold cv
          have HQ1 : Hid (Six w0 g gm gn gj cM cR dM dR eM eR mM mR jM jR u1) := HQ0.out.step hc
          clear hc
          clear c0 c1 d0 d1 m0 m1 n0 n1 j0 j1
          obtain ⟨c0, c1⟩ := CG_facts HQ1.out.1
          obtain ⟨d0, d1⟩ := CG_facts HQ1.out.2.1
          obtain ⟨m0, m1⟩ := CG_facts HQ1.out.2.2.2.1
          obtain ⟨n0, n1⟩ := CG_facts HQ1.out.2.2.2.2.1
          obtain ⟨j0, j1⟩ := CG_facts HQ1.out.2.2.2.2.2.1
          go_wp2_with fail
          refine hK.out _ _ (by (try dsimp only); go_keep) (fun hHeld => ?_)
          clear hK K
          try simp only [Act.put, getElem_toArray, getElem_cons_succ, getElem_cons_zero, setIfInBounds_toArray, set_cons_zero, set_cons_succ]
          refine wpAnyH_take (i := 13) (v := ?_) rfl (by kernel_rfl) (by kernel_rfl) (by kernel_rfl) (fun _ _ _ h => h) (Or.inl ⟨by rfl, ?_⟩) (by assumption) ?_
          rotate_left
          · intro w h; (try dsimp only at h); first | (go_simp; done) | (go_simp; with_reducible rfl)
          try simp only [Act.put, getElem_toArray, getElem_cons_succ, getElem_cons_zero, setIfInBounds_toArray, set_cons_zero, set_cons_succ]
          refine wpAnyH_take (i := 14) (v := ?_) rfl (by kernel_rfl) (by kernel_rfl) (by kernel_rfl) (fun _ _ _ h => h) (Or.inl ⟨by rfl, ?_⟩) (by assumption) ?_
          rotate_left
          · intro w h; (try dsimp only at h); first | (go_simp; done) | (go_simp; with_reducible rfl)
          try simp only [Act.put, getElem_toArray, getElem_cons_succ, getElem_cons_zero, setIfInBounds_toArray, set_cons_zero, set_cons_succ]
          refine wpAnyH_take (i := 15) (v := ?_) rfl (by kernel_rfl) (by kernel_rfl) (by kernel_rfl) (fun _ _ _ h => h) (Or.inl ⟨by rfl, ?_⟩) (by assumption) ?_
          rotate_left
          · intro w h; (try dsimp only at h); first | (go_simp; done) | (go_simp; with_reducible rfl)
          try simp only [Act.put, getElem_toArray, getElem_cons_succ, getElem_cons_zero, setIfInBounds_toArray, set_cons_zero, set_cons_succ]
          refine wpAnyH_take (i := 16) (v := ?_) rfl (by kernel_rfl) (by kernel_rfl) (by kernel_rfl) (fun _ _ _ h => h) (Or.inl ⟨by rfl, ?_⟩) (by assumption) ?_
          rotate_left
          · intro w h; (try dsimp only at h); first | (go_simp; done) | (go_simp; with_reducible rfl)
          try simp only [Act.put, getElem_toArray, getElem_cons_succ, getElem_cons_zero, setIfInBounds_toArray, set_cons_zero, set_cons_succ]
          refine wpAnyH_take (i := 17) (v := ?_) rfl (by kernel_rfl) (by kernel_rfl) (by kernel_rfl) (fun _ _ _ h => h) (Or.inl ⟨by rfl, ?_⟩) (by assumption) ?_
          rotate_left
          · intro w h; (try dsimp only at h); first | (go_simp; done) | (go_simp; with_reducible rfl)
          try simp only [Act.put, getElem_toArray, getElem_cons_succ, getElem_cons_zero, setIfInBounds_toArray, set_cons_zero, set_cons_succ]
          refine wpAnyH_take (i := 19) (v := ?_) rfl (by kernel_rfl) (by kernel_rfl) (by kernel_rfl) (fun _ _ _ h => h) (Or.inl ⟨by rfl, ?_⟩) (by assumption) ?_
          rotate_left
          · intro w h; (try dsimp only at h); first | (go_simp; done) | (go_simp; with_reducible rfl)
          try simp only [Act.put, getElem_toArray, getElem_cons_succ, getElem_cons_zero, setIfInBounds_toArray, set_cons_zero, set_cons_succ]
          refine wpAnyH_ready (rs := [18]) (by kernel_rfl) (by simp) ?_
          refine AllReadyH.cons rfl (fun K hK => ?_) AllReadyH.nil
          go_simp
          refine (phas_any cM cR v HU.out.1 HU.out.2.1 _ _ (Ok.refl _)).mono ?_
          rintro e u2 ⟨rfl, hc⟩
          rw [HH.out]
          have HQ2 : Hid (Six w0 g gm gn gj cM cR dM dR eM eR mM mR jM jR u2) := HQ1.out.step hc
          clear hc
          clear c0 c1 d0 d1 m0 m1 n0 n1 j0 j1
          obtain ⟨c0, c1⟩ := CG_facts HQ2.out.1
          obtain ⟨d0, d1⟩ := CG_facts HQ2.out.2.1
          obtain ⟨m0, m1⟩ := CG_facts HQ2.out.2.2.2.1
          obtain ⟨n0, n1⟩ := CG_facts HQ2.out.2.2.2.2.1
          obtain ⟨j0, j1⟩ := CG_facts HQ2.out.2.2.2.2.2.1
          go_wp2_with fail
          refine hK.out _ _ (by (try dsimp only); go_keep) (fun hHeld => ?_)
          clear hK K
          try simp only [Act.put, getElem_toArray, getElem_cons_succ, getElem_cons_zero, setIfInBounds_toArray, set_cons_zero, set_cons_succ]
          refine wpAnyH_take (i := 20) (v := ?_) rfl (by kernel_rfl) (by kernel_rfl) (by kernel_rfl) (fun _ _ _ h => h) (Or.inl ⟨by rfl, ?_⟩) (by assumption) ?_
          rotate_left
          · intro w h; (try dsimp only at h); first | (go_simp; done) | (go_simp; with_reducible rfl)
          try simp only [Act.put, getElem_toArray, getElem_cons_succ, getElem_cons_zero, setIfInBounds_toArray, set_cons_zero, set_cons_succ]
          refine wpAnyH_take (i := 21) (v := ?_) rfl (by kernel_rfl) (by kernel_rfl) (by kernel_rfl) (fun _ _ _ h => h) (Or.inl ⟨by rfl, ?_⟩) (by assumption) ?_
          rotate_left
          · intro w h; (try dsimp only at h); first | (go_simp; done) | (go_simp; with_reducible rfl)
          try simp only [Act.put, getElem_toArray, getElem_cons_succ, getElem_cons_zero, setIfInBounds_toArray, set_cons_zero, set_cons_succ]
          refine wpAnyH_take (i := 22) (v := ?_) rfl (by kernel_rfl) (by kernel_rfl) (by kernel_rfl) (fun _ _ _ h => h) (Or.inl ⟨by rfl, ?_⟩) (by assumption) ?_
          rotate_left
          · intro w h; (try dsimp only at h); first | (go_simp; done) | (go_simp; with_reducible rfl)
          try simp only [Act.put, getElem_toArray, getElem_cons_succ, getElem_cons_zero, setIfInBounds_toArray, set_cons_zero, set_cons_succ]
          refine wpAnyH_take (i := 23) (v := ?_) rfl (by kernel_rfl) (by kernel_rfl) (by kernel_rfl) (fun _ _ _ h => h) (Or.inl ⟨by rfl, ?_⟩) (by assumption) ?_
          rotate_left
          · intro w h; (try dsimp only at h); first | (go_simp; done) | (go_simp; with_reducible rfl)
          try simp only [Act.put, getElem_toArray, getElem_cons_succ, getElem_cons_zero, setIfInBounds_toArray, set_cons_zero, set_cons_succ]
          refine wpAnyH_take (i := 24) (v := ?_) rfl (by kernel_rfl) (by kernel_rfl) (by kernel_rfl) (fun _ _ _ h => h) (Or.inl ⟨by rfl, ?_⟩) (by assumption) ?_
          rotate_left
          · intro w h; (try dsimp only at h); first | (go_simp; done) | (go_simp; with_reducible rfl)
          try simp only [Act.put, getElem_toArray, getElem_cons_succ, getElem_cons_zero, setIfInBounds_toArray, set_cons_zero, set_cons_succ]
          refine wpAnyH_take (i := 25) (v := ?_) rfl (by kernel_rfl) (by kernel_rfl) (by kernel_rfl) (fun _ _ _ h => h) (Or.inl ⟨by rfl, ?_⟩) (by assumption) ?_
          rotate_left
          · intro w h; (try dsimp only at h); first | (go_simp; done) | (go_simp; with_reducible rfl)
          try simp only [Act.put, getElem_toArray, getElem_cons_succ, getElem_cons_zero, setIfInBounds_toArray, set_cons_zero, set_cons_succ]
          refine wpAnyH_take (i := 26) (v := ?_) rfl (by kernel_rfl) (by kernel_rfl) (by kernel_rfl) (fun _ _ _ h => h) (Or.inl ⟨by rfl, ?_⟩) (by assumption) ?_
          rotate_left
          · intro w h; (try dsimp only at h); first | (go_simp; done) | (go_simp; with_reducible rfl)
          try simp only [Act.put, getElem_toArray, getElem_cons_succ, getElem_cons_zero, setIfInBounds_toArray, set_cons_zero, set_cons_succ]
          refine wpAnyH_take (i := 29) (v := ?_) rfl (by kernel_rfl) (by kernel_rfl) (by kernel_rfl) (fun _ _ _ h => h) (Or.inl ⟨by rfl, ?_⟩) (by assumption) ?_
          rotate_left
          · intro w h; (try dsimp only at h); first | (go_simp; done) | (go_simp; with_reducible rfl)
          try simp only [Act.put, getElem_toArray, getElem_cons_succ, getElem_cons_zero, setIfInBounds_toArray, set_cons_zero, set_cons_succ]
          refine wpAnyH_ready (rs := [27]) (by kernel_rfl) (by simp) ?_
          refine AllReadyH.cons rfl (fun K hK => ?_) AllReadyH.nil
          go_simp
          refine (linside_any mM mR v HF.out.2.2.1.1 HF.out.2.2.1.2 HU.out.2.2.2.2.2.2 _ _ (Ok.refl _)).mono ?_
          rintro e u3 ⟨⟨b, rfl, hbb⟩, hc⟩
          obtain rfl : b = false := HIM.out b hbb
          clear hbb
          have HQ3 : Hid (Six w0 g gm gn gj cM cR dM dR eM eR mM mR jM jR u3) := HQ2.out.step hc
          clear hc
          clear c0 c1 d0 d1 m0 m1 n0 n1 j0 j1
          obtain ⟨c0, c1⟩ := CG_facts HQ3.out.1
          obtain ⟨d0, d1⟩ := CG_facts HQ3.out.2.1
          obtain ⟨m0, m1⟩ := CG_facts HQ3.out.2.2.2.1
          obtain ⟨n0, n1⟩ := CG_facts HQ3.out.2.2.2.2.1
          obtain ⟨j0, j1⟩ := CG_facts HQ3.out.2.2.2.2.2.1
          go_wp2_with fail
          refine hK.out _ _ (by (try dsimp only); go_keep) (fun hHeld => ?_)
          clear hK K
          try simp only [Act.put, getElem_toArray, getElem_cons_succ, getElem_cons_zero, setIfInBounds_toArray, set_cons_zero, set_cons_succ]
          refine wpAnyH_take (i := 28) (v := ?_) rfl (by kernel_rfl) (by kernel_rfl) (by kernel_rfl) (fun _ _ _ h => h) (Or.inl ⟨by rfl, ?_⟩) (by assumption) ?_
          rotate_left
          · intro w h; (try dsimp only at h); first | (go_simp; done) | (go_simp; with_reducible rfl)
          try simp only [Act.put, getElem_toArray, getElem_cons_succ, getElem_cons_zero, setIfInBounds_toArray, set_cons_zero, set_cons_succ]
          refine wpAnyH_take (i := 30) (v := ?_) rfl (by kernel_rfl) (by kernel_rfl) (by kernel_rfl) (fun _ _ _ h => h) (Or.inl ⟨by rfl, ?_⟩) (by assumption) ?_
          rotate_left
          · intro w h; (try dsimp only at h); first | (go_simp; done) | (go_simp; with_reducible rfl)
          try simp only [Act.put, getElem_toArray, getElem_cons_succ, getElem_cons_zero, setIfInBounds_toArray, set_cons_zero, set_cons_succ]
          refine wpAnyH_take (i := 31) (v := undef) rfl (by kernel_rfl) (by kernel_rfl) (by kernel_rfl) (fun _ _ _ h => h) (Or.inr ⟨by rfl, rfl⟩) (by assumption) ?_
          try simp only [Act.put, getElem_toArray, getElem_cons_succ, getElem_cons_zero, setIfInBounds_toArray, set_cons_zero, set_cons_succ]
          refine wpAnyH_take (i := 32) (v := ?_) rfl (by kernel_rfl) (by kernel_rfl) (by kernel_rfl) (fun _ _ _ h => h) (Or.inl ⟨by rfl, ?_⟩) (by assumption) ?_
          rotate_left
          · intro w h; (try dsimp only at h); first | (go_simp; done) | (go_simp; with_reducible rfl)
          try simp only [Act.put, getElem_toArray, getElem_cons_succ, getElem_cons_zero, setIfInBounds_toArray, set_cons_zero, set_cons_succ]
          refine wpAnyH_take (i := 33) (v := ?_) rfl (by kernel_rfl) (by kernel_rfl) (by kernel_rfl) (fun _ _ _ h => h) (Or.inl ⟨by rfl, ?_⟩) (by assumption) ?_
          rotate_left
          · intro w h; (try dsimp only at h); first | (go_simp; done) | (go_simp; with_reducible rfl)
          try simp only [Act.put, getElem_toArray, getElem_cons_succ, getElem_cons_zero, setIfInBounds_toArray, set_cons_zero, set_cons_succ]
          refine wpAnyH_take (i := 34) (v := ?_) rfl (by kernel_rfl) (by kernel_rfl) (by kernel_rfl) (fun _ _ _ h => h) (Or.inl ⟨by rfl, ?_⟩) (by assumption) ?_
          rotate_left
          · intro w h; (try dsimp only at h); first | (go_simp; done) | (go_simp; with_reducible rfl)
          try simp only [Act.put, getElem_toArray, getElem_cons_succ, getElem_cons_zero, setIfInBounds_toArray, set_cons_zero, set_cons_succ]
          refine wpAnyH_take (i := 35) (v := ?_) rfl (by kernel_rfl) (by kernel_rfl) (by kernel_rfl) (fun _ _ _ h => h) (Or.inl ⟨by rfl, ?_⟩) (by assumption) ?_
          rotate_left
          · intro w h; (try dsimp only at h); first | (go_simp; done) | (go_simp; with_reducible rfl)
          try simp only [Act.put, getElem_toArray, getElem_cons_succ, getElem_cons_zero, setIfInBounds_toArray, set_cons_zero, set_cons_succ]
          refine wpAnyH_take (i := 36) (v := ?_) rfl (by kernel_rfl) (by kernel_rfl) (by kernel_rfl) (fun _ _ _ h => h) (Or.inl ⟨by rfl, ?_⟩) (by assumption) ?_
          rotate_left
          · intro w h; (try dsimp only at h); first | (go_simp; done) | (go_simp; with_reducible rfl)
          try simp only [Act.put, getElem_toArray, getElem_cons_succ, getElem_cons_zero, setIfInBounds_toArray, set_cons_zero, set_cons_succ]
          refine wpAnyH_take (i := 37) (v := ?_) rfl (by kernel_rfl) (by kernel_rfl) (by kernel_rfl) (fun _ _ _ h => h) (Or.inl ⟨by rfl, ?_⟩) (by assumption) ?_
          rotate_left
          · intro w h; (try dsimp only at h); first | (go_simp; done) | (go_simp; with_reducible rfl)
          try simp only [Act.put, getElem_toArray, getElem_cons_succ, getElem_cons_zero, setIfInBounds_toArray, set_cons_zero, set_cons_succ]
          refine wpAnyH_take (i := 38) (v := ?_) rfl (by kernel_rfl) (by kernel_rfl) (by kernel_rfl) (fun _ _ _ h => h) (Or.inl ⟨by rfl, ?_⟩) (by assumption) ?_
          rotate_left
          · intro w h; (try dsimp only at h); first | (go_simp; done) | (go_simp; with_reducible rfl)
          try simp only [Act.put, getElem_toArray, getElem_cons_succ, getElem_cons_zero, setIfInBounds_toArray, set_cons_zero, set_cons_succ]
          refine wpAnyH_take (i := 39) (v := ?_) rfl (by kernel_rfl) (by kernel_rfl) (by kernel_rfl) (fun _ _ _ h => h) (Or.inl ⟨by rfl, ?_⟩) (by assumption) ?_
          rotate_left
          · intro w h; (try dsimp only at h); first | (go_simp; done) | (go_simp; with_reducible rfl)
          try simp only [Act.put, getElem_toArray, getElem_cons_succ, getElem_cons_zero, setIfInBounds_toArray, set_cons_zero, set_cons_succ]
          refine wpAnyH_take (i := 40) (v := ?_) rfl (by kernel_rfl) (by kernel_rfl) (by kernel_rfl) (fun _ _ _ h => h) (Or.inl ⟨by rfl, ?_⟩) (by assumption) ?_
          rotate_left
          · intro w h; (try dsimp only at h); first | (go_simp; done) | (go_simp; with_reducible rfl)
          try simp only [Act.put, getElem_toArray, getElem_cons_succ, getElem_cons_zero, setIfInBounds_toArray, set_cons_zero, set_cons_succ]
          refine wpAnyH_take (i := 41) (v := undef) rfl (by kernel_rfl) (by kernel_rfl) (by kernel_rfl) (fun _ _ _ h => h) (Or.inr ⟨by rfl, rfl⟩) (by assumption) ?_
          try simp only [Act.put, getElem_toArray, getElem_cons_succ, getElem_cons_zero, setIfInBounds_toArray, set_cons_zero, set_cons_succ]
          refine wpAnyH_take (i := 42) (v := undef) rfl (by kernel_rfl) (by kernel_rfl) (by kernel_rfl) (fun _ _ _ h => h) (Or.inr ⟨by rfl, rfl⟩) (by assumption) ?_
          try simp only [Act.put, getElem_toArray, getElem_cons_succ, getElem_cons_zero, setIfInBounds_toArray, set_cons_zero, set_cons_succ]
          refine wpAnyH_take (i := 43) (v := undef) rfl (by kernel_rfl) (by kernel_rfl) (by kernel_rfl) (fun _ _ _ h => h) (Or.inr ⟨by rfl, rfl⟩) (by assumption) ?_
          try simp only [Act.put, getElem_toArray, getElem_cons_succ, getElem_cons_zero, setIfInBounds_toArray, set_cons_zero, set_cons_succ]
          refine wpAnyH_take (i := 44) (v := undef) rfl (by kernel_rfl) (by kernel_rfl) (by kernel_rfl) (fun _ _ _ h => h) (Or.inr ⟨by rfl, rfl⟩) (by assumption) ?_
          try simp only [Act.put, getElem_toArray, getElem_cons_succ, getElem_cons_zero, setIfInBounds_toArray, set_cons_zero, set_cons_succ]
          refine wpAnyH_take (i := 45) (v := ?_) rfl (by kernel_rfl) (by kernel_rfl) (by kernel_rfl) (fun _ _ _ h => h) (Or.inl ⟨by rfl, ?_⟩) (by assumption) ?_
          rotate_left
          · intro w h; (try dsimp only at h); first | (go_simp; done) | (go_simp; with_reducible rfl)
          try simp only [Act.put, getElem_toArray, getElem_cons_succ, getElem_cons_zero, setIfInBounds_toArray, set_cons_zero, set_cons_succ]
          refine wpAnyH_take (i := 46) (v := ?_) rfl (by kernel_rfl) (by kernel_rfl) (by kernel_rfl) (fun _ _ _ h => h) (Or.inl ⟨by rfl, ?_⟩) (by assumption) ?_
          rotate_left
          · intro w h; (try dsimp only at h); first | (go_simp; done) | (go_simp; with_reducible rfl)
          try simp only [Act.put, getElem_toArray, getElem_cons_succ, getElem_cons_zero, setIfInBounds_toArray, set_cons_zero, set_cons_succ]
          refine wpAnyH_done (by kernel_rfl) ?_ _
          go_wp2_with fail
          exact HT7.out _ _ _ _ _ _ _ _ _ _ _ _ _ _ _ _ _ _ _ _ _ _ _ _ _ _ _ _ _ _ _ _ _ _ _ _ _ _ _ _ _ _ _ _ _ _ _ _ HQ3.out
      · skip
        as_aux_lemma =>
          have HH : Hid (hasC cM cR v = false) := by
            have h := hasC_iff (M := cM) HU.out.2.1 HU.out.2.2.2.2.2.2
            rw [← HB.out.1] at h
            exact Bool.eq_false_iff.2 (fun a => by have := h.1 a; cases this)
          have HIM : Hid (∀ b : Bool, (b = true ↔ MemC mM mR v) → b = false) := by
            intro b hb
            refine Bool.eq_false_iff.2 (fun a => ?_)
            have h := HF.out.1.1 ⟨rfl, hb.1 a⟩
            have := HB.out.1.2 h.1
            cases this
          have HIJ : Hid (MemC jM jR v) := HJ.out.2.2.2.1 v (HB.out.2.1 rfl)
          have HQ0 : Hid (Six w0 g gm gn gj cM cR dM dR eM eR mM mR jM jR V.drew) := HS1.out.step (Below.drew (Ok.refl _))
          obtain ⟨c0, c1⟩ := CG_facts HS1.out.1
          obtain ⟨d0, d1⟩ := CG_facts HS1.out.2.1
          obtain ⟨m0, m1⟩ := CG_facts HS1.out.2.2.2.1
          obtain ⟨n0, n1⟩ := CG_facts HS1.out.2.2.2.2.1
          obtain ⟨j0, j1⟩ := CG_facts HS1.out.2.2.2.2.2.1
          refine wp_region_held_drew (S := (fun w' => w'.cell? ⟨g, 0, none⟩ = some (.int .u64 (cM : Int)) ∧ w'.cell? ⟨g, 1, none⟩ = some (.int .u64 (cR : Int)) ∧ w'.cell? ⟨g + 1, 0, none⟩ = some (.int .u64 (dM : Int)) ∧ w'.cell? ⟨g + 1, 1, none⟩ = some (.int .u64 (dR : Int)) ∧ w'.cell? ⟨gm, 0, none⟩ = some (.int .u64 (mM : Int)) ∧ w'.cell? ⟨gm, 1, none⟩ = some (.int .u64 (mR : Int)) ∧ w'.cell? ⟨gn, 0, none⟩ = some (.int .u64 (mM : Int)) ∧ w'.cell? ⟨gn, 1, none⟩ = some (.int .u64 (mR : Int)) ∧ w'.cell? ⟨gj, 0, none⟩ = some (.int .u64 (jM : Int)) ∧ w'.cell? ⟨gj, 1, none⟩ = some (.int .u64 (jR : Int)))) (by kernel_rfl) (by (try dsimp only); go_keep) (fun hHeld => ?_)
          refine wpAnyH_take (i := 0) (v := ?_) rfl (by kernel_rfl) (by kernel_rfl) (by kernel_rfl) (fun _ _ _ h => h) (Or.inl ⟨by rfl, ?_⟩) (by assumption) ?_
          rotate_left
          · intro w h; (try dsimp only at h); first | (go_simp; done) | (go_simp; with_reducible rfl)
          try simp only [Act.put, getElem_toArray, getElem_cons_succ, getElem_cons_zero, setIfInBounds_toArray, set_cons_zero, set_cons_succ]
          refine wpAnyH_take (i := 1) (v := ?_) rfl (by kernel_rfl) (by kernel_rfl) (by kernel_rfl) (fun _ _ _ h => h) (Or.inl ⟨by rfl, ?_⟩) (by assumption) ?_
          rotate_left
          · intro w h; (try dsimp only at h); first | (go_simp; done) | (go_simp; with_reducible rfl)
          try simp only [Act.put, getElem_toArray, getElem_cons_succ, getElem_cons_zero, setIfInBounds_toArray, set_cons_zero, set_cons_succ]
          refine wpAnyH_take (i := 2) (v := ?_) rfl (by kernel_rfl) (by kernel_rfl) (by kernel_rfl) (fun _ _ _ h => h) (Or.inl ⟨by rfl, ?_⟩) (by assumption) ?_
          rotate_left
          · intro w h; (try dsimp only at h); first | (go_simp; done) | (go_simp; with_reducible rfl)
          try simp only [Act.put, getElem_toArray, getElem_cons_succ, getElem_cons_zero, setIfInBounds_toArray, set_cons_zero, set_cons_succ]
          refine wpAnyH_take (i := 3) (v := ?_) rfl (by kernel_rfl) (by kernel_rfl) (by kernel_rfl) (fun _ _ _ h => h) (Or.inl ⟨by rfl, ?_⟩) (by assumption) ?_
          rotate_left
          · intro w h; (try dsimp only at h); first | (go_simp; done) | (go_simp; with_reducible rfl)
          try simp only [Act.put, getElem_toArray, getElem_cons_succ, getElem_cons_zero, setIfInBounds_toArray, set_cons_zero, set_cons_succ]
          refine wpAnyH_take (i := 4) (v := ?_) rfl (by kernel_rfl) (by kernel_rfl) (by kernel_rfl) (fun _ _ _ h => h) (Or.inl ⟨by rfl, ?_⟩) (by assumption) ?_
          rotate_left
          · intro w h; (try dsimp only at h); first | (go_simp; done) | (go_simp; with_reducible rfl)
          try simp only [Act.put, getElem_toArray, getElem_cons_succ, getElem_cons_zero, setIfInBounds_toArray, set_cons_zero, set_cons_succ]
          refine wpAnyH_take (i := 5) (v := ?_) rfl (by kernel_rfl) (by kernel_rfl) (by kernel_rfl) (fun _ _ _ h => h) (Or.inl ⟨by rfl, ?_⟩) (by assumption) ?_
          rotate_left
          · intro w h; (try dsimp only at h); first | (go_simp; done) | (go_simp; with_reducible rfl)
          try simp only [Act.put, getElem_toArray, getElem_cons_succ, getElem_cons_zero, setIfInBounds_toArray, set_cons_zero, set_cons_succ]
          refine wpAnyH_take (i := 6) (v := ?_) rfl (by kernel_rfl) (by kernel_rfl) (by kernel_rfl) (fun _ _ _ h => h) (Or.inl ⟨by rfl, ?_⟩) (by assumption) ?_
          rotate_left
          · intro w h; (try dsimp only at h); first | (go_simp; done) | (go_simp; with_reducible rfl)
          try simp only [Act.put, getElem_toArray, getElem_cons_succ, getElem_cons_zero, setIfInBounds_toArray, set_cons_zero, set_cons_succ]
          refine wpAnyH_take (i := 7) (v := ?_) rfl (by kernel_rfl) (by kernel_rfl) (by kernel_rfl) (fun _ _ _ h => h) (Or.inl ⟨by rfl, ?_⟩) (by assumption) ?_
          rotate_left
          · intro w h; (try dsimp only at h); first | (go_simp; done) | (go_simp; with_reducible rfl)
          try simp only [Act.put, getElem_toArray, getElem_cons_succ, getElem_cons_zero, setIfInBounds_toArray, set_cons_zero, set_cons_succ]
          refine wpAnyH_take (i := 8) (v := ?_) rfl (by kernel_rfl) (by kernel_rfl) (by kernel_rfl) (fun _ _ _ h => h) (Or.inl ⟨by rfl, ?_⟩) (by assumption) ?_
          rotate_left
          · intro w h; (try dsimp only at h); first | (go_simp; done) | (go_simp; with_reducible rfl)
          try simp only [Act.put, getElem_toArray, getElem_cons_succ, getElem_cons_zero, setIfInBounds_toArray, set_cons_zero, set_cons_succ]
          refine wpAnyH_take (i := 9) (v := ?_) rfl (by kernel_rfl) (by kernel_rfl) (by kernel_rfl) (fun _ _ _ h => h) (Or.inl ⟨by rfl, ?_⟩) (by assumption) ?_
          rotate_left
          · intro w h; (try dsimp only at h); first | (go_simp; done) | (go_simp; with_reducible rfl)
          try simp only [Act.put, getElem_toArray, getElem_cons_succ, getElem_cons_zero, setIfInBounds_toArray, set_cons_zero, set_cons_succ]
          refine wpAnyH_take (i := 10) (v := ?_) rfl (by kernel_rfl) (by kernel_rfl) (by kernel_rfl) (fun _ _ _ h => h) (Or.inl ⟨by rfl, ?_⟩) (by assumption) ?_
          rotate_left
          · intro w h; (try dsimp only at h); first | (go_simp; done) | (go_simp; with_reducible rfl)
          try simp only [Act.put, getElem_toArray, getElem_cons_succ, getElem_cons_zero, setIfInBounds_toArray, set_cons_zero, set_cons_succ]
          refine wpAnyH_take (i := 11) (v := ?_) rfl (by kernel_rfl) (by kernel_rfl) (by kernel_rfl) (fun _ _ _ h => h) (Or.inl ⟨by rfl, ?_⟩) (by assumption) ?_
          rotate_left
          · intro w h; (try dsimp only at h); first | (go_simp; done) | (go_simp; with_reducible rfl)
          try simp only [Act.put, getElem_toArray, getElem_cons_succ, getElem_cons_zero, setIfInBounds_toArray, set_cons_zero, set_cons_succ]
          refine wpAnyH_ready (rs := [12]) (by kernel_rfl) (by simp) ?_
          refine AllReadyH.cons rfl (fun K hK => ?_) AllReadyH.nil
          go_simp
          refine (pjoin_any dM dR cM cR HU.out.2.2.1 HU.out.2.2.2.1 HU.out.1 HU.out.2.1 _ _ (Ok.refl _)).mono ?_
          rintro e u1 ⟨rfl, hc⟩
          rw [HC2.out]
          unfold cv
          have HQ1 : Hid (Six w0 g gm gn gj cM cR dM dR eM eR mM mR jM jR u1) := HQ0.out.step hc
          clear hc
          clear c0 c1 d0 d1 m0 m1 n0 n1 j0 j1
          obtain ⟨c0, c1⟩ := CG_facts HQ1.out.1
          obtain ⟨d0, d1⟩ := CG_facts HQ1.out.2.1
          obtain ⟨m0, m1⟩ := CG_facts HQ1.out.2.2.2.1
          obtain ⟨n0, n1⟩ := CG_facts HQ1.out.2.2.2.2.1
          obtain ⟨j0, j1⟩ := CG_facts HQ1.out.2.2.2.2.2.1
          go_wp2_with fail
          refine hK.out _ _ (by (try dsimp only); go_keep) (fun hHeld => ?_)
          clear hK K
          try simp only [Act.put, getElem_toArray, getElem_cons_succ, getElem_cons_zero, setIfInBounds_toArray, set_cons_zero, set_cons_succ]
          refine wpAnyH_take (i := 13) (v := ?_) rfl (by kernel_rfl) (by kernel_rfl) (by kernel_rfl) (fun _ _ _ h => h) (Or.inl ⟨by rfl, ?_⟩) (by assumption) ?_
          rotate_left
          · intro w h; (try dsimp only at h); first | (go_simp; done) | (go_simp; with_reducible rfl)
          try simp only [Act.put, getElem_toArray, getElem_cons_succ, getElem_cons_zero, setIfInBounds_toArray, set_cons_zero, set_cons_succ]
          refine wpAnyH_take (i := 14) (v := ?_) rfl (by kernel_rfl) (by kernel_rfl) (by kernel_rfl) (fun _ _ _ h => h) (Or.inl ⟨by rfl, ?_⟩) (by assumption) ?_
          rotate_left
          · intro w h; (try dsimp only at h); first | (go_simp; done) | (go_simp; with_reducible rfl)
          try simp only [Act.put, getElem_toArray, getElem_cons_succ, getElem_cons_zero, setIfInBounds_toArray, set_cons_zero, set_cons_succ]
          refine wpAnyH_take (i := 15) (v := ?_) rfl (by kernel_rfl) (by kernel_rfl) (by kernel_rfl) (fun _ _ _ h => h) (Or.inl ⟨by rfl, ?_⟩) (by assumption) ?_
          rotate_left
          · intro w h; (try dsimp only at h); first | (go_simp; done) | (go_simp; with_reducible rfl)
          try simp only [Act.put, getElem_toArray, getElem_cons_succ, getElem_cons_zero, setIfInBounds_toArray, set_cons_zero, set_cons_succ]
          refine wpAnyH_take (i := 16) (v := ?_) rfl (by kernel_rfl) (by kernel_rfl) (by kernel_rfl) (fun _ _ _ h => h) (Or.inl ⟨by rfl, ?_⟩) (by assumption) ?_
          rotate_left
          · intro w h; (try dsimp only at h); first | (go_simp; done) | (go_simp; with_reducible rfl)
          try simp only [Act.put, getElem_toArray, getElem_cons_succ, getElem_cons_zero, setIfInBounds_toArray, set_cons_zero, set_cons_succ]
          refine wpAnyH_take (i := 17) (v := ?_) rfl (by kernel_rfl) (by kernel_rfl) (by kernel_rfl) (fun _ _ _ h => h) (Or.inl ⟨by rfl, ?_⟩) (by assumption) ?_
          rotate_left
          · intro w h; (try dsimp only at h); first | (go_simp; done) | (go_simp; with_reducible rfl)
          try simp only [Act.put, getElem_toArray, getElem_cons_succ, getElem_cons_zero, setIfInBounds_toArray, set_cons_zero, set_cons_succ]
          refine wpAnyH_take (i := 19) (v := ?_) rfl (by kernel_rfl) (by kernel_rfl) (by kernel_rfl) (fun _ _ _ h => h) (Or.inl ⟨by rfl, ?_⟩) (by assumption) ?_
          rotate_left
          · intro w h; (try dsimp only at h); first | (go_simp; done) | (go_simp; with_reducible rfl)
          try simp only [Act.put, getElem_toArray, getElem_cons_succ, getElem_cons_zero, setIfInBounds_toArray, set_cons_zero, set_cons_succ]
          refine wpAnyH_ready (rs := [18]) (by kernel_rfl) (by simp) ?_
          refine AllReadyH.cons rfl (fun K hK => ?_) AllReadyH.nil
          go_simp
          refine (phas_any cM cR v HU.out.1 HU.out.2.1 _ _ (Ok.refl _)).mono ?_
          rintro e u2 ⟨rfl, hc⟩
          rw [HH.out]
          have HQ2 : Hid (Six w0 g gm gn gj cM cR dM dR eM eR mM mR jM jR u2) := HQ1.out.step hc
          clear hc
          clear c0 c1 d0 d1 m0 m1 n0 n1 j0 j1
          obtain ⟨c0, c1⟩ := CG_facts HQ2.out.1
          obtain ⟨d0, d1⟩ := CG_facts HQ2.out.2.1
          obtain ⟨m0, m1⟩ := CG_facts HQ2.out.2.2.2.1
          obtain ⟨n0, n1⟩ := CG_facts HQ2.out.2.2.2.2.1
          obtain ⟨j0, j1⟩ := CG_facts HQ2.out.2.2.2.2.2.1
          go_wp2_with fail
          refine hK.out _ _ (by (try dsimp only); go_keep) (fun hHeld => ?_)
          clear hK K
          try simp only [Act.put, getElem_toArray, getElem_cons_succ, getElem_cons_zero, setIfInBounds_toArray, set_cons_zero, set_cons_succ]
          refine wpAnyH_take (i := 20) (v := ?_) rfl (by kernel_rfl) (by kernel_rfl) (by kernel_rfl) (fun _ _ _ h => h) (Or.inl ⟨by rfl, ?_⟩) (by assumption) ?_
          rotate_left
          · intro w h; (try dsimp only at h); first | (go_simp; done) | (go_simp; with_reducible rfl)
          try simp only [Act.put, getElem_toArray, getElem_cons_succ, getElem_cons_zero, setIfInBounds_toArray, set_cons_zero, set_cons_succ]
          refine wpAnyH_take (i := 21) (v := ?_) rfl (by kernel_rfl) (by kernel_rfl) (by kernel_rfl) (fun _ _ _ h => h) (Or.inl ⟨by rfl, ?_⟩) (by assumption) ?_
          rotate_left
          · intro w h; (try dsimp only at h); first | (go_simp; done) | (go_simp; with_reducible rfl)
          try simp only [Act.put, getElem_toArray, getElem_cons_succ, getElem_cons_zero, setIfInBounds_toArray, set_cons_zero, set_cons_succ]
          refine wpAnyH_take (i := 22) (v := ?_) rfl (by kernel_rfl) (by kernel_rfl) (by kernel_rfl) (fun _ _ _ h => h) (Or.inl ⟨by rfl, ?_⟩) (by assumption) ?_
          rotate_left
          · intro w h; (try dsimp only at h); first | (go_simp; done) | (go_simp; with_reducible rfl)
          try simp only [Act.put, getElem_toArray, getElem_cons_succ, getElem_cons_zero, setIfInBounds_toArray, set_cons_zero, set_cons_succ]
          refine wpAnyH_take (i := 23) (v := ?_) rfl (by kernel_rfl) (by kernel_rfl) (by kernel_rfl) (fun _ _ _ h => h) (Or.inl ⟨by rfl, ?_⟩) (by assumption) ?_
          rotate_left
          · intro w h; (try dsimp only at h); first | (go_simp; done) | (go_simp; with_reducible rfl)
          try simp only [Act.put, getElem_toArray, getElem_cons_succ, getElem_cons_zero, setIfInBounds_toArray, set_cons_zero, set_cons_succ]
          refine wpAnyH_take (i := 24) (v := ?_) rfl (by kernel_rfl) (by kernel_rfl) (by kernel_rfl) (fun _ _ _ h => h) (Or.inl ⟨by rfl, ?_⟩) (by assumption) ?_
          rotate_left
          · intro w h; (try dsimp only at h); first | (go_simp; done) | (go_simp; with_reducible rfl)
          try simp only [Act.put, getElem_toArray, getElem_cons_succ, getElem_cons_zero, setIfInBounds_toArray, set_cons_zero, set_cons_succ]
          refine wpAnyH_take (i := 25) (v := ?_) rfl (by kernel_rfl) (by kernel_rfl) (by kernel_rfl) (fun _ _ _ h => h) (Or.inl ⟨by rfl, ?_⟩) (by assumption) ?_
          rotate_left
          · intro w h; (try dsimp only at h); first | (go_simp; done) | (go_simp; with_reducible rfl)
          try simp only [Act.put, getElem_toArray, getElem_cons_succ, getElem_cons_zero, setIfInBounds_toArray, set_cons_zero, set_cons_succ]
          refine wpAnyH_take (i := 26) (v := ?_) rfl (by kernel_rfl) (by kernel_rfl) (by kernel_rfl) (fun _ _ _ h => h) (Or.inl ⟨by rfl, ?_⟩) (by assumption) ?_
          rotate_left
          · intro w h; (try dsimp only at h); first | (go_simp; done) | (go_simp; with_reducible rfl)
          try simp only [Act.put, getElem_toArray, getElem_cons_succ, getElem_cons_zero, setIfInBounds_toArray, set_cons_zero, set_cons_succ]
          refine wpAnyH_take (i := 29) (v := ?_) rfl (by kernel_rfl) (by kernel_rfl) (by kernel_rfl) (fun _ _ _ h => h) (Or.inl ⟨by rfl, ?_⟩) (by assumption) ?_
          rotate_left
          · intro w h; (try dsimp only at h); first | (go_simp; done) | (go_simp; with_reducible rfl)
          try simp only [Act.put, getElem_toArray, getElem_cons_succ, getElem_cons_zero, setIfInBounds_toArray, set_cons_zero, set_cons_succ]
          refine wpAnyH_ready (rs := [27]) (by kernel_rfl) (by simp) ?_
          refine AllReadyH.cons rfl (fun K hK => ?_) AllReadyH.nil
          go_simp
          refine (linside_any mM mR v HF.out.2.2.1.1 HF.out.2.2.1.2 HU.out.2.2.2.2.2.2 _ _ (Ok.refl _)).mono ?_
          rintro e u3 ⟨⟨b, rfl, hbb⟩, hc⟩
          obtain rfl : b = false := HIM.out b hbb
          clear hbb
          have HQ3 : Hid (Six w0 g gm gn gj cM cR dM dR eM eR mM mR jM jR u3) := HQ2.out.step hc
          clear hc
          clear c0 c1 d0 d1 m0 m1 n0 n1 j0 j1
          obtain ⟨c0, c1⟩ := CG_facts HQ3.out.1
          obtain ⟨d0, d1⟩ := CG_facts HQ3.out.2.1
          obtain ⟨m0, m1⟩ := CG_facts HQ3.out.2.2.2.1
          obtain ⟨n0, n1⟩ := CG_facts HQ3.out.2.2.2.2.1
          obtain ⟨j0, j1⟩ := CG_facts HQ3.out.2.2.2.2.2.1
          go_wp2_with fail
          refine hK.out _ _ (by (try dsimp only); go_keep) (fun hHeld => ?_)
          clear hK K
          try simp only [Act.put, getElem_toArray, getElem_cons_succ, getElem_cons_zero, setIfInBounds_toArray, set_cons_zero, set_cons_succ]
          refine wpAnyH_take (i := 28) (v := ?_) rfl (by kernel_rfl) (by kernel_rfl) (by kernel_rfl) (fun _ _ _ h => h) (Or.inl ⟨by rfl, ?_⟩) (by assumption) ?_
          rotate_left
          · intro w h; (try dsimp only at h); first | (go_simp; done) | (go_simp; with_reducible rfl)
          try simp only [Act.put, getElem_toArray, getElem_cons_succ, getElem_cons_zero, setIfInBounds_toArray, set_cons_zero, set_cons_succ]
          refine wpAnyH_take (i := 30) (v := ?_) rfl (by kernel_rfl) (by kernel_rfl) (by kernel_rfl) (fun _ _ _ h => h) (Or.inl ⟨by rfl, ?_⟩) (by assumption) ?_
          rotate_left
          · intro w h; (try dsimp only at h); first | (go_simp; done) | (go_simp; with_reducible rfl)
          try simp only [Act.put, getElem_toArray, getElem_cons_succ, getElem_cons_zero, setIfInBounds_toArray, set_cons_zero, set_cons_succ]
          refine wpAnyH_take (i := 31) (v := undef) rfl (by kernel_rfl) (by kernel_rfl) (by kernel_rfl) (fun _ _ _ h => h) (Or.inr ⟨by rfl, rfl⟩) (by assumption) ?_
          try simp only [Act.put, getElem_toArray, getElem_cons_succ, getElem_cons_zero, setIfInBounds_toArray, set_cons_zero, set_cons_succ]
          refine wpAnyH_take (i := 32) (v := ?_) rfl (by kernel_rfl) (by kernel_rfl) (by kernel_rfl) (fun _ _ _ h => h) (Or.inl ⟨by rfl, ?_⟩) (by assumption) ?_
          rotate_left
          · intro w h; (try dsimp only at h); first | (go_simp; done) | (go_simp; with_reducible rfl)
          try simp only [Act.put, getElem_toArray, getElem_cons_succ, getElem_cons_zero, setIfInBounds_toArray, set_cons_zero, set_cons_succ]
          refine wpAnyH_take (i := 33) (v := ?_) rfl (by kernel_rfl) (by kernel_rfl) (by kernel_rfl) (fun _ _ _ h => h) (Or.inl ⟨by rfl, ?_⟩) (by assumption) ?_
          rotate_left
          · intro w h; (try dsimp only at h); first | (go_simp; done) | (go_simp; with_reducible rfl)
          try simp only [Act.put, getElem_toArray, getElem_cons_succ, getElem_cons_zero, setIfInBounds_toArray, set_cons_zero, set_cons_succ]
          refine wpAnyH_take (i := 34) (v := ?_) rfl (by kernel_rfl) (by kernel_rfl) (by kernel_rfl) (fun _ _ _ h => h) (Or.inl ⟨by rfl, ?_⟩) (by assumption) ?_
          rotate_left
          · intro w h; (try dsimp only at h); first | (go_simp; done) | (go_simp; with_reducible rfl)
          try simp only [Act.put, getElem_toArray, getElem_cons_succ, getElem_cons_zero, setIfInBounds_toArray, set_cons_zero, set_cons_succ]
          refine wpAnyH_take (i := 35) (v := ?_) rfl (by kernel_rfl) (by kernel_rfl) (by kernel_rfl) (fun _ _ _ h => h) (Or.inl ⟨by rfl, ?_⟩) (by assumption) ?_
          rotate_left
          · intro w h; (try dsimp only at h); first | (go_simp; done) | (go_simp; with_reducible rfl)
          try simp only [Act.put, getElem_toArray, getElem_cons_succ, getElem_cons_zero, setIfInBounds_toArray, set_cons_zero, set_cons_succ]
          refine wpAnyH_take (i := 36) (v := ?_) rfl (by kernel_rfl) (by kernel_rfl) (by kernel_rfl) (fun _ _ _ h => h) (Or.inl ⟨by rfl, ?_⟩) (by assumption) ?_
          rotate_left
          · intro w h; (try dsimp only at h); first | (go_simp; done) | (go_simp; with_reducible rfl)
          try simp only [Act.put, getElem_toArray, getElem_cons_succ, getElem_cons_zero, setIfInBounds_toArray, set_cons_zero, set_cons_succ]
          refine wpAnyH_take (i := 37) (v := ?_) rfl (by kernel_rfl) (by kernel_rfl) (by kernel_rfl) (fun _ _ _ h => h) (Or.inl ⟨by rfl, ?_⟩) (by assumption) ?_
          rotate_left
          · intro w h; (try dsimp only at h); first | (go_simp; done) | (go_simp; with_reducible rfl)
          try simp only [Act.put, getElem_toArray, getElem_cons_succ, getElem_cons_zero, setIfInBounds_toArray, set_cons_zero, set_cons_succ]
          refine wpAnyH_take (i := 38) (v := ?_) rfl (by kernel_rfl) (by kernel_rfl) (by kernel_rfl) (fun _ _ _ h => h) (Or.inl ⟨by rfl, ?_⟩) (by assumption) ?_
          rotate_left
          · intro w h; (try dsimp only at h); first | (go_simp; done) | (go_simp; with_reducible rfl)
          try simp only [Act.put, getElem_toArray, getElem_cons_succ, getElem_cons_zero, setIfInBounds_toArray, set_cons_zero, set_cons_succ]
          refine wpAnyH_take (i := 39) (v := ?_) rfl (by kernel_rfl) (by kernel_rfl) (by kernel_rfl) (fun _ _ _ h => h) (Or.inl ⟨by rfl, ?_⟩) (by assumption) ?_
          rotate_left
          · intro w h; (try dsimp only at h); first | (go_simp; done) | (go_simp; with_reducible rfl)
          try simp only [Act.put, getElem_toArray, getElem_cons_succ, getElem_cons_zero, setIfInBounds_toArray, set_cons_zero, set_cons_succ]
          refine wpAnyH_take (i := 40) (v := ?_) rfl (by kernel_rfl) (by kernel_rfl) (by kernel_rfl) (fun _ _ _ h => h) (Or.inl ⟨by rfl, ?_⟩) (by assumption) ?_
          rotate_left
          · intro w h; (try dsimp only at h); first | (go_simp; done) | (go_simp; with_reducible rfl)
          try simp only [Act.put, getElem_toArray, getElem_cons_succ, getElem_cons_zero, setIfInBounds_toArray, set_cons_zero, set_cons_succ]
          refine wpAnyH_take (i := 41) (v := ?_) rfl (by kernel_rfl) (by kernel_rfl) (by kernel_rfl) (fun _ _ _ h => h) (Or.inl ⟨by rfl, ?_⟩) (by assumption) ?_
          rotate_left
          · intro w h; (try dsimp only at h); first | (go_simp; done) | (go_simp; with_reducible rfl)
          try simp only [Act.put, getElem_toArray, getElem_cons_succ, getElem_cons_zero, setIfInBounds_toArray, set_cons_zero, set_cons_succ]
          refine wpAnyH_take (i := 42) (v := ?_) rfl (by kernel_rfl) (by kernel_rfl) (by kernel_rfl) (fun _ _ _ h => h) (Or.inl ⟨by rfl, ?_⟩) (by assumption) ?_
          rotate_left
          · intro w h; (try dsimp only at h); first | (go_simp; done) | (go_simp; with_reducible rfl)
          try simp only [Act.put, getElem_toArray, getElem_cons_succ, getElem_cons_zero, setIfInBounds_toArray, set_cons_zero, set_cons_succ]
          refine wpAnyH_ready (rs := [43]) (by kernel_rfl) (by simp) ?_
          refine AllReadyH.cons rfl (fun K hK => ?_) AllReadyH.nil
          go_simp
          refine (linside_any jM jR v HJ.out.1.1 HJ.out.1.2 HU.out.2.2.2.2.2.2 _ _ (Ok.refl _)).mono ?_
          rintro e u4 ⟨⟨b, rfl, hbb⟩, hc⟩
          obtain rfl : b = true := hbb.2 HIJ.out
          clear hbb
          have HQ4 : Hid (Six w0 g gm gn gj cM cR dM dR eM eR mM mR jM jR u4) := HQ3.out.step hc
          clear hc
          clear c0 c1 d0 d1 m0 m1 n0 n1 j0 j1
          obtain ⟨c0, c1⟩ := CG_facts HQ4.out.1
          obtain ⟨d0, d1⟩ := CG_facts HQ4.out.2.1
          obtain ⟨m0, m1⟩ := CG_facts HQ4.out.2.2.2.1
          obtain ⟨n0, n1⟩ := CG_facts HQ4.out.2.2.2.2.1
          obtain ⟨j0, j1⟩ := CG_facts HQ4.out.2.2.2.2.2.1
          go_wp2_with fail
          refine hK.out _ _ (by (try dsimp only); go_keep) (fun hHeld => ?_)
          clear hK K
          try simp only [Act.put, getElem_toArray, getElem_cons_succ, getElem_cons_zero, setIfInBounds_toArray, set_cons_zero, set_cons_succ]
          refine wpAnyH_take (i := 44) (v := ?_) rfl (by kernel_rfl) (by kernel_rfl) (by kernel_rfl) (fun _ _ _ h => h) (Or.inl ⟨by rfl, ?_⟩) (by assumption) ?_
          rotate_left
          · intro w h; (try dsimp only at h); first | (go_simp; done) | (go_simp; with_reducible rfl)
          try simp only [Act.put, getElem_toArray, getElem_cons_succ, getElem_cons_zero, setIfInBounds_toArray, set_cons_zero, set_cons_succ]
          refine wpAnyH_take (i := 45) (v := ?_) rfl (by kernel_rfl) (by kernel_rfl) (by kernel_rfl) (fun _ _ _ h => h) (Or.inl ⟨by rfl, ?_⟩) (by assumption) ?_
          rotate_left
          · intro w h; (try dsimp only at h); first | (go_simp; done) | (go_simp; with_reducible rfl)
          try simp only [Act.put, getElem_toArray, getElem_cons_succ, getElem_cons_zero, setIfInBounds_toArray, set_cons_zero, set_cons_succ]
          refine wpAnyH_take (i := 46) (v := ?_) rfl (by kernel_rfl) (by kernel_rfl) (by kernel_rfl) (fun _ _ _ h => h) (Or.inl ⟨by rfl, ?_⟩) (by assumption) ?_
          rotate_left
          · intro w h; (try dsimp only at h); first | (go_simp; done) | (go_simp; with_reducible rfl)
          try simp only [Act.put, getElem_toArray, getElem_cons_succ, getElem_cons_zero, setIfInBounds_toArray, set_cons_zero, set_cons_succ]
          refine wpAnyH_done (by kernel_rfl) ?_ _
          go_wp2_with fail
          exact HT7.out _ _ _ _ _ _ _ _ _ _ _ _ _ _ _ _ _ _ _ _ _ _ _ _ _ _ _ _ _ _ _ _ _ _ _ _ _ _ _ _ _ _ _ _ _ _ _ _ HQ4.out
    · cases bs
      · skip
        as_aux_lemma =>
          have HH : Hid (hasC cM cR v = true) := by
            have h := hasC_iff (M := cM) HU.out.2.1 HU.out.2.2.2.2.2.2
            rw [← HB.out.1] at h
            exact h.2 rfl
          have HIM : Hid (∀ b : Bool, (b = true ↔ MemC mM mR v) → b = false) := by
            intro b hb
            refine Bool.eq_false_iff.2 (fun a => ?_)
            have h := HF.out.1.1 ⟨rfl, hb.1 a⟩
            have := HB.out.2.2 h.2
            cases this
          have HIJ : Hid (MemC jM jR v) := HJ.out.2.2.1 v (HB.out.1.1 rfl)
          have HQ0 : Hid (Six w0 g gm gn gj cM cR dM dR eM eR mM mR jM jR V.drew) := HS1.out.step (Below.drew (Ok.refl _))
          obtain ⟨c0, c1⟩ := CG_facts HS1.out.1
          obtain ⟨d0, d1⟩ := CG_facts HS1.out.2.1
          obtain ⟨m0, m1⟩ := CG_facts HS1.out.2.2.2.1
          obtain ⟨n0, n1⟩ := CG_facts HS1.out.2.2.2.2.1
          obtain ⟨j0, j1⟩ := CG_facts HS1.out.2.2.2.2.2.1
          refine wp_region_held_drew (S := (fun w' => w'.cell? ⟨g, 0, none⟩ = some (.int .u64 (cM : Int)) ∧ w'.cell? ⟨g, 1, none⟩ = some (.int .u64 (cR : Int)) ∧ w'.cell? ⟨g + 1, 0, none⟩ = some (.int .u64 (dM : Int)) ∧ w'.cell? ⟨g + 1, 1, none⟩ = some (.int .u64 (dR : Int)) ∧ w'.cell? ⟨gm, 0, none⟩ = some (.int .u64 (mM : Int)) ∧ w'.cell? ⟨gm, 1, none⟩ = some (.int .u64 (mR : Int)) ∧ w'.cell? ⟨gn, 0, none⟩ = some (.int .u64 (mM : Int)) ∧ w'.cell? ⟨gn, 1, none⟩ = some (.int .u64 (mR : Int)) ∧ w'.cell? ⟨gj, 0, none⟩ = some (.int .u64 (jM : Int)) ∧ w'.cell? ⟨gj, 1, none⟩ = some (.int .u64 (jR : Int)))) (by kernel_rfl) (by (try dsimp only); go_keep) (fun hHeld => ?_)
          refine wpAnyH_take (i := 0) (v := ?_) rfl (by kernel_rfl) (by kernel_rfl) (by kernel_rfl) (fun _ _ _ h => h) (Or.inl ⟨by rfl, ?_⟩) (by assumption) ?_
          rotate_left
          · intro w h; (try dsimp only at h); first | (go_simp; done) | (go_simp; with_reducible rfl)
          try simp only [Act.put, getElem_toArray, getElem_cons_succ, getElem_cons_zero, setIfInBounds_toArray, set_cons_zero, set_cons_succ]
          refine wpAnyH_take (i := 1) (v := ?_) rfl (by kernel_rfl) (by kernel_rfl) (by kernel_rfl) (fun _ _ _ h => h) (Or.inl ⟨by rfl, ?_⟩) (by assumption) ?_
          rotate_left
          · intro w h; (try dsimp only at h); first | (go_simp; done) | (go_simp; with_reducible rfl)
          try simp only [Act.put, getElem_toArray, getElem_cons_succ, getElem_cons_zero, setIfInBounds_toArray, set_cons_zero, set_cons_succ]
          refine wpAnyH_take (i := 2) (v := ?_) rfl (by kernel_rfl) (by kernel_rfl) (by kernel_rfl) (fun _ _ _ h => h) (Or.inl ⟨by rfl, ?_⟩) (by assumption) ?_
          rotate_left
          · intro w h; (try dsimp only at h); first | (go_simp; done) | (go_simp; with_reducible rfl)
          try simp only [Act.put, getElem_toArray, getElem_cons_succ, getElem_cons_zero, setIfInBounds_toArray, set_cons_zero, set_cons_succ]
          refine wpAnyH_take (i := 3) (v := ?_) rfl (by kernel_rfl) (by kernel_rfl) (by kernel_rfl) (fun _ _ _ h => h) (Or.inl ⟨by rfl, ?_⟩) (by assumption) ?_
          rotate_left
          · intro w h; (try dsimp only at h); first | (go_simp; done) | (go_simp; with_reducible rfl)
          try simp only [Act.put, getElem_toArray, getElem_cons_succ, getElem_cons_zero, setIfInBounds_toArray, set_cons_zero, set_cons_succ]
          refine wpAnyH_take (i := 4) (v := ?_) rfl (by kernel_rfl) (by kernel_rfl) (by kernel_rfl) (fun _ _ _ h => h) (Or.inl ⟨by rfl, ?_⟩) (by assumption) ?_
          rotate_left
          · intro w h; (try dsimp only at h); first | (go_simp; done) | (go_simp; with_reducible rfl)
          try simp only [Act.put, getElem_toArray, getElem_cons_succ, getElem_cons_zero, setIfInBounds_toArray, set_cons_zero, set_cons_succ]
          refine wpAnyH_take (i := 5) (v := ?_) rfl (by kernel_rfl) (by kernel_rfl) (by kernel_rfl) (fun _ _ _ h => h) (Or.inl ⟨by rfl, ?_⟩) (by assumption) ?_
          rotate_left
          · intro w h; (try dsimp only at h); first | (go_simp; done) | (go_simp; with_reducible rfl)
          try simp only [Act.put, getElem_toArray, getElem_cons_succ, getElem_cons_zero, setIfInBounds_toArray, set_cons_zero, set_cons_succ]
          refine wpAnyH_take (i := 6) (v := ?_) rfl (by kernel_rfl) (by kernel_rfl) (by kernel_rfl) (fun _ _ _ h => h) (Or.inl ⟨by rfl, ?_⟩) (by assumption) ?_
          rotate_left
          · intro w h; (try dsimp only at h); first | (go_simp; done) | (go_simp; with_reducible rfl)
          try simp only [Act.put, getElem_toArray, getElem_cons_succ, getElem_cons_zero, setIfInBounds_toArray, set_cons_zero, set_cons_succ]
          refine wpAnyH_take (i := 7) (v := ?_) rfl (by kernel_rfl) (by kernel_rfl) (by kernel_rfl) (fun _ _ _ h => h) (Or.inl ⟨by rfl, ?_⟩) (by assumption) ?_
          rotate_left
          · intro w h; (try dsimp only at h); first | (go_simp; done) | (go_simp; with_reducible rfl)
          try simp only [Act.put, getElem_toArray, getElem_cons_succ, getElem_cons_zero, setIfInBounds_toArray, set_cons_zero, set_cons_succ]
          refine wpAnyH_take (i := 8) (v := ?_) rfl (by kernel_rfl) (by kernel_rfl) (by kernel_rfl) (fun _ _ _ h => h) (Or.inl ⟨by rfl, ?_⟩) (by assumption) ?_
          rotate_left
          · intro w h; (try dsimp only at h); first | (go_simp; done) | (go_simp; with_reducible rfl)
          try simp only [Act.put, getElem_toArray, getElem_cons_succ, getElem_cons_zero, setIfInBounds_toArray, set_cons_zero, set_cons_succ]
          refine wpAnyH_take (i := 9) (v := ?_) rfl (by kernel_rfl) (by kernel_rfl) (by kernel_rfl) (fun _ _ _ h => h) (Or.inl ⟨by rfl, ?_⟩) (by assumption) ?_
          rotate_left
          · intro w h; (try dsimp only at h); first | (go_simp; done) | (go_simp; with_reducible rfl)
          try simp only [Act.put, getElem_toArray, getElem_cons_succ, getElem_cons_zero, setIfInBounds_toArray, set_cons_zero, set_cons_succ]
          refine wpAnyH_take (i := 10) (v := ?_) rfl (by kernel_rfl) (by kernel_rfl) (by kernel_rfl) (fun _ _ _ h => h) (Or.inl ⟨by rfl, ?_⟩) (by assumption) ?_
          rotate_left
          · intro w h; (try dsimp only at h); first | (go_simp; done) | (go_simp; with_reducible rfl)
          try simp only [Act.put, getElem_toArray, getElem_cons_succ, getElem_cons_zero, setIfInBounds_toArray, set_cons_zero, set_cons_succ]
          refine wpAnyH_take (i := 11) (v := ?_) rfl (by kernel_rfl) (by kernel_rfl) (by kernel_rfl) (fun _ _ _ h => h) (Or.inl ⟨by rfl, ?_⟩) (by assumption) ?_
          rotate_left
          · intro w h; (try dsimp only at h); first | (go_simp; done) | (go_simp; with_reducible rfl)
          try simp only [Act.put, getElem_toArray, getElem_cons_succ, getElem_cons_zero, setIfInBounds_toArray, set_cons_zero, set_cons_succ]
          refine wpAnyH_ready (rs := [12]) (by kernel_rfl) (by simp) ?_
          refine AllReadyH.cons rfl (fun K hK => ?_) AllReadyH.nil
          go_simp
          refine (pjoin_any dM dR cM cR HU.out.2.2.1 HU.out.2.2.2.1 HU.out.1 HU.out.2.1 _ _ (Ok.refl _)).mono ?_
          rintro e u1 ⟨rfl, hc⟩
          rw [HC2.out]
          unfold cv
          have HQ1 : Hid (Six w0 g gm gn gj cM cR dM dR eM eR mM mR jM jR u1) := HQ0.out.step hc
          clear hc
          clear c0 c1 d0 d1 m0 m1 n0 n1 j0 j1
          obtain ⟨c0, c1⟩ := CG_facts HQ1.out.1
          obtain ⟨d0, d1⟩ := CG_facts HQ1.out.2.1
          obtain ⟨m0, m1⟩ := CG_facts HQ1.out.2.2.2.1
          obtain ⟨n0, n1⟩ := CG_facts HQ1.out.2.2.2.2.1
          obtain ⟨j0, j1⟩ := CG_facts HQ1.out.2.2.2.2.2.1
          go_wp2_with fail
          refine hK.out _ _ (by (try dsimp only); go_keep) (fun hHeld => ?_)
          clear hK K
          try simp only [Act.put, getElem_toArray, getElem_cons_succ, getElem_cons_zero, setIfInBounds_toArray, set_cons_zero, set_cons_succ]
          refine wpAnyH_take (i := 13) (v := ?_) rfl (by kernel_rfl) (by kernel_rfl) (by kernel_rfl) (fun _ _ _ h => h) (Or.inl ⟨by rfl, ?_⟩) (by assumption) ?_
          rotate_left
          · intro w h; (try dsimp only at h); first | (go_simp; done) | (go_simp; with_reducible rfl)
          try simp only [Act.put, getElem_toArray, getElem_cons_succ, getElem_cons_zero, setIfInBounds_toArray, set_cons_zero, set_cons_succ]
          refine wpAnyH_take (i := 14) (v := ?_) rfl (by kernel_rfl) (by kernel_rfl) (by kernel_rfl) (fun _ _ _ h => h) (Or.inl ⟨by rfl, ?_⟩) (by assumption) ?_
          rotate_left
          · intro w h; (try dsimp only at h); first | (go_simp; done) | (go_simp; with_reducible rfl)
          try simp only [Act.put, getElem_toArray, getElem_cons_succ, getElem_cons_zero, setIfInBounds_toArray, set_cons_zero, set_cons_succ]
          refine wpAnyH_take (i := 15) (v := ?_) rfl (by kernel_rfl) (by kernel_rfl) (by kernel_rfl) (fun _ _ _ h => h) (Or.inl ⟨by rfl, ?_⟩) (by assumption) ?_
          rotate_left
          · intro w h; (try dsimp only at h); first | (go_simp; done) | (go_simp; with_reducible rfl)
          try simp only [Act.put, getElem_toArray, getElem_cons_succ, getElem_cons_zero, setIfInBounds_toArray, set_cons_zero, set_cons_succ]
          refine wpAnyH_take (i := 16) (v := ?_) rfl (by kernel_rfl) (by kernel_rfl) (by kernel_rfl) (fun _ _ _ h => h) (Or.inl ⟨by rfl, ?_⟩) (by assumption) ?_
          rotate_left
          · intro w h; (try dsimp only at h); first | (go_simp; done) | (go_simp; with_reducible rfl)
          try simp only [Act.put, getElem_toArray, getElem_cons_succ, getElem_cons_zero, setIfInBounds_toArray, set_cons_zero, set_cons_succ]
          refine wpAnyH_take (i := 17) (v := ?_) rfl (by kernel_rfl) (by kernel_rfl) (by kernel_rfl) (fun _ _ _ h => h) (Or.inl ⟨by rfl, ?_⟩) (by assumption) ?_
          rotate_left
          · intro w h; (try dsimp only at h); first | (go_simp; done) | (go_simp; with_reducible rfl)
          try simp only [Act.put, getElem_toArray, getElem_cons_succ, getElem_cons_zero, setIfInBounds_toArray, set_cons_zero, set_cons_succ]
          refine wpAnyH_take (i := 19) (v := ?_) rfl (by kernel_rfl) (by kernel_rfl) (by kernel_rfl) (fun _ _ _ h => h) (Or.inl ⟨by rfl, ?_⟩) (by assumption) ?_
          rotate_left
          · intro w h; (try dsimp only at h); first | (go_simp; done) | (go_simp; with_reducible rfl)
          try simp only [Act.put, getElem_toArray, getElem_cons_succ, getElem_cons_zero, setIfInBounds_toArray, set_cons_zero, set_cons_succ]
          refine wpAnyH_ready (rs := [18]) (by kernel_rfl) (by simp) ?_
          refine AllReadyH.cons rfl (fun K hK => ?_) AllReadyH.nil
          go_simp
          refine (phas_any cM cR v HU.out.1 HU.out.2.1 _ _ (Ok.refl _)).mono ?_
          rintro e u2 ⟨rfl, hc⟩
          rw [HH.out]
          have HQ2 : Hid (Six w0 g gm gn gj cM cR dM dR eM eR mM mR jM jR u2) := HQ1.out.step hc
          clear hc
          clear c0 c1 d0 d1 m0 m1 n0 n1 j0 j1
          obtain ⟨c0, c1⟩ := CG_facts HQ2.out.1
          obtain ⟨d0, d1⟩ := CG_facts HQ2.out.2.1
          obtain ⟨m0, m1⟩ := CG_facts HQ2.out.2.2.2.1
          obtain ⟨n0, n1⟩ := CG_facts HQ2.out.2.2.2.2.1
          obtain ⟨j0, j1⟩ := CG_facts HQ2.out.2.2.2.2.2.1
          go_wp2_with fail
          refine hK.out _ _ (by (try dsimp only); go_keep) (fun hHeld => ?_)
          clear hK K
          try simp only [Act.put, getElem_toArray, getElem_cons_succ, getElem_cons_zero, setIfInBounds_toArray, set_cons_zero, set_cons_succ]
          refine wpAnyH_take (i := 20) (v := ?_) rfl (by kernel_rfl) (by kernel_rfl) (by kernel_rfl) (fun _ _ _ h => h) (Or.inl ⟨by rfl, ?_⟩) (by assumption) ?_
          rotate_left
          · intro w h; (try dsimp only at h); first | (go_simp; done) | (go_simp; with_reducible rfl)
          try simp only [Act.put, getElem_toArray, getElem_cons_succ, getElem_cons_zero, setIfInBounds_toArray, set_cons_zero, set_cons_succ]
          refine wpAnyH_take (i := 21) (v := ?_) rfl (by kernel_rfl) (by kernel_rfl) (by kernel_rfl) (fun _ _ _ h => h) (Or.inl ⟨by rfl, ?_⟩) (by assumption) ?_
          rotate_left
          · intro w h; (try dsimp only at h); first | (go_simp; done) | (go_simp; with_reducible rfl)
          try simp only [Act.put, getElem_toArray, getElem_cons_succ, getElem_cons_zero, setIfInBounds_toArray, set_cons_zero, set_cons_succ]
          refine wpAnyH_take (i := 22) (v := ?_) rfl (by kernel_rfl) (by kernel_rfl) (by kernel_rfl) (fun _ _ _ h => h) (Or.inl ⟨by rfl, ?_⟩) (by assumption) ?_
          rotate_left
          · intro w h; (try dsimp only at h); first | (go_simp; done) | (go_simp; with_reducible rfl)
          try simp only [Act.put, getElem_toArray, getElem_cons_succ, getElem_cons_zero, setIfInBounds_toArray, set_cons_zero, set_cons_succ]
          refine wpAnyH_take (i := 23) (v := ?_) rfl (by kernel_rfl) (by kernel_rfl) (by kernel_rfl) (fun _ _ _ h => h) (Or.inl ⟨by rfl, ?_⟩) (by assumption) ?_
          rotate_left
          · intro w h; (try dsimp only at h); first | (go_simp; done) | (go_simp; with_reducible rfl)
          try simp only [Act.put, getElem_toArray, getElem_cons_succ, getElem_cons_zero, setIfInBounds_toArray, set_cons_zero, set_cons_succ]
          refine wpAnyH_take (i := 24) (v := ?_) rfl (by kernel_rfl) (by kernel_rfl) (by kernel_rfl) (fun _ _ _ h => h) (Or.inl ⟨by rfl, ?_⟩) (by assumption) ?_
          rotate_left
          · intro w h; (try dsimp only at h); first | (go_simp; done) | (go_simp; with_reducible rfl)
          try simp only [Act.put, getElem_toArray, getElem_cons_succ, getElem_cons_zero, setIfInBounds_toArray, set_cons_zero, set_cons_succ]
          refine wpAnyH_take (i := 25) (v := ?_) rfl (by kernel_rfl) (by kernel_rfl) (by kernel_rfl) (fun _ _ _ h => h) (Or.inl ⟨by rfl, ?_⟩) (by assumption) ?_
          rotate_left
          · intro w h; (try dsimp only at h); first | (go_simp; done) | (go_simp; with_reducible rfl)
          try simp only [Act.put, getElem_toArray, getElem_cons_succ, getElem_cons_zero, setIfInBounds_toArray, set_cons_zero, set_cons_succ]
          refine wpAnyH_take (i := 26) (v := ?_) rfl (by kernel_rfl) (by kernel_rfl) (by kernel_rfl) (fun _ _ _ h => h) (Or.inl ⟨by rfl, ?_⟩) (by assumption) ?_
          rotate_left
          · intro w h; (try dsimp only at h); first | (go_simp; done) | (go_simp; with_reducible rfl)
          try simp only [Act.put, getElem_toArray, getElem_cons_succ, getElem_cons_zero, setIfInBounds_toArray, set_cons_zero, set_cons_succ]
          refine wpAnyH_take (i := 29) (v := ?_) rfl (by kernel_rfl) (by kernel_rfl) (by kernel_rfl) (fun _ _ _ h => h) (Or.inl ⟨by rfl, ?_⟩) (by assumption) ?_
          rotate_left
          · intro w h; (try dsimp only at h); first | (go_simp; done) | (go_simp; with_reducible rfl)
          try simp only [Act.put, getElem_toArray, getElem_cons_succ, getElem_cons_zero, setIfInBounds_toArray, set_cons_zero, set_cons_succ]
          refine wpAnyH_ready (rs := [27]) (by kernel_rfl) (by simp) ?_
          refine AllReadyH.cons rfl (fun K hK => ?_) AllReadyH.nil
          go_simp
          refine (linside_any mM mR v HF.out.2.2.1.1 HF.out.2.2.1.2 HU.out.2.2.2.2.2.2 _ _ (Ok.refl _)).mono ?_
          rintro e u3 ⟨⟨b, rfl, hbb⟩, hc⟩
          obtain rfl : b = false := HIM.out b hbb
          clear hbb
          have HQ3 : Hid (Six w0 g gm gn gj cM cR dM dR eM eR mM mR jM jR u3) := HQ2.out.step hc
          clear hc
          clear c0 c1 d0 d1 m0 m1 n0 n1 j0 j1
          obtain ⟨c0, c1⟩ := CG_facts HQ3.out.1
          obtain ⟨d0, d1⟩ := CG_facts HQ3.out.2.1
          obtain ⟨m0, m1⟩ := CG_facts HQ3.out.2.2.2.1
          obtain ⟨n0, n1⟩ := CG_facts HQ3.out.2.2.2.2.1
          obtain ⟨j0, j1⟩ := CG_facts HQ3.out.2.2.2.2.2.1
          go_wp2_with fail
          refine hK.out _ _ (by (try dsimp only); go_keep) (fun hHeld => ?_)
          clear hK K
          try simp only [Act.put, getElem_toArray, getElem_cons_succ, getElem_cons_zero, setIfInBounds_toArray, set_cons_zero, set_cons_succ]
          refine wpAnyH_take (i := 28) (v := ?_) rfl (by kernel_rfl) (by kernel_rfl) (by kernel_rfl) (fun _ _ _ h => h) (Or.inl ⟨by rfl, ?_⟩) (by assumption) ?_
          rotate_left
          · intro w h; (try dsimp only at h); first | (go_simp; done) | (go_simp; with_reducible rfl)
          try simp only [Act.put, getElem_toArray, getElem_cons_succ, getElem_cons_zero, setIfInBounds_toArray, set_cons_zero, set_cons_succ]
          refine wpAnyH_take (i := 30) (v := ?_) rfl (by kernel_rfl) (by kernel_rfl) (by kernel_rfl) (fun _ _ _ h => h) (Or.inl ⟨by rfl, ?_⟩) (by assumption) ?_
          rotate_left
          · intro w h; (try dsimp only at h); first | (go_simp; done) | (go_simp; with_reducible rfl)
          try simp only [Act.put, getElem_toArray, getElem_cons_succ, getElem_cons_zero, setIfInBounds_toArray, set_cons_zero, set_cons_succ]
          refine wpAnyH_take (i := 31) (v := ?_) rfl (by kernel_rfl) (by kernel_rfl) (by kernel_rfl) (fun _ _ _ h => h) (Or.inl ⟨by rfl, ?_⟩) (by assumption) ?_
          rotate_left
          · intro w h; (try dsimp only at h); first | (go_simp; done) | (go_simp; with_reducible rfl)
          try simp only [Act.put, getElem_toArray, getElem_cons_succ, getElem_cons_zero, setIfInBounds_toArray, set_cons_zero, set_cons_succ]
          refine wpAnyH_take (i := 32) (v := ?_) rfl (by kernel_rfl) (by kernel_rfl) (by kernel_rfl) (fun _ _ _ h => h) (Or.inl ⟨by rfl, ?_⟩) (by assumption) ?_
          rotate_left
          · intro w h; (try dsimp only at h); first | (go_simp; done) | (go_simp; with_reducible rfl)
          try simp only [Act.put, getElem_toArray, getElem_cons_succ, getElem_cons_zero, setIfInBounds_toArray, set_cons_zero, set_cons_succ]
          refine wpAnyH_take (i := 33) (v := ?_) rfl (by kernel_rfl) (by kernel_rfl) (by kernel_rfl) (fun _ _ _ h => h) (Or.inl ⟨by rfl, ?_⟩) (by assumption) ?_
          rotate_left
          · intro w h; (try dsimp only at h); first | (go_simp; done) | (go_simp; with_reducible rfl)
          try simp only [Act.put, getElem_toArray, getElem_cons_succ, getElem_cons_zero, setIfInBounds_toArray, set_cons_zero, set_cons_succ]
          refine wpAnyH_take (i := 34) (v := ?_) rfl (by kernel_rfl) (by kernel_rfl) (by kernel_rfl) (fun _ _ _ h => h) (Or.inl ⟨by rfl, ?_⟩) (by assumption) ?_
          rotate_left
          · intro w h; (try dsimp only at h); first | (go_simp; done) | (go_simp; with_reducible rfl)
          try simp only [Act.put, getElem_toArray, getElem_cons_succ, getElem_cons_zero, setIfInBounds_toArray, set_cons_zero, set_cons_succ]
          refine wpAnyH_take (i := 35) (v := ?_) rfl (by kernel_rfl) (by kernel_rfl) (by kernel_rfl) (fun _ _ _ h => h) (Or.inl ⟨by rfl, ?_⟩) (by assumption) ?_
          rotate_left
          · intro w h; (try dsimp only at h); first | (go_simp; done) | (go_simp; with_reducible rfl)
          try simp only [Act.put, getElem_toArray, getElem_cons_succ, getElem_cons_zero, setIfInBounds_toArray, set_cons_zero, set_cons_succ]
          refine wpAnyH_take (i := 36) (v := ?_) rfl (by kernel_rfl) (by kernel_rfl) (by kernel_rfl) (fun _ _ _ h => h) (Or.inl ⟨by rfl, ?_⟩) (by assumption) ?_
          rotate_left
          · intro w h; (try dsimp only at h); first | (go_simp; done) | (go_simp; with_reducible rfl)
          try simp only [Act.put, getElem_toArray, getElem_cons_succ, getElem_cons_zero, setIfInBounds_toArray, set_cons_zero, set_cons_succ]
          refine wpAnyH_take (i := 37) (v := ?_) rfl (by kernel_rfl) (by kernel_rfl) (by kernel_rfl) (fun _ _ _ h => h) (Or.inl ⟨by rfl, ?_⟩) (by assumption) ?_
          rotate_left
          · intro w h; (try dsimp only at h); first | (go_simp; done) | (go_simp; with_reducible rfl)
          try simp only [Act.put, getElem_toArray, getElem_cons_succ, getElem_cons_zero, setIfInBounds_toArray, set_cons_zero, set_cons_succ]
          refine wpAnyH_take (i := 38) (v := undef) rfl (by kernel_rfl) (by kernel_rfl) (by kernel_rfl) (fun _ _ _ h => h) (Or.inr ⟨by rfl, rfl⟩) (by assumption) ?_
          try simp only [Act.put, getElem_toArray, getElem_cons_succ, getElem_cons_zero, setIfInBounds_toArray, set_cons_zero, set_cons_succ]
          refine wpAnyH_take (i := 39) (v := ?_) rfl (by kernel_rfl) (by kernel_rfl) (by kernel_rfl) (fun _ _ _ h => h) (Or.inl ⟨by rfl, ?_⟩) (by assumption) ?_
          rotate_left
          · intro w h; (try dsimp only at h); first | (go_simp; done) | (go_simp; with_reducible rfl)
          try simp only [Act.put, getElem_toArray, getElem_cons_succ, getElem_cons_zero, setIfInBounds_toArray, set_cons_zero, set_cons_succ]
          refine wpAnyH_take (i := 40) (v := ?_) rfl (by kernel_rfl) (by kernel_rfl) (by kernel_rfl) (fun _ _ _ h => h) (Or.inl ⟨by rfl, ?_⟩) (by assumption) ?_
          rotate_left
          · intro w h; (try dsimp only at h); first | (go_simp; done) | (go_simp; with_reducible rfl)
          try simp only [Act.put, getElem_toArray, getElem_cons_succ, getElem_cons_zero, setIfInBounds_toArray, set_cons_zero, set_cons_succ]
          refine wpAnyH_take (i := 41) (v := ?_) rfl (by kernel_rfl) (by kernel_rfl) (by kernel_rfl) (fun _ _ _ h => h) (Or.inl ⟨by rfl, ?_⟩) (by assumption) ?_
          rotate_left
          · intro w h; (try dsimp only at h); first | (go_simp; done) | (go_simp; with_reducible rfl)
          try simp only [Act.put, getElem_toArray, getElem_cons_succ, getElem_cons_zero, setIfInBounds_toArray, set_cons_zero, set_cons_succ]
          refine wpAnyH_take (i := 42) (v := ?_) rfl (by kernel_rfl) (by kernel_rfl) (by kernel_rfl) (fun _ _ _ h => h) (Or.inl ⟨by rfl, ?_⟩) (by assumption) ?_
          rotate_left
          · intro w h; (try dsimp only at h); first | (go_simp; done) | (go_simp; with_reducible rfl)
          try simp only [Act.put, getElem_toArray, getElem_cons_succ, getElem_cons_zero, setIfInBounds_toArray, set_cons_zero, set_cons_succ]
          refine wpAnyH_ready (rs := [43]) (by kernel_rfl) (by simp) ?_
          refine AllReadyH.cons rfl (fun K hK => ?_) AllReadyH.nil
          go_simp
          refine (linside_any jM jR v HJ.out.1.1 HJ.out.1.2 HU.out.2.2.2.2.2.2 _ _ (Ok.refl _)).mono ?_
          rintro e u4 ⟨⟨b, rfl, hbb⟩, hc⟩
          obtain rfl : b = true := hbb.2 HIJ.out
          clear hbb
          have HQ4 : Hid (Six w0 g gm gn gj cM cR dM dR eM eR mM mR jM jR u4) := HQ3.out.step hc
          clear hc
          clear c0 c1 d0 d1 m0 m1 n0 n1 j0 j1
          obtain ⟨c0, c1⟩ := CG_facts HQ4.out.1
          obtain ⟨d0, d1⟩ := CG_facts HQ4.out.2.1
          obtain ⟨m0, m1⟩ := CG_facts HQ4.out.2.2.2.1
          obtain ⟨n0, n1⟩ := CG_facts HQ4.out.2.2.2.2.1
          obtain ⟨j0, j1⟩ := CG_facts HQ4.out.2.2.2.2.2.1
          go_wp2_with fail
          refine hK.out _ _ (by (try dsimp only); go_keep) (fun hHeld => ?_)
          clear hK K
          try simp only [Act.put, getElem_toArray, getElem_cons_succ, getElem_cons_zero, setIfInBounds_toArray, set_cons_zero, set_cons_succ]
          refine wpAnyH_take (i := 44) (v := ?_) rfl (by kernel_rfl) (by kernel_rfl) (by kernel_rfl) (fun _ _ _ h => h) (Or.inl ⟨by rfl, ?_⟩) (by assumption) ?_
          rotate_left
          · intro w h; (try dsimp only at h); first | (go_simp; done) | (go_simp; with_reducible rfl)
          try simp only [Act.put, getElem_toArray, getElem_cons_succ, getElem_cons_zero, setIfInBounds_toArray, set_cons_zero, set_cons_succ]
          refine wpAnyH_take (i := 45) (v := ?_) rfl (by kernel_rfl) (by kernel_rfl) (by kernel_rfl) (fun _ _ _ h => h) (Or.inl ⟨by rfl, ?_⟩) (by assumption) ?_
          rotate_left
          · intro w h; (try dsimp only at h); first | (go_simp; done) | (go_simp; with_reducible rfl)
          try simp only [Act.put, getElem_toArray, getElem_cons_succ, getElem_cons_zero, setIfInBounds_toArray, set_cons_zero, set_cons_succ]
          refine wpAnyH_take (i := 46) (v := ?_) rfl (by kernel_rfl) (by kernel_rfl) (by kernel_rfl) (fun _ _ _ h => h) (Or.inl ⟨by rfl, ?_⟩) (by assumption) ?_
          rotate_left
          · intro w h; (try dsimp only at h); first | (go_simp; done) | (go_simp; with_reducible rfl)
          try simp only [Act.put, getElem_toArray, getElem_cons_succ, getElem_cons_zero, setIfInBounds_toArray, set_cons_zero, set_cons_succ]
          refine wpAnyH_done (by kernel_rfl) ?_ _
          go_wp2_with fail
          exact HT7.out _ _ _ _ _ _ _ _ _ _ _ _ _ _ _ _ _ _ _ _ _ _ _ _ _ _ _ _ _ _ _ _ _ _ _ _ _ _ _ _ _ _ _ _ _ _ _ _ HQ4.out
      · skip
        as_aux_lemma =>
          have HH : Hid (hasC cM cR v = true) := by
            have h := hasC_iff (M := cM) HU.out.2.1 HU.out.2.2.2.2.2.2
            rw [← HB.out.1] at h
            exact h.2 rfl
          have HIM : Hid (∀ b : Bool, (b = true ↔ MemC mM mR v) → b = true) := by
            intro b hb
            exact hb.2 (HF.out.1.2 ⟨HB.out.1.1 rfl, HB.out.2.1 rfl⟩).2
          have HIJ : Hid (MemC jM jR v) := HJ.out.2.2.1 v (HB.out.1.1 rfl)
          have HQ0 : Hid (Six w0 g gm gn gj cM cR dM dR eM eR mM mR jM jR V.drew) := HS1.out.step (Below.drew (Ok.refl _))
          obtain ⟨c0, c1⟩ := CG_facts HS1.out.1
          obtain ⟨d0, d1⟩ := CG_facts HS1.out.2.1
          obtain ⟨m0, m1⟩ := CG_facts HS1.out.2.2.2.1
          obtain ⟨n0, n1⟩ := CG_facts HS1.out.2.2.2.2.1
          obtain ⟨j0, j1⟩ := CG_facts HS1.out.2.2.2.2.2.1
          refine wp_region_held_drew (S := (fun w' => w'.cell? ⟨g, 0, none⟩ = some (.int .u64 (cM : Int)) ∧ w'.cell? ⟨g, 1, none⟩ = some (.int .u64 (cR : Int)) ∧ w'.cell? ⟨g + 1, 0, none⟩ = some (.int .u64 (dM : Int)) ∧ w'.cell? ⟨g + 1, 1, none⟩ = some (.int .u64 (dR : Int)) ∧ w'.cell? ⟨gm, 0, none⟩ = some (.int .u64 (mM : Int)) ∧ w'.cell? ⟨gm, 1, none⟩ = some (.int .u64 (mR : Int)) ∧ w'.cell? ⟨gn, 0, none⟩ = some (.int .u64 (mM : Int)) ∧ w'.cell? ⟨gn, 1, none⟩ = some (.int .u64 (mR : Int)) ∧ w'.cell? ⟨gj, 0, none⟩ = some (.int .u64 (jM : Int)) ∧ w'.cell? ⟨gj, 1, none⟩ = some (.int .u64 (jR : Int)))) (by kernel_rfl) (by (try dsimp only); go_keep) (fun hHeld => ?_)
          refine wpAnyH_take (i := 0) (v := ?_) rfl (by kernel_rfl) (by kernel_rfl) (by kernel_rfl) (fun _ _ _ h => h) (Or.inl ⟨by rfl, ?_⟩) (by assumption) ?_
          rotate_left
          · intro w h; (try dsimp only at h); first | (go_simp; done) | (go_simp; with_reducible rfl)
          try simp only [Act.put, getElem_toArray, getElem_cons_succ, getElem_cons_zero, setIfInBounds_toArray, set_cons_zero, set_cons_succ]
          refine wpAnyH_take (i := 1) (v := ?_) rfl (by kernel_rfl) (by kernel_rfl) (by kernel_rfl) (fun _ _ _ h => h) (Or.inl ⟨by rfl, ?_⟩) (by assumption) ?_
          rotate_left
          · intro w h; (try dsimp only at h); first | (go_simp; done) | (go_simp; with_reducible rfl)
          try simp only [Act.put, getElem_toArray, getElem_cons_succ, getElem_cons_zero, setIfInBounds_toArray, set_cons_zero, set_cons_succ]
          refine wpAnyH_take (i := 2) (v := ?_) rfl (by kernel_rfl) (by kernel_rfl) (by kernel_rfl) (fun _ _ _ h => h) (Or.inl ⟨by rfl, ?_⟩) (by assumption) ?_
          rotate_left
          · intro w h; (try dsimp only at h); first | (go_simp; done) | (go_simp; with_reducible rfl)
          try simp only [Act.put, getElem_toArray, getElem_cons_succ, getElem_cons_zero, setIfInBounds_toArray, set_cons_zero, set_cons_succ]
          refine wpAnyH_take (i := 3) (v := ?_) rfl (by kernel_rfl) (by kernel_rfl) (by kernel_rfl) (fun _ _ _ h => h) (Or.inl ⟨by rfl, ?_⟩) (by assumption) ?_
          rotate_left
          · intro w h; (try dsimp only at h); first | (go_simp; done) | (go_simp; with_reducible rfl)
          try simp only [Act.put, getElem_toArray, getElem_cons_succ, getElem_cons_zero, setIfInBounds_toArray, set_cons_zero, set_cons_succ]
          refine wpAnyH_take (i := 4) (v := ?_) rfl (by kernel_rfl) (by kernel_rfl) (by kernel_rfl) (fun _ _ _ h => h) (Or.inl ⟨by rfl, ?_⟩) (by assumption) ?_
          rotate_left
          · intro w h; (try dsimp only at h); first | (go_simp; done) | (go_simp; with_reducible rfl)
          try simp only [Act.put, getElem_toArray, getElem_cons_succ, getElem_cons_zero, setIfInBounds_toArray, set_cons_zero, set_cons_succ]
          refine wpAnyH_take (i := 5) (v := ?_) rfl (by kernel_rfl) (by kernel_rfl) (by kernel_rfl) (fun _ _ _ h => h) (Or.inl ⟨by rfl, ?_⟩) (by assumption) ?_
          rotate_left
          · intro w h; (try dsimp only at h); first | (go_simp; done) | (go_simp; with_reducible rfl)
          try simp only [Act.put, getElem_toArray, getElem_cons_succ, getElem_cons_zero, setIfInBounds_toArray, set_cons_zero, set_cons_succ]
          refine wpAnyH_take (i := 6) (v := ?_) rfl (by kernel_rfl) (by kernel_rfl) (by kernel_rfl) (fun _ _ _ h => h) (Or.inl ⟨by rfl, ?_⟩) (by assumption) ?_
          rotate_left
          · intro w h; (try dsimp only at h); first | (go_simp; done) | (go_simp; with_reducible rfl)
          try simp only [Act.put, getElem_toArray, getElem_cons_succ, getElem_cons_zero, setIfInBounds_toArray, set_cons_zero, set_cons_succ]
          refine wpAnyH_take (i := 7) (v := ?_) rfl (by kernel_rfl) (by kernel_rfl) (by kernel_rfl) (fun _ _ _ h => h) (Or.inl ⟨by rfl, ?_⟩) (by assumption) ?_
          rotate_left
          · intro w h; (try dsimp only at h); first | (go_simp; done) | (go_simp; with_reducible rfl)
          try simp only [Act.put, getElem_toArray, getElem_cons_succ, getElem_cons_zero, setIfInBounds_toArray, set_cons_zero, set_cons_succ]
          refine wpAnyH_take (i := 8) (v := ?_) rfl (by kernel_rfl) (by kernel_rfl) (by kernel_rfl) (fun _ _ _ h => h) (Or.inl ⟨by rfl, ?_⟩) (by assumption) ?_
          rotate_left
          · intro w h; (try dsimp only at h); first | (go_simp; done) | (go_simp; with_reducible rfl)
          try simp only [Act.put, getElem_toArray, getElem_cons_succ, getElem_cons_zero, setIfInBounds_toArray, set_cons_zero, set_cons_succ]
          refine wpAnyH_take (i := 9) (v := ?_) rfl (by kernel_rfl) (by kernel_rfl) (by kernel_rfl) (fun _ _ _ h => h) (Or.inl ⟨by rfl, ?_⟩) (by assumption) ?_
          rotate_left
          · intro w h; (try dsimp only at h); first | (go_simp; done) | (go_simp; with_reducible rfl)
          try simp only [Act.put, getElem_toArray, getElem_cons_succ, getElem_cons_zero, setIfInBounds_toArray, set_cons_zero, set_cons_succ]
          refine wpAnyH_take (i := 10) (v := ?_) rfl (by kernel_rfl) (by kernel_rfl) (by kernel_rfl) (fun _ _ _ h => h) (Or.inl ⟨by rfl, ?_⟩) (by assumption) ?_
          rotate_left
          · intro w h; (try dsimp only at h); first | (go_simp; done) | (go_simp; with_reducible rfl)
          try simp only [Act.put, getElem_toArray, getElem_cons_succ, getElem_cons_zero, setIfInBounds_toArray, set_cons_zero, set_cons_succ]
          refine wpAnyH_take (i := 11) (v := ?_) rfl (by kernel_rfl) (by kernel_rfl) (by kernel_rfl) (fun _ _ _ h => h) (Or.inl ⟨by rfl, ?_⟩) (by assumption) ?_
          rotate_left
          · intro w h; (try dsimp only at h); first | (go_simp; done) | (go_simp; with_reducible rfl)
          try simp only [Act.put, getElem_toArray, getElem_cons_succ, getElem_cons_zero, setIfInBounds_toArray, set_cons_zero, set_cons_succ]
          refine wpAnyH_ready (rs := [12]) (by kernel_rfl) (by simp) ?_
          refine AllReadyH.cons rfl (fun K hK => ?_) AllReadyH.nil
          go_simp
          refine (pjoin_any dM dR cM cR HU.out.2.2.1 HU.out.2.2.2.1 HU.out.1 HU.out.2.1 _ _ (Ok.refl _)).mono ?_
          rintro e u1 ⟨rfl, hc⟩
          rw [HC2.out]
          unfold cv
          have HQ1 : Hid (Six w0 g gm gn gj cM cR dM dR eM eR mM mR jM jR u1) := HQ0.out.step hc
          clear hc
          clear c0 c1 d0 d1 m0 m1 n0 n1 j0 j1
          obtain ⟨c0, c1⟩ := CG_facts HQ1.out.1
          obtain ⟨d0, d1⟩ := CG_facts HQ1.out.2.1
          obtain ⟨m0, m1⟩ := CG_facts HQ1.out.2.2.2.1
          obtain ⟨n0, n1⟩ := CG_facts HQ1.out.2.2.2.2.1
          obtain ⟨j0, j1⟩ := CG_facts HQ1.out.2.2.2.2.2.1
          go_wp2_with fail
          refine hK.out _ _ (by (try dsimp only); go_keep) (fun hHeld => ?_)
          clear hK K
          try simp only [Act.put, getElem_toArray, getElem_cons_succ, getElem_cons_zero, setIfInBounds_toArray, set_cons_zero, set_cons_succ]
          refine wpAnyH_take (i := 13) (v := ?_) rfl (by kernel_rfl) (by kernel_rfl) (by kernel_rfl) (fun _ _ _ h => h) (Or.inl ⟨by rfl, ?_⟩) (by assumption) ?_
          rotate_left
          · intro w h; (try dsimp only at h); first | (go_simp; done) | (go_simp; with_reducible rfl)
          try simp only [Act.put, getElem_toArray, getElem_cons_succ, getElem_cons_zero, setIfInBounds_toArray, set_cons_zero, set_cons_succ]
          refine wpAnyH_take (i := 14) (v := ?_) rfl (by kernel_rfl) (by kernel_rfl) (by kernel_rfl) (fun _ _ _ h => h) (Or.inl ⟨by rfl, ?_⟩) (by assumption) ?_
          rotate_left
          · intro w h; (try dsimp only at h); first | (go_simp; done) | (go_simp; with_reducible rfl)
          try simp only [Act.put, getElem_toArray, getElem_cons_succ, getElem_cons_zero, setIfInBounds_toArray, set_cons_zero, set_cons_succ]
          refine wpAnyH_take (i := 15) (v := ?_) rfl (by kernel_rfl) (by kernel_rfl) (by kernel_rfl) (fun _ _ _ h => h) (Or.inl ⟨by rfl, ?_⟩) (by assumption) ?_
          rotate_left
          · intro w h; (try dsimp only at h); first | (go_simp; done) | (go_simp; with_reducible rfl)
          try simp only [Act.put, getElem_toArray, getElem_cons_succ, getElem_cons_zero, setIfInBounds_toArray, set_cons_zero, set_cons_succ]
          refine wpAnyH_take (i := 16) (v := ?_) rfl (by kernel_rfl) (by kernel_rfl) (by kernel_rfl) (fun _ _ _ h => h) (Or.inl ⟨by rfl, ?_⟩) (by assumption) ?_
          rotate_left
          · intro w h; (try dsimp only at h); first | (go_simp; done) | (go_simp; with_reducible rfl)
          try simp only [Act.put, getElem_toArray, getElem_cons_succ, getElem_cons_zero, setIfInBounds_toArray, set_cons_zero, set_cons_succ]
          refine wpAnyH_take (i := 17) (v := ?_) rfl (by kernel_rfl) (by kernel_rfl) (by kernel_rfl) (fun _ _ _ h => h) (Or.inl ⟨by rfl, ?_⟩) (by assumption) ?_
          rotate_left
          · intro w h; (try dsimp only at h); first | (go_simp; done) | (go_simp; with_reducible rfl)
          try simp only [Act.put, getElem_toArray, getElem_cons_succ, getElem_cons_zero, setIfInBounds_toArray, set_cons_zero, set_cons_succ]
          refine wpAnyH_take (i := 19) (v := ?_) rfl (by kernel_rfl) (by kernel_rfl) (by kernel_rfl) (fun _ _ _ h => h) (Or.inl ⟨by rfl, ?_⟩) (by assumption) ?_
          rotate_left
          · intro w h; (try dsimp only at h); first | (go_simp; done) | (go_simp; with_reducible rfl)
          try simp only [Act.put, getElem_toArray, getElem_cons_succ, getElem_cons_zero, setIfInBounds_toArray, set_cons_zero, set_cons_succ]
          refine wpAnyH_ready (rs := [18]) (by kernel_rfl) (by simp) ?_
          refine AllReadyH.cons rfl (fun K hK => ?_) AllReadyH.nil
          go_simp
          refine (phas_any cM cR v HU.out.1 HU.out.2.1 _ _ (Ok.refl _)).mono ?_
          rintro e u2 ⟨rfl, hc⟩
          rw [HH.out]
          have HQ2 : Hid (Six w0 g gm gn gj cM cR dM dR eM eR mM mR jM jR u2) := HQ1.out.step hc
          clear hc
          clear c0 c1 d0 d1 m0 m1 n0 n1 j0 j1
          obtain ⟨c0, c1⟩ := CG_facts HQ2.out.1
          obtain ⟨d0, d1⟩ := CG_facts HQ2.out.2.1
          obtain ⟨m0, m1⟩ := CG_facts HQ2.out.2.2.2.1
          obtain ⟨n0, n1⟩ := CG_facts HQ2.out.2.2.2.2.1
          obtain ⟨j0, j1⟩ := CG_facts HQ2.out.2.2.2.2.2.1
          go_wp2_with fail
          refine hK.out _ _ (by (try dsimp only); go_keep) (fun hHeld => ?_)
          clear hK K
          try simp only [Act.put, getElem_toArray, getElem_cons_succ, getElem_cons_zero, setIfInBounds_toArray, set_cons_zero, set_cons_succ]
          refine wpAnyH_take (i := 20) (v := ?_) rfl (by kernel_rfl) (by kernel_rfl) (by kernel_rfl) (fun _ _ _ h => h) (Or.inl ⟨by rfl, ?_⟩) (by assumption) ?_
          rotate_left
          · intro w h; (try dsimp only at h); first | (go_simp; done) | (go_simp; with_reducible rfl)
          try simp only [Act.put, getElem_toArray, getElem_cons_succ, getElem_cons_zero, setIfInBounds_toArray, set_cons_zero, set_cons_succ]
          refine wpAnyH_take (i := 21) (v := ?_) rfl (by kernel_rfl) (by kernel_rfl) (by kernel_rfl) (fun _ _ _ h => h) (Or.inl ⟨by rfl, ?_⟩) (by assumption) ?_
          rotate_left
          · intro w h; (try dsimp only at h); first | (go_simp; done) | (go_simp; with_reducible rfl)
          try simp only [Act.put, getElem_toArray, getElem_cons_succ, getElem_cons_zero, setIfInBounds_toArray, set_cons_zero, set_cons_succ]
          refine wpAnyH_take (i := 22) (v := ?_) rfl (by kernel_rfl) (by kernel_rfl) (by kernel_rfl) (fun _ _ _ h => h) (Or.inl ⟨by rfl, ?_⟩) (by assumption) ?_
          rotate_left
          · intro w h; (try dsimp only at h); first | (go_simp; done) | (go_simp; with_reducible rfl)
          try simp only [Act.put, getElem_toArray, getElem_cons_succ, getElem_cons_zero, setIfInBounds_toArray, set_cons_zero, set_cons_succ]
          refine wpAnyH_take (i := 23) (v := ?_) rfl (by kernel_rfl) (by kernel_rfl) (by kernel_rfl) (fun _ _ _ h => h) (Or.inl ⟨by rfl, ?_⟩) (by assumption) ?_
          rotate_left
          · intro w h; (try dsimp only at h); first | (go_simp; done) | (go_simp; with_reducible rfl)
          try simp only [Act.put, getElem_toArray, getElem_cons_succ, getElem_cons_zero, setIfInBounds_toArray, set_cons_zero, set_cons_succ]
          refine wpAnyH_take (i := 24) (v := ?_) rfl (by kernel_rfl) (by kernel_rfl) (by kernel_rfl) (fun _ _ _ h => h) (Or.inl ⟨by rfl, ?_⟩) (by assumption) ?_
          rotate_left
          · intro w h; (try dsimp only at h); first | (go_simp; done) | (go_simp; with_reducible rfl)
          try simp only [Act.put, getElem_toArray, getElem_cons_succ, getElem_cons_zero, setIfInBounds_toArray, set_cons_zero, set_cons_succ]
          refine wpAnyH_take (i := 25) (v := ?_) rfl (by kernel_rfl) (by kernel_rfl) (by kernel_rfl) (fun _ _ _ h => h) (Or.inl ⟨by rfl, ?_⟩) (by assumption) ?_
          rotate_left
          · intro w h; (try dsimp only at h); first | (go_simp; done) | (go_simp; with_reducible rfl)
          try simp only [Act.put, getElem_toArray, getElem_cons_succ, getElem_cons_zero, setIfInBounds_toArray, set_cons_zero, set_cons_succ]
          refine wpAnyH_take (i := 26) (v := ?_) rfl (by kernel_rfl) (by kernel_rfl) (by kernel_rfl) (fun _ _ _ h => h) (Or.inl ⟨by rfl, ?_⟩) (by assumption) ?_
          rotate_left
          · intro w h; (try dsimp only at h); first | (go_simp; done) | (go_simp; with_reducible rfl)
          try simp only [Act.put, getElem_toArray, getElem_cons_succ, getElem_cons_zero, setIfInBounds_toArray, set_cons_zero, set_cons_succ]
          refine wpAnyH_take (i := 29) (v := ?_) rfl (by kernel_rfl) (by kernel_rfl) (by kernel_rfl) (fun _ _ _ h => h) (Or.inl ⟨by rfl, ?_⟩) (by assumption) ?_
          rotate_left
          · intro w h; (try dsimp only at h); first | (go_simp; done) | (go_simp; with_reducible rfl)
          try simp only [Act.put, getElem_toArray, getElem_cons_succ, getElem_cons_zero, setIfInBounds_toArray, set_cons_zero, set_cons_succ]
          refine wpAnyH_ready (rs := [27]) (by kernel_rfl) (by simp) ?_
          refine AllReadyH.cons rfl (fun K hK => ?_) AllReadyH.nil
          go_simp
          refine (linside_any mM mR v HF.out.2.2.1.1 HF.out.2.2.1.2 HU.out.2.2.2.2.2.2 _ _ (Ok.refl _)).mono ?_
          rintro e u3 ⟨⟨b, rfl, hbb⟩, hc⟩
          obtain rfl : b = true := HIM.out b hbb
          clear hbb
          have HQ3 : Hid (Six w0 g gm gn gj cM cR dM dR eM eR mM mR jM jR u3) := HQ2.out.step hc
          clear hc
          clear c0 c1 d0 d1 m0 m1 n0 n1 j0 j1
          obtain ⟨c0, c1⟩ := CG_facts HQ3.out.1
          obtain ⟨d0, d1⟩ := CG_facts HQ3.out.2.1
          obtain ⟨m0, m1⟩ := CG_facts HQ3.out.2.2.2.1
          obtain ⟨n0, n1⟩ := CG_facts HQ3.out.2.2.2.2.1
          obtain ⟨j0, j1⟩ := CG_facts HQ3.out.2.2.2.2.2.1
          go_wp2_with fail
          refine hK.out _ _ (by (try dsimp only); go_keep) (fun hHeld => ?_)
          clear hK K
          try simp only [Act.put, getElem_toArray, getElem_cons_succ, getElem_cons_zero, setIfInBounds_toArray, set_cons_zero, set_cons_succ]
          refine wpAnyH_take (i := 28) (v := ?_) rfl (by kernel_rfl) (by kernel_rfl) (by kernel_rfl) (fun _ _ _ h => h) (Or.inl ⟨by rfl, ?_⟩) (by assumption) ?_
          rotate_left
          · intro w h; (try dsimp only at h); first | (go_simp; done) | (go_simp; with_reducible rfl)
          try simp only [Act.put, getElem_toArray, getElem_cons_succ, getElem_cons_zero, setIfInBounds_toArray, set_cons_zero, set_cons_succ]
          refine wpAnyH_take (i := 30) (v := ?_) rfl (by kernel_rfl) (by kernel_rfl) (by kernel_rfl) (fun _ _ _ h => h) (Or.inl ⟨by rfl, ?_⟩) (by assumption) ?_
          rotate_left
          · intro w h; (try dsimp only at h); first | (go_simp; done) | (go_simp; with_reducible rfl)
          try simp only [Act.put, getElem_toArray, getElem_cons_succ, getElem_cons_zero, setIfInBounds_toArray, set_cons_zero, set_cons_succ]
          refine wpAnyH_take (i := 31) (v := ?_) rfl (by kernel_rfl) (by kernel_rfl) (by kernel_rfl) (fun _ _ _ h => h) (Or.inl ⟨by rfl, ?_⟩) (by assumption) ?_
          rotate_left
          · intro w h; (try dsimp only at h); first | (go_simp; done) | (go_simp; with_reducible rfl)
          try simp only [Act.put, getElem_toArray, getElem_cons_succ, getElem_cons_zero, setIfInBounds_toArray, set_cons_zero, set_cons_succ]
          refine wpAnyH_take (i := 32) (v := ?_) rfl (by kernel_rfl) (by kernel_rfl) (by kernel_rfl) (fun _ _ _ h => h) (Or.inl ⟨by rfl, ?_⟩) (by assumption) ?_
          rotate_left
          · intro w h; (try dsimp only at h); first | (go_simp; done) | (go_simp; with_reducible rfl)
          try simp only [Act.put, getElem_toArray, getElem_cons_succ, getElem_cons_zero, setIfInBounds_toArray, set_cons_zero, set_cons_succ]
          refine wpAnyH_take (i := 33) (v := ?_) rfl (by kernel_rfl) (by kernel_rfl) (by kernel_rfl) (fun _ _ _ h => h) (Or.inl ⟨by rfl, ?_⟩) (by assumption) ?_
          rotate_left
          · intro w h; (try dsimp only at h); first | (go_simp; done) | (go_simp; with_reducible rfl)
          try simp only [Act.put, getElem_toArray, getElem_cons_succ, getElem_cons_zero, setIfInBounds_toArray, set_cons_zero, set_cons_succ]
          refine wpAnyH_take (i := 34) (v := ?_) rfl (by kernel_rfl) (by kernel_rfl) (by kernel_rfl) (fun _ _ _ h => h) (Or.inl ⟨by rfl, ?_⟩) (by assumption) ?_
          rotate_left
          · intro w h; (try dsimp only at h); first | (go_simp; done) | (go_simp; with_reducible rfl)
          try simp only [Act.put, getElem_toArray, getElem_cons_succ, getElem_cons_zero, setIfInBounds_toArray, set_cons_zero, set_cons_succ]
          refine wpAnyH_take (i := 35) (v := ?_) rfl (by kernel_rfl) (by kernel_rfl) (by kernel_rfl) (fun _ _ _ h => h) (Or.inl ⟨by rfl, ?_⟩) (by assumption) ?_
          rotate_left
          · intro w h; (try dsimp only at h); first | (go_simp; done) | (go_simp; with_reducible rfl)
          try simp only [Act.put, getElem_toArray, getElem_cons_succ, getElem_cons_zero, setIfInBounds_toArray, set_cons_zero, set_cons_succ]
          refine wpAnyH_take (i := 36) (v := ?_) rfl (by kernel_rfl) (by kernel_rfl) (by kernel_rfl) (fun _ _ _ h => h) (Or.inl ⟨by rfl, ?_⟩) (by assumption) ?_
          rotate_left
          · intro w h; (try dsimp only at h); first | (go_simp; done) | (go_simp; with_reducible rfl)
          try simp only [Act.put, getElem_toArray, getElem_cons_succ, getElem_cons_zero, setIfInBounds_toArray, set_cons_zero, set_cons_succ]
          refine wpAnyH_take (i := 37) (v := ?_) rfl (by kernel_rfl) (by kernel_rfl) (by kernel_rfl) (fun _ _ _ h => h) (Or.inl ⟨by rfl, ?_⟩) (by assumption) ?_
          rotate_left
          · intro w h; (try dsimp only at h); first | (go_simp; done) | (go_simp; with_reducible rfl)
          try simp only [Act.put, getElem_toArray, getElem_cons_succ, getElem_cons_zero, setIfInBounds_toArray, set_cons_zero, set_cons_succ]
          refine wpAnyH_take (i := 38) (v := undef) rfl (by kernel_rfl) (by kernel_rfl) (by kernel_rfl) (fun _ _ _ h => h) (Or.inr ⟨by rfl, rfl⟩) (by assumption) ?_
          try simp only [Act.put, getElem_toArray, getElem_cons_succ, getElem_cons_zero, setIfInBounds_toArray, set_cons_zero, set_cons_succ]
          refine wpAnyH_take (i := 39) (v := ?_) rfl (by kernel_rfl) (by kernel_rfl) (by kernel_rfl) (fun _ _ _ h => h) (Or.inl ⟨by rfl, ?_⟩) (by assumption) ?_
          rotate_left
          · intro w h; (try dsimp only at h); first | (go_simp; done) | (go_simp; with_reducible rfl)
          try simp only [Act.put, getElem_toArray, getElem_cons_succ, getElem_cons_zero, setIfInBounds_toArray, set_cons_zero, set_cons_succ]
          refine wpAnyH_take (i := 40) (v := ?_) rfl (by kernel_rfl) (by kernel_rfl) (by kernel_rfl) (fun _ _ _ h => h) (Or.inl ⟨by rfl, ?_⟩) (by assumption) ?_
          rotate_left
          · intro w h; (try dsimp only at h); first | (go_simp; done) | (go_simp; with_reducible rfl)
          try simp only [Act.put, getElem_toArray, getElem_cons_succ, getElem_cons_zero, setIfInBounds_toArray, set_cons_zero, set_cons_succ]
          refine wpAnyH_take (i := 41) (v := ?_) rfl (by kernel_rfl) (by kernel_rfl) (by kernel_rfl) (fun _ _ _ h => h) (Or.inl ⟨by rfl, ?_⟩) (by assumption) ?_
          rotate_left
          · intro w h; (try dsimp only at h); first | (go_simp; done) | (go_simp; with_reducible rfl)
          try simp only [Act.put, getElem_toArray, getElem_cons_succ, getElem_cons_zero, setIfInBounds_toArray, set_cons_zero, set_cons_succ]
          refine wpAnyH_take (i := 42) (v := ?_) rfl (by kernel_rfl) (by kernel_rfl) (by kernel_rfl) (fun _ _ _ h => h) (Or.inl ⟨by rfl, ?_⟩) (by assumption) ?_
          rotate_left
          · intro w h; (try dsimp only at h); first | (go_simp; done) | (go_simp; with_reducible rfl)
          try simp only [Act.put, getElem_toArray, getElem_cons_succ, getElem_cons_zero, setIfInBounds_toArray, set_cons_zero, set_cons_succ]
          refine wpAnyH_ready (rs := [43]) (by kernel_rfl) (by simp) ?_
          refine AllReadyH.cons rfl (fun K hK => ?_) AllReadyH.nil
          go_simp
          refine (linside_any jM jR v HJ.out.1.1 HJ.out.1.2 HU.out.2.2.2.2.2.2 _ _ (Ok.refl _)).mono ?_
          rintro e u4 ⟨⟨b, rfl, hbb⟩, hc⟩
          obtain rfl : b = true := hbb.2 HIJ.out
          clear hbb
          have HQ4 : Hid (Six w0 g gm gn gj cM cR dM dR eM eR mM mR jM jR u4) := HQ3.out.step hc
          clear hc
          clear c0 c1 d0 d1 m0 m1 n0 n1 j0 j1
          obtain ⟨c0, c1⟩ := CG_facts HQ4.out.1
          obtain ⟨d0, d1⟩ := CG_facts HQ4.out.2.1
          obtain ⟨m0, m1⟩ := CG_facts HQ4.out.2.2.2.1
          obtain ⟨n0, n1⟩ := CG_facts HQ4.out.2.2.2.2.1
          obtain ⟨j0, j1⟩ := CG_facts HQ4.out.2.2.2.2.2.1
          go_wp2_with fail
          refine hK.out _ _ (by (try dsimp only); go_keep) (fun hHeld => ?_)
          clear hK K
          try simp only [Act.put, getElem_toArray, getElem_cons_succ, getElem_cons_zero, setIfInBounds_toArray, set_cons_zero, set_cons_succ]
          refine wpAnyH_take (i := 44) (v := ?_) rfl (by kernel_rfl) (by kernel_rfl) (by kernel_rfl) (fun _ _ _ h => h) (Or.inl ⟨by rfl, ?_⟩) (by assumption) ?_
          rotate_left
          · intro w h; (try dsimp only at h); first | (go_simp; done) | (go_simp; with_reducible rfl)
          try simp only [Act.put, getElem_toArray, getElem_cons_succ, getElem_cons_zero, setIfInBounds_toArray, set_cons_zero, set_cons_succ]
          refine wpAnyH_take (i := 45) (v := ?_) rfl (by kernel_rfl) (by kernel_rfl) (by kernel_rfl) (fun _ _ _ h => h) (Or.inl ⟨by rfl, ?_⟩) (by assumption) ?_
          rotate_left
          · intro w h; (try dsimp only at h); first | (go_simp; done) | (go_simp; with_reducible rfl)
          try simp only [Act.put, getElem_toArray, getElem_cons_succ, getElem_cons_zero, setIfInBounds_toArray, set_cons_zero, set_cons_succ]
          refine wpAnyH_take (i := 46) (v := ?_) rfl (by kernel_rfl) (by kernel_rfl) (by kernel_rfl) (fun _ _ _ h => h) (Or.inl ⟨by rfl, ?_⟩) (by assumption) ?_
          rotate_left
          · intro w h; (try dsimp only at h); first | (go_simp; done) | (go_simp; with_reducible rfl)
          try simp only [Act.put, getElem_toArray, getElem_cons_succ, getElem_cons_zero, setIfInBounds_toArray, set_cons_zero, set_cons_succ]
          refine wpAnyH_done (by kernel_rfl) ?_ _
          go_wp2_with fail
          exact HT7.out _ _ _ _ _ _ _ _ _ _ _ _ _ _ _ _ _ _ _ _ _ _ _ _ _ _ _ _ _ _ _ _ _ _ _ _ _ _ _ _ _ _ _ _ _ _ _ _ HQ4.out
end Go.Proofs.Ytckkfmgbpembjaa
