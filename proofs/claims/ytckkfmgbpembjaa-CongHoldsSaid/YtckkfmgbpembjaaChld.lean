import Derived.Test.YtckkfmgbpembjaaCwk
import Derived.Test.YtckkfmgbpembjaaCwr
import Derived.Test.YtckkfmgbpembjaaChd
import Derived.Test.YtckkfmgbpembjaaCrmc
set_option linter.unusedVariables false
set_option linter.unusedSimpArgs false
set_option linter.unnecessarySimpa false
/- CongHolds: the law's walk. -/
namespace Go.Proofs.Ytckkfmgbpembjaa
open Go.RowKit
theorem row6_facts {w : World} {g : Nat} {a b c d e f : Value} {t : TypeId} (h : w.heap[g]? = some (.cells #[a, b, c, d, e, f] t (0, 0))) :
    w.cell? ⟨g, 0, none⟩ = some a ∧ w.cell? ⟨g, 1, none⟩ = some b ∧ w.cell? ⟨g, 2, none⟩ = some c ∧ w.cell? ⟨g, 3, none⟩ = some d ∧ w.cell? ⟨g, 4, none⟩ = some e ∧ w.cell? ⟨g, 5, none⟩ = some f := by
  refine ⟨?_, ?_, ?_, ?_, ?_, ?_⟩
  · exact (cell_of_row _ _ 0 _ _ _ h).trans (by simp)
  · exact (cell_of_row _ _ 1 _ _ _ h).trans (by simp)
  · exact (cell_of_row _ _ 2 _ _ _ h).trans (by simp)
  · exact (cell_of_row _ _ 3 _ _ _ h).trans (by simp)
  · exact (cell_of_row _ _ 4 _ _ _ h).trans (by simp)
  · exact (cell_of_row _ _ 5 _ _ _ h).trans (by simp)
theorem hbits_wrap (z : Int) : bitsN (wrap64 z) = bitsN z := by unfold bitsN wrap64; omega
theorem addC_const {x y : Int} (hx : In64 x) (hy : In64 y) (e : Bool) : addC 0 (bitsN x) 0 (bitsN y) e = (0, bitsN (x + y)) := by unfold addC; rw [if_pos ⟨rfl, rfl⟩, wrap_bits hx, wrap_bits hy, hbits_wrap]
theorem mulC_const {x y : Int} (hx : In64 x) (hy : In64 y) (e : Bool) : mulC 0 (bitsN x) 0 (bitsN y) e = (0, bitsN (x * y)) := by unfold mulC; rw [if_pos ⟨rfl, rfl⟩, wrap_bits hx, wrap_bits hy, hbits_wrap]
theorem negC_const {x : Int} (hx : In64 x) (e : Bool) : negC 0 (bitsN x) e = (0, bitsN (-x)) := by unfold negC; rw [if_pos rfl, wrap_bits hx, hbits_wrap]
theorem bits_zero {y : Int} (hy : In64 y) : bitsN y = 0 ↔ y = 0 := by unfold In64 at hy; unfold bitsN; omega
theorem divC_none {x : Int} : divC 0 (bitsN x) 0 (bitsN 0) = (1, 0) := by unfold divC; rw [if_pos (Or.inr (wrap_bits (v := 0) (by unfold In64; omega)))]
theorem remC_none {x : Int} : remC 0 (bitsN x) 0 (bitsN 0) = (1, 0) := by unfold remC; rw [if_pos ⟨rfl, rfl⟩]
theorem divC_const {x y : Int} (hx : In64 x) (hy : In64 y) (h0 : y ≠ 0) : divC 0 (bitsN x) 0 (bitsN y) = (0, bitsN (if y = -1 then wrap64 (-x) else x.tdiv y)) := by
  unfold divC; rw [wrap_bits hx, wrap_bits hy, if_neg (by omega), if_pos rfl]
theorem remC_const {x y : Int} (hx : In64 x) (hy : In64 y) (h0 : y ≠ 0) : remC 0 (bitsN x) 0 (bitsN y) = (0, bitsN (if y = -1 then 0 else x.tmod y)) := by
  unfold remC; rw [wrap_bits hx, wrap_bits hy, if_neg (fun h => h0 ((bits_zero hy).1 h.2)), if_pos ⟨rfl, rfl⟩]
theorem byG_u64 (g : Nat) (e : Bool) : U64 (byG g e) := by
  unfold byG
  split
  · rename_i h; exact h.2
  · exact twoN_u64 g
theorem cls_u64 {f : Nat} {s : Bool} {g : Nat} (h : 0 < g) (e : Bool) : U64 (byG g e) ∧ U64 (restN f s (byG g e)) := by
  have a := byG_u64 g e
  have b := restN_lt (f := f) (s := s) (byG_pos h e)
  refine ⟨a, ?_⟩
  unfold U64 at *; omega
theorem neg_u64 {cM cR : Nat} {e : Bool} (h1 : U64 cM) (h2 : U64 cR) : U64 (negC cM cR e).1 ∧ U64 (negC cM cR e).2 := by
  unfold negC
  split
  · exact ⟨show 0 < 18446744073709551616 by omega, bitsN_u64 _⟩
  · exact cls_u64 (by omega) e
theorem gcd_pos2 {a b : Nat} (h : ¬ (a = 0 ∧ b = 0)) : 0 < Nat.gcd a b := by
  by_cases hc : a = 0
  · rw [hc, Nat.gcd_zero_left]; omega
  · exact Nat.gcd_pos_of_pos_left _ (by omega)
theorem add_u64 {cM cR dM dR : Nat} {e : Bool} (h1 : U64 cM) (h2 : U64 cR) (h3 : U64 dM) (h4 : U64 dR) : U64 (addC cM cR dM dR e).1 ∧ U64 (addC cM cR dM dR e).2 := by
  unfold addC
  split
  · exact ⟨show 0 < 18446744073709551616 by omega, bitsN_u64 _⟩
  · rename_i h; exact cls_u64 (gcd_pos2 h) e
theorem sub_u64 {cM cR dM dR : Nat} {e : Bool} (h1 : U64 cM) (h2 : U64 cR) (h3 : U64 dM) (h4 : U64 dR) : U64 (subC cM cR dM dR e).1 ∧ U64 (subC cM cR dM dR e).2 := by
  unfold subC
  split
  · exact ⟨show 0 < 18446744073709551616 by omega, bitsN_u64 _⟩
  · rename_i h; exact cls_u64 (gcd_pos2 h) e
theorem mul_u64 {cM cR dM dR : Nat} {e : Bool} (h1 : U64 cM) (h2 : U64 cR) (h3 : U64 dM) (h4 : U64 dR) : U64 (mulC cM cR dM dR e).1 ∧ U64 (mulC cM cR dM dR e).2 := by
  unfold mulC
  split
  · exact ⟨show 0 < 18446744073709551616 by omega, bitsN_u64 _⟩
  · split
    · exact ⟨show 0 < 18446744073709551616 by omega, show 0 < 18446744073709551616 by omega⟩
    · rename_i h h'; exact cls_u64 (mulG_pos h2 h4 h (fun a => h' (Or.inl a)) (fun a => h' (Or.inr a))) e
theorem div_u64 {cM cR dM dR : Nat} (h1 : U64 cM) : U64 (divC cM cR dM dR).1 ∧ U64 (divC cM cR dM dR).2 := by
  have one : U64 1 ∧ U64 0 := ⟨show 1 < 18446744073709551616 by omega, show 0 < 18446744073709551616 by omega⟩
  unfold divC
  split
  · exact one
  · split
    · exact ⟨one.2, bitsN_u64 _⟩
    · split
      · exact one
      · rename_i h h' h''
        have a := Nat.div_le_self cM (wrap64 (dR : Int)).natAbs
        have d := Nat.div_add_mod cM (wrap64 (dR : Int)).natAbs
        have p : 0 < cM / (wrap64 (dR : Int)).natAbs := by
          rcases Nat.eq_zero_or_pos (cM / (wrap64 (dR : Int)).natAbs) with z | z
          · rw [z] at d; simp at d; omega
          · exact z
        have b := restN_lt (f := cR % cM / (wrap64 (dR : Int)).natAbs) (s := decide (wrap64 (dR : Int) < 0)) p
        unfold U64 at *; simp only; omega
theorem rem_u64 {cM cR dM dR : Nat} (h1 : U64 cM) (h3 : U64 dM) : U64 (remC cM cR dM dR).1 ∧ U64 (remC cM cR dM dR).2 := by
  have one : U64 1 ∧ U64 0 := ⟨show 1 < 18446744073709551616 by omega, show 0 < 18446744073709551616 by omega⟩
  unfold remC
  split
  · exact one
  · split
    · exact ⟨one.2, bitsN_u64 _⟩
    · rename_i h h'
      have a := remG_u64 (dR := dR) h1 h3 (by omega)
      have b := restN_lt (f := rF cM cR) (s := rS cM cR) a.2
      have a1 := a.1
      refine ⟨a1, ?_⟩
      unfold U64 at *; omega
def HInv (w0 : World) (g gs : Nat) (cM cR dM dR : Nat) (X Y : Int) (wr : World) : Prop :=
  wr.heap[g]? = some (.cells #[.int .u64 (cM : Int), .int .u64 (cR : Int), .int .u64 (dM : Int), .int .u64 (dR : Int), .int .i64 X, .int .i64 Y] 37) ∧ wr.heap[gs]? = some (.cells #[.bool true, .bool false] 4) ∧ Ok w0 wr
theorem HInv.step {w0 wr w1 : World} {g gs cM cR dM dR : Nat} {X Y : Int} (h : HInv w0 g gs cM cR dM dR X Y wr) (hb : Ok wr w1) : HInv w0 g gs cM cR dM dR X Y w1 := ⟨Ok.row' hb h.1, Ok.row' hb h.2.1, h.2.2.step hb⟩
theorem bool_cell {w : World} {g k : Nat} {t : TypeId} (h : w.heap[g]? = some (.cells #[.bool true, .bool false] t (0, 0))) (hk : k < 2) : w.cell? ⟨g, k, none⟩ = some (.bool (decide (k = 0))) := by
  rw [cell_of_row _ _ _ _ _ _ h]
  match k, hk with
  | 0, _ => rfl
  | 1, _ => rfl
set_option maxRecDepth 100000 in
set_option maxHeartbeats 20000000 in
theorem holds_any (cM cR dM dR : Nat) (X Y : Int) (h1 : U64 cM) (h2 : U64 cR) (h3 : U64 dM) (h4 : U64 dR) (hX : In64 X) (hY : In64 Y) (w0 w : World) (hok : Ok w0 w) :
    Calls Try.prog 5 #[.agg #[.int .u64 (cM : Int), .int .u64 (cR : Int), .int .u64 (dM : Int), .int .u64 (dR : Int), .int .i64 X, .int .i64 Y]] w fun e w' => e = .returned (.bool true) ∧ Ok w0 w' := by
  have HU : Hid _ := And.intro h1 (And.intro h2 (And.intro h3 (And.intro h4 (And.intro hX hY))))
  clear h1 h2 h3 h4 hX hY
  go_enter Try.func5, Try.ntmps5
  go_wp2_with fail
  obtain ⟨W, hW⟩ : ∃ W, W = w.alloc (.cells #[.int .u64 (cM : Int), .int .u64 (cR : Int), .int .u64 (dM : Int), .int .u64 (dR : Int), .int .i64 X, .int .i64 Y] 37) := ⟨_, rfl⟩
  have ra : W.heap[w.heap.size]? = some (.cells #[.int .u64 (cM : Int), .int .u64 (cR : Int), .int .u64 (dM : Int), .int .u64 (dR : Int), .int .i64 X, .int .i64 Y] 37) := by rw [hW]; exact (by repeat (first | (refine heap_at _ _ _ ?hx; case hx => (first | (simp; done) | (simp; omega))) | (refine heap_past _ _ _ ?hy ?_; case hy => (first | (simp; done) | (simp; omega))) | fail))
  have hoW : Ok w0 W := by rw [hW]; exact (by repeat (first | exact hok | refine Ok.alloc ?_ _ | refine Ok.draws ?_ _ | fail))
  rw [← hW]
  clear hW hok
  obtain ⟨g, hg⟩ : ∃ g, g = w.heap.size := ⟨_, rfl⟩
  rw [← hg] at ra ⊢
  clear hg
  refine (works_any W W (Ok.refl _)).mono ?_
  rintro e w1 ⟨rfl, hb1⟩
  have HR1 : Hid (_ ∧ _) := And.intro (Ok.row' hb1 ra) (hoW.step hb1)
  clear hb1 ra hoW
  obtain ⟨c0, c1, c2, c3, c4, c5⟩ := row6_facts HR1.out.1
  go_wp2_with fail
  refine (lsome_any cM cR X HU.out.1 HU.out.2.1 HU.out.2.2.2.2.1 w1 _ (Ok.refl _)).mono ?_
  rintro e w2 ⟨⟨x, bx, rfl, hxi, hxm⟩, hb2⟩
  have HR2 : Hid (_ ∧ _) := And.intro (Ok.row' hb2 HR1.out.1) (HR1.out.2.step hb2)
  clear hb2 c0 c1 c2 c3 c4 c5
  obtain ⟨c0, c1, c2, c3, c4, c5⟩ := row6_facts HR2.out.1
  go_wp2_with fail
  refine (lsome_any dM dR Y HU.out.2.2.1 HU.out.2.2.2.1 HU.out.2.2.2.2.2 w2 _ (Ok.refl _)).mono ?_
  rintro e w3 ⟨⟨y, byy, rfl, hyi, hym⟩, hb3⟩
  have HR3 : Hid (_ ∧ _) := And.intro (Ok.row' hb3 HR2.out.1) (HR2.out.2.step hb3)
  clear hb3 c0 c1 c2 c3 c4 c5
  obtain ⟨c0, c1, c2, c3, c4, c5⟩ := row6_facts HR3.out.1
  cases bx
  · go_wp2_with fail
    go_ret
    exact ⟨rfl, HR3.out.2⟩
  cases byy
  · go_wp2_with fail
    go_ret
    exact ⟨rfl, HR3.out.2⟩
  have HX : Hid (In64 x ∧ MemC cM cR x) := ⟨hxi, hxm rfl⟩
  have HY : Hid (In64 y ∧ MemC dM dR y) := ⟨hyi, hym rfl⟩
  clear hxi hxm hyi hym
  go_wp2_with fail
  refine (linside_any cM cR x HU.out.1 HU.out.2.1 HX.out.1 w3 _ (Ok.refl _)).mono ?_
  rintro e w4 ⟨⟨b, rfl, hbb⟩, hb4⟩
  obtain rfl : b = true := hbb.2 HX.out.2
  have HR4 : Hid (_ ∧ _) := And.intro (Ok.row' hb4 HR3.out.1) (HR3.out.2.step hb4)
  clear hb4 c0 c1 c2 c3 c4 c5 hbb
  obtain ⟨c0, c1, c2, c3, c4, c5⟩ := row6_facts HR4.out.1
  go_wp2_with fail
  refine (linside_any dM dR y HU.out.2.2.1 HU.out.2.2.2.1 HY.out.1 w4 _ (Ok.refl _)).mono ?_
  rintro e w5 ⟨⟨b, rfl, hbb⟩, hb5⟩
  obtain rfl : b = true := hbb.2 HY.out.2
  have HR5 : Hid (_ ∧ _) := And.intro (Ok.row' hb5 HR4.out.1) (HR4.out.2.step hb5)
  clear hb5 c0 c1 c2 c3 c4 c5 hbb
  have z5 := lt_row HR5.out.1
  go_wp2_with fail
  obtain ⟨gs, hgs⟩ : ∃ gs, gs = w5.heap.size := ⟨_, rfl⟩
  have HS : Hid (HInv w0 g gs cM cR dM dR X Y (w5.alloc (.cells #[.bool true, .bool false] 4))) :=
    ⟨heap_past _ _ _ z5 HR5.out.1, by rw [hgs]; exact heap_new0 _ _, HR5.out.2.alloc _⟩
  rw [← hgs]
  clear hgs z5
  obtain ⟨W1, hW1⟩ : ∃ W1, W1 = w5.alloc (.cells #[.bool true, .bool false] 4) := ⟨_, rfl⟩
  rw [← hW1] at HS ⊢
  clear hW1
  go_loopw [51] (fun i wr => ∃ k : Nat, k ≤ 2 ∧ i = .int .i64 k ∧ Hid (HInv w0 g gs cM cR dM dR X Y wr)) (fun i _ => (2 - intOf i).toNat)
  case atStart => exact ⟨0, by omega, rfl, HS⟩
  case round =>
    obtain ⟨k, hk, rfl, HI⟩ := hrel
    clear HS
    by_cases hk1 : k < 2
    · have hk2 : (k : Int) < 2 := by omega
      have HK : Hid (k < 2) := hk1
      have cx := bool_cell HI.out.2.1 hk1
      obtain ⟨ex, hex⟩ : ∃ ex : Bool, ex = decide (k = 0) := ⟨_, rfl⟩
      rw [← hex] at cx
      clear hex hk hk1
      obtain ⟨c0, c1, c2, c3, c4, c5⟩ := row6_facts HI.out.1
      cases ex
      · skip
        obtain ⟨v0, hv0⟩ : ∃ v, v = wr := ⟨_, rfl⟩
        have HI0 : Hid (HInv w0 g gs cM cR dM dR X Y v0) := by rw [hv0]; exact HI
        rw [← hv0] at c0 c1 c2 c3 c4 c5 cx ⊢
        clear hv0 HI
        go_wp2_with fail
        refine (pneg_any cM cR false HU.out.1 HU.out.2.1 v0 _ (Ok.refl _)).mono ?_
        rintro e v1 ⟨rfl, hbN⟩
        have HI1 : Hid (HInv w0 g gs cM cR dM dR X Y v1) := HI0.out.step hbN
        clear hbN c0 c1 c2 c3 c4 c5
        obtain ⟨c0, c1, c2, c3, c4, c5⟩ := row6_facts HI1.out.1
        have HMM : Hid (MemC (negC cM cR false).1 (negC cM cR false).2 (wrap64 (-x))) := neg_memC (e := false) HX.out.2 HX.out.1 (Or.inr ⟨rfl, rfl⟩)
        have HUU : Hid (U64 (negC cM cR false).1 ∧ U64 (negC cM cR false).2) := neg_u64 HU.out.1 HU.out.2.1
        obtain ⟨XX, hXX⟩ : ∃ t, t = negC cM cR false := ⟨_, rfl⟩
        rw [← hXX] at HMM HUU ⊢
        clear hXX
        go_wp2_with fail
        refine (linside_any XX.1 XX.2 (wrap64 (-x)) HUU.out.1 HUU.out.2 (wrap64_in _) v1 _ (Ok.refl _)).mono ?_
        rintro e v2 ⟨⟨b, rfl, hbb⟩, hbN⟩
        obtain rfl : b = true := hbb.2 HMM.out
        have HI2 : Hid (HInv w0 g gs cM cR dM dR X Y v2) := HI1.out.step hbN
        clear hbb HMM HUU
        clear hbN c0 c1 c2 c3 c4 c5
        obtain ⟨c0, c1, c2, c3, c4, c5⟩ := row6_facts HI2.out.1
        go_wp2_with fail
        refine (padd_any cM cR dM dR false HU.out.1 HU.out.2.1 HU.out.2.2.1 HU.out.2.2.2.1 v2 _ (Ok.refl _)).mono ?_
        rintro e v3 ⟨rfl, hbN⟩
        have HI3 : Hid (HInv w0 g gs cM cR dM dR X Y v3) := HI2.out.step hbN
        clear hbN c0 c1 c2 c3 c4 c5
        obtain ⟨c0, c1, c2, c3, c4, c5⟩ := row6_facts HI3.out.1
        have HMM : Hid (MemC (addC cM cR dM dR false).1 (addC cM cR dM dR false).2 (wrap64 (x + y))) := add_memC (e := false) HX.out.2 HY.out.2 (Or.inr ⟨rfl, rfl⟩)
        have HUU : Hid (U64 (addC cM cR dM dR false).1 ∧ U64 (addC cM cR dM dR false).2) := add_u64 HU.out.1 HU.out.2.1 HU.out.2.2.1 HU.out.2.2.2.1
        obtain ⟨XX, hXX⟩ : ∃ t, t = addC cM cR dM dR false := ⟨_, rfl⟩
        rw [← hXX] at HMM HUU ⊢
        clear hXX
        go_wp2_with fail
        refine (linside_any XX.1 XX.2 (wrap64 (x + y)) HUU.out.1 HUU.out.2 (wrap64_in _) v3 _ (Ok.refl _)).mono ?_
        rintro e v4 ⟨⟨b, rfl, hbb⟩, hbN⟩
        obtain rfl : b = true := hbb.2 HMM.out
        have HI4 : Hid (HInv w0 g gs cM cR dM dR X Y v4) := HI3.out.step hbN
        clear hbb HMM HUU
        clear hbN c0 c1 c2 c3 c4 c5
        obtain ⟨c0, c1, c2, c3, c4, c5⟩ := row6_facts HI4.out.1
        go_wp2_with fail
        refine (psub_any cM cR dM dR false HU.out.1 HU.out.2.1 HU.out.2.2.1 HU.out.2.2.2.1 v4 _ (Ok.refl _)).mono ?_
        rintro e v5 ⟨rfl, hbN⟩
        have HI5 : Hid (HInv w0 g gs cM cR dM dR X Y v5) := HI4.out.step hbN
        clear hbN c0 c1 c2 c3 c4 c5
        obtain ⟨c0, c1, c2, c3, c4, c5⟩ := row6_facts HI5.out.1
        have HMM : Hid (MemC (subC cM cR dM dR false).1 (subC cM cR dM dR false).2 (wrap64 (x - y))) := sub_memC (e := false) HX.out.2 HY.out.2 (Or.inr ⟨rfl, rfl⟩)
        have HUU : Hid (U64 (subC cM cR dM dR false).1 ∧ U64 (subC cM cR dM dR false).2) := sub_u64 HU.out.1 HU.out.2.1 HU.out.2.2.1 HU.out.2.2.2.1
        obtain ⟨XX, hXX⟩ : ∃ t, t = subC cM cR dM dR false := ⟨_, rfl⟩
        rw [← hXX] at HMM HUU ⊢
        clear hXX
        go_wp2_with fail
        refine (linside_any XX.1 XX.2 (wrap64 (x - y)) HUU.out.1 HUU.out.2 (wrap64_in _) v5 _ (Ok.refl _)).mono ?_
        rintro e v6 ⟨⟨b, rfl, hbb⟩, hbN⟩
        obtain rfl : b = true := hbb.2 HMM.out
        have HI6 : Hid (HInv w0 g gs cM cR dM dR X Y v6) := HI5.out.step hbN
        clear hbb HMM HUU
        clear hbN c0 c1 c2 c3 c4 c5
        obtain ⟨c0, c1, c2, c3, c4, c5⟩ := row6_facts HI6.out.1
        go_wp2_with fail
        refine (pmul_any cM cR dM dR false HU.out.1 HU.out.2.1 HU.out.2.2.1 HU.out.2.2.2.1 v6 _ (Ok.refl _)).mono ?_
        rintro e v7 ⟨rfl, hbN⟩
        have HI7 : Hid (HInv w0 g gs cM cR dM dR X Y v7) := HI6.out.step hbN
        clear hbN c0 c1 c2 c3 c4 c5
        obtain ⟨c0, c1, c2, c3, c4, c5⟩ := row6_facts HI7.out.1
        have HMM : Hid (MemC (mulC cM cR dM dR false).1 (mulC cM cR dM dR false).2 (wrap64 (x * y))) := mul_memC (e := false) HU.out.2.1 HU.out.2.2.2.1 HX.out.2 HY.out.2 (Or.inr ⟨rfl, rfl⟩)
        have HUU : Hid (U64 (mulC cM cR dM dR false).1 ∧ U64 (mulC cM cR dM dR false).2) := mul_u64 HU.out.1 HU.out.2.1 HU.out.2.2.1 HU.out.2.2.2.1
        obtain ⟨XX, hXX⟩ : ∃ t, t = mulC cM cR dM dR false := ⟨_, rfl⟩
        rw [← hXX] at HMM HUU ⊢
        clear hXX
        go_wp2_with fail
        refine (linside_any XX.1 XX.2 (wrap64 (x * y)) HUU.out.1 HUU.out.2 (wrap64_in _) v7 _ (Ok.refl _)).mono ?_
        rintro e v8 ⟨⟨b, rfl, hbb⟩, hbN⟩
        obtain rfl : b = true := hbb.2 HMM.out
        have HI8 : Hid (HInv w0 g gs cM cR dM dR X Y v8) := HI7.out.step hbN
        clear hbb HMM HUU
        clear hbN c0 c1 c2 c3 c4 c5
        obtain ⟨c0, c1, c2, c3, c4, c5⟩ := row6_facts HI8.out.1
        go_wp2_with fail
        refine ⟨⟨k + 1, by have := HK.out; omega, by congr 1, HI8⟩, ?_⟩
        have := HK.out
        simp only [intOf]; omega
      · skip
        obtain ⟨v0, hv0⟩ : ∃ v, v = wr := ⟨_, rfl⟩
        have HI0 : Hid (HInv w0 g gs cM cR dM dR X Y v0) := by rw [hv0]; exact HI
        rw [← hv0] at c0 c1 c2 c3 c4 c5 cx ⊢
        clear hv0 HI
        by_cases hmin : x = -9223372036854775808
        · have m1 : (x != -9223372036854775808) = false := by simp [hmin]
          clear hmin
          go_wp2_with fail
          refine (lwr0_any x y HX.out.1 HY.out.1 _).mono ?_
          rintro e u ⟨⟨b, rfl, hbb⟩, hu⟩
          rw [hu]
          clear hu
          clear u
          cases b
          · have HNW : Hid (In64 (x + y)) := hbb.1 rfl
            clear hbb
            go_wp2_with fail
            refine (padd_any cM cR dM dR true HU.out.1 HU.out.2.1 HU.out.2.2.1 HU.out.2.2.2.1 v0 _ (Ok.refl _)).mono ?_
            rintro e v1 ⟨rfl, hbN⟩
            have HI1 : Hid (HInv w0 g gs cM cR dM dR X Y v1) := HI0.out.step hbN
            clear hbN c0 c1 c2 c3 c4 c5
            obtain ⟨c0, c1, c2, c3, c4, c5⟩ := row6_facts HI1.out.1
            have HMM : Hid (MemC (addC cM cR dM dR true).1 (addC cM cR dM dR true).2 (wrap64 (x + y))) := add_memC (e := true) HX.out.2 HY.out.2 (Or.inl ⟨wrap64_id HNW.out, wrap64_in _⟩)
            have HUU : Hid (U64 (addC cM cR dM dR true).1 ∧ U64 (addC cM cR dM dR true).2) := add_u64 HU.out.1 HU.out.2.1 HU.out.2.2.1 HU.out.2.2.2.1
            obtain ⟨XX, hXX⟩ : ∃ t, t = addC cM cR dM dR true := ⟨_, rfl⟩
            rw [← hXX] at HMM HUU ⊢
            clear hXX
            go_wp2_with fail
            refine (linside_any XX.1 XX.2 (wrap64 (x + y)) HUU.out.1 HUU.out.2 (wrap64_in _) v1 _ (Ok.refl _)).mono ?_
            rintro e v2 ⟨⟨b, rfl, hbb⟩, hbN⟩
            obtain rfl : b = true := hbb.2 HMM.out
            have HI2 : Hid (HInv w0 g gs cM cR dM dR X Y v2) := HI1.out.step hbN
            clear hbb HMM HUU
            clear hbN c0 c1 c2 c3 c4 c5
            obtain ⟨c0, c1, c2, c3, c4, c5⟩ := row6_facts HI2.out.1
            clear HNW
            go_wp2_with fail
            refine (lwr1_any x y HX.out.1 HY.out.1 _).mono ?_
            rintro e u ⟨⟨b, rfl, hbb⟩, hu⟩
            rw [hu]
            clear hu
            clear u
            cases b
            · have HNW : Hid (In64 (x - y)) := hbb.1 rfl
              clear hbb
              go_wp2_with fail
              refine (psub_any cM cR dM dR true HU.out.1 HU.out.2.1 HU.out.2.2.1 HU.out.2.2.2.1 v2 _ (Ok.refl _)).mono ?_
              rintro e v3 ⟨rfl, hbN⟩
              have HI3 : Hid (HInv w0 g gs cM cR dM dR X Y v3) := HI2.out.step hbN
              clear hbN c0 c1 c2 c3 c4 c5
              obtain ⟨c0, c1, c2, c3, c4, c5⟩ := row6_facts HI3.out.1
              have HMM : Hid (MemC (subC cM cR dM dR true).1 (subC cM cR dM dR true).2 (wrap64 (x - y))) := sub_memC (e := true) HX.out.2 HY.out.2 (Or.inl ⟨wrap64_id HNW.out, wrap64_in _⟩)
              have HUU : Hid (U64 (subC cM cR dM dR true).1 ∧ U64 (subC cM cR dM dR true).2) := sub_u64 HU.out.1 HU.out.2.1 HU.out.2.2.1 HU.out.2.2.2.1
              obtain ⟨XX, hXX⟩ : ∃ t, t = subC cM cR dM dR true := ⟨_, rfl⟩
              rw [← hXX] at HMM HUU ⊢
              clear hXX
              go_wp2_with fail
              refine (linside_any XX.1 XX.2 (wrap64 (x - y)) HUU.out.1 HUU.out.2 (wrap64_in _) v3 _ (Ok.refl _)).mono ?_
              rintro e v4 ⟨⟨b, rfl, hbb⟩, hbN⟩
              obtain rfl : b = true := hbb.2 HMM.out
              have HI4 : Hid (HInv w0 g gs cM cR dM dR X Y v4) := HI3.out.step hbN
              clear hbb HMM HUU
              clear hbN c0 c1 c2 c3 c4 c5
              obtain ⟨c0, c1, c2, c3, c4, c5⟩ := row6_facts HI4.out.1
              clear HNW
              go_wp2_with fail
              refine (lwr2_any x y HX.out.1 HY.out.1 _).mono ?_
              rintro e u ⟨⟨b, rfl, hbb⟩, hu⟩
              rw [hu]
              clear hu
              clear u
              cases b
              · have HNW : Hid (In64 (x * y)) := hbb.1 rfl
                clear hbb
                go_wp2_with fail
                refine (pmul_any cM cR dM dR true HU.out.1 HU.out.2.1 HU.out.2.2.1 HU.out.2.2.2.1 v4 _ (Ok.refl _)).mono ?_
                rintro e v5 ⟨rfl, hbN⟩
                have HI5 : Hid (HInv w0 g gs cM cR dM dR X Y v5) := HI4.out.step hbN
                clear hbN c0 c1 c2 c3 c4 c5
                obtain ⟨c0, c1, c2, c3, c4, c5⟩ := row6_facts HI5.out.1
                have HMM : Hid (MemC (mulC cM cR dM dR true).1 (mulC cM cR dM dR true).2 (wrap64 (x * y))) := mul_memC (e := true) HU.out.2.1 HU.out.2.2.2.1 HX.out.2 HY.out.2 (Or.inl ⟨wrap64_id HNW.out, wrap64_in _⟩)
                have HUU : Hid (U64 (mulC cM cR dM dR true).1 ∧ U64 (mulC cM cR dM dR true).2) := mul_u64 HU.out.1 HU.out.2.1 HU.out.2.2.1 HU.out.2.2.2.1
                obtain ⟨XX, hXX⟩ : ∃ t, t = mulC cM cR dM dR true := ⟨_, rfl⟩
                rw [← hXX] at HMM HUU ⊢
                clear hXX
                go_wp2_with fail
                refine (linside_any XX.1 XX.2 (wrap64 (x * y)) HUU.out.1 HUU.out.2 (wrap64_in _) v5 _ (Ok.refl _)).mono ?_
                rintro e v6 ⟨⟨b, rfl, hbb⟩, hbN⟩
                obtain rfl : b = true := hbb.2 HMM.out
                have HI6 : Hid (HInv w0 g gs cM cR dM dR X Y v6) := HI5.out.step hbN
                clear hbb HMM HUU
                clear hbN c0 c1 c2 c3 c4 c5
                obtain ⟨c0, c1, c2, c3, c4, c5⟩ := row6_facts HI6.out.1
                clear HNW
                go_wp2_with fail
                refine ⟨⟨k + 1, by have := HK.out; omega, by congr 1, HI6⟩, ?_⟩
                have := HK.out
                simp only [intOf]; omega
              · clear hbb
                go_wp2_with fail
                refine ⟨⟨k + 1, by have := HK.out; omega, by congr 1, HI4⟩, ?_⟩
                have := HK.out
                simp only [intOf]; omega
            · clear hbb
              go_wp2_with fail
              refine (lwr2_any x y HX.out.1 HY.out.1 _).mono ?_
              rintro e u ⟨⟨b, rfl, hbb⟩, hu⟩
              rw [hu]
              clear hu
              clear u
              cases b
              · have HNW : Hid (In64 (x * y)) := hbb.1 rfl
                clear hbb
                go_wp2_with fail
                refine (pmul_any cM cR dM dR true HU.out.1 HU.out.2.1 HU.out.2.2.1 HU.out.2.2.2.1 v2 _ (Ok.refl _)).mono ?_
                rintro e v3 ⟨rfl, hbN⟩
                have HI3 : Hid (HInv w0 g gs cM cR dM dR X Y v3) := HI2.out.step hbN
                clear hbN c0 c1 c2 c3 c4 c5
                obtain ⟨c0, c1, c2, c3, c4, c5⟩ := row6_facts HI3.out.1
                have HMM : Hid (MemC (mulC cM cR dM dR true).1 (mulC cM cR dM dR true).2 (wrap64 (x * y))) := mul_memC (e := true) HU.out.2.1 HU.out.2.2.2.1 HX.out.2 HY.out.2 (Or.inl ⟨wrap64_id HNW.out, wrap64_in _⟩)
                have HUU : Hid (U64 (mulC cM cR dM dR true).1 ∧ U64 (mulC cM cR dM dR true).2) := mul_u64 HU.out.1 HU.out.2.1 HU.out.2.2.1 HU.out.2.2.2.1
                obtain ⟨XX, hXX⟩ : ∃ t, t = mulC cM cR dM dR true := ⟨_, rfl⟩
                rw [← hXX] at HMM HUU ⊢
                clear hXX
                go_wp2_with fail
                refine (linside_any XX.1 XX.2 (wrap64 (x * y)) HUU.out.1 HUU.out.2 (wrap64_in _) v3 _ (Ok.refl _)).mono ?_
                rintro e v4 ⟨⟨b, rfl, hbb⟩, hbN⟩
                obtain rfl : b = true := hbb.2 HMM.out
                have HI4 : Hid (HInv w0 g gs cM cR dM dR X Y v4) := HI3.out.step hbN
                clear hbb HMM HUU
                clear hbN c0 c1 c2 c3 c4 c5
                obtain ⟨c0, c1, c2, c3, c4, c5⟩ := row6_facts HI4.out.1
                clear HNW
                go_wp2_with fail
                refine ⟨⟨k + 1, by have := HK.out; omega, by congr 1, HI4⟩, ?_⟩
                have := HK.out
                simp only [intOf]; omega
              · clear hbb
                go_wp2_with fail
                refine ⟨⟨k + 1, by have := HK.out; omega, by congr 1, HI2⟩, ?_⟩
                have := HK.out
                simp only [intOf]; omega
          · clear hbb
            go_wp2_with fail
            refine (lwr1_any x y HX.out.1 HY.out.1 _).mono ?_
            rintro e u ⟨⟨b, rfl, hbb⟩, hu⟩
            rw [hu]
            clear hu
            clear u
            cases b
            · have HNW : Hid (In64 (x - y)) := hbb.1 rfl
              clear hbb
              go_wp2_with fail
              refine (psub_any cM cR dM dR true HU.out.1 HU.out.2.1 HU.out.2.2.1 HU.out.2.2.2.1 v0 _ (Ok.refl _)).mono ?_
              rintro e v1 ⟨rfl, hbN⟩
              have HI1 : Hid (HInv w0 g gs cM cR dM dR X Y v1) := HI0.out.step hbN
              clear hbN c0 c1 c2 c3 c4 c5
              obtain ⟨c0, c1, c2, c3, c4, c5⟩ := row6_facts HI1.out.1
              have HMM : Hid (MemC (subC cM cR dM dR true).1 (subC cM cR dM dR true).2 (wrap64 (x - y))) := sub_memC (e := true) HX.out.2 HY.out.2 (Or.inl ⟨wrap64_id HNW.out, wrap64_in _⟩)
              have HUU : Hid (U64 (subC cM cR dM dR true).1 ∧ U64 (subC cM cR dM dR true).2) := sub_u64 HU.out.1 HU.out.2.1 HU.out.2.2.1 HU.out.2.2.2.1
              obtain ⟨XX, hXX⟩ : ∃ t, t = subC cM cR dM dR true := ⟨_, rfl⟩
              rw [← hXX] at HMM HUU ⊢
              clear hXX
              go_wp2_with fail
              refine (linside_any XX.1 XX.2 (wrap64 (x - y)) HUU.out.1 HUU.out.2 (wrap64_in _) v1 _ (Ok.refl _)).mono ?_
              rintro e v2 ⟨⟨b, rfl, hbb⟩, hbN⟩
              obtain rfl : b = true := hbb.2 HMM.out
              have HI2 : Hid (HInv w0 g gs cM cR dM dR X Y v2) := HI1.out.step hbN
              clear hbb HMM HUU
              clear hbN c0 c1 c2 c3 c4 c5
              obtain ⟨c0, c1, c2, c3, c4, c5⟩ := row6_facts HI2.out.1
              clear HNW
              go_wp2_with fail
              refine (lwr2_any x y HX.out.1 HY.out.1 _).mono ?_
              rintro e u ⟨⟨b, rfl, hbb⟩, hu⟩
              rw [hu]
              clear hu
              clear u
              cases b
              · have HNW : Hid (In64 (x * y)) := hbb.1 rfl
                clear hbb
                go_wp2_with fail
                refine (pmul_any cM cR dM dR true HU.out.1 HU.out.2.1 HU.out.2.2.1 HU.out.2.2.2.1 v2 _ (Ok.refl _)).mono ?_
                rintro e v3 ⟨rfl, hbN⟩
                have HI3 : Hid (HInv w0 g gs cM cR dM dR X Y v3) := HI2.out.step hbN
                clear hbN c0 c1 c2 c3 c4 c5
                obtain ⟨c0, c1, c2, c3, c4, c5⟩ := row6_facts HI3.out.1
                have HMM : Hid (MemC (mulC cM cR dM dR true).1 (mulC cM cR dM dR true).2 (wrap64 (x * y))) := mul_memC (e := true) HU.out.2.1 HU.out.2.2.2.1 HX.out.2 HY.out.2 (Or.inl ⟨wrap64_id HNW.out, wrap64_in _⟩)
                have HUU : Hid (U64 (mulC cM cR dM dR true).1 ∧ U64 (mulC cM cR dM dR true).2) := mul_u64 HU.out.1 HU.out.2.1 HU.out.2.2.1 HU.out.2.2.2.1
                obtain ⟨XX, hXX⟩ : ∃ t, t = mulC cM cR dM dR true := ⟨_, rfl⟩
                rw [← hXX] at HMM HUU ⊢
                clear hXX
                go_wp2_with fail
                refine (linside_any XX.1 XX.2 (wrap64 (x * y)) HUU.out.1 HUU.out.2 (wrap64_in _) v3 _ (Ok.refl _)).mono ?_
                rintro e v4 ⟨⟨b, rfl, hbb⟩, hbN⟩
                obtain rfl : b = true := hbb.2 HMM.out
                have HI4 : Hid (HInv w0 g gs cM cR dM dR X Y v4) := HI3.out.step hbN
                clear hbb HMM HUU
                clear hbN c0 c1 c2 c3 c4 c5
                obtain ⟨c0, c1, c2, c3, c4, c5⟩ := row6_facts HI4.out.1
                clear HNW
                go_wp2_with fail
                refine ⟨⟨k + 1, by have := HK.out; omega, by congr 1, HI4⟩, ?_⟩
                have := HK.out
                simp only [intOf]; omega
              · clear hbb
                go_wp2_with fail
                refine ⟨⟨k + 1, by have := HK.out; omega, by congr 1, HI2⟩, ?_⟩
                have := HK.out
                simp only [intOf]; omega
            · clear hbb
              go_wp2_with fail
              refine (lwr2_any x y HX.out.1 HY.out.1 _).mono ?_
              rintro e u ⟨⟨b, rfl, hbb⟩, hu⟩
              rw [hu]
              clear hu
              clear u
              cases b
              · have HNW : Hid (In64 (x * y)) := hbb.1 rfl
                clear hbb
                go_wp2_with fail
                refine (pmul_any cM cR dM dR true HU.out.1 HU.out.2.1 HU.out.2.2.1 HU.out.2.2.2.1 v0 _ (Ok.refl _)).mono ?_
                rintro e v1 ⟨rfl, hbN⟩
                have HI1 : Hid (HInv w0 g gs cM cR dM dR X Y v1) := HI0.out.step hbN
                clear hbN c0 c1 c2 c3 c4 c5
                obtain ⟨c0, c1, c2, c3, c4, c5⟩ := row6_facts HI1.out.1
                have HMM : Hid (MemC (mulC cM cR dM dR true).1 (mulC cM cR dM dR true).2 (wrap64 (x * y))) := mul_memC (e := true) HU.out.2.1 HU.out.2.2.2.1 HX.out.2 HY.out.2 (Or.inl ⟨wrap64_id HNW.out, wrap64_in _⟩)
                have HUU : Hid (U64 (mulC cM cR dM dR true).1 ∧ U64 (mulC cM cR dM dR true).2) := mul_u64 HU.out.1 HU.out.2.1 HU.out.2.2.1 HU.out.2.2.2.1
                obtain ⟨XX, hXX⟩ : ∃ t, t = mulC cM cR dM dR true := ⟨_, rfl⟩
                rw [← hXX] at HMM HUU ⊢
                clear hXX
                go_wp2_with fail
                refine (linside_any XX.1 XX.2 (wrap64 (x * y)) HUU.out.1 HUU.out.2 (wrap64_in _) v1 _ (Ok.refl _)).mono ?_
                rintro e v2 ⟨⟨b, rfl, hbb⟩, hbN⟩
                obtain rfl : b = true := hbb.2 HMM.out
                have HI2 : Hid (HInv w0 g gs cM cR dM dR X Y v2) := HI1.out.step hbN
                clear hbb HMM HUU
                clear hbN c0 c1 c2 c3 c4 c5
                obtain ⟨c0, c1, c2, c3, c4, c5⟩ := row6_facts HI2.out.1
                clear HNW
                go_wp2_with fail
                refine ⟨⟨k + 1, by have := HK.out; omega, by congr 1, HI2⟩, ?_⟩
                have := HK.out
                simp only [intOf]; omega
              · clear hbb
                go_wp2_with fail
                refine ⟨⟨k + 1, by have := HK.out; omega, by congr 1, HI0⟩, ?_⟩
                have := HK.out
                simp only [intOf]; omega
        · have m1 : (x != -9223372036854775808) = true := by simp [hmin]
          have HNW : Hid (In64 (-x)) := by have a := HX.out.1; unfold Hid; unfold In64 at a ⊢; omega
          clear hmin
          go_wp2_with fail
          refine (pneg_any cM cR true HU.out.1 HU.out.2.1 v0 _ (Ok.refl _)).mono ?_
          rintro e v1 ⟨rfl, hbN⟩
          have HI1 : Hid (HInv w0 g gs cM cR dM dR X Y v1) := HI0.out.step hbN
          clear hbN c0 c1 c2 c3 c4 c5
          obtain ⟨c0, c1, c2, c3, c4, c5⟩ := row6_facts HI1.out.1
          have HMM : Hid (MemC (negC cM cR true).1 (negC cM cR true).2 (wrap64 (-x))) := neg_memC (e := true) HX.out.2 HX.out.1 (Or.inl ⟨wrap64_id HNW.out, wrap64_in _⟩)
          have HUU : Hid (U64 (negC cM cR true).1 ∧ U64 (negC cM cR true).2) := neg_u64 HU.out.1 HU.out.2.1
          obtain ⟨XX, hXX⟩ : ∃ t, t = negC cM cR true := ⟨_, rfl⟩
          rw [← hXX] at HMM HUU ⊢
          clear hXX
          go_wp2_with fail
          refine (linside_any XX.1 XX.2 (wrap64 (-x)) HUU.out.1 HUU.out.2 (wrap64_in _) v1 _ (Ok.refl _)).mono ?_
          rintro e v2 ⟨⟨b, rfl, hbb⟩, hbN⟩
          obtain rfl : b = true := hbb.2 HMM.out
          have HI2 : Hid (HInv w0 g gs cM cR dM dR X Y v2) := HI1.out.step hbN
          clear hbb HMM HUU
          clear hbN c0 c1 c2 c3 c4 c5
          obtain ⟨c0, c1, c2, c3, c4, c5⟩ := row6_facts HI2.out.1
          clear HNW
          go_wp2_with fail
          refine (lwr0_any x y HX.out.1 HY.out.1 _).mono ?_
          rintro e u ⟨⟨b, rfl, hbb⟩, hu⟩
          rw [hu]
          clear hu
          clear u
          cases b
          · have HNW : Hid (In64 (x + y)) := hbb.1 rfl
            clear hbb
            go_wp2_with fail
            refine (padd_any cM cR dM dR true HU.out.1 HU.out.2.1 HU.out.2.2.1 HU.out.2.2.2.1 v2 _ (Ok.refl _)).mono ?_
            rintro e v3 ⟨rfl, hbN⟩
            have HI3 : Hid (HInv w0 g gs cM cR dM dR X Y v3) := HI2.out.step hbN
            clear hbN c0 c1 c2 c3 c4 c5
            obtain ⟨c0, c1, c2, c3, c4, c5⟩ := row6_facts HI3.out.1
            have HMM : Hid (MemC (addC cM cR dM dR true).1 (addC cM cR dM dR true).2 (wrap64 (x + y))) := add_memC (e := true) HX.out.2 HY.out.2 (Or.inl ⟨wrap64_id HNW.out, wrap64_in _⟩)
            have HUU : Hid (U64 (addC cM cR dM dR true).1 ∧ U64 (addC cM cR dM dR true).2) := add_u64 HU.out.1 HU.out.2.1 HU.out.2.2.1 HU.out.2.2.2.1
            obtain ⟨XX, hXX⟩ : ∃ t, t = addC cM cR dM dR true := ⟨_, rfl⟩
            rw [← hXX] at HMM HUU ⊢
            clear hXX
            go_wp2_with fail
            refine (linside_any XX.1 XX.2 (wrap64 (x + y)) HUU.out.1 HUU.out.2 (wrap64_in _) v3 _ (Ok.refl _)).mono ?_
            rintro e v4 ⟨⟨b, rfl, hbb⟩, hbN⟩
            obtain rfl : b = true := hbb.2 HMM.out
            have HI4 : Hid (HInv w0 g gs cM cR dM dR X Y v4) := HI3.out.step hbN
            clear hbb HMM HUU
            clear hbN c0 c1 c2 c3 c4 c5
            obtain ⟨c0, c1, c2, c3, c4, c5⟩ := row6_facts HI4.out.1
            clear HNW
            go_wp2_with fail
            refine (lwr1_any x y HX.out.1 HY.out.1 _).mono ?_
            rintro e u ⟨⟨b, rfl, hbb⟩, hu⟩
            rw [hu]
            clear hu
            clear u
            cases b
            · have HNW : Hid (In64 (x - y)) := hbb.1 rfl
              clear hbb
              go_wp2_with fail
              refine (psub_any cM cR dM dR true HU.out.1 HU.out.2.1 HU.out.2.2.1 HU.out.2.2.2.1 v4 _ (Ok.refl _)).mono ?_
              rintro e v5 ⟨rfl, hbN⟩
              have HI5 : Hid (HInv w0 g gs cM cR dM dR X Y v5) := HI4.out.step hbN
              clear hbN c0 c1 c2 c3 c4 c5
              obtain ⟨c0, c1, c2, c3, c4, c5⟩ := row6_facts HI5.out.1
              have HMM : Hid (MemC (subC cM cR dM dR true).1 (subC cM cR dM dR true).2 (wrap64 (x - y))) := sub_memC (e := true) HX.out.2 HY.out.2 (Or.inl ⟨wrap64_id HNW.out, wrap64_in _⟩)
              have HUU : Hid (U64 (subC cM cR dM dR true).1 ∧ U64 (subC cM cR dM dR true).2) := sub_u64 HU.out.1 HU.out.2.1 HU.out.2.2.1 HU.out.2.2.2.1
              obtain ⟨XX, hXX⟩ : ∃ t, t = subC cM cR dM dR true := ⟨_, rfl⟩
              rw [← hXX] at HMM HUU ⊢
              clear hXX
              go_wp2_with fail
              refine (linside_any XX.1 XX.2 (wrap64 (x - y)) HUU.out.1 HUU.out.2 (wrap64_in _) v5 _ (Ok.refl _)).mono ?_
              rintro e v6 ⟨⟨b, rfl, hbb⟩, hbN⟩
              obtain rfl : b = true := hbb.2 HMM.out
              have HI6 : Hid (HInv w0 g gs cM cR dM dR X Y v6) := HI5.out.step hbN
              clear hbb HMM HUU
              clear hbN c0 c1 c2 c3 c4 c5
              obtain ⟨c0, c1, c2, c3, c4, c5⟩ := row6_facts HI6.out.1
              clear HNW
              go_wp2_with fail
              refine (lwr2_any x y HX.out.1 HY.out.1 _).mono ?_
              rintro e u ⟨⟨b, rfl, hbb⟩, hu⟩
              rw [hu]
              clear hu
              clear u
              cases b
              · have HNW : Hid (In64 (x * y)) := hbb.1 rfl
                clear hbb
                go_wp2_with fail
                refine (pmul_any cM cR dM dR true HU.out.1 HU.out.2.1 HU.out.2.2.1 HU.out.2.2.2.1 v6 _ (Ok.refl _)).mono ?_
                rintro e v7 ⟨rfl, hbN⟩
                have HI7 : Hid (HInv w0 g gs cM cR dM dR X Y v7) := HI6.out.step hbN
                clear hbN c0 c1 c2 c3 c4 c5
                obtain ⟨c0, c1, c2, c3, c4, c5⟩ := row6_facts HI7.out.1
                have HMM : Hid (MemC (mulC cM cR dM dR true).1 (mulC cM cR dM dR true).2 (wrap64 (x * y))) := mul_memC (e := true) HU.out.2.1 HU.out.2.2.2.1 HX.out.2 HY.out.2 (Or.inl ⟨wrap64_id HNW.out, wrap64_in _⟩)
                have HUU : Hid (U64 (mulC cM cR dM dR true).1 ∧ U64 (mulC cM cR dM dR true).2) := mul_u64 HU.out.1 HU.out.2.1 HU.out.2.2.1 HU.out.2.2.2.1
                obtain ⟨XX, hXX⟩ : ∃ t, t = mulC cM cR dM dR true := ⟨_, rfl⟩
                rw [← hXX] at HMM HUU ⊢
                clear hXX
                go_wp2_with fail
                refine (linside_any XX.1 XX.2 (wrap64 (x * y)) HUU.out.1 HUU.out.2 (wrap64_in _) v7 _ (Ok.refl _)).mono ?_
                rintro e v8 ⟨⟨b, rfl, hbb⟩, hbN⟩
                obtain rfl : b = true := hbb.2 HMM.out
                have HI8 : Hid (HInv w0 g gs cM cR dM dR X Y v8) := HI7.out.step hbN
                clear hbb HMM HUU
                clear hbN c0 c1 c2 c3 c4 c5
                obtain ⟨c0, c1, c2, c3, c4, c5⟩ := row6_facts HI8.out.1
                clear HNW
                go_wp2_with fail
                refine ⟨⟨k + 1, by have := HK.out; omega, by congr 1, HI8⟩, ?_⟩
                have := HK.out
                simp only [intOf]; omega
              · clear hbb
                go_wp2_with fail
                refine ⟨⟨k + 1, by have := HK.out; omega, by congr 1, HI6⟩, ?_⟩
                have := HK.out
                simp only [intOf]; omega
            · clear hbb
              go_wp2_with fail
              refine (lwr2_any x y HX.out.1 HY.out.1 _).mono ?_
              rintro e u ⟨⟨b, rfl, hbb⟩, hu⟩
              rw [hu]
              clear hu
              clear u
              cases b
              · have HNW : Hid (In64 (x * y)) := hbb.1 rfl
                clear hbb
                go_wp2_with fail
                refine (pmul_any cM cR dM dR true HU.out.1 HU.out.2.1 HU.out.2.2.1 HU.out.2.2.2.1 v4 _ (Ok.refl _)).mono ?_
                rintro e v5 ⟨rfl, hbN⟩
                have HI5 : Hid (HInv w0 g gs cM cR dM dR X Y v5) := HI4.out.step hbN
                clear hbN c0 c1 c2 c3 c4 c5
                obtain ⟨c0, c1, c2, c3, c4, c5⟩ := row6_facts HI5.out.1
                have HMM : Hid (MemC (mulC cM cR dM dR true).1 (mulC cM cR dM dR true).2 (wrap64 (x * y))) := mul_memC (e := true) HU.out.2.1 HU.out.2.2.2.1 HX.out.2 HY.out.2 (Or.inl ⟨wrap64_id HNW.out, wrap64_in _⟩)
                have HUU : Hid (U64 (mulC cM cR dM dR true).1 ∧ U64 (mulC cM cR dM dR true).2) := mul_u64 HU.out.1 HU.out.2.1 HU.out.2.2.1 HU.out.2.2.2.1
                obtain ⟨XX, hXX⟩ : ∃ t, t = mulC cM cR dM dR true := ⟨_, rfl⟩
                rw [← hXX] at HMM HUU ⊢
                clear hXX
                go_wp2_with fail
                refine (linside_any XX.1 XX.2 (wrap64 (x * y)) HUU.out.1 HUU.out.2 (wrap64_in _) v5 _ (Ok.refl _)).mono ?_
                rintro e v6 ⟨⟨b, rfl, hbb⟩, hbN⟩
                obtain rfl : b = true := hbb.2 HMM.out
                have HI6 : Hid (HInv w0 g gs cM cR dM dR X Y v6) := HI5.out.step hbN
                clear hbb HMM HUU
                clear hbN c0 c1 c2 c3 c4 c5
                obtain ⟨c0, c1, c2, c3, c4, c5⟩ := row6_facts HI6.out.1
                clear HNW
                go_wp2_with fail
                refine ⟨⟨k + 1, by have := HK.out; omega, by congr 1, HI6⟩, ?_⟩
                have := HK.out
                simp only [intOf]; omega
              · clear hbb
                go_wp2_with fail
                refine ⟨⟨k + 1, by have := HK.out; omega, by congr 1, HI4⟩, ?_⟩
                have := HK.out
                simp only [intOf]; omega
          · clear hbb
            go_wp2_with fail
            refine (lwr1_any x y HX.out.1 HY.out.1 _).mono ?_
            rintro e u ⟨⟨b, rfl, hbb⟩, hu⟩
            rw [hu]
            clear hu
            clear u
            cases b
            · have HNW : Hid (In64 (x - y)) := hbb.1 rfl
              clear hbb
              go_wp2_with fail
              refine (psub_any cM cR dM dR true HU.out.1 HU.out.2.1 HU.out.2.2.1 HU.out.2.2.2.1 v2 _ (Ok.refl _)).mono ?_
              rintro e v3 ⟨rfl, hbN⟩
              have HI3 : Hid (HInv w0 g gs cM cR dM dR X Y v3) := HI2.out.step hbN
              clear hbN c0 c1 c2 c3 c4 c5
              obtain ⟨c0, c1, c2, c3, c4, c5⟩ := row6_facts HI3.out.1
              have HMM : Hid (MemC (subC cM cR dM dR true).1 (subC cM cR dM dR true).2 (wrap64 (x - y))) := sub_memC (e := true) HX.out.2 HY.out.2 (Or.inl ⟨wrap64_id HNW.out, wrap64_in _⟩)
              have HUU : Hid (U64 (subC cM cR dM dR true).1 ∧ U64 (subC cM cR dM dR true).2) := sub_u64 HU.out.1 HU.out.2.1 HU.out.2.2.1 HU.out.2.2.2.1
              obtain ⟨XX, hXX⟩ : ∃ t, t = subC cM cR dM dR true := ⟨_, rfl⟩
              rw [← hXX] at HMM HUU ⊢
              clear hXX
              go_wp2_with fail
              refine (linside_any XX.1 XX.2 (wrap64 (x - y)) HUU.out.1 HUU.out.2 (wrap64_in _) v3 _ (Ok.refl _)).mono ?_
              rintro e v4 ⟨⟨b, rfl, hbb⟩, hbN⟩
              obtain rfl : b = true := hbb.2 HMM.out
              have HI4 : Hid (HInv w0 g gs cM cR dM dR X Y v4) := HI3.out.step hbN
              clear hbb HMM HUU
              clear hbN c0 c1 c2 c3 c4 c5
              obtain ⟨c0, c1, c2, c3, c4, c5⟩ := row6_facts HI4.out.1
              clear HNW
              go_wp2_with fail
              refine (lwr2_any x y HX.out.1 HY.out.1 _).mono ?_
              rintro e u ⟨⟨b, rfl, hbb⟩, hu⟩
              rw [hu]
              clear hu
              clear u
              cases b
              · have HNW : Hid (In64 (x * y)) := hbb.1 rfl
                clear hbb
                go_wp2_with fail
                refine (pmul_any cM cR dM dR true HU.out.1 HU.out.2.1 HU.out.2.2.1 HU.out.2.2.2.1 v4 _ (Ok.refl _)).mono ?_
                rintro e v5 ⟨rfl, hbN⟩
                have HI5 : Hid (HInv w0 g gs cM cR dM dR X Y v5) := HI4.out.step hbN
                clear hbN c0 c1 c2 c3 c4 c5
                obtain ⟨c0, c1, c2, c3, c4, c5⟩ := row6_facts HI5.out.1
                have HMM : Hid (MemC (mulC cM cR dM dR true).1 (mulC cM cR dM dR true).2 (wrap64 (x * y))) := mul_memC (e := true) HU.out.2.1 HU.out.2.2.2.1 HX.out.2 HY.out.2 (Or.inl ⟨wrap64_id HNW.out, wrap64_in _⟩)
                have HUU : Hid (U64 (mulC cM cR dM dR true).1 ∧ U64 (mulC cM cR dM dR true).2) := mul_u64 HU.out.1 HU.out.2.1 HU.out.2.2.1 HU.out.2.2.2.1
                obtain ⟨XX, hXX⟩ : ∃ t, t = mulC cM cR dM dR true := ⟨_, rfl⟩
                rw [← hXX] at HMM HUU ⊢
                clear hXX
                go_wp2_with fail
                refine (linside_any XX.1 XX.2 (wrap64 (x * y)) HUU.out.1 HUU.out.2 (wrap64_in _) v5 _ (Ok.refl _)).mono ?_
                rintro e v6 ⟨⟨b, rfl, hbb⟩, hbN⟩
                obtain rfl : b = true := hbb.2 HMM.out
                have HI6 : Hid (HInv w0 g gs cM cR dM dR X Y v6) := HI5.out.step hbN
                clear hbb HMM HUU
                clear hbN c0 c1 c2 c3 c4 c5
                obtain ⟨c0, c1, c2, c3, c4, c5⟩ := row6_facts HI6.out.1
                clear HNW
                go_wp2_with fail
                refine ⟨⟨k + 1, by have := HK.out; omega, by congr 1, HI6⟩, ?_⟩
                have := HK.out
                simp only [intOf]; omega
              · clear hbb
                go_wp2_with fail
                refine ⟨⟨k + 1, by have := HK.out; omega, by congr 1, HI4⟩, ?_⟩
                have := HK.out
                simp only [intOf]; omega
            · clear hbb
              go_wp2_with fail
              refine (lwr2_any x y HX.out.1 HY.out.1 _).mono ?_
              rintro e u ⟨⟨b, rfl, hbb⟩, hu⟩
              rw [hu]
              clear hu
              clear u
              cases b
              · have HNW : Hid (In64 (x * y)) := hbb.1 rfl
                clear hbb
                go_wp2_with fail
                refine (pmul_any cM cR dM dR true HU.out.1 HU.out.2.1 HU.out.2.2.1 HU.out.2.2.2.1 v2 _ (Ok.refl _)).mono ?_
                rintro e v3 ⟨rfl, hbN⟩
                have HI3 : Hid (HInv w0 g gs cM cR dM dR X Y v3) := HI2.out.step hbN
                clear hbN c0 c1 c2 c3 c4 c5
                obtain ⟨c0, c1, c2, c3, c4, c5⟩ := row6_facts HI3.out.1
                have HMM : Hid (MemC (mulC cM cR dM dR true).1 (mulC cM cR dM dR true).2 (wrap64 (x * y))) := mul_memC (e := true) HU.out.2.1 HU.out.2.2.2.1 HX.out.2 HY.out.2 (Or.inl ⟨wrap64_id HNW.out, wrap64_in _⟩)
                have HUU : Hid (U64 (mulC cM cR dM dR true).1 ∧ U64 (mulC cM cR dM dR true).2) := mul_u64 HU.out.1 HU.out.2.1 HU.out.2.2.1 HU.out.2.2.2.1
                obtain ⟨XX, hXX⟩ : ∃ t, t = mulC cM cR dM dR true := ⟨_, rfl⟩
                rw [← hXX] at HMM HUU ⊢
                clear hXX
                go_wp2_with fail
                refine (linside_any XX.1 XX.2 (wrap64 (x * y)) HUU.out.1 HUU.out.2 (wrap64_in _) v3 _ (Ok.refl _)).mono ?_
                rintro e v4 ⟨⟨b, rfl, hbb⟩, hbN⟩
                obtain rfl : b = true := hbb.2 HMM.out
                have HI4 : Hid (HInv w0 g gs cM cR dM dR X Y v4) := HI3.out.step hbN
                clear hbb HMM HUU
                clear hbN c0 c1 c2 c3 c4 c5
                obtain ⟨c0, c1, c2, c3, c4, c5⟩ := row6_facts HI4.out.1
                clear HNW
                go_wp2_with fail
                refine ⟨⟨k + 1, by have := HK.out; omega, by congr 1, HI4⟩, ?_⟩
                have := HK.out
                simp only [intOf]; omega
              · clear hbb
                go_wp2_with fail
                refine ⟨⟨k + 1, by have := HK.out; omega, by congr 1, HI2⟩, ?_⟩
                have := HK.out
                simp only [intOf]; omega
    · have hk2 : ¬ (k : Int) < 2 := by omega
      clear hk hk1
      obtain ⟨v0, hv0⟩ : ∃ v, v = wr := ⟨_, rfl⟩
      have HI0 : Hid (HInv w0 g gs cM cR dM dR X Y v0) := by rw [hv0]; exact HI
      rw [← hv0]
      clear hv0 HI
      obtain ⟨Bx, hBx⟩ : ∃ B, B = bitsN x := ⟨_, rfl⟩
      obtain ⟨By, hBy⟩ : ∃ B, B = bitsN y := ⟨_, rfl⟩
      obtain ⟨BA, hBA⟩ : ∃ B, B = bitsN (x + y) := ⟨_, rfl⟩
      obtain ⟨BM, hBM⟩ : ∃ B, B = bitsN (x * y) := ⟨_, rfl⟩
      obtain ⟨BN, hBN⟩ : ∃ B, B = bitsN (-x) := ⟨_, rfl⟩
      have HBU : Hid (U64 Bx ∧ U64 By ∧ U64 0) := by rw [hBx, hBy]; exact ⟨bitsN_u64 _, bitsN_u64 _, show 0 < 18446744073709551616 by omega⟩
      have HEA : Hid (addC 0 Bx 0 By false = (0, BA)) := by rw [hBx, hBy, hBA]; exact addC_const HX.out.1 HY.out.1 _
      have HEM : Hid (mulC 0 Bx 0 By false = (0, BM)) := by rw [hBx, hBy, hBM]; exact mulC_const HX.out.1 HY.out.1 _
      have HEN : Hid (negC 0 Bx false = (0, BN)) := by rw [hBx, hBN]; exact negC_const HX.out.1 _
      have HB : Hid _ := And.intro hBx (And.intro hBy (And.intro hBA (And.intro hBM hBN)))
      clear hBx hBy hBA hBM hBN
      go_wp2_with fail
      refine (pconst_any x v0 _ (Ok.refl _)).mono ?_
      rintro e v1 ⟨rfl, hbN⟩
      rw [← HB.out.1]
      have HI1 : Hid (HInv w0 g gs cM cR dM dR X Y v1) := HI0.out.step hbN
      clear hbN
      unfold cv
      go_wp2_with fail
      refine (pconst_any y v1 _ (Ok.refl _)).mono ?_
      rintro e v2 ⟨rfl, hbN⟩
      rw [← HB.out.2.1]
      have HI2 : Hid (HInv w0 g gs cM cR dM dR X Y v2) := HI1.out.step hbN
      clear hbN
      unfold cv
      go_wp2_with fail
      obtain ⟨V, hV⟩ : ∃ V, V = (v2.alloc (.cells #[.int .u64 0, .int .u64 (Bx : Int)] 24)).alloc (.cells #[.int .u64 0, .int .u64 (By : Int)] 24) := ⟨_, rfl⟩
      have HQ0 : Hid (HInv w0 g gs cM cR dM dR X Y V ∧ V.heap[v2.heap.size]? = some (.cells #[.int .u64 0, .int .u64 (Bx : Int)] 24) ∧ V.heap[v2.heap.size + 1]? = some (.cells #[.int .u64 0, .int .u64 (By : Int)] 24)) := by
        rw [hV]
        exact ⟨HI2.out.step (((Ok.refl _).alloc _).alloc _), heap_past _ _ _ (by simp) (heap_new0 _ _), (by repeat (first | (refine heap_at _ _ _ ?hx; case hx => (first | (simp; done) | (simp; omega))) | (refine heap_past _ _ _ ?hy ?_; case hy => (first | (simp; done) | (simp; omega))) | fail))⟩
      rw [← hV]
      obtain ⟨ga, hga⟩ : ∃ ga, ga = v2.heap.size := ⟨_, rfl⟩
      rw [← hga] at HQ0 ⊢
      clear hV hga
      obtain ⟨u0, hu0⟩ : ∃ u, u = V := ⟨_, rfl⟩
      rw [← hu0] at HQ0 ⊢
      clear hu0
      obtain ⟨a0, a1, _, _⟩ := row_facts HQ0.out.2.1
      obtain ⟨b0, b1, _, _⟩ := row_facts HQ0.out.2.2
      refine (padd_any 0 Bx 0 By false HBU.out.2.2 HBU.out.1 HBU.out.2.2 HBU.out.2.1 u0 _ (Ok.refl _)).mono ?_
      rintro e u1 ⟨rfl, hbN⟩
      rw [HEA.out]
      have HQ1 : Hid (HInv w0 g gs cM cR dM dR X Y u1 ∧ _ ∧ _) := And.intro (HQ0.out.1.step hbN) (And.intro (Ok.row' hbN HQ0.out.2.1) (Ok.row' hbN HQ0.out.2.2))
      clear hbN a0 a1 b0 b1
      obtain ⟨a0, a1, _, _⟩ := row_facts HQ1.out.2.1
      obtain ⟨b0, b1, _, _⟩ := row_facts HQ1.out.2.2
      unfold cv
      go_wp2_with fail
      refine (pconst_any (wrap64 (x + y)) u1 _ (Ok.refl _)).mono ?_
      rintro e u2 ⟨rfl, hbN⟩
      rw [hbits_wrap, ← HB.out.2.2.1]
      have HQ2 : Hid (HInv w0 g gs cM cR dM dR X Y u2 ∧ _ ∧ _) := And.intro (HQ1.out.1.step hbN) (And.intro (Ok.row' hbN HQ1.out.2.1) (Ok.row' hbN HQ1.out.2.2))
      clear hbN a0 a1 b0 b1
      obtain ⟨a0, a1, _, _⟩ := row_facts HQ2.out.2.1
      obtain ⟨b0, b1, _, _⟩ := row_facts HQ2.out.2.2
      unfold cv
      go_wp2_with fail
      refine (pmul_any 0 Bx 0 By false HBU.out.2.2 HBU.out.1 HBU.out.2.2 HBU.out.2.1 u2 _ (Ok.refl _)).mono ?_
      rintro e u3 ⟨rfl, hbN⟩
      rw [HEM.out]
      have HQ3 : Hid (HInv w0 g gs cM cR dM dR X Y u3 ∧ _ ∧ _) := And.intro (HQ2.out.1.step hbN) (And.intro (Ok.row' hbN HQ2.out.2.1) (Ok.row' hbN HQ2.out.2.2))
      clear hbN a0 a1 b0 b1
      obtain ⟨a0, a1, _, _⟩ := row_facts HQ3.out.2.1
      obtain ⟨b0, b1, _, _⟩ := row_facts HQ3.out.2.2
      unfold cv
      go_wp2_with fail
      refine (pconst_any (wrap64 (x * y)) u3 _ (Ok.refl _)).mono ?_
      rintro e u4 ⟨rfl, hbN⟩
      rw [hbits_wrap, ← HB.out.2.2.2.1]
      have HQ4 : Hid (HInv w0 g gs cM cR dM dR X Y u4 ∧ _ ∧ _) := And.intro (HQ3.out.1.step hbN) (And.intro (Ok.row' hbN HQ3.out.2.1) (Ok.row' hbN HQ3.out.2.2))
      clear hbN a0 a1 b0 b1
      obtain ⟨a0, a1, _, _⟩ := row_facts HQ4.out.2.1
      obtain ⟨b0, b1, _, _⟩ := row_facts HQ4.out.2.2
      unfold cv
      go_wp2_with fail
      refine (pneg_any 0 Bx false HBU.out.2.2 HBU.out.1 u4 _ (Ok.refl _)).mono ?_
      rintro e u5 ⟨rfl, hbN⟩
      rw [HEN.out]
      have HQ5 : Hid (HInv w0 g gs cM cR dM dR X Y u5 ∧ _ ∧ _) := And.intro (HQ4.out.1.step hbN) (And.intro (Ok.row' hbN HQ4.out.2.1) (Ok.row' hbN HQ4.out.2.2))
      clear hbN a0 a1 b0 b1
      obtain ⟨a0, a1, _, _⟩ := row_facts HQ5.out.2.1
      obtain ⟨b0, b1, _, _⟩ := row_facts HQ5.out.2.2
      unfold cv
      go_wp2_with fail
      refine (pconst_any (wrap64 (-x)) u5 _ (Ok.refl _)).mono ?_
      rintro e u6 ⟨rfl, hbN⟩
      rw [hbits_wrap, ← HB.out.2.2.2.2]
      have HQ6 : Hid (HInv w0 g gs cM cR dM dR X Y u6 ∧ _ ∧ _) := And.intro (HQ5.out.1.step hbN) (And.intro (Ok.row' hbN HQ5.out.2.1) (Ok.row' hbN HQ5.out.2.2))
      clear hbN a0 a1 b0 b1
      obtain ⟨a0, a1, _, _⟩ := row_facts HQ6.out.2.1
      obtain ⟨b0, b1, _, _⟩ := row_facts HQ6.out.2.2
      unfold cv
      by_cases y0 : y = 0
      · skip
        have y1 : (y == 0) = true := by simp [y0]
        have HD : Hid (divC 0 Bx 0 By = (1, 0) ∧ remC 0 Bx 0 By = (1, 0)) := by rw [HB.out.1, HB.out.2.1, y0]; exact ⟨divC_none, remC_none⟩
        clear y0
        go_wp2_with fail
        refine (pdiv_any 0 Bx 0 By HBU.out.2.2 HBU.out.1 HBU.out.2.2 HBU.out.2.1 u6 _ (Ok.refl _)).mono ?_
        rintro e u7 ⟨rfl, hbN⟩
        rw [HD.out.1]
        have HQ7 : Hid (HInv w0 g gs cM cR dM dR X Y u7 ∧ _ ∧ _) := And.intro (HQ6.out.1.step hbN) (And.intro (Ok.row' hbN HQ6.out.2.1) (Ok.row' hbN HQ6.out.2.2))
        clear hbN a0 a1 b0 b1
        obtain ⟨a0, a1, _, _⟩ := row_facts HQ7.out.2.1
        obtain ⟨b0, b1, _, _⟩ := row_facts HQ7.out.2.2
        unfold cv
        go_wp2_with fail
        refine (prem_any 0 Bx 0 By HBU.out.2.2 HBU.out.1 HBU.out.2.2 HBU.out.2.1 u7 _ (Ok.refl _)).mono ?_
        rintro e u8 ⟨rfl, hbN⟩
        rw [HD.out.2]
        have HQ8 : Hid (HInv w0 g gs cM cR dM dR X Y u8 ∧ _ ∧ _) := And.intro (HQ7.out.1.step hbN) (And.intro (Ok.row' hbN HQ7.out.2.1) (Ok.row' hbN HQ7.out.2.2))
        clear hbN a0 a1 b0 b1
        obtain ⟨a0, a1, _, _⟩ := row_facts HQ8.out.2.1
        obtain ⟨b0, b1, _, _⟩ := row_facts HQ8.out.2.2
        unfold cv
        go_wp2_with fail
        go_ret
        exact ⟨rfl, HQ8.out.1.2.2⟩
      · have y1 : (y == 0) = false := by simp [y0]
        obtain ⟨q, hq⟩ : ∃ q, q = if y = -1 then wrap64 (-x) else x.tdiv y := ⟨_, rfl⟩
        obtain ⟨r, hr⟩ : ∃ r, r = if y = -1 then 0 else x.tmod y := ⟨_, rfl⟩
        obtain ⟨Xd, hXd⟩ : ∃ t, t = divC cM cR dM dR := ⟨_, rfl⟩
        obtain ⟨Xr, hXr⟩ : ∃ t, t = remC cM cR dM dR := ⟨_, rfl⟩
        obtain ⟨Bq, hBq⟩ : ∃ t, t = bitsN q := ⟨_, rfl⟩
        obtain ⟨Br, hBr⟩ : ∃ t, t = bitsN r := ⟨_, rfl⟩
        have hr2 : r = x.tmod y := by
          rw [hr]; split
          · rename_i h; rw [h]; simp
          · rfl
        have HMD : Hid (MemC Xd.1 Xd.2 q) := by rw [hXd]; exact div_memC HX.out.2 HY.out.2 HX.out.1 y0 hq
        have HMR : Hid (MemC Xr.1 Xr.2 r) := by rw [hXr, hr2]; exact rem_memC HX.out.2 HY.out.2 HX.out.1 HY.out.1 y0
        have HXU : Hid ((U64 Xd.1 ∧ U64 Xd.2) ∧ U64 Xr.1 ∧ U64 Xr.2) := by rw [hXd, hXr]; exact ⟨div_u64 HU.out.1, rem_u64 HU.out.1 HU.out.2.2.1⟩
        have HQI : Hid (In64 q ∧ In64 r) := by
          refine ⟨?_, by rw [hr2]; exact tmod_in64 HX.out.1⟩
          rw [hq]; split
          · exact wrap64_in _
          · rename_i h; exact tdiv_in64 HX.out.1 h
        have HDC : Hid (divC 0 Bx 0 By = (0, Bq)) := by rw [HB.out.1, HB.out.2.1, hBq, hq]; exact divC_const HX.out.1 HY.out.1 y0
        have HRC : Hid (remC 0 Bx 0 By = (0, Br)) := by rw [HB.out.1, HB.out.2.1, hBr, hr]; exact remC_const HX.out.1 HY.out.1 y0
        have HBq : Hid _ := And.intro hBq hBr
        have HXd : Hid _ := hXd
        have HXr : Hid _ := hXr
        clear hXd hXr hBq hBr
        by_cases ym : y = -1
        · have m1 : (y != -1) = false := by simp [ym]
          rw [if_pos ym] at hq hr
          have k1 : wrap64 (-x) = q := hq.symm
          have k2 : r = 0 := hr
          subst k2
          clear hq hr hr2 ym y0
          obtain ⟨c0, c1, c2, c3, _, _⟩ := row6_facts HQ6.out.1.1
          go_wp2_with fail
          refine (pdiv_any cM cR dM dR HU.out.1 HU.out.2.1 HU.out.2.2.1 HU.out.2.2.2.1 u6 _ (Ok.refl _)).mono ?_
          rintro e u7 ⟨rfl, hbN⟩
          rw [← HXd.out]
          have HQ7 : Hid (HInv w0 g gs cM cR dM dR X Y u7 ∧ _ ∧ _) := And.intro (HQ6.out.1.step hbN) (And.intro (Ok.row' hbN HQ6.out.2.1) (Ok.row' hbN HQ6.out.2.2))
          clear hbN a0 a1 b0 b1
          clear c0 c1 c2 c3
          obtain ⟨a0, a1, _, _⟩ := row_facts HQ7.out.2.1
          obtain ⟨b0, b1, _, _⟩ := row_facts HQ7.out.2.2
          obtain ⟨c0, c1, c2, c3, _, _⟩ := row6_facts HQ7.out.1.1
          go_wp2_with fail
          refine (linside_any Xd.1 Xd.2 q HXU.out.1.1 HXU.out.1.2 HQI.out.1 u7 _ (Ok.refl _)).mono ?_
          rintro e u8 ⟨⟨b, rfl, hbb⟩, hbN⟩
          obtain rfl : b = true := hbb.2 HMD.out
          have HQ8 : Hid (HInv w0 g gs cM cR dM dR X Y u8 ∧ _ ∧ _) := And.intro (HQ7.out.1.step hbN) (And.intro (Ok.row' hbN HQ7.out.2.1) (Ok.row' hbN HQ7.out.2.2))
          clear hbN a0 a1 b0 b1
          clear c0 c1 c2 c3
          obtain ⟨a0, a1, _, _⟩ := row_facts HQ8.out.2.1
          obtain ⟨b0, b1, _, _⟩ := row_facts HQ8.out.2.2
          obtain ⟨c0, c1, c2, c3, _, _⟩ := row6_facts HQ8.out.1.1
          clear hbb
          go_wp2_with fail
          refine (prem_any cM cR dM dR HU.out.1 HU.out.2.1 HU.out.2.2.1 HU.out.2.2.2.1 u8 _ (Ok.refl _)).mono ?_
          rintro e u9 ⟨rfl, hbN⟩
          rw [← HXr.out]
          have HQ9 : Hid (HInv w0 g gs cM cR dM dR X Y u9 ∧ _ ∧ _) := And.intro (HQ8.out.1.step hbN) (And.intro (Ok.row' hbN HQ8.out.2.1) (Ok.row' hbN HQ8.out.2.2))
          clear hbN a0 a1 b0 b1
          clear c0 c1 c2 c3
          obtain ⟨a0, a1, _, _⟩ := row_facts HQ9.out.2.1
          obtain ⟨b0, b1, _, _⟩ := row_facts HQ9.out.2.2
          obtain ⟨c0, c1, c2, c3, _, _⟩ := row6_facts HQ9.out.1.1
          go_wp2_with fail
          refine (linside_any Xr.1 Xr.2 0 HXU.out.2.1 HXU.out.2.2 HQI.out.2 u9 _ (Ok.refl _)).mono ?_
          rintro e u10 ⟨⟨b, rfl, hbb⟩, hbN⟩
          obtain rfl : b = true := hbb.2 HMR.out
          have HQ10 : Hid (HInv w0 g gs cM cR dM dR X Y u10 ∧ _ ∧ _) := And.intro (HQ9.out.1.step hbN) (And.intro (Ok.row' hbN HQ9.out.2.1) (Ok.row' hbN HQ9.out.2.2))
          clear hbN a0 a1 b0 b1
          clear c0 c1 c2 c3
          obtain ⟨a0, a1, _, _⟩ := row_facts HQ10.out.2.1
          obtain ⟨b0, b1, _, _⟩ := row_facts HQ10.out.2.2
          obtain ⟨c0, c1, c2, c3, _, _⟩ := row6_facts HQ10.out.1.1
          clear hbb
          go_wp2_with fail
          refine (pdiv_any 0 Bx 0 By HBU.out.2.2 HBU.out.1 HBU.out.2.2 HBU.out.2.1 u10 _ (Ok.refl _)).mono ?_
          rintro e u11 ⟨rfl, hbN⟩
          rw [HDC.out]
          have HQ11 : Hid (HInv w0 g gs cM cR dM dR X Y u11 ∧ _ ∧ _) := And.intro (HQ10.out.1.step hbN) (And.intro (Ok.row' hbN HQ10.out.2.1) (Ok.row' hbN HQ10.out.2.2))
          clear hbN a0 a1 b0 b1
          obtain ⟨a0, a1, _, _⟩ := row_facts HQ11.out.2.1
          obtain ⟨b0, b1, _, _⟩ := row_facts HQ11.out.2.2
          unfold cv
          go_wp2_with fail
          refine (pconst_any q u11 _ (Ok.refl _)).mono ?_
          rintro e u12 ⟨rfl, hbN⟩
          rw [← HBq.out.1]
          have HQ12 : Hid (HInv w0 g gs cM cR dM dR X Y u12 ∧ _ ∧ _) := And.intro (HQ11.out.1.step hbN) (And.intro (Ok.row' hbN HQ11.out.2.1) (Ok.row' hbN HQ11.out.2.2))
          clear hbN a0 a1 b0 b1
          obtain ⟨a0, a1, _, _⟩ := row_facts HQ12.out.2.1
          obtain ⟨b0, b1, _, _⟩ := row_facts HQ12.out.2.2
          unfold cv
          go_wp2_with fail
          refine (prem_any 0 Bx 0 By HBU.out.2.2 HBU.out.1 HBU.out.2.2 HBU.out.2.1 u12 _ (Ok.refl _)).mono ?_
          rintro e u13 ⟨rfl, hbN⟩
          rw [HRC.out]
          have HQ13 : Hid (HInv w0 g gs cM cR dM dR X Y u13 ∧ _ ∧ _) := And.intro (HQ12.out.1.step hbN) (And.intro (Ok.row' hbN HQ12.out.2.1) (Ok.row' hbN HQ12.out.2.2))
          clear hbN a0 a1 b0 b1
          obtain ⟨a0, a1, _, _⟩ := row_facts HQ13.out.2.1
          obtain ⟨b0, b1, _, _⟩ := row_facts HQ13.out.2.2
          unfold cv
          go_wp2_with fail
          refine (pconst_any 0 u13 _ (Ok.refl _)).mono ?_
          rintro e u14 ⟨rfl, hbN⟩
          rw [← HBq.out.2]
          have HQ14 : Hid (HInv w0 g gs cM cR dM dR X Y u14 ∧ _ ∧ _) := And.intro (HQ13.out.1.step hbN) (And.intro (Ok.row' hbN HQ13.out.2.1) (Ok.row' hbN HQ13.out.2.2))
          clear hbN a0 a1 b0 b1
          obtain ⟨a0, a1, _, _⟩ := row_facts HQ14.out.2.1
          obtain ⟨b0, b1, _, _⟩ := row_facts HQ14.out.2.2
          unfold cv
          go_wp2_with fail
          go_ret
          exact ⟨rfl, HQ14.out.1.2.2⟩
        · have m1 : (y != -1) = true := by simp [ym]
          rw [if_neg ym] at hq hr
          have k1 : x.tdiv y = q := hq.symm
          have k2 : x.tmod y = r := hr.symm
          have k3 : wrap64 q = q := wrap64_id HQI.out.1
          have k4 : ¬ y = 0 := y0
          clear hq hr hr2 ym y0
          go_wp2_with fail
          go_quiet (fail)
          rw [k3]
          obtain ⟨ux, hux⟩ : ∃ u, u = u6.drewN nq := ⟨_, rfl⟩
          have hzz : Ok u6 ux := by rw [hux]; exact Ok.draws (Ok.refl _) nq
          have HQx : Hid (HInv w0 g gs cM cR dM dR X Y ux ∧ _ ∧ _) := And.intro (HQ6.out.1.step hzz) (And.intro (Ok.row' hzz HQ6.out.2.1) (Ok.row' hzz HQ6.out.2.2))
          rw [← hux]
          clear hux hzz a0 a1 b0 b1 k1 k2 k3 k4
          obtain ⟨a0, a1, _, _⟩ := row_facts HQx.out.2.1
          obtain ⟨b0, b1, _, _⟩ := row_facts HQx.out.2.2
          obtain ⟨c0, c1, c2, c3, _, _⟩ := row6_facts HQx.out.1.1
          go_wp2_with fail
          refine (pdiv_any cM cR dM dR HU.out.1 HU.out.2.1 HU.out.2.2.1 HU.out.2.2.2.1 ux _ (Ok.refl _)).mono ?_
          rintro e u7 ⟨rfl, hbN⟩
          rw [← HXd.out]
          have HQ7 : Hid (HInv w0 g gs cM cR dM dR X Y u7 ∧ _ ∧ _) := And.intro (HQx.out.1.step hbN) (And.intro (Ok.row' hbN HQx.out.2.1) (Ok.row' hbN HQx.out.2.2))
          clear hbN a0 a1 b0 b1
          clear c0 c1 c2 c3
          obtain ⟨a0, a1, _, _⟩ := row_facts HQ7.out.2.1
          obtain ⟨b0, b1, _, _⟩ := row_facts HQ7.out.2.2
          obtain ⟨c0, c1, c2, c3, _, _⟩ := row6_facts HQ7.out.1.1
          go_wp2_with fail
          refine (linside_any Xd.1 Xd.2 q HXU.out.1.1 HXU.out.1.2 HQI.out.1 u7 _ (Ok.refl _)).mono ?_
          rintro e u8 ⟨⟨b, rfl, hbb⟩, hbN⟩
          obtain rfl : b = true := hbb.2 HMD.out
          have HQ8 : Hid (HInv w0 g gs cM cR dM dR X Y u8 ∧ _ ∧ _) := And.intro (HQ7.out.1.step hbN) (And.intro (Ok.row' hbN HQ7.out.2.1) (Ok.row' hbN HQ7.out.2.2))
          clear hbN a0 a1 b0 b1
          clear c0 c1 c2 c3
          obtain ⟨a0, a1, _, _⟩ := row_facts HQ8.out.2.1
          obtain ⟨b0, b1, _, _⟩ := row_facts HQ8.out.2.2
          obtain ⟨c0, c1, c2, c3, _, _⟩ := row6_facts HQ8.out.1.1
          clear hbb
          go_wp2_with fail
          refine (prem_any cM cR dM dR HU.out.1 HU.out.2.1 HU.out.2.2.1 HU.out.2.2.2.1 u8 _ (Ok.refl _)).mono ?_
          rintro e u9 ⟨rfl, hbN⟩
          rw [← HXr.out]
          have HQ9 : Hid (HInv w0 g gs cM cR dM dR X Y u9 ∧ _ ∧ _) := And.intro (HQ8.out.1.step hbN) (And.intro (Ok.row' hbN HQ8.out.2.1) (Ok.row' hbN HQ8.out.2.2))
          clear hbN a0 a1 b0 b1
          clear c0 c1 c2 c3
          obtain ⟨a0, a1, _, _⟩ := row_facts HQ9.out.2.1
          obtain ⟨b0, b1, _, _⟩ := row_facts HQ9.out.2.2
          obtain ⟨c0, c1, c2, c3, _, _⟩ := row6_facts HQ9.out.1.1
          go_wp2_with fail
          refine (linside_any Xr.1 Xr.2 r HXU.out.2.1 HXU.out.2.2 HQI.out.2 u9 _ (Ok.refl _)).mono ?_
          rintro e u10 ⟨⟨b, rfl, hbb⟩, hbN⟩
          obtain rfl : b = true := hbb.2 HMR.out
          have HQ10 : Hid (HInv w0 g gs cM cR dM dR X Y u10 ∧ _ ∧ _) := And.intro (HQ9.out.1.step hbN) (And.intro (Ok.row' hbN HQ9.out.2.1) (Ok.row' hbN HQ9.out.2.2))
          clear hbN a0 a1 b0 b1
          clear c0 c1 c2 c3
          obtain ⟨a0, a1, _, _⟩ := row_facts HQ10.out.2.1
          obtain ⟨b0, b1, _, _⟩ := row_facts HQ10.out.2.2
          obtain ⟨c0, c1, c2, c3, _, _⟩ := row6_facts HQ10.out.1.1
          clear hbb
          go_wp2_with fail
          refine (pdiv_any 0 Bx 0 By HBU.out.2.2 HBU.out.1 HBU.out.2.2 HBU.out.2.1 u10 _ (Ok.refl _)).mono ?_
          rintro e u11 ⟨rfl, hbN⟩
          rw [HDC.out]
          have HQ11 : Hid (HInv w0 g gs cM cR dM dR X Y u11 ∧ _ ∧ _) := And.intro (HQ10.out.1.step hbN) (And.intro (Ok.row' hbN HQ10.out.2.1) (Ok.row' hbN HQ10.out.2.2))
          clear hbN a0 a1 b0 b1
          obtain ⟨a0, a1, _, _⟩ := row_facts HQ11.out.2.1
          obtain ⟨b0, b1, _, _⟩ := row_facts HQ11.out.2.2
          unfold cv
          go_wp2_with fail
          refine (pconst_any q u11 _ (Ok.refl _)).mono ?_
          rintro e u12 ⟨rfl, hbN⟩
          rw [← HBq.out.1]
          have HQ12 : Hid (HInv w0 g gs cM cR dM dR X Y u12 ∧ _ ∧ _) := And.intro (HQ11.out.1.step hbN) (And.intro (Ok.row' hbN HQ11.out.2.1) (Ok.row' hbN HQ11.out.2.2))
          clear hbN a0 a1 b0 b1
          obtain ⟨a0, a1, _, _⟩ := row_facts HQ12.out.2.1
          obtain ⟨b0, b1, _, _⟩ := row_facts HQ12.out.2.2
          unfold cv
          go_wp2_with fail
          refine (prem_any 0 Bx 0 By HBU.out.2.2 HBU.out.1 HBU.out.2.2 HBU.out.2.1 u12 _ (Ok.refl _)).mono ?_
          rintro e u13 ⟨rfl, hbN⟩
          rw [HRC.out]
          have HQ13 : Hid (HInv w0 g gs cM cR dM dR X Y u13 ∧ _ ∧ _) := And.intro (HQ12.out.1.step hbN) (And.intro (Ok.row' hbN HQ12.out.2.1) (Ok.row' hbN HQ12.out.2.2))
          clear hbN a0 a1 b0 b1
          obtain ⟨a0, a1, _, _⟩ := row_facts HQ13.out.2.1
          obtain ⟨b0, b1, _, _⟩ := row_facts HQ13.out.2.2
          unfold cv
          go_wp2_with fail
          refine (pconst_any r u13 _ (Ok.refl _)).mono ?_
          rintro e u14 ⟨rfl, hbN⟩
          rw [← HBq.out.2]
          have HQ14 : Hid (HInv w0 g gs cM cR dM dR X Y u14 ∧ _ ∧ _) := And.intro (HQ13.out.1.step hbN) (And.intro (Ok.row' hbN HQ13.out.2.1) (Ok.row' hbN HQ13.out.2.2))
          clear hbN a0 a1 b0 b1
          obtain ⟨a0, a1, _, _⟩ := row_facts HQ14.out.2.1
          obtain ⟨b0, b1, _, _⟩ := row_facts HQ14.out.2.2
          unfold cv
          go_wp2_with fail
          go_ret
          exact ⟨rfl, HQ14.out.1.2.2⟩
end Go.Proofs.Ytckkfmgbpembjaa
