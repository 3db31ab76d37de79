import Derived.Test.YtgkbegmaffknbaaGreatHJe
import Derived.Test.YtgkbegmaffknbaaGreatHJh
import Derived.Test.YtgkbegmaffknbaaGreatHJl
set_option linter.unusedVariables false
set_option linter.unusedSimpArgs false
set_option linter.unnecessarySimpa false
/- Jd -/
namespace Go.Proofs.YtgkbegmaffknbaaGreat
open Go.RowKit
theorem pthi_q (W : Int → Int → Int) (al ah bl bh L H : Int) (bf : Nat) (w : World) (hop : OpAt 194 al ah bl bh W) (hbf : w.heap[bf]? = some (.cells #[.func (.func 194) #[] #[]] 154 (0, 0))) (h : cL W al ah bl bh 4 = L ∧ cH W al ah bl bh 4 = H) :
    Calls Tryz.prog 227 #[.agg #[.int .i64 al, .int .i64 ah], .agg #[.int .i64 bl, .int .i64 bh], .pointer (some ⟨bf, 0, none⟩)] w fun e w' => e = .returned (.agg #[.int .i64 (tW L), .int .i64 (wrap64 L), .int .i64 (tW H), .int .i64 (wrap64 H)]) ∧ Ok w w' := by
  rw [← h.1, ← h.2]; exact pthr_q W al ah bl bh bf w hop hbf
/-- The state behind m pieces. -/
def dvF (X01 X02 X11 X12 Y01 Y02 Y11 Y12 Y21 Y22 : Int) : Nat → (Int × Int) × Bool
  | 0 => ((1, 0), true)
  | m + 1 => stD (sel2 X01 X11 (m / 3)) (sel2 X02 X12 (m / 3)) (sel3 Y01 Y11 Y21 (m % 3)) (sel3 Y02 Y12 Y22 (m % 3)) (dvF X01 X02 X11 X12 Y01 Y02 Y11 Y12 Y21 Y22 m)
def DvFacts (X01 X02 X11 X12 Y01 Y02 Y11 Y12 Y21 Y22 : Int) : Prop :=
  (∀ k, In64 (sel2 X01 X11 k) ∧ In64 (sel2 X02 X12 k)) ∧ (∀ j, sel3 Y01 Y11 Y21 j ≤ sel3 Y02 Y12 Y22 j → sel3 Y01 Y11 Y21 j ≠ 0 ∧ sel3 Y02 Y12 Y22 j ≠ 0)
set_option maxHeartbeats 8000000 in
theorem pdiv_x (al ah bl bh X01 X02 X11 X12 Y01 Y02 Y11 Y12 Y21 Y22 : Int) (w : World) (hX0 : meetI al ah (-9223372036854775808) (-9223372036854775808) = (X01, X02)) (hX1 : meetI al ah (-9223372036854775807) 9223372036854775807 = (X11, X12)) (hY0 : meetI bl bh (-9223372036854775808) (-2) = (Y01, Y02)) (hY1 : meetI bl bh (-1) (-1) = (Y11, Y12)) (hY2 : meetI bl bh 1 9223372036854775807 = (Y21, Y22)) (hF : DvFacts X01 X02 X11 X12 Y01 Y02 Y11 Y12 Y21 Y22) :
    Calls Tryz.prog 113 #[.agg #[.int .i64 al, .int .i64 ah], .agg #[.int .i64 bl, .int .i64 bh]] w fun e w' => e = .returned (.tuple #[.agg #[.int .i64 (dvF X01 X02 X11 X12 Y01 Y02 Y11 Y12 Y21 Y22 6).1.1, .int .i64 (dvF X01 X02 X11 X12 Y01 Y02 Y11 Y12 Y21 Y22 6).1.2], .bool (dvF X01 X02 X11 X12 Y01 Y02 Y11 Y12 Y21 Y22 6).2]) ∧ Ok w w' := by
  have hmf : ∀ (fn : Fn) (first cap : Array Value) (w : World), (Instr.makeFunc fn first cap).run Tryz.prog w = .ok (.func fn first cap) w := fun _ _ _ _ => rfl
  have HM : Hid (meetI al ah (-9223372036854775808) (-9223372036854775808) = (X01, X02) ∧ meetI al ah (-9223372036854775807) 9223372036854775807 = (X11, X12) ∧ meetI bl bh (-9223372036854775808) (-2) = (Y01, Y02) ∧ meetI bl bh (-1) (-1) = (Y11, Y12) ∧ meetI bl bh 1 9223372036854775807 = (Y21, Y22)) := ⟨hX0, hX1, hY0, hY1, hY2⟩
  have HF : Hid (DvFacts X01 X02 X11 X12 Y01 Y02 Y11 Y12 Y21 Y22) := hF
  clear hX0 hX1 hY0 hY1 hY2 hF
  go_enter Tryz.func113, Tryz.ntmps113
  go_wp2_with fail
  go_region
  go_wp2_with (first | (go_at_call 163; refine (pnone_ex _).mono ?_; rintro e w' ⟨rfl, rfl⟩) | fail)
  obtain ⟨g8, hg8⟩ : ∃ g8, g8 = w.heap.size + 1 + 1 + 1 + 1 := ⟨_, rfl⟩
  obtain ⟨Wb, hWb⟩ : ∃ Wb, Wb = (((((w.alloc (.cells #[.int .i64 al, .int .i64 ah] 23)).alloc (.cells #[.int .i64 bl, .int .i64 bh] 23)).alloc (.cells #[.int .i64 0, .int .i64 0] 23)).alloc (.cells #[.int .i64 1, .int .i64 0] 23)).alloc (.cells #[.int .i64 1, .int .i64 0] 23)).drew := ⟨_, rfl⟩
  have HS : Hid (DvInv w Wb g8 (1, 0)) := by
    rw [hWb, hg8]
    refine ⟨Below.drew (by repeat (first | exact Ok.refl _ | refine Ok.alloc ?_ _)), heap_drewR (heap_past _ _ _ (by simp) (heap_past _ _ _ (by simp) (heap_at _ _ _ (by simp)))), heap_drewR (heap_at _ _ _ (by simp)), by omega⟩
  rw [← hWb, ← hg8]
  clear hWb hg8
  have hbN : Ok Wb Wb := Ok.refl _
  go_wp2_with (first | (go_at_call 189; refine (pleast_any Wb _ (by assumption)).mono ?_; rintro e wN ⟨rfl, hbN⟩) | (go_at_call 190; refine (pbutleast_any Wb _ (by assumption)).mono ?_; rintro e wN ⟨rfl, hbN⟩) | (go_at_call 188; refine (pwithin_is _ _ _ _ _ _ (by first | exact HM.out.1 | exact HM.out.2.1) Wb _ (by assumption)).mono ?_; rintro e wN ⟨rfl, hbN⟩) | fail)
  have HS2 : Hid (DvInv w wN g8 (dvF X01 X02 X11 X12 Y01 Y02 Y11 Y12 Y21 Y22 (3 * 0)).1) := HS.out.ok hbN
  clear HS hbN
  go_loopw [9, 27] (fun b i wr => ∃ k : Nat, k ≤ 2 ∧ i = .int .i64 k ∧ b = .bool (dvF X01 X02 X11 X12 Y01 Y02 Y11 Y12 Y21 Y22 (3 * k)).2 ∧ Hid (DvInv w wr g8 (dvF X01 X02 X11 X12 Y01 Y02 Y11 Y12 Y21 Y22 (3 * k)).1)) (fun _ i _ => (2 - intOf i).toNat)
  case atStart => exact ⟨0, by omega, rfl, rfl, HS2⟩
  case round =>
    obtain ⟨k, hk, rfl, rfl, HI⟩ := hrel
    clear HS2
    by_cases hk1 : k < 2
    · have hk2 : (k : Int) < 2 := by omega
      have hix := idxX X01 X02 X11 X12 k hk1
      have HXi : Hid (In64 (sel2 X01 X11 k) ∧ In64 (sel2 X02 X12 k)) := HF.out.1 k
      obtain ⟨x1, hx1⟩ : ∃ x1, x1 = sel2 X01 X11 k := ⟨_, rfl⟩
      obtain ⟨x2, hx2⟩ : ∃ x2, x2 = sel2 X02 X12 k := ⟨_, rfl⟩
      rw [← hx1, ← hx2] at HXi
      have hix2 : ∀ w' : World, (Instr.index 165 (.agg #[.int .i64 X01, .int .i64 X02, .int .i64 X11, .int .i64 X12]) (.int .i64 (k : Int))).run Tryz.prog w' = .ok (.agg #[.int .i64 x1, .int .i64 x2]) w' := by rw [hx1, hx2]; exact hix
      have HXe : Hid (x1 = sel2 X01 X11 k ∧ x2 = sel2 X02 X12 k) := ⟨hx1, hx2⟩
      clear hx1 hx2 hix
      go_wp2_with fail
      obtain ⟨g11, hg11⟩ : ∃ g11, g11 = wr.heap.size := ⟨_, rfl⟩
      obtain ⟨Wx, hWx⟩ : ∃ Wx, Wx = wr.alloc (.cells #[.int .i64 x1, .int .i64 x2] 23) := ⟨_, rfl⟩
      have HS3 : Hid (DvInv w Wx g8 (dvF X01 X02 X11 X12 Y01 Y02 Y11 Y12 Y21 Y22 (3 * k)).1 ∧ Wx.heap[g11]? = some (rowD x1 x2) ∧ g8 < g11) := by
        refine ⟨HI.out.ok (by rw [hWx]; exact (Ok.refl _).alloc _), by rw [hWx]; exact heap_at _ _ _ hg11, ?_⟩
        rw [hg11]; exact lt_row HI.out.2.2.1
      rw [← hWx, ← hg11]
      clear hWx hg11 HI hix2
      have hbN : Ok Wx Wx := Ok.refl _
      go_wp2_with (first | (go_at_call 191; refine (pupto_any _ Wx _ (by assumption)).mono ?_; rintro e wN ⟨rfl, hbN⟩) | (go_at_call 193; refine (pfrom_any _ Wx _ (by assumption)).mono ?_; rintro e wN ⟨rfl, hbN⟩) | (go_at_call 192; refine (pminusone_any Wx _ (by assumption)).mono ?_; rintro e wN ⟨rfl, hbN⟩) | (go_at_call 188; refine (pwithin_is _ _ _ _ _ _ (by first | exact HM.out.2.2.1 | exact HM.out.2.2.2.1 | exact HM.out.2.2.2.2) Wx _ (by assumption)).mono ?_; rintro e wN ⟨rfl, hbN⟩) | fail)
      have HS4 : Hid (DvInv w wN g8 (dvF X01 X02 X11 X12 Y01 Y02 Y11 Y12 Y21 Y22 (3 * k + 0)).1 ∧ wN.heap[g11]? = some (rowD x1 x2) ∧ g8 < g11) := ⟨HS3.out.1.ok hbN, Ok.row' hbN HS3.out.2.1, HS3.out.2.2⟩
      clear HS3 hbN
      go_loopw [9, 40] (fun b i v => ∃ j : Nat, j ≤ 3 ∧ i = .int .i64 j ∧ b = .bool (dvF X01 X02 X11 X12 Y01 Y02 Y11 Y12 Y21 Y22 (3 * k + j)).2 ∧ Hid (DvInv w v g8 (dvF X01 X02 X11 X12 Y01 Y02 Y11 Y12 Y21 Y22 (3 * k + j)).1 ∧ v.heap[g11]? = some (rowD x1 x2) ∧ g8 < g11)) (fun _ i _ => (3 - intOf i).toNat)
      case atStart => exact ⟨0, by omega, rfl, rfl, HS4⟩
      case round =>
        obtain ⟨j, hj, rfl, rfl, HJ⟩ := hrel
        clear HS4
        by_cases hj1 : j < 3
        · have hj2 : (j : Int) < 3 := by omega
          have hix := idxY Y01 Y02 Y11 Y12 Y21 Y22 j hj1
          have HYi : Hid (sel3 Y01 Y11 Y21 j ≤ sel3 Y02 Y12 Y22 j → sel3 Y01 Y11 Y21 j ≠ 0 ∧ sel3 Y02 Y12 Y22 j ≠ 0) := HF.out.2 j
          obtain ⟨y1, hy1⟩ : ∃ y1, y1 = sel3 Y01 Y11 Y21 j := ⟨_, rfl⟩
          obtain ⟨y2, hy2⟩ : ∃ y2, y2 = sel3 Y02 Y12 Y22 j := ⟨_, rfl⟩
          rw [← hy1, ← hy2] at HYi
          have hix2 : ∀ w' : World, (Instr.index 167 (.agg #[.int .i64 Y01, .int .i64 Y02, .int .i64 Y11, .int .i64 Y12, .int .i64 Y21, .int .i64 Y22]) (.int .i64 (j : Int))).run Tryz.prog w' = .ok (.agg #[.int .i64 y1, .int .i64 y2]) w' := by rw [hy1, hy2]; exact hix
          have HSt : Hid (dvF X01 X02 X11 X12 Y01 Y02 Y11 Y12 Y21 Y22 (3 * k + (j + 1)) = stD x1 x2 y1 y2 (dvF X01 X02 X11 X12 Y01 Y02 Y11 Y12 Y21 Y22 (3 * k + j))) := by
            unfold Hid
            rw [show 3 * k + (j + 1) = (3 * k + j) + 1 by omega, dvF, show (3 * k + j) / 3 = k by omega, show (3 * k + j) % 3 = j by omega, ← HXe.out.1, ← HXe.out.2, ← hy1, ← hy2]
          clear hy1 hy2 hix
          obtain ⟨O, hO⟩ : ∃ O, O = dvF X01 X02 X11 X12 Y01 Y02 Y11 Y12 Y21 Y22 (3 * k + j) := ⟨_, rfl⟩
          rw [← hO] at HJ HSt ⊢
          clear hO
          obtain ⟨⟨O1, O2⟩, ex2⟩ := O
          have r1 := HJ.out.2.1
          obtain ⟨c0, c1, _, _⟩ := row_facts r1
          have s1 := lt_row r1
          have t0 : ¬ g11 = wr.heap.size := by omega
          have t1 : g11 < wr.heap.size + 1 := by omega
          go_wp2_with fail
          clear c0 c1
          obtain ⟨g13, hg13⟩ : ∃ g13, g13 = wr.heap.size := ⟨_, rfl⟩
          obtain ⟨V, hV⟩ : ∃ V, V = wr.alloc (.cells #[.int .i64 y1, .int .i64 y2] 23) := ⟨_, rfl⟩
          have okV : Ok wr V := by rw [hV]; exact (Ok.refl _).alloc _
          have r2 : V.heap[g13]? = some (rowD y1 y2) := by rw [hV]; exact heap_at _ _ _ hg13
          have HV : Hid (DvInv w V g8 (O1, O2) ∧ V.heap[g11]? = some (rowD x1 x2) ∧ g8 < g11) := ⟨HJ.out.1.ok okV, Ok.row' okV HJ.out.2.1, HJ.out.2.2⟩
          have v1 : g11 < V.heap.size := Nat.lt_of_lt_of_le s1 okV.le
          have v2 := lt_row r2
          have v3 : g11 < g13 := by rw [hg13]; exact s1
          rw [← hV, ← hg13]
          clear hV hg13 okV HJ hix2 t0 t1 s1
          obtain ⟨c0, c1, _, _⟩ := row_facts HV.out.2.1
          obtain ⟨e0, e1, _, _⟩ := row_facts r2
          have HR2 : Hid (V.heap[g13]? = some (rowD y1 y2) ∧ g11 < g13) := ⟨r2, v3⟩
          clear r1 r2 v3
          have hbN : Ok V V := Ok.refl _
          by_cases q1 : x2 < x1
          · have d1 : decide (x2 < x1) = true := decide_eq_true q1
            have E : Hid (dvF X01 X02 X11 X12 Y01 Y02 Y11 Y12 Y21 Y22 (3 * k + (j + 1)) = ((O1, O2), ex2)) := by unfold Hid; rw [HSt.out, stD, if_pos (Or.inl q1)]
            go_wp2_with (first | (go_at_call 94; refine (pisnone_o _ _ V _ (by assumption)).mono ?_; rintro e wN ⟨rfl, hbN⟩; have c0' := Ok.cell hbN v1 c0; have c1' := Ok.cell hbN v1 c1; have e0' := Ok.cell hbN v2 e0; have e1' := Ok.cell hbN v2 e1) | fail)
            go_roundw
            case rel => exact ⟨j + 1, by omega, rfl, by rw [E.out], by rw [E.out]; exact ⟨HV.out.1.ok hbN, Ok.row' hbN HV.out.2.1, HV.out.2.2⟩⟩
            case measure => simp only [intOf]; omega
          · have d1 : decide (x2 < x1) = false := decide_eq_false q1
            by_cases q2 : y2 < y1
            · have d2 : decide (y2 < y1) = true := decide_eq_true q2
              have E : Hid (dvF X01 X02 X11 X12 Y01 Y02 Y11 Y12 Y21 Y22 (3 * k + (j + 1)) = ((O1, O2), ex2)) := by unfold Hid; rw [HSt.out, stD, if_pos (Or.inr q2)]
              go_wp2_with (first | (go_at_call 94; refine (pisnone_o _ _ V _ (by assumption)).mono ?_; rintro e wN ⟨rfl, hbN⟩; have c0' := Ok.cell hbN v1 c0; have c1' := Ok.cell hbN v1 c1; have e0' := Ok.cell hbN v2 e0; have e1' := Ok.cell hbN v2 e1) | fail)
              go_roundw
              case rel => exact ⟨j + 1, by omega, rfl, by rw [E.out], by rw [E.out]; exact ⟨HV.out.1.ok hbN, Ok.row' hbN HV.out.2.1, HV.out.2.2⟩⟩
              case measure => simp only [intOf]; omega
            · have d2 : decide (y2 < y1) = false := decide_eq_false q2
              go_wp2_with (first | (go_at_call 94; refine (pisnone_o _ _ V _ (by assumption)).mono ?_; rintro e wN ⟨rfl, hbN⟩; have c0' := Ok.cell hbN v1 c0; have c1' := Ok.cell hbN v1 c1; have e0' := Ok.cell hbN v2 e0; have e1' := Ok.cell hbN v2 e1) | fail)
              have E : Hid (dvF X01 X02 X11 X12 Y01 Y02 Y11 Y12 Y21 Y22 (3 * k + (j + 1)) = (joinI O1 O2 (hullW (cL Int.tdiv x1 x2 y1 y2 4) (cH Int.tdiv x1 x2 y1 y2 4)).1 (hullW (cL Int.tdiv x1 x2 y1 y2 4) (cH Int.tdiv x1 x2 y1 y2 4)).2, ex2 && exW (cL Int.tdiv x1 x2 y1 y2 4) (cH Int.tdiv x1 x2 y1 y2 4))) := by unfold Hid; rw [HSt.out, stD, if_neg (by omega)]
              have hyy := HYi.out (by omega)
              have HO : Hid (OpAt 194 x1 x2 y1 y2 Int.tdiv) := op_quo HXi.out.1 HXi.out.2 hyy.1 hyy.2
              obtain ⟨L, hL⟩ : ∃ L, cL Int.tdiv x1 x2 y1 y2 4 = L := ⟨_, rfl⟩
              obtain ⟨H, hH⟩ : ∃ H, cH Int.tdiv x1 x2 y1 y2 4 = H := ⟨_, rfl⟩
              have HLH : Hid (cL Int.tdiv x1 x2 y1 y2 4 = L ∧ cH Int.tdiv x1 x2 y1 y2 4 = H) := ⟨hL, hH⟩
              rw [hL, hH] at E
              clear hL hH hyy HYi HSt
              have HN : Hid (DvInv w wN g8 (O1, O2) ∧ wN.heap[g11]? = some (rowD x1 x2) ∧ g8 < g11) := ⟨HV.out.1.ok hbN, Ok.row' hbN HV.out.2.1, HV.out.2.2⟩
              have hg13 : g13 < wN.heap.size := Nat.lt_of_lt_of_le v2 hbN.le
              have hg11 : g11 < wN.heap.size := Nat.lt_of_lt_of_le v1 hbN.le
              obtain ⟨W, hW⟩ : ∃ W, W = wN := ⟨_, rfl⟩
              obtain ⟨c0, c1, _, _⟩ := row_facts HN.out.2.1
              obtain ⟨c2, c3, _, _⟩ := row_facts (Ok.row' hbN HR2.out.1)
              rw [← hW] at HN hg13 hg11 c0 c1 c2 c3 ⊢
              clear hW
              have g0 := hg11
              have g1 := hg13
              have hm0 := World.new_ne W _ c0
              have hm1 := World.new_ne W _ c1
              have hm2 := World.new_ne W _ c2
              have hm3 := World.new_ne W _ c3
              have hn0 : ¬ g11 = W.heap.size := by omega
              have hn1 : ¬ g13 = W.heap.size := by omega
              have hn2 : ¬ g11 = W.heap.size + 1 := by omega
              have hn3 : ¬ g13 = W.heap.size + 1 := by omega
              have hp0 : ¬ W.heap.size + 1 = g11 := by omega
              have hp1 : ¬ W.heap.size = g11 := by omega
              have hp2 : ¬ W.heap.size = g13 := by omega
              have hp3 : ¬ W.heap.size + 1 = g13 := by omega
              refine wp_cut2 (fun a1 w1 => ∃ g bf, a1 = ⟨#[Value.agg #[Value.int IntKind.i64 al, Value.int IntKind.i64 ah], Value.agg #[Value.int IntKind.i64 bl, Value.int IntKind.i64 bh], Value.pointer (some ⟨w.heap.size, 0, Option.none⟩), Value.pointer (some ⟨w.heap.size + 1, 0, Option.none⟩), Value.pointer (some ⟨w.heap.size + 1 + 1, 0, Option.none⟩), Value.bool false, Value.func (Fn.func (188 : Nat)) #[Value.agg #[Value.int IntKind.i64 al, Value.int IntKind.i64 ah]] #[], Value.func (Fn.func (188 : Nat)) #[Value.agg #[Value.int IntKind.i64 bl, Value.int IntKind.i64 bh]] #[], Value.pointer (some ⟨g8, 0, Option.none⟩), Value.bool ex2, undef, Value.pointer (some ⟨g11, 0, Option.none⟩), undef, Value.pointer (some ⟨g13, 0, Option.none⟩), Value.pointer (some ⟨g, 0, Option.none⟩), Value.agg #[Value.int IntKind.i64 al, Value.int IntKind.i64 ah], Value.func (Fn.func (188 : Nat)) #[Value.agg #[Value.int IntKind.i64 al, Value.int IntKind.i64 ah]] #[], Value.agg #[Value.int IntKind.i64 bl, Value.int IntKind.i64 bh], Value.func (Fn.func (188 : Nat)) #[Value.agg #[Value.int IntKind.i64 bl, Value.int IntKind.i64 bh]] #[], Value.agg #[Value.int IntKind.i64 1, Value.int IntKind.i64 0], Value.func (Fn.func (188 : Nat)) #[Value.agg #[Value.int IntKind.i64 al, Value.int IntKind.i64 ah]] #[], Value.agg #[Value.int IntKind.i64 (-9223372036854775808), Value.int IntKind.i64 (-9223372036854775808)], Value.agg #[Value.int IntKind.i64 X01, Value.int IntKind.i64 X02], Value.func (Fn.func (188 : Nat)) #[Value.agg #[Value.int IntKind.i64 al, Value.int IntKind.i64 ah]] #[], Value.agg #[Value.int IntKind.i64 (-9223372036854775807), Value.int IntKind.i64 9223372036854775807], Value.agg #[Value.int IntKind.i64 X11, Value.int IntKind.i64 X12], Value.agg #[Value.int IntKind.i64 X01, Value.int IntKind.i64 X02, Value.int IntKind.i64 X11, Value.int IntKind.i64 X12], Value.int IntKind.i64 (k : Int), Value.bool true, Value.agg #[Value.int IntKind.i64 x1, Value.int IntKind.i64 x2], Value.func (Fn.func (188 : Nat)) #[Value.agg #[Value.int IntKind.i64 bl, Value.int IntKind.i64 bh]] #[], Value.agg #[Value.int IntKind.i64 (-9223372036854775808), Value.int IntKind.i64 (-2)], Value.agg #[Value.int IntKind.i64 Y01, Value.int IntKind.i64 Y02], Value.func (Fn.func (188 : Nat)) #[Value.agg #[Value.int IntKind.i64 bl, Value.int IntKind.i64 bh]] #[], Value.agg #[Value.int IntKind.i64 (-1), Value.int IntKind.i64 (-1)], Value.agg #[Value.int IntKind.i64 Y11, Value.int IntKind.i64 Y12], Value.func (Fn.func (188 : Nat)) #[Value.agg #[Value.int IntKind.i64 bl, Value.int IntKind.i64 bh]] #[], Value.agg #[Value.int IntKind.i64 1, Value.int IntKind.i64 9223372036854775807], Value.agg #[Value.int IntKind.i64 Y21, Value.int IntKind.i64 Y22], Value.agg #[Value.int IntKind.i64 Y01, Value.int IntKind.i64 Y02, Value.int IntKind.i64 Y11, Value.int IntKind.i64 Y12, Value.int IntKind.i64 Y21, Value.int IntKind.i64 Y22], Value.int IntKind.i64 (j : Int), Value.bool true, Value.agg #[Value.int IntKind.i64 y1, Value.int IntKind.i64 y2], Value.agg #[Value.int IntKind.i64 x1, Value.int IntKind.i64 x2], Value.bool false, Value.bool false, Value.agg #[Value.int IntKind.i64 y1, Value.int IntKind.i64 y2], Value.bool false, Value.bool false, Value.func (Fn.func 227) #[] #[Value.pointer (some ⟨bf, 0, Option.none⟩)], Value.agg #[Value.int IntKind.i64 x1, Value.int IntKind.i64 x2], Value.agg #[Value.int IntKind.i64 y1, Value.int IntKind.i64 y2], Value.agg #[Value.int IntKind.i64 (tW L), Value.int IntKind.i64 (wrap64 L), Value.int IntKind.i64 (tW H), Value.int IntKind.i64 (wrap64 H)], u53, u54, u55, u56, u57, u58, u59, u60, u61, u62, u63, undef, undef], []⟩ ∧ Hid (Spn W w1 g L H)) ?_ ?_
              · go_region_held3 (fun w' => w'.cell? ⟨g11, 0, none⟩ = some (.int .i64 x1) ∧ w'.cell? ⟨g11, 1, none⟩ = some (.int .i64 x2) ∧ w'.cell? ⟨g13, 0, none⟩ = some (.int .i64 y1) ∧ w'.cell? ⟨g13, 1, none⟩ = some (.int .i64 y2)) (go_keep)
                  (first
                  | (go_at_call 179; refine (pthrough_ex _ _).mono ?_; rintro e w' ⟨rfl, rfl⟩)
                  | (go_at_call 227; refine (pthi_q Int.tdiv _ _ _ _ L H _ _ HO.out (by repeat (first | (refine heap_at _ _ _ ?hx; case hx => (first | (simp; done) | (simp; omega))) | (refine heap_past _ _ _ ?hy ?_; case hy => (first | (simp; done) | (simp; omega))) | fail)) HLH.out).mono ?_; rintro e w2 ⟨rfl, hb2⟩; have hbW : Ok W w2 := Ok.step (by repeat (first | exact Ok.refl _ | refine Ok.alloc ?_ _ | refine Ok.draws ?_ _ | exact Below.drew (Ok.refl _))) hb2; have e0 := Ok.cell hbW g0 c0; have e1 := Ok.cell hbW g0 c1; have e2 := Ok.cell hbW g1 c2; have e3 := Ok.cell hbW g1 c3; have j0 : ¬ w2.heap.size = g11 := (by have := hbW.le; omega); have j1 : ¬ w2.heap.size = g13 := (by have := hbW.le; omega); have j2 : ¬ g11 = w2.heap.size := (by have := hbW.le; omega); have j3 : ¬ g13 = w2.heap.size := (by have := hbW.le; omega); first | (have HQ : Hid _ := rowA (o := .cells #[.int .i64 0, .int .i64 0, .int .i64 0, .int .i64 0] 159) hb2; obtain ⟨⟨q0, q1, q2, q3⟩, q4, q5, q6, q7⟩ := row_facts4 HQ.out) | (have HQ : Hid _ := rowB (o := .cells #[.int .i64 0, .int .i64 0, .int .i64 0, .int .i64 0] 159) hb2; obtain ⟨⟨q0, q1, q2, q3⟩, q4, q5, q6, q7⟩ := row_facts4 HQ.out) | skip)
                  | fail)
                all_goals (refine ⟨_, _, rfl, ?_⟩; first | with_reducible exact thr_a hbW | ((with_reducible refine thr_b hbW HQ.out ?_); omega))
              · rintro a1 w1 ⟨g, bf, rfl, HT⟩
                clear c0 c1 c2 c3 g0 g1 hm0 hm1 hm2 hm3 hn0 hn1 hn2 hn3 hp0 hp1 hp2 hp3 d1 d2
                have okT := HT.out.1
                have ro := Ok.row' okT HN.out.1.2.2.1
                obtain ⟨o0, o1, _, _⟩ := row_facts ro
                have rg := HT.out.2.1
                obtain ⟨⟨q0, q1, q2, q3⟩, _, _, _, _⟩ := row_facts4 rg
                have HM2 : Hid (w1.cell? ⟨g8, 0, none⟩ = some (.int .i64 O1) ∧ w1.cell? ⟨g8, 1, none⟩ = some (.int .i64 O2) ∧ w1.cell? ⟨g, 0, none⟩ = some (.int .i64 (tW L)) ∧ w1.cell? ⟨g, 1, none⟩ = some (.int .i64 (wrap64 L)) ∧ w1.cell? ⟨g, 2, none⟩ = some (.int .i64 (tW H)) ∧ w1.cell? ⟨g, 3, none⟩ = some (.int .i64 (wrap64 H))) := ⟨o0, o1, q0, q1, q2, q3⟩
                have HU : Hid (g8 < w1.heap.size ∧ g < w1.heap.size) := ⟨lt_row ro, lt_row rg⟩
                have HN1 : Hid (DvInv w w1 g8 (O1, O2) ∧ w1.heap[g11]? = some (rowD x1 x2) ∧ g8 < g11) := ⟨HN.out.1.ok okT, Ok.row' okT HN.out.2.1, HN.out.2.2⟩
                have HRG : Hid (w1.heap[g]? = some (rowS L H) ∧ g ≠ g8) := ⟨rg, by have h1 := HN.out.2.2; have h2 := HT.out.2.2; omega⟩
                clear okT ro rg o0 o1 q0 q1 q2 q3 HN HT hg13 hg11 HV HR2 hbN v1 v2 e0 e1
                simp only [Exit.then]
                go_wp2_with fail
                refine wp_region_L (fun w' => w'.cell? ⟨g8, 0, none⟩ = some (.int .i64 O1) ∧ w'.cell? ⟨g8, 1, none⟩ = some (.int .i64 O2) ∧ w'.cell? ⟨g, 0, none⟩ = some (.int .i64 (tW L)) ∧ w'.cell? ⟨g, 1, none⟩ = some (.int .i64 (wrap64 L)) ∧ w'.cell? ⟨g, 2, none⟩ = some (.int .i64 (tW H)) ∧ w'.cell? ⟨g, 3, none⟩ = some (.int .i64 (wrap64 H))) 4 (by kernel_rfl) ?_
                refine wpAnyL_take (i := 0) (oi := { dst := some 53, op := Op.load 23 (Operand.tmp 8), type := 23, pos := "operate.go:58", after := #[], guard := Option.none }) (v := .agg #[.int .i64 O1, .int .i64 O2]) rfl (by kernel_rfl) (by kernel_rfl) (by kernel_rfl) (by kernel_rfl) (fun _ _ _ h => h) HM2.out (Or.inl ⟨by rfl, ?_⟩) ?_
                · intro w' hSw
                  obtain ⟨s0, s1, s2, s3, s4, s5⟩ := hSw
                  go_simp
                simp only [Act.put, List.setIfInBounds_toArray, List.set_cons_zero, List.set_cons_succ]
                refine wpAnyL_take (i := 1) (oi := { dst := some 54, op := Op.load 159 (Operand.tmp 14), type := 159, pos := "operate.go:58", after := #[], guard := Option.none }) (v := .agg #[.int .i64 (tW L), .int .i64 (wrap64 L), .int .i64 (tW H), .int .i64 (wrap64 H)]) rfl (by kernel_rfl) (by kernel_rfl) (by kernel_rfl) (by kernel_rfl) (fun _ _ _ h => h) HM2.out (Or.inl ⟨by rfl, ?_⟩) ?_
                · intro w' hSw
                  obtain ⟨s0, s1, s2, s3, s4, s5⟩ := hSw
                  go_simp
                simp only [Act.put, List.setIfInBounds_toArray, List.set_cons_zero, List.set_cons_succ]
                refine wpAnyL_step (i := 2) (by kernel_rfl) rfl (fun K hK => ?_)
                go_simp
                refine (phull_any _ _ w1 _ (Below.drew (Ok.refl _))).mono ?_
                rintro e w2 ⟨rfl, hb2⟩
                go_wp2_with fail
                refine hK.out _ _ (fun _ => ⟨Ok.cell hb2 HU.out.1 HM2.out.1, Ok.cell hb2 HU.out.1 HM2.out.2.1, Ok.cell hb2 HU.out.2 HM2.out.2.2.1, Ok.cell hb2 HU.out.2 HM2.out.2.2.2.1, Ok.cell hb2 HU.out.2 HM2.out.2.2.2.2.1, Ok.cell hb2 HU.out.2 HM2.out.2.2.2.2.2⟩) ?_
                clear hK K
                refine wpAnyL_step (i := 3) (by kernel_rfl) rfl (fun K hK => ?_)
                go_simp
                refine (Jpjoin_any _ _ _ _ w1 _ hb2).mono ?_
                rintro e w3 ⟨rfl, hb3⟩
                go_wp2_with fail
                refine hK.out _ _ (fun _ => ⟨Ok.cell hb3 HU.out.1 HM2.out.1, Ok.cell hb3 HU.out.1 HM2.out.2.1, Ok.cell hb3 HU.out.2 HM2.out.2.2.1, Ok.cell hb3 HU.out.2 HM2.out.2.2.2.1, Ok.cell hb3 HU.out.2 HM2.out.2.2.2.2.1, Ok.cell hb3 HU.out.2 HM2.out.2.2.2.2.2⟩) ?_
                clear hK K
                obtain ⟨z0, z1, z2, z3⟩ := row_facts (Ok.row' hb3 HN1.out.1.2.2.1)
                refine wpAnyL_step (i := 4) (by kernel_rfl) rfl (fun K hK => ?_)
                go_simp
                refine hK.out _ _ (fun h => absurd rfl h) ?_
                clear hK K
                refine wpAnyL_done (by kernel_rfl) ?_ _
                obtain ⟨Z, hZ⟩ : ∃ Z, Z = (w3.setCell ⟨g8, 0, none⟩ (.int .i64 (joinI O1 O2 (hullW L H).1 (hullW L H).2).1)).setCell ⟨g8, 1, none⟩ (.int .i64 (joinI O1 O2 (hullW L H).1 (hullW L H).2).2) := ⟨_, rfl⟩
                have HZ : Hid (DvInv w Z g8 (joinI O1 O2 (hullW L H).1 (hullW L H).2) ∧ Z.heap[g11]? = some (rowD x1 x2) ∧ g8 < g11) := by
                  have hne := HN1.out.2.2
                  refine ⟨by rw [hZ]; exact (HN1.out.1.ok hb3).set _ _, ?_, hne⟩
                  rw [hZ, heap_setCell_other _ _ _ _ (show g11 ≠ g8 by omega), heap_setCell_other _ _ _ _ (show g11 ≠ g8 by omega)]
                  exact Ok.row' hb3 HN1.out.2.1
                have rz : Z.heap[g]? = some (rowS L H) := by
                  rw [hZ, heap_setCell_other _ _ _ _ HRG.out.2, heap_setCell_other _ _ _ _ HRG.out.2]
                  exact Ok.row' hb3 HRG.out.1
                obtain ⟨⟨q0, q1, q2, q3⟩, _, _, _, _⟩ := row_facts4 rz
                rw [← hZ]
                clear hZ rz z0 z1 z2 z3 hb2 hb3 HN1 HRG HM2 HU
                have hbZ : Ok Z Z := Ok.refl _
                cases ex2
                · go_wp2_with fail
                  go_roundw
                  case rel => exact ⟨j + 1, by omega, rfl, by rw [E.out]; rfl, by rw [E.out]; exact HZ⟩
                  case measure => simp only [intOf]; omega
                · go_wp2_with (first | (go_at_call 181; refine (pexact_any _ _ Z _ hbZ).mono ?_; rintro e w4 ⟨rfl, hb4⟩) | fail)
                  go_roundw
                  case rel => exact ⟨j + 1, by omega, rfl, by rw [E.out]; rfl, by rw [E.out]; exact ⟨HZ.out.1.ok hb4, Ok.row' hb4 HZ.out.2.1, HZ.out.2.2⟩⟩
                  case measure => simp only [intOf]; omega
        · have hj2 : j = 3 := by omega
          subst hj2
          go_wp2_with fail
          refine ⟨⟨k + 1, by omega, rfl, ?_, ?_⟩, by simp only [intOf]; omega⟩
          · rfl
          · exact HJ.out.1
    · have hk2 : k = 2 := by omega
      subst hk2
      obtain ⟨o0, o1, o2, o3⟩ := row_facts HI.out.2.2.1
      obtain ⟨p0, p1, p2, p3⟩ := row_facts HI.out.2.1
      go_wp2_with fail
      (try simp only [Exit.inBlock, Exit.then])
      refine bodyPost_ret (results_iv rfl _ _ (w.heap.size + 2) 23 #[_, _] (0, 0) _ rfl (row_set2 HI.out.2.1 _ _) Tryz.underlying23 rfl infoI) rfl ?_
      exact ⟨rfl, (HI.out.1.set (show w.heap.size ≤ w.heap.size + 2 by omega) _).set (show w.heap.size ≤ w.heap.size + 2 by omega) _⟩
end Go.Proofs.YtgkbegmaffknbaaGreat
