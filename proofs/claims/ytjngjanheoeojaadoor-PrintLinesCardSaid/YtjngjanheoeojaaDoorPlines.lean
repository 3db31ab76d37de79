import Derived.Test.YtjngjanheoeojaaDoorLns
import Derived.Test.YtjngjanheoeojaaDoorFixd
import Derived.Laws.AppendOwnNone
import Derived.ArgAppend
import Derived.Deep.AppendLies
/- PrintLines, the law's own walk. -/
namespace Go.Proofs.YtjngjanheoeojaaDoor
set_option linter.unusedVariables false
set_option linter.unusedSimpArgs false
open Go.RowKit
theorem Tryd.info31z : (Tryd.prog.info? 31).map (fun i => (i.zero, i.size, i.bytes)) = some (some (.agg #[.int .i64 0, .int .i64 0, .string ⟨#[]⟩, .int .i64 0, .int .i64 0, .int .i64 0]), 6, 56) := by kernel_rfl
set_option maxHeartbeats 1000000 in
set_option maxRecDepth 20000 in
theorem lines_full (ad : Addr) (m cap : Nat) (hm : 0 < m) (hm2 : m * 56 ≤ 140737488355328) (news : List Value) (hl : news.length = m * 6) (w : World) (hn : ∀ w', Below w.heap.size w w' → ∀ j u, news[j]? = some u → w'.cell? (ad.add j) = some u) (h1 : ∀ u ∈ news, u.oneCell' = true) (T : List UInt8) (E : Int) (hTE : (E ≠ 0 ∧ T = []) ∨ (E = 0 ∧ T.length ≤ 8192 ∧ ∃ M, Run 0 M 0 ∧ T = flatL M)) (HT : ∀ w' g cap2, Below w.heap.size w w' → w'.ownsRow w.heap.size 31 6 (.slice (some ⟨g, 0, none⟩) m cap2) m news → Calls Tryd.prog 6 #[.slice (some ⟨g, 0, none⟩) m cap2] w' fun y w2 => y = .returned (.tuple #[.string ⟨T.toArray⟩, .int .i64 E]) ∧ Below w'.heap.size w' w2) (HF : Hid (Calls Tryd.prog 5 #[] w fun y w' => y = .returned (.bool true) ∧ Below w.heap.size w w')) :
    Calls Tryd.prog 3 #[.slice (some ad) m cap] w fun e w' => e = .returned (.bool true) ∧ Below w.heap.size w w' := by
  obtain ⟨i0, hi0, hz0', hz1', hz2'⟩ := info_parts Tryd.info31z
  have HL : Hid _ := hl
  have HN : Hid _ := hn
  have H1 : Hid _ := h1
  clear hl hn h1
  go_enter Tryd.func3, Tryd.ntmps3
  go_wp2_with fail
  refine Calls.mono HF.out ?_
  rintro y w1 ⟨rfl, hb1⟩
  have HB1 : Hid _ := hb1
  have hz := hb1.size
  clear hb1
  have HA : Hid (Below w.heap.size w (w1.alloc (.cells #[] 31))) := HB1.out.alloc hz _
  go_wp2_with (at_builtin; go_loud (refine wpList_append_lies _ rfl _ _ 22 rfl w.heap.size 31 i0 (.agg #[.int .i64 0, .int .i64 0, .string ⟨#[]⟩, .int .i64 0, .int .i64 0, .int .i64 0]) 6 56 Tryd.underlying22 hi0 hz0' hz1' hz2' rfl (by decide) (.slice (some ⟨w1.heap.size, 0, none⟩) 0 0) 0 [] (by rfl) ?ap0 ad m cap news (by rfl) HL.out (HN.out _ HA.out) H1.out hm ?ap1 ?ap2 ?ap3 (w1.heap.size + 1) (by simp) ?_))
  case ap0 => exact ⟨rfl, .inr ⟨w1.heap.size, 0, #[], rfl, hz, heap_alloc_new _ _, Nat.le_refl _, Nat.zero_le _, rfl, rfl⟩⟩
  case ap1 => unfold maxLen; omega
  case ap2 => omega
  case ap3 => simp; omega
  intro g cap2 w2 hown hgrow _ hlt
  have HB2 : Hid (Below w.heap.size w w2) := HA.out.grown hgrow (by simp; omega) (by intro k hk; simp [Value.ownBlock] at hk; omega)
  have HO : Hid (w2.ownsRow w.heap.size 31 6 (.slice (some ⟨g, 0, none⟩) m cap2) m news) := by first | exact hown | (trace_state; exact (by simpa only [Nat.zero_add, List.nil_append] using hown))
  clear hown hgrow
  go_wp2_with fail
  refine Calls.mono (HT _ g cap2 HB2.out HO.out) ?_
  rintro y w3 ⟨rfl, hb3⟩
  have HB3 : Hid (Below w.heap.size w w3) := HB2.out.trans (hb3.mono HB2.out.size)
  clear hb3
  rcases hTE with ⟨hE, rfl⟩ | ⟨rfl, h8, M0, hrun, rfl⟩
  · have hE' : (E == 0) = false := by rw [beq_eq_false_iff_ne]; exact hE
    go_wp2_with fail
    go_ret
    exact ⟨rfl, HB3.out⟩
  have hsz0 : (⟨(flatL M0).toArray⟩ : ByteArray).size = (flatL M0).length := by simp [ByteArray.size]
  have HR0 : Hid _ := hrun
  clear hrun HT HO HL HN H1 HA hlt HB2 HB1 hz hz0' hz1' hz2' hi0 HF hm hm2
  go_wp2_with fail
  go_loop [3, 5] (fun s d => ∃ (S : ByteArray) (M : List (List UInt8)) (q : Nat), s = .string S ∧ d = .int .i64 q ∧ S.size ≤ 8192 ∧ Hid (S = ⟨(flatL M).toArray⟩) ∧ Hid (Run q M 0)) (fun s d => match s with | .string S => S.size | _ => 0)
  case atStart => exact ⟨_, M0, 0, rfl, rfl, by rw [hsz0]; exact h8, rfl, HR0⟩
  case round =>
    obtain ⟨S, M, q, rfl, rfl, hS8, HS, HR⟩ := hrel
    cases M with
    | nil =>
      have h0 : S.size = 0 := by rw [HS.out]; simp [flatL_nil, ByteArray.size]
      have hq : q = 0 := HR.out
      subst hq
      have hnl : ¬ (0 : Int) < (S.size : Int) := by omega
      go_wp2_with fail
      go_ret
      exact ⟨rfl, HB3.out⟩
    | cons L M =>
      obtain ⟨q0, b, x, y, hL, hq, hbd, hrun⟩ : ∃ q0 b x y, L = ind q0 ++ b ∧ q = q0 + x ∧ Bd b x y ∧ Run (q0 + y) M 0 := by
        exact HR.out
      obtain ⟨n, hn⟩ : ∃ n, n = L.length := ⟨_, rfl⟩
      have hn0 : n = 2 * q0 + b.length := by rw [hn, hL]; simp [ind]
      have hb0 := hbd.pos
      have HSL : Hid (S = ⟨(L ++ 10 :: flatL M).toArray⟩) := by unfold Hid; rw [HS.out, flat_con]
      have hSs : S.size = n + 1 + (flatL M).length := by rw [HSL.out]; simp [ByteArray.size]; omega
      have HLN : Hid (∀ k (h : k < S.size), k < n → ((S[k].toNat : Int) == 10) = false) := by
        intro k h hk
        rw [beq_eq_false_iff_ne]
        have e : S[k] = L[k]'(by omega) := by
          have h9 : ∀ (X : ByteArray) (hX : X = ⟨(L ++ 10 :: flatL M).toArray⟩) (hk' : k < X.size), X[k] = L[k]'(by omega) := by
            rintro X rfl hk'
            show (L ++ 10 :: flatL M).toArray[k] = _
            rw [List.getElem_toArray, List.getElem_append_left]
          exact h9 S HSL.out h
        have h8 : L[k]'(by omega) ≠ 10 := by
          have := line_bytes (q := q0) hbd (L[k]'(by omega)) (by rw [← hL]; exact List.getElem_mem _)
          exact this
        rw [e]
        intro h7
        apply h8
        apply UInt8.toNat_inj.1
        have : (L[k]'(by omega)).toNat = 10 := by omega
        rw [this]; rfl
      have HLE : Hid (∀ (h : n < S.size), ((S[n].toNat : Int) == 10) = true) := by
        intro h
        have e : S[n] = 10 := by
          have h9 : ∀ (X : ByteArray) (hX : X = ⟨(L ++ 10 :: flatL M).toArray⟩) (hk' : n < X.size), X[n] = 10 := by
            rintro X rfl hk'
            show (L ++ 10 :: flatL M).toArray[n] = _
            rw [List.getElem_toArray, List.getElem_append_right (by omega)]
            simp [hn]
          exact h9 S HSL.out h
        rw [e]; rfl
      have HL : Hid _ := hL
      have HBD : Hid _ := hbd
      have HRN : Hid _ := hrun
      have HN : Hid _ := hn
      have HN0 : Hid _ := hn0
      have HSS : Hid _ := hSs
      have HQ : Hid _ := hq
      have hlt0 : (0 : Int) < (S.size : Int) := by omega
      have hnS : n < S.size := by omega
      obtain ⟨LB, hLB⟩ : ∃ LB, LB = S.extract 0 n := ⟨_, rfl⟩
      obtain ⟨RB, hRB⟩ : ∃ RB, RB = S.extract (n + 1) S.size := ⟨_, rfl⟩
      have HLB : Hid _ := hLB
      have HRB : Hid _ := hRB
      have eLB : LB = ⟨L.toArray⟩ := by
        rw [hLB, HSL.out, hn]
        apply ByteArray.ext
        simp [ByteArray.data_extract]
      have eRB : RB = ⟨(flatL M).toArray⟩ := by
        rw [hRB, hSs, HSL.out, hn]
        apply ByteArray.ext
        simp [ByteArray.data_extract]
      have sLB : LB.size = n := by rw [eLB, hn]; simp [ByteArray.size]
      have sRB : RB.size = (flatL M).length := by rw [eRB]; simp [ByteArray.size]
      obtain ⟨t, ht⟩ : ∃ t, t = 2 * q0 := ⟨_, rfl⟩
      obtain ⟨BB, hBB⟩ : ∃ BB, BB = LB.extract t LB.size := ⟨_, rfl⟩
      have eBB : BB = ⟨b.toArray⟩ := by
        rw [hBB, sLB, eLB, hL, hn0, ht]
        apply ByteArray.ext
        simp [ByteArray.data_extract, ind]
      have sBB : BB.size = b.length := by rw [eBB]; simp [ByteArray.size]
      have gLB : ∀ k (h : k < LB.size), LB[k] = L[k]'(by omega) := by
        have h9 : ∀ (X : ByteArray) (hX : X = ⟨L.toArray⟩) k (hk' : k < X.size) (hk : k < L.length), X[k] = L[k] := by
          rintro X rfl k hk' hk; rfl
        exact fun k h => h9 LB eLB k h _
      obtain ⟨c, hc, hby, hcs⟩ := body_facts hbd BB eBB
      have HBY : Hid _ := hby
      have HCS : Hid _ := hcs
      have HC : Hid _ := hc
      have HL32 : Hid (∀ k (h : k < LB.size), k < t → ((LB[k].toNat : Int) == 32) = true) := by
        intro k h hk
        rw [gLB k h]
        have : L[k]'(by omega) = 32 := by
          have h9 : ∀ (X : List UInt8) (hX : X = ind q0 ++ b) (hk' : k < X.length), X[k] = 32 := by
            rintro X rfl hk'
            rw [List.getElem_append_left (by unfold ind; simp; omega)]
            unfold ind; simp
          exact h9 L hL _
        rw [this]; rfl
      have HLt : Hid (∀ (h : t < LB.size), ((LB[t].toNat : Int) == 32) = false) := by
        intro h
        rw [gLB t h]
        have : L[t]'(by omega) = b[0] := by
          have h9 : ∀ (X : List UInt8) (hX : X = ind q0 ++ b) (hk' : t < X.length), X[t] = b[0] := by
            rintro X rfl hk'
            rw [List.getElem_append_right (by unfold ind; simp; omega)]
            congr 1
            unfold ind; simp; omega
          exact h9 L hL _
        rw [this, beq_eq_false_iff_ne]
        have h7 := hbd.first
        rcases h7 with ⟨_, h7, _⟩ | ⟨_, h7⟩
        · intro h6; apply h7; apply UInt8.toNat_inj.1
          have : b[0].toNat = 32 := by omega
          rw [this]; rfl
        · rw [h7]; decide
      have HBB : Hid _ := hBB
      have HT2 : Hid _ := ht
      have hT1 : t < LB.size := by omega
      have hB1 : 0 < BB.size := by omega
      have hB2 : ¬ (BB.size : Int) < 1 := by omega
      have hBm : BB.size ≤ 8192 := by omega
      have hLm : LB.size ≤ 8192 := by omega
      have HSB : Hid _ := sBB
      have HSR : Hid _ := sRB
      have HER : Hid _ := eRB
      have HEB : Hid _ := eBB
      have HSLn : Hid _ := sLB
      clear hL hbd hrun hn HR HS hn0 hSs hq hLB hRB eLB eRB sLB sRB ht hBB eBB sBB gLB hc hby hcs
      go_wp2_with fail
      go_loop [6] (fun i => ∃ k : Nat, k ≤ n ∧ i = .int .i64 k) (fun i => n - (intOf i).toNat)
      case atStart => exact ⟨0, Nat.zero_le _, rfl⟩
      case round =>
        obtain ⟨k, hk, rfl⟩ := hrel
        have hkS : k < S.size := by omega
        have hkS' : (k : Int) < (S.size : Int) := by omega
        by_cases hkn : k < n
        · have hb10 := HLN.out k hkS hkn
          go_wp2_with fail
          go_round
          case rel => exact ⟨k + 1, by omega, by go_num⟩
          case measure => simp [intOf]; omega
        · have hkk : k = n := by omega
          subst hkk
          have hb10 := HLE.out hkS
          have hne : ((k : Int) == (S.size : Int)) = false := by rw [beq_eq_false_iff_ne]; omega
          go_wp2_with fail
          rw [← HLB.out, ← HRB.out]
          clear hb10 hne
          go_loop [8] (fun i => ∃ j : Nat, j ≤ t ∧ i = .int .i64 j) (fun i => t - (intOf i).toNat)
          case atStart => exact ⟨0, Nat.zero_le _, rfl⟩
          case round =>
            obtain ⟨j, hj, rfl⟩ := hrel
            have hjS : j < LB.size := by omega
            have hjS' : (j : Int) < (LB.size : Int) := by omega
            by_cases hjt : j < t
            · have hb32 := HL32.out j hjS hjt
              go_wp2_with fail
              go_round
              case rel => exact ⟨j + 1, by omega, by go_num⟩
              case measure => simp [intOf]; omega
            · have hjj : j = t := by omega
              subst hjj
              have hb32 := HLt.out hjS
              have hbr : LB.extract j LB.size = BB := HBB.out.symm
              have hc := HC.out
              have h0B : 0 < BB.size := by omega
              have hcB : c < BB.size := by omega
              rcases HCS.out with ⟨rfl, rfl, hfl⟩ | ⟨rfl, rfl, hfl⟩ | ⟨rfl, rfl, hfl⟩ | ⟨rfl, rfl, hfl⟩
              · obtain ⟨f1, f2⟩ := hfl h0B hcB
                have hqq : q = q0 := HQ.out
                subst hqq
                have g1 : ((BB[0].toNat : Int) == 125) = false := by rw [beq_eq_false_iff_ne]; omega
                have g2 : ((BB[c].toNat : Int) == 32) = false := by rw [beq_eq_false_iff_ne]; omega
                have g3 : ((BB[c].toNat : Int) == 123) = false := by rw [beq_eq_false_iff_ne]; omega
                have g4 : ((BB[c].toNat : Int) == 59) = true := by rw [beq_iff_eq]; omega
                have g7 : ((BB[c].toNat : Int) != 59) = false := by simp [f2]
                have g6 : ((j : Int) == 2 * (q : Int)) = true := by rw [beq_iff_eq, HT2.out]; omega
                have g8 : ((j : Int) != 2 * (q : Int)) = false := by rw [bne_eq_false_iff_eq, HT2.out]; omega
                have g9 : q ≤ 8192 := by have := HT2.out; omega
                clear f1 f2 hfl
                go_wp2_with fail
                go_loop [11] (fun i => ∃ e : Nat, e ≤ c + 1 ∧ i = .int .i64 e) (fun i => c + 1 - (intOf i).toNat)
                case atStart => exact ⟨0, Nat.zero_le _, rfl⟩
                case round =>
                  obtain ⟨e, he, rfl⟩ := hrel
                  by_cases hec : e < c + 1
                  · have heB : e < BB.size := by omega
                    have heB' : (e : Int) < (c : Int) + 1 := by omega
                    obtain ⟨b1, b2, b3, b4, b5⟩ := HBY.out e heB
                    have d1 : ¬ (BB[e].toNat : Int) < 32 := by clear b4 b5; omega
                    have d2 : ¬ 126 < (BB[e].toNat : Int) := by clear b4 b5; omega
                    have d3 : ((BB[e].toNat : Int) == 35) = false := by clear b4 b5; rw [beq_eq_false_iff_ne]; omega
                    clear b1 b2 b3
                    by_cases h32 : BB[e].toNat = 32
                    · obtain ⟨heB2, b6⟩ := b4 h32
                      clear b4 b5
                      have heB2' : (e : Int) + 1 < (c : Int) + 1 := by omega
                      have d4 : ((BB[e].toNat : Int) == 32) = true := by rw [beq_iff_eq]; omega
                      have d5 : ((BB[e + 1].toNat : Int) == 32) = false := by rw [beq_eq_false_iff_ne]; omega
                      have d6 : ((BB[e].toNat : Int) == 123) = false := by rw [beq_eq_false_iff_ne]; omega
                      have d7 : ((BB[e].toNat : Int) == 59) = false := by rw [beq_eq_false_iff_ne]; omega
                      clear b6 h32
                      go_wp2_with fail
                      go_round
                      case rel => exact ⟨e + 1, by omega, by go_num⟩
                      case measure => simp [intOf]; omega
                    · have d4 : ((BB[e].toNat : Int) == 32) = false := by clear b4 b5; rw [beq_eq_false_iff_ne]; omega
                      clear b4
                      by_cases hcc : e = c
                      · subst hcc
                        have d8 : ¬ (e : Int) < (e : Int) := by omega
                        clear b5 h32
                        rcases hA : ((BB[e].toNat : Int) == 123) with _ | _ <;> rcases hB : ((BB[e].toNat : Int) == 59) with _ | _
                        all_goals
                          first
                          | (exfalso; simp_all; done)
                          | (go_wp2_with fail
                             go_round
                             case rel => exact ⟨e + 1, by omega, by go_num⟩
                             case measure => simp [intOf])
                      · have d6 : ((BB[e].toNat : Int) == 123) = false := by rw [beq_eq_false_iff_ne]; intro h; exact hcc (b5 (.inl (by clear b5; omega)))
                        have d7 : ((BB[e].toNat : Int) == 59) = false := by rw [beq_eq_false_iff_ne]; intro h; exact hcc (b5 (.inr (by clear b5; omega)))
                        clear b5 h32
                        go_wp2_with fail
                        go_round
                        case rel => exact ⟨e + 1, by omega, by go_num⟩
                        case measure => simp [intOf]; omega
                  · have hee : e = c + 1 := by omega
                    subst hee
                    have hne : ¬ ((c : Int) + 1 < (c : Int) + 1) := by omega
                    go_wp2_with fail
                    go_round
                    case rel => exact ⟨RB, M, q, rfl, rfl, by have := HSR.out; have := HSS.out; omega, HER, HRN⟩
                    case measure => simp; have := HSR.out; have := HSS.out; omega
              · obtain ⟨f1, f2⟩ := hfl h0B hcB
                have hqq : q = q0 := HQ.out
                subst hqq
                have g1 : ((BB[0].toNat : Int) == 125) = false := by rw [beq_eq_false_iff_ne]; omega
                have g2 : ((BB[c].toNat : Int) == 32) = false := by rw [beq_eq_false_iff_ne]; omega
                have g3 : ((BB[c].toNat : Int) == 123) = true := by rw [beq_iff_eq]; omega
                have g6 : ((j : Int) == 2 * (q : Int)) = true := by rw [beq_iff_eq, HT2.out]; omega
                have g8 : ((j : Int) != 2 * (q : Int)) = false := by rw [bne_eq_false_iff_eq, HT2.out]; omega
                have g9 : q ≤ 8192 := by have := HT2.out; omega
                clear f1 f2 hfl
                go_wp2_with fail
                go_loop [11] (fun i => ∃ e : Nat, e ≤ c + 1 ∧ i = .int .i64 e) (fun i => c + 1 - (intOf i).toNat)
                case atStart => exact ⟨0, Nat.zero_le _, rfl⟩
                case round =>
                  obtain ⟨e, he, rfl⟩ := hrel
                  by_cases hec : e < c + 1
                  · have heB : e < BB.size := by omega
                    have heB' : (e : Int) < (c : Int) + 1 := by omega
                    obtain ⟨b1, b2, b3, b4, b5⟩ := HBY.out e heB
                    have d1 : ¬ (BB[e].toNat : Int) < 32 := by clear b4 b5; omega
                    have d2 : ¬ 126 < (BB[e].toNat : Int) := by clear b4 b5; omega
                    have d3 : ((BB[e].toNat : Int) == 35) = false := by clear b4 b5; rw [beq_eq_false_iff_ne]; omega
                    clear b1 b2 b3
                    by_cases h32 : BB[e].toNat = 32
                    · obtain ⟨heB2, b6⟩ := b4 h32
                      clear b4 b5
                      have heB2' : (e : Int) + 1 < (c : Int) + 1 := by omega
                      have d4 : ((BB[e].toNat : Int) == 32) = true := by rw [beq_iff_eq]; omega
                      have d5 : ((BB[e + 1].toNat : Int) == 32) = false := by rw [beq_eq_false_iff_ne]; omega
                      have d6 : ((BB[e].toNat : Int) == 123) = false := by rw [beq_eq_false_iff_ne]; omega
                      have d7 : ((BB[e].toNat : Int) == 59) = false := by rw [beq_eq_false_iff_ne]; omega
                      clear b6 h32
                      go_wp2_with fail
                      go_round
                      case rel => exact ⟨e + 1, by omega, by go_num⟩
                      case measure => simp [intOf]; omega
                    · have d4 : ((BB[e].toNat : Int) == 32) = false := by clear b4 b5; rw [beq_eq_false_iff_ne]; omega
                      clear b4
                      by_cases hcc : e = c
                      · subst hcc
                        have d8 : ¬ (e : Int) < (e : Int) := by omega
                        clear b5 h32
                        rcases hA : ((BB[e].toNat : Int) == 123) with _ | _ <;> rcases hB : ((BB[e].toNat : Int) == 59) with _ | _
                        all_goals
                          first
                          | (exfalso; simp_all; done)
                          | (go_wp2_with fail
                             go_round
                             case rel => exact ⟨e + 1, by omega, by go_num⟩
                             case measure => simp [intOf])
                      · have d6 : ((BB[e].toNat : Int) == 123) = false := by rw [beq_eq_false_iff_ne]; intro h; exact hcc (b5 (.inl (by clear b5; omega)))
                        have d7 : ((BB[e].toNat : Int) == 59) = false := by rw [beq_eq_false_iff_ne]; intro h; exact hcc (b5 (.inr (by clear b5; omega)))
                        clear b5 h32
                        go_wp2_with fail
                        go_round
                        case rel => exact ⟨e + 1, by omega, by go_num⟩
                        case measure => simp [intOf]; omega
                  · have hee : e = c + 1 := by omega
                    subst hee
                    have hne : ¬ ((c : Int) + 1 < (c : Int) + 1) := by omega
                    go_wp2_with fail
                    go_round
                    case rel => exact ⟨RB, M, q + 1, rfl, by go_num, by have := HSR.out; have := HSS.out; omega, HER, HRN⟩
                    case measure => simp; have := HSR.out; have := HSS.out; omega
              · have hqq : q = q0 + 1 := HQ.out
                subst hqq
                have hc0 : c = 0 := by rw [hfl] at hc; simp [ByteArray.size] at hc; omega
                subst hc0
                have f0 : BB[0].toNat = 125 := by
                  have h9 : ∀ (X : ByteArray) (hX : X = ⟨#[125]⟩) (h : 0 < X.size), X[0].toNat = 125 := by rintro X rfl h; rfl
                  exact h9 BB hfl _
                have gl : (BB.toList == [125]) = true := by rw [hfl, ByteArray.toList_eq]; rfl
                have g1 : ((BB[0].toNat : Int) == 125) = true := by rw [beq_iff_eq]; omega
                have g2 : ((BB[0].toNat : Int) == 32) = false := by rw [beq_eq_false_iff_ne]; omega
                have g3 : ((BB[0].toNat : Int) == 123) = false := by rw [beq_eq_false_iff_ne]; omega
                have g4 : ((BB[0].toNat : Int) == 59) = false := by rw [beq_eq_false_iff_ne]; omega
                have g7 : ((BB[0].toNat : Int) != 59) = true := by simp [f0]
                have g6 : ((j : Int) == 2 * (q0 : Int)) = true := by rw [beq_iff_eq, HT2.out]; omega
                have g8 : ((j : Int) != 2 * (q0 : Int)) = false := by rw [bne_eq_false_iff_eq, HT2.out]; omega
                have g9 : q0 ≤ 8192 := by have := HT2.out; omega
                clear f0 hfl
                go_wp2_with fail
                go_loop [11] (fun i => ∃ e : Nat, e ≤ 1 ∧ i = .int .i64 e) (fun i => 1 - (intOf i).toNat)
                case atStart => exact ⟨0, Nat.zero_le _, rfl⟩
                case round =>
                  obtain ⟨e, he, rfl⟩ := hrel
                  by_cases hec : e < 1
                  · have heB : e < BB.size := by omega
                    have heB' : (e : Int) < 1 := by omega
                    obtain ⟨b1, b2, b3, b4, b5⟩ := HBY.out e heB
                    have d1 : ¬ (BB[e].toNat : Int) < 32 := by clear b4 b5; omega
                    have d2 : ¬ 126 < (BB[e].toNat : Int) := by clear b4 b5; omega
                    have d3 : ((BB[e].toNat : Int) == 35) = false := by clear b4 b5; rw [beq_eq_false_iff_ne]; omega
                    clear b1 b2 b3
                    by_cases h32 : BB[e].toNat = 32
                    · obtain ⟨heB2, b6⟩ := b4 h32
                      clear b4 b5
                      have heB2' : (e : Int) + 1 < 1 := by omega
                      exfalso; omega
                    · have d4 : ((BB[e].toNat : Int) == 32) = false := by clear b4 b5; rw [beq_eq_false_iff_ne]; omega
                      clear b4
                      by_cases hcc : e = 0
                      · subst hcc
                        have d8 : ¬ (0 : Int) < 0 := by omega
                        clear b5 h32
                        rcases hA : ((BB[0].toNat : Int) == 123) with _ | _ <;> rcases hB : ((BB[0].toNat : Int) == 59) with _ | _
                        all_goals
                          first
                          | (exfalso; simp_all; done)
                          | (go_wp2_with fail
                             go_round
                             case rel => exact ⟨1, by omega, by go_num⟩
                             case measure => simp [intOf])
                      · have d6 : ((BB[e].toNat : Int) == 123) = false := by rw [beq_eq_false_iff_ne]; intro h; exact hcc (b5 (.inl (by clear b5; omega)))
                        have d7 : ((BB[e].toNat : Int) == 59) = false := by rw [beq_eq_false_iff_ne]; intro h; exact hcc (b5 (.inr (by clear b5; omega)))
                        clear b5 h32
                        go_wp2_with fail
                        go_round
                        case rel => exact ⟨e + 1, by omega, by go_num⟩
                        case measure => simp [intOf]; omega
                  · have hee : e = 1 := by omega
                    subst hee
                    have hne : ¬ ((1 : Int) < 1) := by omega
                    go_wp2_with fail
                    go_round
                    case rel => exact ⟨RB, M, q0, rfl, rfl, by have := HSR.out; have := HSS.out; omega, HER, HRN⟩
                    case measure => simp; have := HSR.out; have := HSS.out; omega
              · have hqq : q = q0 + 1 := HQ.out
                subst hqq
                have hc0 : c = 7 := by rw [hfl] at hc; simp [ByteArray.size] at hc; omega
                subst hc0
                have f0 : BB[0].toNat = 125 ∧ BB[7].toNat = 123 := by
                  have h9 : ∀ (X : ByteArray) (hX : X = ⟨#[125, 32, 101, 108, 115, 101, 32, 123]⟩) (h : 0 < X.size) (h' : 7 < X.size), X[0].toNat = 125 ∧ X[7].toNat = 123 := by rintro X rfl h h'; exact ⟨rfl, rfl⟩
                  exact h9 BB hfl _ _
                have gl : (BB.toList == [125]) = false := by rw [hfl, ByteArray.toList_eq]; rfl
                have gm : (BB.toList == [125, 32, 101, 108, 115, 101, 32, 123]) = true := by rw [hfl, ByteArray.toList_eq]; rfl
                have g1 : ((BB[0].toNat : Int) == 125) = true := by rw [beq_iff_eq]; omega
                have g2 : ((BB[7].toNat : Int) == 32) = false := by rw [beq_eq_false_iff_ne]; omega
                have g3 : ((BB[7].toNat : Int) == 123) = true := by rw [beq_iff_eq]; omega
                have g6 : ((j : Int) == 2 * (q0 : Int)) = true := by rw [beq_iff_eq, HT2.out]; omega
                have g8 : ((j : Int) != 2 * (q0 : Int)) = false := by rw [bne_eq_false_iff_eq, HT2.out]; omega
                have g9 : q0 ≤ 8192 := by have := HT2.out; omega
                clear f0 hfl
                go_wp2_with fail
                go_loop [11] (fun i => ∃ e : Nat, e ≤ 8 ∧ i = .int .i64 e) (fun i => 8 - (intOf i).toNat)
                case atStart => exact ⟨0, Nat.zero_le _, rfl⟩
                case round =>
                  obtain ⟨e, he, rfl⟩ := hrel
                  by_cases hec : e < 8
                  · have heB : e < BB.size := by omega
                    have heB' : (e : Int) < 8 := by omega
                    obtain ⟨b1, b2, b3, b4, b5⟩ := HBY.out e heB
                    have d1 : ¬ (BB[e].toNat : Int) < 32 := by clear b4 b5; omega
                    have d2 : ¬ 126 < (BB[e].toNat : Int) := by clear b4 b5; omega
                    have d3 : ((BB[e].toNat : Int) == 35) = false := by clear b4 b5; rw [beq_eq_false_iff_ne]; omega
                    clear b1 b2 b3
                    by_cases h32 : BB[e].toNat = 32
                    · obtain ⟨heB2, b6⟩ := b4 h32
                      clear b4 b5
                      have heB2' : (e : Int) + 1 < 8 := by omega
                      have d4 : ((BB[e].toNat : Int) == 32) = true := by rw [beq_iff_eq]; omega
                      have d5 : ((BB[e + 1].toNat : Int) == 32) = false := by rw [beq_eq_false_iff_ne]; omega
                      have d6 : ((BB[e].toNat : Int) == 123) = false := by rw [beq_eq_false_iff_ne]; omega
                      have d7 : ((BB[e].toNat : Int) == 59) = false := by rw [beq_eq_false_iff_ne]; omega
                      clear b6 h32
                      go_wp2_with fail
                      go_round
                      case rel => exact ⟨e + 1, by omega, by go_num⟩
                      case measure => simp [intOf]; omega
                    · have d4 : ((BB[e].toNat : Int) == 32) = false := by clear b4 b5; rw [beq_eq_false_iff_ne]; omega
                      clear b4
                      by_cases hcc : e = 7
                      · subst hcc
                        have d8 : ¬ (7 : Int) < 7 := by omega
                        clear b5 h32
                        rcases hA : ((BB[7].toNat : Int) == 123) with _ | _ <;> rcases hB : ((BB[7].toNat : Int) == 59) with _ | _
                        all_goals
                          first
                          | (exfalso; simp_all; done)
                          | (go_wp2_with fail
                             go_round
                             case rel => exact ⟨8, by omega, by go_num⟩
                             case measure => simp [intOf])
                      · have d6 : ((BB[e].toNat : Int) == 123) = false := by rw [beq_eq_false_iff_ne]; intro h; exact hcc (b5 (.inl (by clear b5; omega)))
                        have d7 : ((BB[e].toNat : Int) == 59) = false := by rw [beq_eq_false_iff_ne]; intro h; exact hcc (b5 (.inr (by clear b5; omega)))
                        clear b5 h32
                        go_wp2_with fail
                        go_round
                        case rel => exact ⟨e + 1, by omega, by go_num⟩
                        case measure => simp [intOf]; omega
                  · have hee : e = 8 := by omega
                    subst hee
                    have hne : ¬ ((8 : Int) < 8) := by omega
                    go_wp2_with fail
                    go_round
                    case rel => exact ⟨RB, M, q0 + 1, rfl, by go_num, by have := HSR.out; have := HSS.out; omega, HER, HRN⟩
                    case measure => simp; have := HSR.out; have := HSS.out; omega
theorem runs_of {P : Parts} (h : ∀ p ∈ P, St 0 p.1 p.2) : Run 0 (linesOf P) 0 := run_parts P fun p hp => (h p hp).run
/-- print.Text of any list at an address, as PrintLines asks of it. -/
theorem text_lines (ns : List Nd) (hok : ∀ n ∈ ns, n.Ok) : ∃ (T : List UInt8) (E : Int), ((E ≠ 0 ∧ T = []) ∨ (E = 0 ∧ T.length ≤ 8192 ∧ ∃ M, Run 0 M 0 ∧ T = flatL M)) ∧ (ns = [] → E = 0 ∧ T = []) ∧
    ∀ (b o cap : Nat) (w : World), G0 w → NodesAt w b o ns → ns.length ≤ cap → cap ≤ maxLen →
      Calls Tryd.prog 6 #[.slice (some ⟨b, o, none⟩) ns.length cap] w fun y w' => y = .returned (.tuple #[.string ⟨T.toArray⟩, .int .i64 E]) ∧ Below w.heap.size w w' := by
  by_cases hs : (shapeD ns).1 = 0
  · obtain ⟨h300, P, rfl, hP⟩ := tree_of hs
    refine ⟨outT P, outE P, ?_, ?_, fun b o cap w hG hN hl hc => text_ok b o cap P w hok hG hN hl hc hs h300 hP⟩
    · unfold outT outE
      split
      · exact .inl ⟨by decide, rfl⟩
      · exact .inr ⟨rfl, by omega, _, runs_of hP, rfl⟩
    · intro hn
      have hl : linesOf P = [] := by
        have h9 := parts_len P hP
        rw [hn] at h9
        have h8 : flatL (linesOf P) = [] := List.eq_nil_of_length_eq_zero (by simpa using h9)
        cases hL : linesOf P with
        | nil => rfl
        | cons a L => rw [hL, flat_con] at h8; simp at h8
      unfold outT outE
      rw [hl, flatL_nil]
      exact ⟨rfl, rfl⟩
  · refine ⟨[], (shapeD ns).1, .inl ⟨hs, rfl⟩, ?_, fun b o cap w hG hN hl hc => text_no b o cap ns w hok hG hN hl hc hs⟩
    rintro rfl
    exact absurd (by decide) hs
set_option maxHeartbeats 1000000 in
set_option maxRecDepth 20000 in
theorem lines_empty (ao : Option Addr) (cap : Nat) (hao : ao = none → cap = 0) (w : World) (hG : G0 w) :
    Calls Tryd.prog 3 #[.slice ao 0 cap] w fun e w' => e = .returned (.bool true) ∧ Below w.heap.size w w' := by
  obtain ⟨T, E, _, hTE, hT⟩ := text_lines [] (fun n hn => by cases hn)
  obtain ⟨rfl, rfl⟩ := hTE rfl
  have HF : Hid _ := fixed_any w hG
  have HT : Hid (∀ w', Below w.heap.size w w' → Calls Tryd.prog 6 #[.slice (some ⟨w'.heap.size, 0, none⟩) 0 0] (w'.alloc (.cells #[] 31)) fun y w2 => y = .returned (.tuple #[.string ⟨#[]⟩, .int .i64 0]) ∧ Below w.heap.size w w2) := by
    intro w' hb
    have hb2 : Below w.heap.size w (w'.alloc (.cells #[] 31)) := hb.alloc hb.size _
    exact (hT w'.heap.size 0 0 (w'.alloc (.cells #[] 31)) (hG.below hb2) (nodes_row (ns := []) (heap_alloc_new _ _) rfl) (by simp) (by unfold maxLen; decide)).mono fun y w2 ⟨h1, h2⟩ => ⟨h1, hb2.trans (h2.mono hb2.size)⟩
  obtain ⟨i0, hi0, hz0', hz1', hz2'⟩ := info_parts (P := Tryd.prog) (e := 31) (z := .agg #[.int .i64 0, .int .i64 0, .string ⟨#[]⟩, .int .i64 0, .int .i64 0, .int .i64 0]) (size := 6) (bytes := 56) (by kernel_rfl)
  clear hT hG
  have go : ∀ w1, Below w.heap.size w w1 → w1 = w1 → True := fun _ _ _ => trivial
  clear go
  cases ao with
  | none =>
    obtain rfl := hao rfl
    go_enter Tryd.func3, Tryd.ntmps3
    go_wp2_with fail
    refine Calls.mono HF.out ?_
    rintro y w1 ⟨rfl, hb1⟩
    have HB1 : Hid _ := hb1
    have hz := hb1.size
    clear hb1
    go_wp2_with (at_builtin; refine wpList_append_own_none rfl _ _ 22 rfl w.heap.size 31 i0 6 Tryd.underlying22 hi0 (.slice (some ⟨w1.heap.size, 0, none⟩) 0 0) 0 [] (by rfl) ?ap0 (by rfl) ?_)
    case ap0 => exact ⟨rfl, .inr ⟨w1.heap.size, 0, #[], rfl, hz, heap_alloc_new _ _, Nat.le_refl _, Nat.zero_le _, rfl, rfl⟩⟩
    go_wp2_with fail
    refine Calls.mono (HT.out _ HB1.out) ?_
    rintro y w2 ⟨rfl, hb2⟩
    have HB2 : Hid _ := hb2
    clear hb2
    go_wp2_with fail
    go_loop [3, 5] (fun s d => s = .string ⟨#[]⟩ ∧ d = .int .i64 0) (fun s d => 0)
    case atStart => exact ⟨rfl, rfl⟩
    case round =>
      obtain ⟨rfl, rfl⟩ := hrel
      go_wp2_with fail
      go_ret
      exact ⟨rfl, HB2.out⟩
  | some ad =>
    go_enter Tryd.func3, Tryd.ntmps3
    go_wp2_with fail
    refine Calls.mono HF.out ?_
    rintro y w1 ⟨rfl, hb1⟩
    have HB1 : Hid _ := hb1
    have hz := hb1.size
    clear hb1
    go_wp2_with (at_builtin; refine wpList_append_arg _ rfl _ _ 22 rfl 31 i0 (.agg #[.int .i64 0, .int .i64 0, .string ⟨#[]⟩, .int .i64 0, .int .i64 0, .int .i64 0]) 6 56 Tryd.underlying22 hi0 hz0' hz1' hz2' rfl (by decide) w1.heap.size 0 0 0 [] (by rfl) rfl (fun j u h => by cases h) ad 0 cap [] (by rfl) rfl (fun j u h => by cases h) (fun u h => by cases h) (fun _ j h => by simp at h) ?ap1 ?ap2 ?ap3 (fun h => by omega))
    case ap1 => unfold maxLen; omega
    case ap2 => omega
    refine Calls.mono (HT.out _ HB1.out) ?_
    rintro y w2 ⟨rfl, hb2⟩
    have HB2 : Hid _ := hb2
    clear hb2
    go_wp2_with fail
    go_loop [3, 5] (fun s d => s = .string ⟨#[]⟩ ∧ d = .int .i64 0) (fun s d => 0)
    case atStart => exact ⟨rfl, rfl⟩
    case round =>
      obtain ⟨rfl, rfl⟩ := hrel
      go_wp2_with fail
      go_ret
      exact ⟨rfl, HB2.out⟩
end Go.Proofs.YtjngjanheoeojaaDoor
