import Derived.Test.YtbkblijoimmdeaaKEc
set_option linter.unusedVariables false
set_option linter.unusedSimpArgs false
set_option linter.unnecessarySimpa false
/- Eg -/
namespace Go.Proofs.Ytbkblijoimmdeaa
open Go.RowKit
theorem erow1_cell {w : World} {g : Nat} {x : Value} {t : TypeId} (h : w.heap[g]? = some (.cells #[x] t (0, 0))) : w.cell? ⟨g, 0, none⟩ = some x := (cell_of_row _ _ 0 _ _ _ h).trans (by simp)
set_option maxRecDepth 100000 in
set_option maxHeartbeats 8000000 in
theorem eWiden1_any (a b : NT) (gt : Nat) (v : Value) (ts : List Int) (ha : RawN a) (hb : RawN b) (w0 w : World) (hok : Ok w0 w) (hr : w.heap[gt]? = some (.cells #[v] 25 (0, 0))) (hT : SInts w v ts) :
    Calls Try.prog 31 #[nv a, nv b, .pointer (some ⟨gt, 0, none⟩)] w fun e w' => e = .returned (nv (widenN a b ts)) ∧ Ok w0 w' := by
  have hle := hok.le
  obtain ⟨ao, n, cap, rfl⟩ := SInts.form hT
  have HU : Hid (RawN a ∧ RawN b) := ⟨ha, hb⟩
  have HT : Hid (SInts w (.slice ao n cap) ts) := hT
  have HR : Hid _ := hr
  clear ha hb hT hr
  obtain ⟨c, hc⟩ : ∃ t, t = widenN a b ts := ⟨_, rfl⟩
  rw [← hc]
  have HC : Hid _ := hc
  clear hc
  have lt := lt_row HR.out
  have ct := erow1_cell HR.out
  have n1 : ¬ gt = w.heap.size := by omega
  have lt1 : gt < w.heap.size + 1 := by omega
  have lt2 : gt < w.heap.size + 1 + 1 := by omega
  have n2 : ¬ gt = w.heap.size + 1 := by omega
  have n3 : ¬ gt = w.heap.size + 1 + 1 := by omega
  have n4 : ¬ w.heap.size = gt := by omega
  have n5 : ¬ w.heap.size + 1 = gt := by omega
  have n6 : ¬ w.heap.size + 1 + 1 = gt := by omega
  unfold nv
  go_enter Try.func31, Try.ntmps31
  go_wp2_with fail
  obtain ⟨W, hW⟩ : ∃ W, W = ((w.alloc (.cells #[.bool a.2.2.2.2, .int .i64 a.1, .int .i64 a.2.1, .int .u64 (a.2.2.1 : Int), .int .u64 (a.2.2.2.1 : Int)] 46)).alloc (.cells #[.bool b.2.2.2.2, .int .i64 b.1, .int .i64 b.2.1, .int .u64 (b.2.2.1 : Int), .int .u64 (b.2.2.2.1 : Int)] 46)).alloc (.cells #[.bool false, .int .i64 0, .int .i64 0, .int .u64 0, .int .u64 0] 46) := ⟨_, rfl⟩
  have rz : Hid (W.heap[w.heap.size + 1 + 1]? = some (.cells #[.bool false, .int .i64 0, .int .i64 0, .int .u64 0, .int .u64 0] 46)) := by unfold Hid; rw [hW]; exact (by repeat (first | (refine heap_at _ _ _ ?hx; case hx => (first | (simp; done) | (simp; omega))) | (refine heap_past _ _ _ ?hy ?_; case hy => (first | (simp; done) | (simp; omega))) | fail))
  have HW : Hid (Ok w0 W) := by unfold Hid; rw [hW]; exact (by repeat (first | exact hok | refine Ok.alloc ?_ _ | refine Ok.draws ?_ _ | fail))
  have OW : Hid (Ok w W) := by unfold Hid; rw [hW]; have hok := Ok.refl w; exact (by repeat (first | exact hok | refine Ok.alloc ?_ _ | refine Ok.draws ?_ _ | fail))
  rw [← hW]
  clear hW
  obtain ⟨gz, egz⟩ : ∃ g, g = w.heap.size + 1 + 1 := ⟨_, rfl⟩
  rw [← egz] at rz ⊢
  have lgz : w0.heap.size ≤ gz := by omega
  clear egz n1 n2 n3 n4 n5 n6
  refine (nwiden_any a b (.slice ao n cap) ts HU.out.1 HU.out.2 W _ (Ok.refl _) (SInts.ok HT.out OW.out)).mono ?_
  rintro e w1 ⟨rfl, hb⟩
  have hr : Hid _ := Ok.row' hb rz.out
  obtain ⟨k0, k1, k2, k3, k4, k5, k6, k7, k8, k9⟩ := row5_facts hr.out
  rw [← HC.out]
  have H1 : Hid (Ok w0 w1) := HW.out.step hb
  clear hb
  unfold nv
  go_wp2_with fail
  (try simp only [Exit.inBlock, Exit.then]); refine bodyPost_ret (results_cell_row rfl _ _ (gz) 46 #[_, _, _, _, _] (0, 0) _ rfl (row_set5 hr.out _ _ _ _ _) Try.underlying46 rfl infoN) rfl ?_
  exact ⟨rfl, Ok.set (Ok.set (Ok.set (Ok.set (Ok.set H1.out lgz _) lgz _) lgz _) lgz _) lgz _⟩
set_option maxRecDepth 100000 in
set_option maxHeartbeats 8000000 in
theorem epj_any (l m : List NT) (lo mo : Option Addr) (lc mc : Nat) (hl : ∀ a ∈ l, RawN a) (hm : ∀ a ∈ m, RawN a) (hlm : l.length = m.length) (nl : l.length ≤ 3518437208883) {B C : Nat} (w : World) (hL : SNs B w lo l) (hM : SNs C w mo m) :
    Calls Try.prog 46 #[.slice lo l.length lc, .slice mo m.length mc, .func (Fn.func 30) #[] #[]] w fun e w' => ∃ g, e = .returned (.slice (some ⟨g, 0, none⟩) l.length l.length) ∧ SNs w.heap.size w' (some ⟨g, 0, none⟩) (List.zipWith (joinN) l m) ∧ Ok w w' := by
  obtain ⟨n, hnn⟩ : ∃ n, n = l.length := ⟨_, rfl⟩
  have hmn : n = m.length := by rw [hnn]; exact hlm
  have HL : Hid (SNs B w lo l ∧ ∀ p ∈ l, RawN p) := ⟨hL, hl⟩
  have HM : Hid (SNs C w mo m ∧ ∀ p ∈ m, RawN p) := ⟨hM, hm⟩
  rw [← hlm]
  rw [← hnn] at nl ⊢
  have HN : Hid (n = l.length ∧ n = m.length) := ⟨hnn, hmn⟩
  obtain ⟨R, hR⟩ : ∃ R, R = List.zipWith (joinN) l m := ⟨_, rfl⟩
  rw [← hR]
  have HR : Hid (R = List.zipWith (joinN) l m) := hR
  have HRL : Hid (R.length = n) := by unfold Hid; rw [hR, List.length_zipWith, ← hlm, ← hnn, Nat.min_self]
  clear hL hM hl hm hlm hnn hmn hR
  have run := run_nums n nl
  have HB : Hid (n ≤ 4611686018427387904) := by unfold Hid; omega
  go_enter Try.func46, Try.ntmps46
  go_wp2_with fail
  obtain ⟨V, hV⟩ : ∃ W, W = w.alloc (.cells (madeCells #[.bool false, .int .i64 0, .int .i64 0, .int .u64 0, .int .u64 0] (n * 5)) 46) := ⟨_, rfl⟩
  have rn : Hid (NR V w.heap.size n []) := by unfold Hid; rw [hV]; exact NR.new w n
  have HV : Hid (Ok w V) := by unfold Hid; rw [hV]; exact (Ok.refl w).alloc _
  rw [← hV]
  obtain ⟨g, eg⟩ : ∃ g, g = w.heap.size := ⟨_, rfl⟩
  have lg : w.heap.size ≤ g := by omega
  rw [← eg] at rn ⊢
  clear hV eg run
  go_loopw [15] (fun s15 wr => ∃ (k : Nat), k ≤ n ∧ s15 = .int .i64 (k : Int) ∧ Hid (NR wr g n (R.take k)) ∧ Hid (Ok w wr)) (fun s15 _ => n - (intOf s15).toNat)
  case atStart => exact ⟨0, by omega, rfl, rn.out, HV.out⟩
  case round =>
    obtain ⟨k, hk, rfl, HI, HK⟩ := hrel
    clear rn HV
    by_cases k3 : k < n
    · have k3i : (k : Int) < (n : Int) := by omega
      have k0i : (0 : Int) ≤ (k : Int) := by omega
      have h1 : k < l.length := by rw [← HN.out.1]; exact k3
      have h2 : k < m.length := by rw [← HN.out.2]; exact k3
      obtain ⟨tb, o, ero, htb, p0, p1, p2, p3, p4⟩ := SNs.at HL.out.1 HK.out (k := k) h1
      obtain ⟨tc, o2, ero2, htc, r0, r1, r2, r3, r4⟩ := SNs.at HM.out.1 HK.out (k := k) h2
      obtain ⟨p, hp⟩ : ∃ p, p = l[k] := ⟨_, rfl⟩
      obtain ⟨q, hq⟩ : ∃ q, q = m[k] := ⟨_, rfl⟩
      have HP : Hid (RawN p ∧ RawN q) := by unfold Hid; rw [hp, hq]; exact ⟨HL.out.2 _ (List.getElem_mem _), HM.out.2 _ (List.getElem_mem _)⟩
      obtain ⟨x, hx⟩ : ∃ x, x = (joinN) p q := ⟨_, rfl⟩
      have HX : Hid (x = (joinN) p q) := hx
      have HT : Hid (R.take (k + 1) = R.take k ++ [x]) := by
        unfold Hid
        rw [List.take_succ_eq_append_getElem (by rw [HRL.out]; exact k3)]
        simp only [HR.out, List.getElem_zipWith, hx, hp, hq]
      have HLN : Hid ((R.take k).length = k) := by unfold Hid; rw [List.length_take, HRL.out]; omega
      subst ero ero2
      rw [← hp] at p0 p1 p2 p3 p4
      rw [← hq] at r0 r1 r2 r3 r4
      clear hp hq hx h1 h2
      have s0 := HK.out.le
      have s1 := HI.out.lt
      have s2 : tb < wr.heap.size := by omega
      have s3 : tc < wr.heap.size := by omega
      have n_24 : ¬ wr.heap.size = g := by omega
      have m_24 : ¬ g = wr.heap.size := by omega
      have n_26 : ¬ tb = wr.heap.size := by omega
      have m_26 : ¬ wr.heap.size = tb := by omega
      have n_28 : ¬ tc = wr.heap.size := by omega
      have m_28 : ¬ wr.heap.size = tc := by omega
      have n_30 : ¬ tc = g := by omega
      have m_30 : ¬ g = tc := by omega
      go_wp2_with fail
      obtain ⟨W3, hW3⟩ : ∃ W, W = wr.alloc (.cells #[.bool p.2.2.2.2, .int .i64 p.1, .int .i64 p.2.1, .int .u64 (p.2.2.1 : Int), .int .u64 (p.2.2.2.1 : Int)] 46) := ⟨_, rfl⟩
      have O3 : Ok wr W3 := by rw [hW3]; exact (Ok.refl _).alloc _
      have rp : Hid (W3.heap[wr.heap.size]? = some (.cells #[.bool p.2.2.2.2, .int .i64 p.1, .int .i64 p.2.1, .int .u64 (p.2.2.1 : Int), .int .u64 (p.2.2.2.1 : Int)] 46)) := by unfold Hid; rw [hW3]; exact heap_new0 _ _
      rw [← hW3]
      have HW3 : Hid (Ok w W3) := HK.out.step O3
      have HI3 : Hid (NR W3 g n (R.take k)) := HI.out.ok O3
      replace r0 := Ok.cell O3 s3 r0
      replace r1 := Ok.cell O3 s3 r1
      replace r2 := Ok.cell O3 s3 r2
      replace r3 := Ok.cell O3 s3 r3
      replace r4 := Ok.cell O3 s3 r4
      have t3 : tc < W3.heap.size := Nat.lt_of_lt_of_le s3 O3.le
      obtain ⟨gp, egp⟩ : ∃ g, g = wr.heap.size := ⟨_, rfl⟩
      simp only [← egp] at *
      clear hW3 O3 p0 p1 p2 p3 p4 HI HK
      have zp := lt_row rp.out
      obtain ⟨d0, d1, d2, d3, d4, d5, d6, d7, d8, d9⟩ := row5_facts rp.out
      have bz : Ok W3 W3 := Ok.refl _
      go_region_held3 (fun w' => w'.cell? ⟨gp, 0, none⟩ = some (.bool p.2.2.2.2) ∧ w'.cell? ⟨gp, 1, none⟩ = some (.int .i64 p.1) ∧ w'.cell? ⟨gp, 2, none⟩ = some (.int .i64 p.2.1) ∧ w'.cell? ⟨gp, 3, none⟩ = some (.int .u64 (p.2.2.1 : Int)) ∧ w'.cell? ⟨gp, 4, none⟩ = some (.int .u64 (p.2.2.2.1 : Int)) ∧ w'.cell? ⟨tc, o2 + k * 5, none⟩ = some (.bool q.2.2.2.2) ∧ w'.cell? ⟨tc, o2 + k * 5 + 1, none⟩ = some (.int .i64 q.1) ∧ w'.cell? ⟨tc, o2 + k * 5 + 2, none⟩ = some (.int .i64 q.2.1) ∧ w'.cell? ⟨tc, o2 + k * 5 + 3, none⟩ = some (.int .u64 (q.2.2.1 : Int)) ∧ w'.cell? ⟨tc, o2 + k * 5 + 4, none⟩ = some (.int .u64 (q.2.2.2.1 : Int))) (go_keep)
        (first
        | (go_at_call 30; refine (njoin_any p q HP.out.1 HP.out.2 W3 _ (by repeat (first | assumption | refine Below.drew ?_))).mono ?_; rintro e w4 ⟨rfl, hb⟩; rw [show joinN p q = x from HX.out.symm]; unfold nv; have q0 := Ok.cell hb zp d0; have q1 := Ok.cell hb zp d1; have q2 := Ok.cell hb zp d2; have q3 := Ok.cell hb zp d3; have q4 := Ok.cell hb zp d4; have q5 := Ok.cell hb t3 r0; have q6 := Ok.cell hb t3 r1; have q7 := Ok.cell hb t3 r2; have q8 := Ok.cell hb t3 r3; have q9 := Ok.cell hb t3 r4; have HI4 : Hid (NR w4 g n (R.take k)) := HI3.out.ok hb; have Hw4 : Hid (Ok w w4) := HW3.out.step hb; obtain ⟨u0, u1, u2, u3, u4, c0, c1, c2, c3, c4, f0, f1, f2, f3, f4⟩ := HI4.out.room k3)
        | fail)
      go_wp2_with fail
      refine ⟨⟨k + 1, by omega, by simp, ?_, set5_ok Hw4.out lg _ _⟩, by simp [intOf]; omega⟩
      show NR (set5 w4 g (k * 5) x) g n _
      rw [HT.out]
      exact HI4.out.put HLN.out.symm k3 x
    · have k3e : k = n := by omega
      subst k3e
      go_wp2_with fail
      go_ret
      refine ⟨g, rfl, ?_, HK.out⟩
      have h := HI.out.sns lg
      rwa [List.take_of_length_le (by rw [HRL.out]; exact Nat.le_refl _)] at h
set_option maxRecDepth 100000 in
set_option maxHeartbeats 8000000 in
theorem epm_any (l m : List NT) (lo mo : Option Addr) (lc mc : Nat) (hl : ∀ a ∈ l, RawN a) (hm : ∀ a ∈ m, RawN a) (hlm : l.length = m.length) (nl : l.length ≤ 3518437208883) {B C : Nat} (w : World) (hL : SNs B w lo l) (hM : SNs C w mo m) :
    Calls Try.prog 46 #[.slice lo l.length lc, .slice mo m.length mc, .func (Fn.func 28) #[] #[]] w fun e w' => ∃ g, e = .returned (.slice (some ⟨g, 0, none⟩) l.length l.length) ∧ SNs w.heap.size w' (some ⟨g, 0, none⟩) (List.zipWith (meetN) l m) ∧ Ok w w' := by
  obtain ⟨n, hnn⟩ : ∃ n, n = l.length := ⟨_, rfl⟩
  have hmn : n = m.length := by rw [hnn]; exact hlm
  have HL : Hid (SNs B w lo l ∧ ∀ p ∈ l, RawN p) := ⟨hL, hl⟩
  have HM : Hid (SNs C w mo m ∧ ∀ p ∈ m, RawN p) := ⟨hM, hm⟩
  rw [← hlm]
  rw [← hnn] at nl ⊢
  have HN : Hid (n = l.length ∧ n = m.length) := ⟨hnn, hmn⟩
  obtain ⟨R, hR⟩ : ∃ R, R = List.zipWith (meetN) l m := ⟨_, rfl⟩
  rw [← hR]
  have HR : Hid (R = List.zipWith (meetN) l m) := hR
  have HRL : Hid (R.length = n) := by unfold Hid; rw [hR, List.length_zipWith, ← hlm, ← hnn, Nat.min_self]
  clear hL hM hl hm hlm hnn hmn hR
  have run := run_nums n nl
  have HB : Hid (n ≤ 4611686018427387904) := by unfold Hid; omega
  go_enter Try.func46, Try.ntmps46
  go_wp2_with fail
  obtain ⟨V, hV⟩ : ∃ W, W = w.alloc (.cells (madeCells #[.bool false, .int .i64 0, .int .i64 0, .int .u64 0, .int .u64 0] (n * 5)) 46) := ⟨_, rfl⟩
  have rn : Hid (NR V w.heap.size n []) := by unfold Hid; rw [hV]; exact NR.new w n
  have HV : Hid (Ok w V) := by unfold Hid; rw [hV]; exact (Ok.refl w).alloc _
  rw [← hV]
  obtain ⟨g, eg⟩ : ∃ g, g = w.heap.size := ⟨_, rfl⟩
  have lg : w.heap.size ≤ g := by omega
  rw [← eg] at rn ⊢
  clear hV eg run
  go_loopw [15] (fun s15 wr => ∃ (k : Nat), k ≤ n ∧ s15 = .int .i64 (k : Int) ∧ Hid (NR wr g n (R.take k)) ∧ Hid (Ok w wr)) (fun s15 _ => n - (intOf s15).toNat)
  case atStart => exact ⟨0, by omega, rfl, rn.out, HV.out⟩
  case round =>
    obtain ⟨k, hk, rfl, HI, HK⟩ := hrel
    clear rn HV
    by_cases k3 : k < n
    · have k3i : (k : Int) < (n : Int) := by omega
      have k0i : (0 : Int) ≤ (k : Int) := by omega
      have h1 : k < l.length := by rw [← HN.out.1]; exact k3
      have h2 : k < m.length := by rw [← HN.out.2]; exact k3
      obtain ⟨tb, o, ero, htb, p0, p1, p2, p3, p4⟩ := SNs.at HL.out.1 HK.out (k := k) h1
      obtain ⟨tc, o2, ero2, htc, r0, r1, r2, r3, r4⟩ := SNs.at HM.out.1 HK.out (k := k) h2
      obtain ⟨p, hp⟩ : ∃ p, p = l[k] := ⟨_, rfl⟩
      obtain ⟨q, hq⟩ : ∃ q, q = m[k] := ⟨_, rfl⟩
      have HP : Hid (RawN p ∧ RawN q) := by unfold Hid; rw [hp, hq]; exact ⟨HL.out.2 _ (List.getElem_mem _), HM.out.2 _ (List.getElem_mem _)⟩
      obtain ⟨x, hx⟩ : ∃ x, x = (meetN) p q := ⟨_, rfl⟩
      have HX : Hid (x = (meetN) p q) := hx
      have HT : Hid (R.take (k + 1) = R.take k ++ [x]) := by
        unfold Hid
        rw [List.take_succ_eq_append_getElem (by rw [HRL.out]; exact k3)]
        simp only [HR.out, List.getElem_zipWith, hx, hp, hq]
      have HLN : Hid ((R.take k).length = k) := by unfold Hid; rw [List.length_take, HRL.out]; omega
      subst ero ero2
      rw [← hp] at p0 p1 p2 p3 p4
      rw [← hq] at r0 r1 r2 r3 r4
      clear hp hq hx h1 h2
      have s0 := HK.out.le
      have s1 := HI.out.lt
      have s2 : tb < wr.heap.size := by omega
      have s3 : tc < wr.heap.size := by omega
      have n_24 : ¬ wr.heap.size = g := by omega
      have m_24 : ¬ g = wr.heap.size := by omega
      have n_26 : ¬ tb = wr.heap.size := by omega
      have m_26 : ¬ wr.heap.size = tb := by omega
      have n_28 : ¬ tc = wr.heap.size := by omega
      have m_28 : ¬ wr.heap.size = tc := by omega
      have n_30 : ¬ tc = g := by omega
      have m_30 : ¬ g = tc := by omega
      go_wp2_with fail
      obtain ⟨W3, hW3⟩ : ∃ W, W = wr.alloc (.cells #[.bool p.2.2.2.2, .int .i64 p.1, .int .i64 p.2.1, .int .u64 (p.2.2.1 : Int), .int .u64 (p.2.2.2.1 : Int)] 46) := ⟨_, rfl⟩
      have O3 : Ok wr W3 := by rw [hW3]; exact (Ok.refl _).alloc _
      have rp : Hid (W3.heap[wr.heap.size]? = some (.cells #[.bool p.2.2.2.2, .int .i64 p.1, .int .i64 p.2.1, .int .u64 (p.2.2.1 : Int), .int .u64 (p.2.2.2.1 : Int)] 46)) := by unfold Hid; rw [hW3]; exact heap_new0 _ _
      rw [← hW3]
      have HW3 : Hid (Ok w W3) := HK.out.step O3
      have HI3 : Hid (NR W3 g n (R.take k)) := HI.out.ok O3
      replace r0 := Ok.cell O3 s3 r0
      replace r1 := Ok.cell O3 s3 r1
      replace r2 := Ok.cell O3 s3 r2
      replace r3 := Ok.cell O3 s3 r3
      replace r4 := Ok.cell O3 s3 r4
      have t3 : tc < W3.heap.size := Nat.lt_of_lt_of_le s3 O3.le
      obtain ⟨gp, egp⟩ : ∃ g, g = wr.heap.size := ⟨_, rfl⟩
      simp only [← egp] at *
      clear hW3 O3 p0 p1 p2 p3 p4 HI HK
      have zp := lt_row rp.out
      obtain ⟨d0, d1, d2, d3, d4, d5, d6, d7, d8, d9⟩ := row5_facts rp.out
      have bz : Ok W3 W3 := Ok.refl _
      go_region_held3 (fun w' => w'.cell? ⟨gp, 0, none⟩ = some (.bool p.2.2.2.2) ∧ w'.cell? ⟨gp, 1, none⟩ = some (.int .i64 p.1) ∧ w'.cell? ⟨gp, 2, none⟩ = some (.int .i64 p.2.1) ∧ w'.cell? ⟨gp, 3, none⟩ = some (.int .u64 (p.2.2.1 : Int)) ∧ w'.cell? ⟨gp, 4, none⟩ = some (.int .u64 (p.2.2.2.1 : Int)) ∧ w'.cell? ⟨tc, o2 + k * 5, none⟩ = some (.bool q.2.2.2.2) ∧ w'.cell? ⟨tc, o2 + k * 5 + 1, none⟩ = some (.int .i64 q.1) ∧ w'.cell? ⟨tc, o2 + k * 5 + 2, none⟩ = some (.int .i64 q.2.1) ∧ w'.cell? ⟨tc, o2 + k * 5 + 3, none⟩ = some (.int .u64 (q.2.2.1 : Int)) ∧ w'.cell? ⟨tc, o2 + k * 5 + 4, none⟩ = some (.int .u64 (q.2.2.2.1 : Int))) (go_keep)
        (first
        | (go_at_call 28; refine (nmeet_any p q HP.out.1 HP.out.2 W3 _ (by repeat (first | assumption | refine Below.drew ?_))).mono ?_; rintro e w4 ⟨rfl, hb⟩; rw [show meetN p q = x from HX.out.symm]; unfold nv; have q0 := Ok.cell hb zp d0; have q1 := Ok.cell hb zp d1; have q2 := Ok.cell hb zp d2; have q3 := Ok.cell hb zp d3; have q4 := Ok.cell hb zp d4; have q5 := Ok.cell hb t3 r0; have q6 := Ok.cell hb t3 r1; have q7 := Ok.cell hb t3 r2; have q8 := Ok.cell hb t3 r3; have q9 := Ok.cell hb t3 r4; have HI4 : Hid (NR w4 g n (R.take k)) := HI3.out.ok hb; have Hw4 : Hid (Ok w w4) := HW3.out.step hb; obtain ⟨u0, u1, u2, u3, u4, c0, c1, c2, c3, c4, f0, f1, f2, f3, f4⟩ := HI4.out.room k3)
        | fail)
      go_wp2_with fail
      refine ⟨⟨k + 1, by omega, by simp, ?_, set5_ok Hw4.out lg _ _⟩, by simp [intOf]; omega⟩
      show NR (set5 w4 g (k * 5) x) g n _
      rw [HT.out]
      exact HI4.out.put HLN.out.symm k3 x
    · have k3e : k = n := by omega
      subst k3e
      go_wp2_with fail
      go_ret
      refine ⟨g, rfl, ?_, HK.out⟩
      have h := HI.out.sns lg
      rwa [List.take_of_length_le (by rw [HRL.out]; exact Nat.le_refl _)] at h
set_option maxRecDepth 100000 in
set_option maxHeartbeats 8000000 in
theorem epw_wid (l m : List NT) (lo mo : Option Addr) (lc mc : Nat) (gt : Nat) (tv : Value) (ts : List Int) (hl : ∀ a ∈ l, RawN a) (hm : ∀ a ∈ m, RawN a) (hlm : l.length = m.length) (nl : l.length ≤ 3518437208883) {B C : Nat} (w : World) (hr : w.heap[gt]? = some (.cells #[tv] 25 (0, 0))) (hT : SInts w tv ts) (hL : SNs B w lo l) (hM : SNs C w mo m) :
    Calls Try.prog 46 #[.slice lo l.length lc, .slice mo m.length mc, .func (Fn.func 31) #[] #[.pointer (some ⟨gt, 0, none⟩)]] w fun e w' => ∃ g, e = .returned (.slice (some ⟨g, 0, none⟩) l.length l.length) ∧ SNs w.heap.size w' (some ⟨g, 0, none⟩) (List.zipWith (fun a b => widenN a b ts) l m) ∧ Ok w w' := by
  obtain ⟨n, hnn⟩ : ∃ n, n = l.length := ⟨_, rfl⟩
  have hmn : n = m.length := by rw [hnn]; exact hlm
  have HL : Hid (SNs B w lo l ∧ ∀ p ∈ l, RawN p) := ⟨hL, hl⟩
  have HM : Hid (SNs C w mo m ∧ ∀ p ∈ m, RawN p) := ⟨hM, hm⟩
  have HT0 : Hid (w.heap[gt]? = some (.cells #[tv] 25 (0, 0)) ∧ SInts w tv ts) := ⟨hr, hT⟩
  clear hr hT
  rw [← hlm]
  rw [← hnn] at nl ⊢
  have HN : Hid (n = l.length ∧ n = m.length) := ⟨hnn, hmn⟩
  obtain ⟨R, hR⟩ : ∃ R, R = List.zipWith (fun a b => widenN a b ts) l m := ⟨_, rfl⟩
  rw [← hR]
  have HR : Hid (R = List.zipWith (fun a b => widenN a b ts) l m) := hR
  have HRL : Hid (R.length = n) := by unfold Hid; rw [hR, List.length_zipWith, ← hlm, ← hnn, Nat.min_self]
  clear hL hM hl hm hlm hnn hmn hR
  have run := run_nums n nl
  have HB : Hid (n ≤ 4611686018427387904) := by unfold Hid; omega
  go_enter Try.func46, Try.ntmps46
  go_wp2_with fail
  obtain ⟨V, hV⟩ : ∃ W, W = w.alloc (.cells (madeCells #[.bool false, .int .i64 0, .int .i64 0, .int .u64 0, .int .u64 0] (n * 5)) 46) := ⟨_, rfl⟩
  have rn : Hid (NR V w.heap.size n []) := by unfold Hid; rw [hV]; exact NR.new w n
  have HV : Hid (Ok w V) := by unfold Hid; rw [hV]; exact (Ok.refl w).alloc _
  rw [← hV]
  obtain ⟨g, eg⟩ : ∃ g, g = w.heap.size := ⟨_, rfl⟩
  have lg : w.heap.size ≤ g := by omega
  rw [← eg] at rn ⊢
  clear hV eg run
  go_loopw [15] (fun s15 wr => ∃ (k : Nat), k ≤ n ∧ s15 = .int .i64 (k : Int) ∧ Hid (NR wr g n (R.take k)) ∧ Hid (Ok w wr)) (fun s15 _ => n - (intOf s15).toNat)
  case atStart => exact ⟨0, by omega, rfl, rn.out, HV.out⟩
  case round =>
    obtain ⟨k, hk, rfl, HI, HK⟩ := hrel
    clear rn HV
    by_cases k3 : k < n
    · have k3i : (k : Int) < (n : Int) := by omega
      have k0i : (0 : Int) ≤ (k : Int) := by omega
      have h1 : k < l.length := by rw [← HN.out.1]; exact k3
      have h2 : k < m.length := by rw [← HN.out.2]; exact k3
      obtain ⟨tb, o, ero, htb, p0, p1, p2, p3, p4⟩ := SNs.at HL.out.1 HK.out (k := k) h1
      obtain ⟨tc, o2, ero2, htc, r0, r1, r2, r3, r4⟩ := SNs.at HM.out.1 HK.out (k := k) h2
      obtain ⟨p, hp⟩ : ∃ p, p = l[k] := ⟨_, rfl⟩
      obtain ⟨q, hq⟩ : ∃ q, q = m[k] := ⟨_, rfl⟩
      have HP : Hid (RawN p ∧ RawN q) := by unfold Hid; rw [hp, hq]; exact ⟨HL.out.2 _ (List.getElem_mem _), HM.out.2 _ (List.getElem_mem _)⟩
      obtain ⟨x, hx⟩ : ∃ x, x = (fun a b => widenN a b ts) p q := ⟨_, rfl⟩
      have HX : Hid (x = (fun a b => widenN a b ts) p q) := hx
      have HT : Hid (R.take (k + 1) = R.take k ++ [x]) := by
        unfold Hid
        rw [List.take_succ_eq_append_getElem (by rw [HRL.out]; exact k3)]
        simp only [HR.out, List.getElem_zipWith, hx, hp, hq]
      have HLN : Hid ((R.take k).length = k) := by unfold Hid; rw [List.length_take, HRL.out]; omega
      subst ero ero2
      rw [← hp] at p0 p1 p2 p3 p4
      rw [← hq] at r0 r1 r2 r3 r4
      clear hp hq hx h1 h2
      have s0 := HK.out.le
      have s1 := HI.out.lt
      have s2 : tb < wr.heap.size := by omega
      have s3 : tc < wr.heap.size := by omega
      have n_24 : ¬ wr.heap.size = g := by omega
      have m_24 : ¬ g = wr.heap.size := by omega
      have n_26 : ¬ tb = wr.heap.size := by omega
      have m_26 : ¬ wr.heap.size = tb := by omega
      have n_28 : ¬ tc = wr.heap.size := by omega
      have m_28 : ¬ wr.heap.size = tc := by omega
      have n_30 : ¬ tc = g := by omega
      have m_30 : ¬ g = tc := by omega
      go_wp2_with fail
      obtain ⟨W3, hW3⟩ : ∃ W, W = wr.alloc (.cells #[.bool p.2.2.2.2, .int .i64 p.1, .int .i64 p.2.1, .int .u64 (p.2.2.1 : Int), .int .u64 (p.2.2.2.1 : Int)] 46) := ⟨_, rfl⟩
      have O3 : Ok wr W3 := by rw [hW3]; exact (Ok.refl _).alloc _
      have rp : Hid (W3.heap[wr.heap.size]? = some (.cells #[.bool p.2.2.2.2, .int .i64 p.1, .int .i64 p.2.1, .int .u64 (p.2.2.1 : Int), .int .u64 (p.2.2.2.1 : Int)] 46)) := by unfold Hid; rw [hW3]; exact heap_new0 _ _
      rw [← hW3]
      have HW3 : Hid (Ok w W3) := HK.out.step O3
      have HI3 : Hid (NR W3 g n (R.take k)) := HI.out.ok O3
      replace r0 := Ok.cell O3 s3 r0
      replace r1 := Ok.cell O3 s3 r1
      replace r2 := Ok.cell O3 s3 r2
      replace r3 := Ok.cell O3 s3 r3
      replace r4 := Ok.cell O3 s3 r4
      have t3 : tc < W3.heap.size := Nat.lt_of_lt_of_le s3 O3.le
      obtain ⟨gp, egp⟩ : ∃ g, g = wr.heap.size := ⟨_, rfl⟩
      simp only [← egp] at *
      clear hW3 O3 p0 p1 p2 p3 p4 HI HK
      have zp := lt_row rp.out
      obtain ⟨d0, d1, d2, d3, d4, d5, d6, d7, d8, d9⟩ := row5_facts rp.out
      have bz : Ok W3 W3 := Ok.refl _
      go_region_held3 (fun w' => w'.cell? ⟨gp, 0, none⟩ = some (.bool p.2.2.2.2) ∧ w'.cell? ⟨gp, 1, none⟩ = some (.int .i64 p.1) ∧ w'.cell? ⟨gp, 2, none⟩ = some (.int .i64 p.2.1) ∧ w'.cell? ⟨gp, 3, none⟩ = some (.int .u64 (p.2.2.1 : Int)) ∧ w'.cell? ⟨gp, 4, none⟩ = some (.int .u64 (p.2.2.2.1 : Int)) ∧ w'.cell? ⟨tc, o2 + k * 5, none⟩ = some (.bool q.2.2.2.2) ∧ w'.cell? ⟨tc, o2 + k * 5 + 1, none⟩ = some (.int .i64 q.1) ∧ w'.cell? ⟨tc, o2 + k * 5 + 2, none⟩ = some (.int .i64 q.2.1) ∧ w'.cell? ⟨tc, o2 + k * 5 + 3, none⟩ = some (.int .u64 (q.2.2.1 : Int)) ∧ w'.cell? ⟨tc, o2 + k * 5 + 4, none⟩ = some (.int .u64 (q.2.2.2.1 : Int))) (go_keep)
        (first
        | (go_at_call 31; refine (eWiden1_any p q gt tv ts HP.out.1 HP.out.2 W3 _ (by repeat (first | assumption | refine Below.drew ?_)) (Ok.row' (HW3.out.step (by repeat (first | assumption | refine Below.drew ?_))) HT0.out.1) (SInts.ok HT0.out.2 (HW3.out.step (by repeat (first | assumption | refine Below.drew ?_))))).mono ?_; rintro e w4 ⟨rfl, hb⟩; rw [show widenN p q ts = x from HX.out.symm]; unfold nv; have q0 := Ok.cell hb zp d0; have q1 := Ok.cell hb zp d1; have q2 := Ok.cell hb zp d2; have q3 := Ok.cell hb zp d3; have q4 := Ok.cell hb zp d4; have q5 := Ok.cell hb t3 r0; have q6 := Ok.cell hb t3 r1; have q7 := Ok.cell hb t3 r2; have q8 := Ok.cell hb t3 r3; have q9 := Ok.cell hb t3 r4; have HI4 : Hid (NR w4 g n (R.take k)) := HI3.out.ok hb; have Hw4 : Hid (Ok w w4) := HW3.out.step hb; obtain ⟨u0, u1, u2, u3, u4, c0, c1, c2, c3, c4, f0, f1, f2, f3, f4⟩ := HI4.out.room k3)
        | fail)
      go_wp2_with fail
      refine ⟨⟨k + 1, by omega, by simp, ?_, set5_ok Hw4.out lg _ _⟩, by simp [intOf]; omega⟩
      show NR (set5 w4 g (k * 5) x) g n _
      rw [HT.out]
      exact HI4.out.put HLN.out.symm k3 x
    · have k3e : k = n := by omega
      subst k3e
      go_wp2_with fail
      go_ret
      refine ⟨g, rfl, ?_, HK.out⟩
      have h := HI.out.sns lg
      rwa [List.take_of_length_le (by rw [HRL.out]; exact Nat.le_refl _)] at h
end Go.Proofs.Ytbkblijoimmdeaa
