import Derived.Test.YtgedhcgaokakpaaDoorText
import Derived.Defers
import Derived.Recover
import Derived.Lib.AppendIntMem
namespace Go.Proofs.YtgedhcgaokakpaaDoor
open Go.RowKit
set_option maxHeartbeats 400000 in
theorem door_idle (pn pv pc pa : Addr) (w : World) (hc : w.cell? pn = some (.int .i64 0)) :
    CallsD Tryd.prog 38 #[.pointer (some pn), .pointer (some pv), .pointer (some pc), .pointer (some pa)] .returning w fun e u' w' => u' = .returning ∧ (e = .returned (.tuple #[]) ∧ w' = w) := by
  go_enter_d Tryd.func38, Tryd.ntmps38
  go_wp2
  go_end0
  exact ⟨rfl, rfl⟩
set_option maxHeartbeats 400000 in
theorem door_no (b1 b2 b3 b4 : Nat) (code pl x0 x1 x2 : Int) (hcode : (code != 0) = true) (w : World) (hc : w.cell? ⟨b4, 0, none⟩ = some (.int .i64 code)) (hp : w.cell? ⟨b4, 1, none⟩ = some (.int .i64 pl))
    (h1 : w.cell? ⟨b1, 0, none⟩ = some (.int .i64 x0)) (h2 : w.cell? ⟨b2, 0, none⟩ = some (.int .i64 x1)) (h3 : w.cell? ⟨b3, 0, none⟩ = some (.int .i64 x2))
    (z1 : w.frozen? ⟨b1, 0, none⟩ = false) (z2 : w.frozen? ⟨b2, 0, none⟩ = false) (z3 : w.frozen? ⟨b3, 0, none⟩ = false) (d12 : b1 < b2) (d23 : b2 < b3) :
    CallsD Tryd.prog 38 #[.pointer (some ⟨b4, 0, none⟩), .pointer (some ⟨b1, 0, none⟩), .pointer (some ⟨b2, 0, none⟩), .pointer (some ⟨b3, 0, none⟩)] .returning w fun e u' w' => u' = .returning ∧ (e = .returned (.tuple #[]) ∧ w' = ((w.setCell ⟨b1, 0, none⟩ (.int .i64 0)).setCell ⟨b2, 0, none⟩ (.int .i64 code)).setCell ⟨b3, 0, none⟩ (.int .i64 pl)) := by
  have n12 : ¬ b1 = b2 := by omega
  have n23 : ¬ b2 = b3 := by omega
  have n13 : ¬ b1 = b3 := by omega
  have n21 : ¬ b2 = b1 := by omega
  have n32 : ¬ b3 = b2 := by omega
  have n31 : ¬ b3 = b1 := by omega
  go_enter_d Tryd.func38, Tryd.ntmps38
  go_wp2
  go_end0
  exact ⟨rfl, rfl⟩
theorem num_pos {n : Nat} (h : n ≤ most false) : wrap64 n = num false n := by
  simp [most] at h
  simp only [num]
  unfold wrap64
  simp
  omega
theorem num_neg {n : Nat} (h : n ≤ most true) : wrap64 (IntKind.u64.wrap (-IntKind.u64.wrap (wrap64 n))) = num true n := by
  simp [most] at h
  simp only [num, u64w]
  unfold wrap64
  simp
  omega
theorem tup3 {a b c a' b' c' : Int} (h1 : a = a') (h2 : b = b') (h3 : c = c') : Ending.returned (.tuple #[.int .i64 a, .int .i64 b, .int .i64 c]) = .returned (.tuple #[.int .i64 a', .int .i64 b', .int .i64 c']) := by rw [h1, h2, h3]
set_option maxHeartbeats 800000 in
theorem parse_bad1 (s t : ByteArray) (ng : Bool) (hs : s.size ≤ maxLen) (ht : t.size ≤ s.size) (hcut : ∀ w, Calls Tryd.prog 39 #[.string s, .string ⟨#[45]⟩] w fun e w' => e = .returned (.tuple #[.string t, .bool ng]) ∧ w' = w)
    (hbad : run t.data.toList = 0) (w0 w : World) (hok : Ok w0 w) :
    Calls Tryd.prog 19 #[.string s] w fun e w' => e = .returned (.tuple #[.int .i64 0, .int .i64 10, .int .i64 ((s.size : Int) - t.size + run t.data.toList)]) ∧ Ok w0 w' := by
  have hmf : ∀ (fn : Fn) (first cap : Array Value) (w : World), (Instr.makeFunc fn first cap).run Tryd.prog w = .ok (.func fn first cap) w := fun _ _ _ _ => rfl
  have HC : Hid _ := hcut
  have hrl := run_le t.data.toList
  have hts : t.data.toList.length = t.size := by rw [Array.length_toList]; rfl
  have hmx : t.size ≤ maxLen := Nat.le_trans ht hs
  have HM : Hid _ := hmx
  unfold maxLen at hs
  clear hcut hmx
  have hb1 : ((run t.data.toList : Int) == 0) = true := by simpa using hbad
  clear hbad
  generalize hr : run t.data.toList = r at *
  have HR : Hid _ := hr
  clear hr
  rw [hts] at hrl
  clear hts
  go_enter_defers Tryd.func19, Tryd.ntmps19
  go_wp2_with fail
  refine (HC.out _).mono ?_
  rintro e w' ⟨rfl, rfl⟩
  go_wp2_with fail
  refine (digitRun_any t HM.out _).mono ?_
  rintro e w' ⟨rfl, rfl⟩
  rw [HR.out]
  go_wp2_with fail
  refine leaves_cons (f := 38) (args := #[.pointer (some ⟨w.heap.size + 1 + 1 + 1, 0, none⟩), .pointer (some ⟨w.heap.size, 0, none⟩), .pointer (some ⟨w.heap.size + 1, 0, none⟩), .pointer (some ⟨w.heap.size + 1 + 1, 0, none⟩)]) (by simp) (by simp [go_sem]) ?_
  refine (door_no w.heap.size (w.heap.size + 1) (w.heap.size + 1 + 1) (w.heap.size + 1 + 1 + 1) 10 ((s.size : Int) - t.size + r) 0 0 0 (by decide) _ ?_ ?_ ?_ ?_ ?_ ?_ ?_ ?_ (by omega) (by omega)).mono ?_
  all_goals try (simp [go_sem]; done)
  rintro e u' w'' ⟨rfl, rfl, rfl⟩
  simp [Leaves, settle, results, Tryd.results19, go_sem]
  exact (((hok.alloc _).alloc _).alloc _).alloc _
set_option maxHeartbeats 800000 in
theorem parse_bad2 (s t : ByteArray) (ng : Bool) (hs : s.size ≤ maxLen) (ht : t.size ≤ s.size) (hcut : ∀ w, Calls Tryd.prog 39 #[.string s, .string ⟨#[45]⟩] w fun e w' => e = .returned (.tuple #[.string t, .bool ng]) ∧ w' = w)
    (hbad : ¬ run t.data.toList = 0) (hbad2 : run t.data.toList < t.size) (w0 w : World) (hok : Ok w0 w) :
    Calls Tryd.prog 19 #[.string s] w fun e w' => e = .returned (.tuple #[.int .i64 0, .int .i64 10, .int .i64 ((s.size : Int) - t.size + run t.data.toList)]) ∧ Ok w0 w' := by
  have hmf : ∀ (fn : Fn) (first cap : Array Value) (w : World), (Instr.makeFunc fn first cap).run Tryd.prog w = .ok (.func fn first cap) w := fun _ _ _ _ => rfl
  have HC : Hid _ := hcut
  have hrl := run_le t.data.toList
  have hts : t.data.toList.length = t.size := by rw [Array.length_toList]; rfl
  have hmx : t.size ≤ maxLen := Nat.le_trans ht hs
  have HM : Hid _ := hmx
  unfold maxLen at hs
  clear hcut hmx
  have hb1 : ((run t.data.toList : Int) == 0) = false := by simpa using hbad
  clear hbad
  generalize hr : run t.data.toList = r at *
  have HR : Hid _ := hr
  clear hr
  rw [hts] at hrl
  clear hts
  have hb2 : (r : Int) < (t.size : Int) := by omega
  go_enter_defers Tryd.func19, Tryd.ntmps19
  go_wp2_with fail
  refine (HC.out _).mono ?_
  rintro e w' ⟨rfl, rfl⟩
  go_wp2_with fail
  refine (digitRun_any t HM.out _).mono ?_
  rintro e w' ⟨rfl, rfl⟩
  rw [HR.out]
  go_wp2_with fail
  refine leaves_cons (f := 38) (args := #[.pointer (some ⟨w.heap.size + 1 + 1 + 1, 0, none⟩), .pointer (some ⟨w.heap.size, 0, none⟩), .pointer (some ⟨w.heap.size + 1, 0, none⟩), .pointer (some ⟨w.heap.size + 1 + 1, 0, none⟩)]) (by simp) (by simp [go_sem]) ?_
  refine (door_no w.heap.size (w.heap.size + 1) (w.heap.size + 1 + 1) (w.heap.size + 1 + 1 + 1) 10 ((s.size : Int) - t.size + r) 0 0 0 (by decide) _ ?_ ?_ ?_ ?_ ?_ ?_ ?_ ?_ (by omega) (by omega)).mono ?_
  all_goals try (simp [go_sem]; done)
  rintro e u' w'' ⟨rfl, rfl, rfl⟩
  simp [Leaves, settle, results, Tryd.results19, go_sem]
  exact (((hok.alloc _).alloc _).alloc _).alloc _
set_option maxHeartbeats 800000 in
theorem parse_big (s t : ByteArray) (ng : Bool) (hs : s.size ≤ maxLen) (ht : t.size ≤ s.size) (hcut : ∀ w, Calls Tryd.prog 39 #[.string s, .string ⟨#[45]⟩] w fun e w' => e = .returned (.tuple #[.string t, .bool ng]) ∧ w' = w)
    (hrun : run t.data.toList = t.size) (h0 : 0 < t.size) (hv : most ng < val t.data.toList) (w0 w : World) (hok : Ok w0 w) :
    Calls Tryd.prog 19 #[.string s] w fun e w' => e = .returned (.tuple #[.int .i64 0, .int .i64 11, .int .i64 0]) ∧ Ok w0 w' := by
  have hmf : ∀ (fn : Fn) (first cap : Array Value) (w : World), (Instr.makeFunc fn first cap).run Tryd.prog w = .ok (.func fn first cap) w := fun _ _ _ _ => rfl
  have HC : Hid _ := hcut
  have hrl := run_le t.data.toList
  have hts : t.data.toList.length = t.size := by rw [Array.length_toList]; rfl
  have hmx : t.size ≤ maxLen := Nat.le_trans ht hs
  have HM : Hid _ := hmx
  unfold maxLen at hs
  clear hcut hmx
  have hb1 : ((t.size : Int) == 0) = false := by rw [beq_eq_false_iff_ne]; omega
  have hb2 : ¬ (t.size : Int) < (t.size : Int) := by omega
  have HR : Hid _ := hrun
  have HA : Hid _ := all_of_run (hrun.trans hts.symm)
  clear hrun hts hrl
  have HV : Hid (most ng < val t.data.toList) := hv
  clear hv
  go_enter_defers Tryd.func19, Tryd.ntmps19
  go_wp2_with fail
  refine (HC.out _).mono ?_
  rintro e w' ⟨rfl, rfl⟩
  go_wp2_with fail
  refine (digitRun_any t HM.out _).mono ?_
  rintro e w' ⟨rfl, rfl⟩
  rw [HR.out]
  go_wp2_with fail
  refine (farthest_any ng _).mono ?_
  rintro e w' ⟨rfl, rfl⟩
  go_wp2_with fail
  refine (magnitude_any t HM.out (most ng) (by cases ng <;> decide) (by cases ng <;> decide) HA.out _).mono ?_
  rintro e w' ⟨⟨hx, rfl⟩ | ⟨hx, rfl⟩, rfl⟩
  · exact absurd HV.out (by omega)
  clear hx
  go_wp2_with fail
  refine leaves_cons (f := 38) (args := #[.pointer (some ⟨w.heap.size + 1 + 1 + 1, 0, none⟩), .pointer (some ⟨w.heap.size, 0, none⟩), .pointer (some ⟨w.heap.size + 1, 0, none⟩), .pointer (some ⟨w.heap.size + 1 + 1, 0, none⟩)]) (by simp) (by simp [go_sem]) ?_
  refine (door_no w.heap.size (w.heap.size + 1) (w.heap.size + 1 + 1) (w.heap.size + 1 + 1 + 1) 11 0 0 0 0 (by decide) _ ?_ ?_ ?_ ?_ ?_ ?_ ?_ ?_ (by omega) (by omega)).mono ?_
  all_goals try (simp [go_sem]; done)
  rintro e u' w'' ⟨rfl, rfl, rfl⟩
  simp [Leaves, settle, results, Tryd.results19, go_sem]
  exact (((hok.alloc _).alloc _).alloc _).alloc _
set_option maxHeartbeats 800000 in
theorem parse_ok (s t : ByteArray) (ng : Bool) (hs : s.size ≤ maxLen) (ht : t.size ≤ s.size) (hcut : ∀ w, Calls Tryd.prog 39 #[.string s, .string ⟨#[45]⟩] w fun e w' => e = .returned (.tuple #[.string t, .bool ng]) ∧ w' = w)
    (hrun : run t.data.toList = t.size) (h0 : 0 < t.size) (hv : val t.data.toList ≤ most ng) (w0 w : World) (hok : Ok w0 w) :
    Calls Tryd.prog 19 #[.string s] w fun e w' => e = .returned (.tuple #[.int .i64 (num ng (val t.data.toList)), .int .i64 0, .int .i64 0]) ∧ Ok w0 w' := by
  have hmf : ∀ (fn : Fn) (first cap : Array Value) (w : World), (Instr.makeFunc fn first cap).run Tryd.prog w = .ok (.func fn first cap) w := fun _ _ _ _ => rfl
  have HC : Hid _ := hcut
  have hrl := run_le t.data.toList
  have hts : t.data.toList.length = t.size := by rw [Array.length_toList]; rfl
  have hmx : t.size ≤ maxLen := Nat.le_trans ht hs
  have HM : Hid _ := hmx
  unfold maxLen at hs
  clear hcut hmx
  have hb1 : ((t.size : Int) == 0) = false := by rw [beq_eq_false_iff_ne]; omega
  have hb2 : ¬ (t.size : Int) < (t.size : Int) := by omega
  have HR : Hid _ := hrun
  have HA : Hid _ := all_of_run (hrun.trans hts.symm)
  clear hrun hts hrl
  have HV : Hid (val t.data.toList ≤ most ng) := hv
  clear hv
  go_enter_defers Tryd.func19, Tryd.ntmps19
  go_wp2_with fail
  refine (HC.out _).mono ?_
  rintro e w' ⟨rfl, rfl⟩
  go_wp2_with fail
  refine (digitRun_any t HM.out _).mono ?_
  rintro e w' ⟨rfl, rfl⟩
  rw [HR.out]
  go_wp2_with fail
  refine (farthest_any ng _).mono ?_
  rintro e w' ⟨rfl, rfl⟩
  go_wp2_with fail
  refine (magnitude_any t HM.out (most ng) (by cases ng <;> decide) (by cases ng <;> decide) HA.out _).mono ?_
  rintro e w' ⟨⟨hx, rfl⟩ | ⟨hx, rfl⟩, rfl⟩
  rotate_left
  · exact absurd HV.out (by omega)
  clear hx
  cases ng
  · have HN : Hid (wrap64 (val t.data.toList) = num false (val t.data.toList)) := num_pos HV.out
    clear HA
    go_wp2_with fail
    refine leaves_cons (f := 38) (args := #[.pointer (some ⟨w.heap.size + 1 + 1 + 1, 0, none⟩), .pointer (some ⟨w.heap.size, 0, none⟩), .pointer (some ⟨w.heap.size + 1, 0, none⟩), .pointer (some ⟨w.heap.size + 1 + 1, 0, none⟩)]) (by simp) (by simp [go_sem]) ?_
    refine (door_idle _ _ _ _ _ ?_).mono ?_
    · simp [go_sem]
    rintro e u' w'' ⟨rfl, rfl, rfl⟩
    simp [Leaves, settle, results, Tryd.results19, go_sem]
    exact ⟨HN.out, (((hok.alloc _).alloc _).alloc _).alloc _⟩
  · have HN : Hid (wrap64 (IntKind.u64.wrap (-IntKind.u64.wrap (wrap64 (val t.data.toList)))) = num true (val t.data.toList)) := num_neg HV.out
    clear HA
    go_wp2
    refine leaves_cons (f := 38) (args := #[.pointer (some ⟨w.heap.size + 1 + 1 + 1, 0, none⟩), .pointer (some ⟨w.heap.size, 0, none⟩), .pointer (some ⟨w.heap.size + 1, 0, none⟩), .pointer (some ⟨w.heap.size + 1 + 1, 0, none⟩)]) (by simp) (by simp [go_sem]) ?_
    refine (door_idle _ _ _ _ _ ?_).mono ?_
    · simp [go_sem]
    rintro e u' w'' ⟨rfl, rfl, rfl⟩
    simp [Leaves, settle, results, Tryd.results19, go_sem]
    exact ⟨HN.out, ((((hok.alloc _).alloc _).alloc _).alloc _).alloc _⟩

theorem pre_neg (l : List UInt8) : Lib.hasPrefix l [45] = neg? l := by
  cases l with
  | nil => rfl
  | cons c r =>
    simp [Lib.hasPrefix, neg?, List.isPrefixOf]
    exact BEq.comm
theorem pre_body (l : List UInt8) : Lib.trimPrefix l [45] = body l := by
  unfold Lib.trimPrefix body
  rw [pre_neg]
  cases l with
  | nil => rfl
  | cons c r => simp
theorem body_len (l : List UInt8) : (body l).length + off l = l.length := by
  unfold body off
  cases l with
  | nil => rfl
  | cons c r => split <;> simp
theorem parse_any (s : ByteArray) (hs : s.size ≤ maxLen) (w0 w : World) (hok : Ok w0 w) :
    Calls Tryd.prog 19 #[.string s] w fun e w' => e = .returned (.tuple #[.int .i64 (pv s.data.toList), .int .i64 (pe s.data.toList), .int .i64 (pa s.data.toList)]) ∧ Ok w0 w' := by
  obtain ⟨t, htl⟩ : ∃ t : ByteArray, t.data.toList = body s.data.toList := ⟨⟨(body s.data.toList).toArray⟩, by simp⟩
  have hcut : ∀ w, Calls Tryd.prog 39 #[.string s, .string ⟨#[45]⟩] w fun e w' => e = .returned (.tuple #[.string t, .bool (neg? s.data.toList)]) ∧ w' = w := fun w => by
    refine (Tryd.strings_CutPrefix s ⟨#[45]⟩ w).mono ?_
    rintro e w' ⟨rfl, rfl⟩
    have e1 : Lib.trimPrefix s.data.toList [45] = t.data.toList := by rw [pre_body, htl]
    have e2 : Lib.hasPrefix s.data.toList [45] = neg? s.data.toList := pre_neg _
    refine ⟨?_, rfl⟩
    show Ending.returned (.tuple #[.string ⟨(Lib.trimPrefix s.data.toList [45]).toArray⟩, .bool (Lib.hasPrefix s.data.toList [45])]) = _
    rw [e1, e2]
  have hsz : t.data.toList.length = t.size := by rw [Array.length_toList]; rfl
  have hsz' : s.data.toList.length = s.size := by rw [Array.length_toList]; rfl
  have hbl := body_len s.data.toList
  have hrl := run_le t.data.toList
  rw [← htl, hsz, hsz'] at hbl
  have hts : t.size ≤ s.size := by omega
  rw [hsz] at hrl
  by_cases h1 : run t.data.toList = 0
  · have hb : bad s.data.toList = true := by unfold bad; rw [← htl, h1]; rfl
    refine (parse_bad1 s t _ hs hts hcut h1 w0 w hok).mono ?_
    rintro e w' ⟨rfl, h⟩
    refine ⟨tup3 (by simp [pv, hb]) (by simp [pe, hb]) ?_, h⟩
    unfold pa; rw [if_pos hb, ← htl]; omega
  by_cases h2 : run t.data.toList < t.size
  · have hb : bad s.data.toList = true := by unfold bad; rw [← htl, hsz]; simp [h2]
    refine (parse_bad2 s t _ hs hts hcut h1 h2 w0 w hok).mono ?_
    rintro e w' ⟨rfl, h⟩
    refine ⟨tup3 (by simp [pv, hb]) (by simp [pe, hb]) ?_, h⟩
    unfold pa; rw [if_pos hb, ← htl]; omega
  have h3 : run t.data.toList = t.size := by omega
  have hb : bad s.data.toList = false := by unfold bad; rw [← htl, hsz, h3]; exact Bool.or_eq_false_iff.2 ⟨beq_eq_false_iff_ne.2 (by omega), decide_eq_false (by omega)⟩
  by_cases h4 : most (neg? s.data.toList) < val t.data.toList
  · have hg : big s.data.toList = true := by unfold big; rw [← htl]; simp [h4]
    refine (parse_big s t _ hs hts hcut h3 (by omega) h4 w0 w hok).mono ?_
    rintro e w' ⟨rfl, h⟩
    exact ⟨tup3 (by simp [pv, hb, hg]) (by simp [pe, hb, hg]) (by simp [pa, hb]), h⟩
  · have hg : big s.data.toList = false := by unfold big; rw [← htl]; simp; omega
    refine (parse_ok s t _ hs hts hcut h3 (by omega) (by omega) w0 w hok).mono ?_
    rintro e w' ⟨rfl, h⟩
    exact ⟨tup3 (by simp [pv, hb, hg, htl]) (by simp [pe, hb, hg]) (by simp [pa, hb]), h⟩
theorem print_any (v : Int) (hv : In64 v) (w0 w : World) (hT : Lib.TabIs Tryd.prog w0 "internal/strconv.uint64pow10" .u64 Lib.pow10Tab) (hok : Ok w0 w) :
    Calls Tryd.prog 21 #[.int .i64 v] w fun e w' => e = .returned (.string ⟨(Lib.itoa v).toArray⟩) ∧ Ok w0 w' := by
  have hT1 : Lib.TabIs Tryd.prog w "internal/strconv.uint64pow10" .u64 Lib.pow10Tab := (Lib.tabBelow_of_tabIs hT) w hok
  have HT : Hid _ := hT1
  clear hT hT1
  unfold In64 at hv
  go_enter Tryd.func21, Tryd.ntmps21
  go_wp2_with (go_at_call 43; refine (Tryd.strconv_FormatInt_10 v hv.1 hv.2 _ HT.out).mono ?_; rintro e w' ⟨rfl, k, os, rfl⟩)
  go_ret
  exact ⟨rfl, hok.step (Lib.below_grow _ _ (Nat.le_refl _) k os)⟩
end Go.Proofs.YtgedhcgaokakpaaDoor
