import Derived.Deep.LoopGhost
import Derived.Laws.MakeOwn
import Derived.Test.YtbkblijoimmdeaaKEmo
import Derived.Test.YtbkblijoimmdeaaKNl
set_option linter.unusedVariables false
set_option linter.unusedSimpArgs false
set_option linter.unnecessarySimpa false
/- Ea -/
namespace Go.Proofs.Ytbkblijoimmdeaa
open Go.RowKit
/-- A slice of Nums, its block at or behind B; an empty one may have any address. -/
def SNs (B : Nat) (w : World) (ro : Option Addr) (rs : List NT) : Prop :=
  rs ≠ [] → ∃ tb o, ro = some ⟨tb, o, none⟩ ∧ B ≤ tb ∧ tb < w.heap.size ∧ ∀ i (h : i < rs.length), w.cell? ⟨tb, o + i * 5, none⟩ = some (.bool rs[i].2.2.2.2) ∧ w.cell? ⟨tb, o + i * 5 + 1, none⟩ = some (.int .i64 rs[i].1) ∧ w.cell? ⟨tb, o + i * 5 + 2, none⟩ = some (.int .i64 rs[i].2.1) ∧ w.cell? ⟨tb, o + i * 5 + 3, none⟩ = some (.int .u64 (rs[i].2.2.1 : Int)) ∧ w.cell? ⟨tb, o + i * 5 + 4, none⟩ = some (.int .u64 (rs[i].2.2.2.1 : Int))
theorem SNs.at {B : Nat} {w w1 : World} {ro : Option Addr} {rs : List NT} (h : SNs B w ro rs) (hb : Ok w w1) {k : Nat} (hk : k < rs.length) :
    ∃ tb o, ro = some ⟨tb, o, none⟩ ∧ tb < w.heap.size ∧ w1.cell? ⟨tb, o + k * 5, none⟩ = some (.bool rs[k].2.2.2.2) ∧ w1.cell? ⟨tb, o + k * 5 + 1, none⟩ = some (.int .i64 rs[k].1) ∧ w1.cell? ⟨tb, o + k * 5 + 2, none⟩ = some (.int .i64 rs[k].2.1) ∧ w1.cell? ⟨tb, o + k * 5 + 3, none⟩ = some (.int .u64 (rs[k].2.2.1 : Int)) ∧ w1.cell? ⟨tb, o + k * 5 + 4, none⟩ = some (.int .u64 (rs[k].2.2.2.1 : Int)) := by
  obtain ⟨tb, o, e, _, hlt, hc⟩ := h (fun c => by rw [c] at hk; simp at hk)
  have q := hc k hk
  exact ⟨tb, o, e, hlt, (Below.cell hb hlt).trans q.1, (Below.cell hb hlt).trans q.2.1, (Below.cell hb hlt).trans q.2.2.1, (Below.cell hb hlt).trans q.2.2.2.1, (Below.cell hb hlt).trans q.2.2.2.2⟩
theorem SNs.ok {B : Nat} {w w1 : World} {ro : Option Addr} {rs : List NT} (h : SNs B w ro rs) (hb : Ok w w1) : SNs B w1 ro rs := by
  intro hne
  obtain ⟨tb, o, e, hB, hlt, hc⟩ := h hne
  exact ⟨tb, o, e, hB, Nat.lt_of_lt_of_le hlt hb.le, fun i hi => ⟨(Below.cell hb hlt).trans (hc i hi).1, (Below.cell hb hlt).trans (hc i hi).2.1, (Below.cell hb hlt).trans (hc i hi).2.2.1, (Below.cell hb hlt).trans (hc i hi).2.2.2.1, (Below.cell hb hlt).trans (hc i hi).2.2.2.2⟩⟩
theorem SNs.nil (B : Nat) (w : World) (ro : Option Addr) : SNs B w ro [] := fun h => absurd rfl h
theorem SNs.mono {B C : Nat} {w : World} {ro : Option Addr} {rs : List NT} (h : SNs B w ro rs) (hc : C ≤ B) : SNs C w ro rs := by
  intro hne
  obtain ⟨tb, o, e, hB, hr⟩ := h hne
  exact ⟨tb, o, e, Nat.le_trans hc hB, hr⟩
theorem SNs.set {B : Nat} {w : World} {ro : Option Addr} {rs : List NT} (h : SNs B w ro rs) {g : Nat} (hg : g < B) (i : Nat) (v : Value) : SNs B (w.setCell ⟨g, i, none⟩ v) ro rs := by
  intro hne
  obtain ⟨tb, o, e, hB, hlt, hc⟩ := h hne
  have c : ∀ j u, w.cell? ⟨tb, j, none⟩ = some u → (w.setCell ⟨g, i, none⟩ v).cell? ⟨tb, j, none⟩ = some u := fun j u k => by
    have e1 := heap_setCell_other w ⟨g, i, none⟩ tb v (by simp; omega)
    simp only [World.cell?] at k ⊢
    rw [e1]; exact k
  exact ⟨tb, o, e, hB, by simpa using hlt, fun i hi => ⟨c _ _ (hc i hi).1, c _ _ (hc i hi).2.1, c _ _ (hc i hi).2.2.1, c _ _ (hc i hi).2.2.2.1, c _ _ (hc i hi).2.2.2.2⟩⟩
/-- A row of Nums of one's own, of n places, the first of which are written. -/
def NR (w : World) (g n : Nat) (l : List NT) : Prop := ∃ cur : Array Value, w.heap[g]? = some (.cells cur 46 (0, 0)) ∧ cur.size = n * 5 ∧ l.length ≤ n ∧ ∀ i (h : i < l.length) (j : Nat), j < 5 → cur[i * 5 + j]? = (nc l[i])[j]?
theorem NR.ok {w w1 : World} {g n : Nat} {l : List NT} (h : NR w g n l) (hb : Ok w w1) : NR w1 g n l := by
  obtain ⟨cur, h1, h2⟩ := h
  exact ⟨cur, Ok.row' hb h1, h2⟩
theorem NR.lt {w : World} {g n : Nat} {l : List NT} (h : NR w g n l) : g < w.heap.size := by
  obtain ⟨cur, h1, _⟩ := h
  exact lt_row h1
theorem NR.room {w : World} {g n : Nat} {l : List NT} (h : NR w g n l) {k : Nat} (hk : k < n) :
    ∃ u0 u1 u2 u3 u4, w.cell? ⟨g, k * 5, none⟩ = some u0 ∧ w.cell? ⟨g, k * 5 + 1, none⟩ = some u1 ∧ w.cell? ⟨g, k * 5 + 2, none⟩ = some u2 ∧ w.cell? ⟨g, k * 5 + 3, none⟩ = some u3 ∧ w.cell? ⟨g, k * 5 + 4, none⟩ = some u4 ∧ w.frozen? ⟨g, k * 5, none⟩ = false ∧ w.frozen? ⟨g, k * 5 + 1, none⟩ = false ∧ w.frozen? ⟨g, k * 5 + 2, none⟩ = false ∧ w.frozen? ⟨g, k * 5 + 3, none⟩ = false ∧ w.frozen? ⟨g, k * 5 + 4, none⟩ = false := by
  obtain ⟨cur, h1, h2, _⟩ := h
  have c : ∀ j (hj : j < 5), w.cell? ⟨g, k * 5 + j, none⟩ = some (cur[k * 5 + j]'(by omega)) := fun j hj => (cell_of_row _ _ _ _ _ _ h1).trans (by rw [Array.getElem?_eq_getElem])
  exact ⟨_, _, _, _, _, c 0 (by omega), c 1 (by omega), c 2 (by omega), c 3 (by omega), c 4 (by omega), frozen_of_row _ _ _ _ _ h1, frozen_of_row _ _ _ _ _ h1, frozen_of_row _ _ _ _ _ h1, frozen_of_row _ _ _ _ _ h1, frozen_of_row _ _ _ _ _ h1⟩
/-- a Num written at a place. -/
def set5 (w : World) (g o : Nat) (x : NT) : World := ((((w.setCell ⟨g, o, none⟩ (.bool x.2.2.2.2)).setCell ⟨g, o + 1, none⟩ (.int .i64 x.1)).setCell ⟨g, o + 2, none⟩ (.int .i64 x.2.1)).setCell ⟨g, o + 3, none⟩ (.int .u64 (x.2.2.1 : Int))).setCell ⟨g, o + 4, none⟩ (.int .u64 (x.2.2.2.1 : Int))
theorem set5_ok {w0 w : World} (h : Ok w0 w) {g : Nat} (hg : w0.heap.size ≤ g) (o : Nat) (x : NT) : Ok w0 (set5 w g o x) :=
  Ok.set (Ok.set (Ok.set (Ok.set (Ok.set h hg _) hg _) hg _) hg _) hg _
theorem NR.put {w : World} {g n : Nat} {l : List NT} (h : NR w g n l) {k : Nat} (e : k = l.length) (hk : k < n) (x : NT) : NR (set5 w g (k * 5) x) g n (l ++ [x]) := by
  obtain ⟨cur, h1, h2, h3, h4⟩ := h
  have r1 := heap_setCell_same w g (k * 5) _ _ (.bool x.2.2.2.2) h1
  have r2 := heap_setCell_same _ g (k * 5 + 1) _ _ (.int .i64 x.1) r1
  have r3 := heap_setCell_same _ g (k * 5 + 2) _ _ (.int .i64 x.2.1) r2
  have r4 := heap_setCell_same _ g (k * 5 + 3) _ _ (.int .u64 (x.2.2.1 : Int)) r3
  have r5 := heap_setCell_same _ g (k * 5 + 4) _ _ (.int .u64 (x.2.2.2.1 : Int)) r4
  refine ⟨_, r5, by simp [h2], by simp; omega, ?_⟩
  intro i hi j hj
  simp only [List.length_append, List.length_cons, List.length_nil] at hi
  simp only [Array.getElem?_setIfInBounds, Array.size_setIfInBounds]
  by_cases hil : i < l.length
  · rw [if_neg (by omega), if_neg (by omega), if_neg (by omega), if_neg (by omega), if_neg (by omega), List.getElem_append_left hil]
    exact h4 i hil j hj
  · have hie : i = k := by omega
    subst hie
    rw [List.getElem_append_right (by omega)]
    simp only [List.getElem_singleton]
    rcases (show j = 0 ∨ j = 1 ∨ j = 2 ∨ j = 3 ∨ j = 4 by omega) with rfl | rfl | rfl | rfl | rfl
    · rw [if_neg (by omega), if_neg (by omega), if_neg (by omega), if_neg (by omega), if_pos (by omega), if_pos (by omega)]; rfl
    · rw [if_neg (by omega), if_neg (by omega), if_neg (by omega), if_pos rfl, if_pos (by omega)]; rfl
    · rw [if_neg (by omega), if_neg (by omega), if_pos rfl, if_pos (by omega)]; rfl
    · rw [if_neg (by omega), if_pos rfl, if_pos (by omega)]; rfl
    · rw [if_pos rfl, if_pos (by omega)]; rfl
theorem NR.sns {B : Nat} {w : World} {g n : Nat} {l : List NT} (h : NR w g n l) (hB : B ≤ g) : SNs B w (some ⟨g, 0, none⟩) l := by
  intro hne
  obtain ⟨cur, h1, h2, h3, h4⟩ := h
  refine ⟨g, 0, rfl, hB, lt_row h1, fun i hi => ?_⟩
  have c : ∀ j, j < 5 → w.cell? ⟨g, 0 + i * 5 + j, none⟩ = (nc l[i])[j]? := fun j hj => (cell_of_row _ _ _ _ _ _ h1).trans (by rw [Nat.zero_add]; exact h4 i hi j hj)
  exact ⟨c 0 (by omega), c 1 (by omega), c 2 (by omega), c 3 (by omega), c 4 (by omega)⟩
theorem info_of {t : TypeId} {z : Value} {s b : Nat} (h : (Try.prog.info? t).map (fun i => (i.zero, i.size, i.bytes)) = some (some z, s, b)) : ∃ i, Try.prog.info? t = some i ∧ i.zero = some z ∧ i.size = s ∧ i.bytes = b := by
  cases hq : Try.prog.info? t with
  | none => rw [hq] at h; cases h
  | some i => rw [hq] at h; simp at h; exact ⟨i, rfl, h.1, h.2.1, h.2.2⟩
theorem infoZ : (Try.prog.info? 46).map (fun i => (i.zero, i.size, i.bytes)) = some (some (.agg #[.bool false, .int .i64 0, .int .i64 0, .int .u64 0, .int .u64 0]), 5, 40) := by kernel_rfl
theorem run_nums (N : Nat) (h : N ≤ 3518437208883) (w : World) : (Instr.makeSlice 22 (.int .i64 (N : Int)) (.int .i64 (N : Int))).run Try.prog w = .ok (.slice (some ⟨w.heap.size, 0, none⟩) N N) (w.alloc (.cells (madeCells #[.bool false, .int .i64 0, .int .i64 0, .int .u64 0, .int .u64 0] (N * 5)) 46)) := by
  obtain ⟨i, hi, hz, hs, hb⟩ := info_of infoZ
  have := run_make (P := Try.prog) w 22 46 i _ Try.underlying22 hi hz .i64 .i64 N N (by omega) (Int.le_refl _) (by rw [hb]; omega) (by omega)
  rw [this]
  simp only [Int.toNat_natCast, hs]
  rfl
theorem made_size (N : Nat) : (madeCells #[.bool false, .int .i64 0, .int .i64 0, .int .u64 0, .int .u64 0] (N * 5)).size = N * 5 := by
  simp [madeCells]
theorem NR.new (w : World) (N : Nat) : NR (w.alloc (.cells (madeCells #[.bool false, .int .i64 0, .int .i64 0, .int .u64 0, .int .u64 0] (N * 5)) 46)) w.heap.size N [] :=
  ⟨_, heap_new0 _ _, made_size N, by simp, fun i h => by simp at h⟩
set_option maxRecDepth 100000 in
set_option maxHeartbeats 8000000 in
theorem enormal_any (l : List NT) (ro : Option Addr) (cap : Nat) (hl : ∀ a ∈ l, RawN a) (hn : l.length ≤ 3518437208883) {B : Nat} (w : World) (hR : SNs B w ro l) :
    Calls Try.prog 24 #[.slice ro l.length cap] w fun e w' => ∃ g, e = .returned (.slice (some ⟨g, 0, none⟩) l.length l.length) ∧ SNs w.heap.size w' (some ⟨g, 0, none⟩) (l.map normN) ∧ Ok w w' := by
  obtain ⟨m, hmm⟩ : ∃ m, m = l.length := ⟨_, rfl⟩
  have HR : Hid (SNs B w ro l ∧ ∀ p ∈ l, RawN p) := ⟨hR, hl⟩
  rw [← hmm] at hn ⊢
  have HM : Hid (m = l.length) := hmm
  clear hR hl hmm
  have run := run_nums m hn
  have HB : Hid (m ≤ 4611686018427387904) := by unfold Hid; omega
  go_enter Try.func24, Try.ntmps24
  go_wp2_with fail
  obtain ⟨V, hV⟩ : ∃ W, W = w.alloc (.cells (madeCells #[.bool false, .int .i64 0, .int .i64 0, .int .u64 0, .int .u64 0] (m * 5)) 46) := ⟨_, rfl⟩
  have rn : Hid (NR V w.heap.size m []) := by unfold Hid; rw [hV]; exact NR.new w m
  have HV : Hid (Ok w V) := by unfold Hid; rw [hV]; exact (Ok.refl w).alloc _
  rw [← hV]
  obtain ⟨g, eg⟩ : ∃ g, g = w.heap.size := ⟨_, rfl⟩
  have lg : w.heap.size ≤ g := by omega
  rw [← eg] at rn ⊢
  clear hV eg run
  go_loopw [11] (fun s11 wr => ∃ (k : Nat), k ≤ m ∧ s11 = .int .i64 (k : Int) ∧ Hid (NR wr g m ((l.map normN).take k)) ∧ Hid (Ok w wr)) (fun s11 _ => m - (intOf s11).toNat)
  case atStart => exact ⟨0, by omega, rfl, rn.out, HV.out⟩
  case round =>
    obtain ⟨k, hk, rfl, HI, HK⟩ := hrel
    clear rn HV
    by_cases k3 : k < m
    · have k3i : (k : Int) < (m : Int) := by omega
      have k0i : (0 : Int) ≤ (k : Int) := by omega
      obtain ⟨tb, o, ero, htb, p0, p1, p2, p3, p4⟩ := SNs.at HR.out.1 HK.out (k := k) (by rw [← HM.out]; exact k3)
      obtain ⟨p, hp⟩ : ∃ p, p = (l[k]'(by rw [← HM.out]; exact k3)) := ⟨_, rfl⟩
      have HP : Hid (RawN p) := by unfold Hid; rw [hp]; exact HR.out.2 _ (List.getElem_mem _)
      have HT : Hid ((l.map normN).take (k + 1) = (l.map normN).take k ++ [normN p]) := by
        unfold Hid
        rw [hp, List.take_succ_eq_append_getElem (by rw [List.length_map, ← HM.out]; exact k3), List.getElem_map]
      have HL : Hid (((l.map normN).take k).length = k) := by unfold Hid; rw [List.length_take, List.length_map, ← HM.out]; omega
      subst ero
      rw [← hp] at p0 p1 p2 p3 p4
      clear hp
      have s0 := HK.out.le
      have s1 := HI.out.lt
      have s2 : tb < wr.heap.size := by omega
      have n1 : ¬ wr.heap.size = g := by omega
      have n2 : ¬ g = wr.heap.size := by omega
      have n5 : ¬ tb = wr.heap.size := by omega
      have n6 : ¬ wr.heap.size = tb := by omega
      go_wp2_with fail
      obtain ⟨W3, hW3⟩ : ∃ W, W = wr.alloc (.cells #[.bool p.2.2.2.2, .int .i64 p.1, .int .i64 p.2.1, .int .u64 (p.2.2.1 : Int), .int .u64 (p.2.2.2.1 : Int)] 46) := ⟨_, rfl⟩
      have O3 : Ok wr W3 := by rw [hW3]; exact (Ok.refl _).alloc _
      rw [← hW3]
      have HW3 : Hid (Ok w W3) := HK.out.step O3
      have HI3 : Hid (NR W3 g m ((l.map normN).take k)) := HI.out.ok O3
      clear hW3 O3 p0 p1 p2 p3 p4 n1 n2 n5 n6 s0 s1 s2 HI HK
      refine (nnorm_any p HP.out W3 _ (Ok.refl _)).mono ?_
      rintro e w4 ⟨rfl, hb⟩
      have Hw4 : Hid (Ok w w4) := HW3.out.step hb
      have HI4 : Hid (NR w4 g m ((l.map normN).take k)) := HI3.out.ok hb
      clear hb HW3 HI3
      obtain ⟨x, hx⟩ : ∃ x, x = normN p := ⟨_, rfl⟩
      rw [← hx]
      have HX : Hid _ := hx
      clear hx
      unfold nv
      obtain ⟨u0, u1, u2, u3, u4, c0, c1, c2, c3, c4, f0, f1, f2, f3, f4⟩ := HI4.out.room k3
      go_wp2_with fail
      refine ⟨⟨k + 1, by omega, by simp, ?_, set5_ok Hw4.out lg _ _⟩, by simp [intOf]; omega⟩
      show NR (set5 w4 g (k * 5) x) g m _
      rw [HT.out, ← HX.out]
      exact HI4.out.put HL.out.symm k3 x
    · have k3e : k = m := by omega
      subst k3e
      go_wp2_with fail
      go_ret
      refine ⟨g, rfl, ?_, HK.out⟩
      have h := HI.out.sns lg
      rwa [List.take_of_length_le (by rw [List.length_map, ← HM.out]; exact Nat.le_refl _)] at h
end Go.Proofs.Ytbkblijoimmdeaa
