import Derived.Test.YtjngjanheoeojaaDoorLent
import Derived.Test.YtjngjanheoeojaaDoorRemp
import Derived.Test.YtjngjanheoeojaaDoorOpen
namespace Go.Proofs.YtjngjanheoeojaaDoor
open Go.RowKit
set_option linter.unusedVariables false
set_option linter.unusedSimpArgs false
/-- Both texts of a list. -/
structure Both (ns : List Nd) (T : List UInt8) (E : Int) : Prop where
  dev : ∀ (b o cap : Nat) (w : World), G0 w → NodesAt w b o ns → ns.length ≤ cap → cap ≤ maxLen → Calls Tryd.prog 6 #[.slice (some ⟨b, o, none⟩) ns.length cap] w fun y w' => y = .returned (.tuple #[.string ⟨T.toArray⟩, .int .i64 E]) ∧ Below w.heap.size w w'
  doc : ∀ (b o cap : Nat) (w : World), G0 w → NodesAt w b o ns → ns.length ≤ cap → cap ≤ maxLen → Calls Tryd.prog 8 #[.slice (some ⟨b, o, none⟩) ns.length cap] w fun y w' => y = .returned (.tuple #[.string ⟨T.toArray⟩, .int .i64 E]) ∧ Below w.heap.size w w'
theorem NodesAt.take' {w : World} {b o : Nat} {ns ms : List Nd} (h : NodesAt w b o (ns ++ ms)) : NodesAt w b o ns := by
  obtain ⟨h0, h1, h2, h3, h4, h5, h6⟩ := h
  have e : ∀ (i : Nat) (hi : i < ns.length) (hi' : i < (ns ++ ms).length), (ns ++ ms)[i] = ns[i] := fun i hi hi' => List.getElem_append_left hi
  refine ⟨h0, ?_, ?_, ?_, ?_, ?_, ?_⟩ <;> intro i hi <;> (have hi' : i < (ns ++ ms).length := by rw [List.length_append]; omega) <;> rw [← e i hi hi'] <;> first | exact h1 i hi' | exact h2 i hi' | exact h3 i hi' | exact h4 i hi' | exact h5 i hi' | exact h6 i hi'
theorem row_nodes {w : World} {B g cap n : Nat} {ns : List Nd} (h : w.ownsRow B 31 6 (.slice (some ⟨g, 0, none⟩) n cap) n (flatN ns)) (hn : ns.length = n) : NodesAt w g 0 ns ∧ n ≤ cap ∧ cap ≤ maxLen ∧ B ≤ g ∧ g < w.heap.size ∧ ∃ cur : Array Value, w.heap[g]? = some (.cells cur 31) ∧ cur.size = cap * 6 := by
  rcases h.2 with ⟨h0, _⟩ | ⟨g', cap', cur, hv, hbg, hheap, hc1, hc2, hc3, htake⟩
  · cases h0
  · injection hv with e1 e2 e3
    injection e1 with e1
    injection e1 with e1
    subst e1 e3
    exact ⟨nodes_row hheap (by rw [hn]; exact htake), hc1, hc2, hbg, (Array.getElem?_eq_some_iff.1 hheap).1, cur, hheap, hc3⟩
theorem NodesAt.cells2 {w : World} {b o : Nat} {ns : List Nd} (h : NodesAt w b o ns) : ∀ (j : Nat) (u : Value), (flatN ns)[j]? = some u → w.cell? (Addr.add ⟨b, o, .none⟩ j) = some u := by
  intro j u hj
  have hlt : j < ns.length * 6 := by have := (List.getElem?_eq_some_iff.1 hj).1; rw [flatN_len] at this; exact this
  obtain ⟨h0, h1, h2, h3, h4, h5, h6⟩ := h
  have hi : j / 6 < ns.length := by omega
  obtain ⟨k0, k1, k2, k3, k4, k5⟩ := flatN_get ns (j / 6) hi
  rw [Go.WideShapes.add_plain]
  rcases (by omega : j % 6 = 0 ∨ j % 6 = 1 ∨ j % 6 = 2 ∨ j % 6 = 3 ∨ j % 6 = 4 ∨ j % 6 = 5) with e | e | e | e | e | e
  · have ej : j = j / 6 * 6 := by omega
    rw [ej] at hj; rw [k0] at hj; rw [ej, ← Option.some.inj hj]; exact h1 _ hi
  · have ej : j = j / 6 * 6 + 1 := by omega
    rw [ej] at hj; rw [k1] at hj; rw [ej, ← Option.some.inj hj, ← Nat.add_assoc]; exact h2 _ hi
  · have ej : j = j / 6 * 6 + 2 := by omega
    rw [ej] at hj; rw [k2] at hj; rw [ej, ← Option.some.inj hj, ← Nat.add_assoc]; exact h3 _ hi
  · have ej : j = j / 6 * 6 + 3 := by omega
    rw [ej] at hj; rw [k3] at hj; rw [ej, ← Option.some.inj hj, ← Nat.add_assoc]; exact h4 _ hi
  · have ej : j = j / 6 * 6 + 4 := by omega
    rw [ej] at hj; rw [k4] at hj; rw [ej, ← Option.some.inj hj, ← Nat.add_assoc]; exact h5 _ hi
  · have ej : j = j / 6 * 6 + 5 := by omega
    rw [ej] at hj; rw [k5] at hj; rw [ej, ← Option.some.inj hj, ← Nat.add_assoc]; exact h6 _ hi
theorem flatN_one2 (ns : List Nd) : ∀ u ∈ flatN ns, u.oneCell' = true := by
  induction ns with
  | nil => intro u hu; cases hu
  | cons n t ih =>
    intro u hu
    simp only [flatN, List.mem_cons] at hu
    rcases hu with rfl | rfl | rfl | rfl | rfl | rfl | hu
    all_goals first | rfl | exact ih u hu
def setNd (w : World) (b j : Nat) (n : Nd) : World := ((((((w.setCell ⟨b, j * 6, none⟩ (.int .i64 n.depth)).setCell ⟨b, j * 6 + 1, none⟩ (.int .i64 n.kind)).setCell ⟨b, j * 6 + 2, none⟩ (.string n.name)).setCell ⟨b, j * 6 + 3, none⟩ (.int .i64 n.num)).setCell ⟨b, j * 6 + 4, none⟩ (.int .i64 n.op)).setCell ⟨b, j * 6 + 5, none⟩ (.int .i64 n.pos))
theorem setNd_cell {w : World} {b j : Nat} {ns : List Nd} (n : Nd) (h : NodesAt w b 0 ns) (hj : j < ns.length) (o' : Nat) : (setNd w b j n).cell? ⟨b, o', none⟩ = if o' = j * 6 + 5 then some (.int .i64 n.pos) else if o' = j * 6 + 4 then some (.int .i64 n.op) else if o' = j * 6 + 3 then some (.int .i64 n.num) else if o' = j * 6 + 2 then some (.string n.name) else if o' = j * 6 + 1 then some (.int .i64 n.kind) else if o' = j * 6 then some (.int .i64 n.depth) else w.cell? ⟨b, o', none⟩ := by
  obtain ⟨_, r0, r1, r2, r3, r4, r5⟩ := h
  replace r0 := r0 j hj
  replace r1 := r1 j hj
  replace r2 := r2 j hj
  replace r3 := r3 j hj
  replace r4 := r4 j hj
  replace r5 := r5 j hj
  simp only [Nat.zero_add] at r0 r1 r2 r3 r4 r5
  unfold setNd
  obtain ⟨_, s01⟩ := cell?_setCell_some (p := ⟨b, j * 6, none⟩) (x := .int .i64 n.depth) r1
  obtain ⟨_, s02⟩ := cell?_setCell_some (p := ⟨b, j * 6, none⟩) (x := .int .i64 n.depth) r2
  obtain ⟨_, s03⟩ := cell?_setCell_some (p := ⟨b, j * 6, none⟩) (x := .int .i64 n.depth) r3
  obtain ⟨_, s04⟩ := cell?_setCell_some (p := ⟨b, j * 6, none⟩) (x := .int .i64 n.depth) r4
  obtain ⟨_, s05⟩ := cell?_setCell_some (p := ⟨b, j * 6, none⟩) (x := .int .i64 n.depth) r5
  obtain ⟨_, s12⟩ := cell?_setCell_some (p := ⟨b, j * 6 + 1, none⟩) (x := .int .i64 n.kind) s02
  obtain ⟨_, s13⟩ := cell?_setCell_some (p := ⟨b, j * 6 + 1, none⟩) (x := .int .i64 n.kind) s03
  obtain ⟨_, s14⟩ := cell?_setCell_some (p := ⟨b, j * 6 + 1, none⟩) (x := .int .i64 n.kind) s04
  obtain ⟨_, s15⟩ := cell?_setCell_some (p := ⟨b, j * 6 + 1, none⟩) (x := .int .i64 n.kind) s05
  obtain ⟨_, s23⟩ := cell?_setCell_some (p := ⟨b, j * 6 + 2, none⟩) (x := .string n.name) s13
  obtain ⟨_, s24⟩ := cell?_setCell_some (p := ⟨b, j * 6 + 2, none⟩) (x := .string n.name) s14
  obtain ⟨_, s25⟩ := cell?_setCell_some (p := ⟨b, j * 6 + 2, none⟩) (x := .string n.name) s15
  obtain ⟨_, s34⟩ := cell?_setCell_some (p := ⟨b, j * 6 + 3, none⟩) (x := .int .i64 n.num) s24
  obtain ⟨_, s35⟩ := cell?_setCell_some (p := ⟨b, j * 6 + 3, none⟩) (x := .int .i64 n.num) s25
  obtain ⟨_, s45⟩ := cell?_setCell_some (p := ⟨b, j * 6 + 4, none⟩) (x := .int .i64 n.op) s35
  rw [cs _ b (j * 6 + 5) o' (.int .i64 n.pos) _ s45, cs _ b (j * 6 + 4) o' (.int .i64 n.op) _ s34, cs _ b (j * 6 + 3) o' (.int .i64 n.num) _ s23, cs _ b (j * 6 + 2) o' (.string n.name) _ s12, cs _ b (j * 6 + 1) o' (.int .i64 n.kind) _ s01, cs _ b (j * 6) o' (.int .i64 n.depth) _ r0]
theorem setNd_beside (w : World) (b j : Nat) (n : Nd) : Beside b w (setNd w b j n) :=
  ((((((Beside.of (Below.refl _ _)).set _ _).set _ _).set _ _).set _ _).set _ _).set _ _
theorem setNd_size (w : World) (b j : Nat) (n : Nd) : (setNd w b j n).heap.size = w.heap.size := by simp [setNd]
theorem setNd_same {w : World} {b j : Nat} {ns : List Nd} (n : Nd) (h : NodesAt w b 0 ns) (hj : j < ns.length) : NodesAt (setNd w b j n) b 0 (ns.set j n) := by
  have hc := setNd_cell n h hj
  obtain ⟨h0, h1, h2, h3, h4, h5, h6⟩ := h
  refine ⟨by rw [setNd_size]; exact h0, ?_, ?_, ?_, ?_, ?_, ?_⟩ <;> intro i hi <;> (have hi' : i < ns.length := by simpa using hi) <;> rw [hc, List.getElem_set] <;> by_cases e : j = i
  · subst e; rw [if_pos rfl]; simp
  · rw [if_neg e, if_neg (by omega), if_neg (by omega), if_neg (by omega), if_neg (by omega), if_neg (by omega), if_neg (by omega)]; exact h1 i hi'
  · subst e; rw [if_pos rfl]; simp
  · rw [if_neg e, if_neg (by omega), if_neg (by omega), if_neg (by omega), if_neg (by omega), if_neg (by omega), if_neg (by omega)]; exact h2 i hi'
  · subst e; rw [if_pos rfl]; simp
  · rw [if_neg e, if_neg (by omega), if_neg (by omega), if_neg (by omega), if_neg (by omega), if_neg (by omega), if_neg (by omega)]; exact h3 i hi'
  · subst e; rw [if_pos rfl]; simp
  · rw [if_neg e, if_neg (by omega), if_neg (by omega), if_neg (by omega), if_neg (by omega), if_neg (by omega), if_neg (by omega)]; exact h4 i hi'
  · subst e; rw [if_pos rfl]; simp
  · rw [if_neg e, if_neg (by omega), if_neg (by omega), if_neg (by omega), if_neg (by omega), if_neg (by omega), if_neg (by omega)]; exact h5 i hi'
  · subst e; rw [if_pos rfl]; simp
  · rw [if_neg e, if_neg (by omega), if_neg (by omega), if_neg (by omega), if_neg (by omega), if_neg (by omega), if_neg (by omega)]; exact h6 i hi'
theorem setNd_other {w : World} {b j b2 o : Nat} {ms : List Nd} (n : Nd) (h : NodesAt w b2 o ms) (hb : b2 ≠ b) : NodesAt (setNd w b j n) b2 o ms := by
  have hc : ∀ k, (setNd w b j n).cell? ⟨b2, k, none⟩ = w.cell? ⟨b2, k, none⟩ := fun k => (setNd_beside w b j n).cell hb h.lt
  obtain ⟨h0, h1, h2, h3, h4, h5, h6⟩ := h
  exact ⟨by rw [setNd_size]; exact h0, fun i hi => by rw [hc]; exact h1 i hi, fun i hi => by rw [hc]; exact h2 i hi, fun i hi => by rw [hc]; exact h3 i hi, fun i hi => by rw [hc]; exact h4 i hi, fun i hi => by rw [hc]; exact h5 i hi, fun i hi => by rw [hc]; exact h6 i hi⟩
set_option maxHeartbeats 4000000 in
set_option maxRecDepth 100000 in
theorem texts_empty (ao : Option Addr) (cap : Nat) (hao : ao = none → cap = 0) (x : Int) (nd : Nd) (w : World) (hG : G0 w) (hdev : ∀ (b o cap : Nat) (w : World), G0 w → NodesAt w b o [] → cap ≤ maxLen → Calls Tryd.prog 6 #[.slice (some ⟨b, o, none⟩) 0 cap] w fun y w' => y = .returned (.tuple #[.string ⟨#[]⟩, .int .i64 0]) ∧ Below w.heap.size w w') :
    Calls Tryd.prog 4 #[.slice ao 0 cap, .int .i64 x, .agg #[.int .i64 nd.depth, .int .i64 nd.kind, .string nd.name, .int .i64 nd.num, .int .i64 nd.op, .int .i64 nd.pos]] w fun y w' => y = .returned (.bool true) ∧ Below w.heap.size w w' := by
  obtain ⟨W, hW⟩ : ∃ W, W = w.alloc (.cells #[.int .i64 nd.depth, .int .i64 nd.kind, .string nd.name, .int .i64 nd.num, .int .i64 nd.op, .int .i64 nd.pos] 31) := ⟨_, rfl⟩
  have hB0 : Below w.heap.size w W := by rw [hW]; exact (Below.refl _ _).alloc (Nat.le_refl _) _
  have HF : Hid (∀ w', Below w.heap.size w w' → Calls Tryd.prog 5 #[] w' fun y w2 => y = .returned (.bool true) ∧ Below w'.heap.size w' w2) := fun w' hb => fixed_any w' (hG.below hb)
  have HL : Hid (∀ w', Calls Tryd.prog 7 #[.slice ao 0 cap] w' fun y w2 => ∃ g cap2, y = .returned (.slice (some ⟨g, 0, none⟩) (0 + 1) cap2) ∧ w2.ownsRow w'.heap.size 31 6 (.slice (some ⟨g, 0, none⟩) (0 + 1) cap2) (0 + 1) (flatN ([] ++ [roomN])) ∧ Below w'.heap.size w' w2) :=
    fun w' => lent_any ao 0 cap (fun h => ⟨rfl, hao h⟩) (by omega) [] rfl w' (fun ad _ j u h => by cases h) (flatN_one2 _)
  have HD : Hid (∀ w' g c, Below w.heap.size w w' → NodesAt w' g 0 [] → c ≤ maxLen → Calls Tryd.prog 6 #[.slice (some ⟨g, 0, none⟩) 0 c] w' fun y w2 => y = .returned (.tuple #[.string ⟨#[]⟩, .int .i64 0]) ∧ Below w'.heap.size w' w2) :=
    fun w' g c hb hn h2 => hdev g 0 c w' (hG.below hb) hn h2
  have HAS : Hid (∀ w' g c g2 c2, NodesAt w' g 0 [roomN] → NodesAt w' g2 0 [roomN] → Calls Tryd.prog 9 #[.slice (some ⟨g, 0, none⟩) 1 c, .slice (some ⟨g2, 0, none⟩) 1 c2] w' fun y w2 => y = .returned (.bool true) ∧ Below w'.heap.size w' w2) :=
    fun w' g c g2 c2 h1 h2 => as_any g 0 c g2 0 c2 [roomN] w' h1 h2 (by simp)
  have HW : Hid _ := hW
  have HB0 : Hid _ := hB0
  clear hW hB0 hG hdev
  go_enter Tryd.func4, Tryd.ntmps4
  go_wp2_with fail
  rw [← HW.out]
  refine (HF.out _ HB0.out).mono ?_
  rintro y w1 ⟨rfl, hb1⟩
  have HB1 : Hid (Below w.heap.size w w1) := HB0.out.trans (hb1.mono HB0.out.size)
  clear hb1
  go_wp2_with fail
  refine (HL.out _).mono ?_
  rintro y w2 ⟨g, cap2, rfl, ho2, hb2⟩
  have HB2 : Hid (Below w.heap.size w w2) := HB1.out.trans (hb2.mono HB1.out.size)
  obtain ⟨hr1, hr2, hr3, hr4, hr5, cur, hr6, hr7⟩ := row_nodes ho2 rfl
  have HR2 : Hid (NodesAt w2 g 0 [roomN]) := hr1
  have HCM : Hid _ := hr3
  clear ho2 hb2 hr1 hr2 hr3 hr4 hr5 hr6 hr7
  go_wp2_with fail
  refine (HD.out _ g cap2 HB2.out (NodesAt.take' (ns := []) (ms := [roomN]) HR2.out) HCM.out).mono ?_
  rintro y w3 ⟨rfl, hb3⟩
  have HB3 : Hid (Below w.heap.size w w3) := HB2.out.trans (hb3.mono HB2.out.size)
  have HR3 : Hid _ := HR2.out.below hb3
  clear hb3
  go_wp2_with fail
  refine (rtext_empty ao cap _).mono ?_
  rintro y w4 ⟨rfl, hb4⟩
  have HB4 : Hid (Below w.heap.size w w4) := HB3.out.trans (hb4.mono HB3.out.size)
  have HR4 : Hid _ := HR3.out.below hb4
  clear hb4
  go_wp2_with fail
  refine (HL.out _).mono ?_
  rintro y w5 ⟨g5, cap5, rfl, ho5, hb5⟩
  have HB5 : Hid (Below w.heap.size w w5) := HB4.out.trans (hb5.mono HB4.out.size)
  have HR5 : Hid _ := HR4.out.below hb5
  have HQ5 : Hid (NodesAt w5 g5 0 [roomN]) := (row_nodes ho5 rfl).1
  clear ho5 hb5
  go_wp2_with fail
  refine (HAS.out _ g cap2 g5 cap5 HR5.out HQ5.out).mono ?_
  rintro y w6 ⟨rfl, hb6⟩
  have HB6 : Hid (Below w.heap.size w w6) := HB5.out.trans (hb6.mono HB5.out.size)
  clear hb6
  go_wp2_with fail
  go_ret
  exact ⟨rfl, HB6.out⟩
set_option maxHeartbeats 8000000 in
set_option maxRecDepth 100000 in
theorem texts_full (b o len cap : Nat) (x : Int) (nd : Nd) (ns : List Nd) (w : World) (hG : G0 w) (hAll : ∀ ms : List Nd, (∀ n ∈ ms, n.Ok) → ∃ T E, Both ms T E) (hok : ∀ n ∈ ns, n.Ok) (hnd : nd.Ok) (hlen : ns.length = len) (hpos : 0 < len) (hbytes : (len + 1) * 56 ≤ 140737488355328) (hlc : len ≤ cap) (hcm : cap ≤ maxLen) (hx0 : -9223372036854775808 ≤ x) (hx1 : x ≤ 9223372036854775807) (hN : NodesAt w b o ns) :
    Calls Tryd.prog 4 #[.slice (some ⟨b, o, none⟩) len cap, .int .i64 x, .agg #[.int .i64 nd.depth, .int .i64 nd.kind, .string nd.name, .int .i64 nd.num, .int .i64 nd.op, .int .i64 nd.pos]] w fun y w' => y = .returned (.bool true) ∧ Below w.heap.size w w' := by
  obtain ⟨T, E, hBT⟩ := hAll ns hok
  obtain ⟨W, hW⟩ : ∃ W, W = w.alloc (.cells #[.int .i64 nd.depth, .int .i64 nd.kind, .string nd.name, .int .i64 nd.num, .int .i64 nd.op, .int .i64 nd.pos] 31) := ⟨_, rfl⟩
  have hB0 : Below w.heap.size w W := by rw [hW]; exact (Below.refl _ _).alloc (Nat.le_refl _) _
  have hBX : NodesAt W w.heap.size 0 [nd] := nodes_row (by rw [hW]; exact heap_alloc_new _ _) rfl
  have HF : Hid (∀ w', Below w.heap.size w w' → Calls Tryd.prog 5 #[] w' fun y w2 => y = .returned (.bool true) ∧ Below w'.heap.size w' w2) := fun w' hb => fixed_any w' (hG.below hb)
  have HL : Hid (∀ w', Below w.heap.size w w' → Calls Tryd.prog 7 #[.slice (some ⟨b, o, none⟩) len cap] w' fun y w2 => ∃ g cap2, y = .returned (.slice (some ⟨g, 0, none⟩) (len + 1) cap2) ∧ w2.ownsRow w'.heap.size 31 6 (.slice (some ⟨g, 0, none⟩) (len + 1) cap2) (len + 1) (flatN (ns ++ [roomN])) ∧ Below w'.heap.size w' w2) :=
    fun w' hb => lent_any (some ⟨b, o, none⟩) len cap (fun h => by cases h) hbytes ns hlen w' (fun ad had => by cases had; exact (hN.below hb).cells2) (flatN_one2 _)
  have HD : Hid (∀ w' g c, Below w.heap.size w w' → NodesAt w' g 0 ns → len ≤ c → c ≤ maxLen → Calls Tryd.prog 6 #[.slice (some ⟨g, 0, none⟩) len c] w' fun y w2 => y = .returned (.tuple #[.string ⟨T.toArray⟩, .int .i64 E]) ∧ Below w'.heap.size w' w2) :=
    fun w' g c hb hn h1 h2 => by have h9 := hBT.dev g 0 c w' (hG.below hb) hn (by omega) h2; rw [hlen] at h9; exact h9
  have HR : Hid (∀ w', Below w.heap.size w w' → Calls Tryd.prog 8 #[.slice (some ⟨b, o, none⟩) len cap] w' fun y w2 => y = .returned (.tuple #[.string ⟨T.toArray⟩, .int .i64 E]) ∧ Below w'.heap.size w' w2) :=
    fun w' hb => by have h9 := hBT.doc b o cap w' (hG.below hb) (hN.below hb) (by omega) hcm; rw [hlen] at h9; exact h9
  have HAS : Hid (∀ w' g c g2 c2, NodesAt w' g 0 (ns ++ [roomN]) → NodesAt w' g2 0 (ns ++ [roomN]) → Calls Tryd.prog 9 #[.slice (some ⟨g, 0, none⟩) (len + 1) c, .slice (some ⟨g2, 0, none⟩) (len + 1) c2] w' fun y w2 => y = .returned (.bool true) ∧ Below w'.heap.size w' w2) :=
    fun w' g c g2 c2 h1 h2 => by
      have h9 := as_any g 0 c g2 0 c2 (ns ++ [roomN]) w' h1 h2 (by rw [List.length_append]; simp; omega)
      rw [List.length_append, hlen] at h9
      exact h9
  have hlr : (ns ++ [roomN]).length = len + 1 := by rw [List.length_append, hlen]; rfl
  have HLR : Hid _ := hlr
  have HRS : Hid (∀ w', Calls Tryd.prog 10 #[.int .i64 x, .int .i64 len] w' fun y w2 => (∃ j : Nat, j < len ∧ y = .returned (.int .i64 j)) ∧ w2 = w') := fun w' => rest_any x len hpos (by omega) hx0 hx1 w'
  have HFN : Hid ((flatN ns).length = len * 6) := by unfold Hid; rw [flatN_len, hlen]
  have HW : Hid _ := hW
  have HB0 : Hid _ := hB0
  have HBX : Hid _ := hBX
  have HG : Hid _ := hG
  have HN : Hid _ := hN
  have HAll : Hid _ := hAll
  have HOK : Hid _ := hok
  have HND : Hid _ := hnd
  have HLen : Hid _ := hlen
  have hz0 := hB0.size
  have hlen0 : ¬ (len : Int) = 0 := by omega
  have hlen1 : ((len : Int) == 0) = false := by rw [beq_eq_false_iff_ne]; omega
  obtain ⟨i0, hi0, hy0, hy1, hy2⟩ := info_parts Tryd.info31y
  clear hW hB0 hBX hG hN hAll hBT hok hnd hlen hlr
  go_enter Tryd.func4, Tryd.ntmps4
  go_wp2_with fail
  rw [← HW.out]
  refine (HF.out _ HB0.out).mono ?_
  rintro y w1 ⟨rfl, hb1⟩
  have HB1 : Hid (Below w.heap.size w w1) := HB0.out.trans (hb1.mono HB0.out.size)
  have HX1 : Hid _ := HBX.out.below hb1
  clear hb1
  go_wp2_with fail
  refine (HL.out _ HB1.out).mono ?_
  rintro y w2 ⟨g, cap2, rfl, ho2, hb2⟩
  have HB2 : Hid (Below w.heap.size w w2) := HB1.out.trans (hb2.mono HB1.out.size)
  have HX2 : Hid _ := HX1.out.below hb2
  obtain ⟨hr1, hr2, hr3, hr4, hr5, cur, hr6, hr7⟩ := row_nodes ho2 HLR.out
  have HR2 : Hid _ := hr1
  have HC2 : Hid (w2.heap[g]? = some (.cells cur 31)) := hr6
  have hzz1 := HB1.out.size
  have hgw : w.heap.size ≤ g := by omega
  have hgx : w.heap.size < g := by have := HX1.out.lt; omega
  have hgl : g < w2.heap.size := hr5
  have hcl : len ≤ cap2 := by omega
  have hcl' : (len : Int) ≤ (cap2 : Int) := by omega
  have HCM : Hid _ := hr3
  clear ho2 hb2 hr1 hr2 hr3 hr4 hr5 hr6 hr7
  go_wp2_with fail
  refine (HD.out _ g cap2 HB2.out HR2.out.take' hcl HCM.out).mono ?_
  rintro y w3 ⟨rfl, hb3⟩
  have HB3 : Hid (Below w.heap.size w w3) := HB2.out.trans (hb3.mono HB2.out.size)
  have HX3 : Hid _ := HX2.out.below hb3
  have HR3 : Hid _ := HR2.out.below hb3
  have HC3 : Hid (w3.heap[g]? = some (.cells cur 31)) := (hb3.block g hgl).trans HC2.out
  have hz3 := hb3.size
  clear hb3
  go_wp2_with fail
  refine (HR.out _ HB3.out).mono ?_
  rintro y w4 ⟨rfl, hb4⟩
  have HB4 : Hid (Below w.heap.size w w4) := HB3.out.trans (hb4.mono HB3.out.size)
  have HX4 : Hid _ := HX3.out.below hb4
  have HR4 : Hid _ := HR3.out.below hb4
  have HC4 : Hid (w4.heap[g]? = some (.cells cur 31)) := (hb4.block g (by omega)).trans HC3.out
  have hz4 := hb4.size
  clear hb4
  go_wp2_with fail
  refine (HL.out _ HB4.out).mono ?_
  rintro y w5 ⟨g5, cap5, rfl, ho5, hb5⟩
  have HB5 : Hid (Below w.heap.size w w5) := HB4.out.trans (hb5.mono HB4.out.size)
  have HX5 : Hid _ := HX4.out.below hb5
  have HR5 : Hid _ := HR4.out.below hb5
  have HC5 : Hid (w5.heap[g]? = some (.cells cur 31)) := (hb5.block g (by omega)).trans HC4.out
  have HQ5 : Hid _ := (row_nodes ho5 HLR.out).1
  have hz5 := hb5.size
  clear ho5 hb5
  go_wp2_with fail
  refine (HAS.out _ g cap2 g5 cap5 HR5.out HQ5.out).mono ?_
  rintro y w6 ⟨rfl, hb6⟩
  have HB6 : Hid (Below w.heap.size w w6) := HB5.out.trans (hb6.mono HB5.out.size)
  have HX6 : Hid _ := HX5.out.below hb6
  have HR6 : Hid _ := HR5.out.below hb6
  have HC6 : Hid (w6.heap[g]? = some (.cells cur 31)) := (hb6.block g (by omega)).trans HC5.out
  have hz6 := hb6.size
  clear hb6
  go_wp2_with fail
  refine (HRS.out _).mono ?_
  rintro y w6' ⟨⟨j, hj, rfl⟩, hw6⟩
  subst hw6
  have hj' : (j : Int) < (len : Int) := by omega
  have hB7 : Below w.heap.size w (w6'.alloc (.cells #[] 31)) := HB6.out.alloc (by omega) _
  have HB7 : Hid _ := hB7
  have HNC : Hid _ := (HN.out.below hB7).cells2
  clear hB7
  go_wp2_with (at_builtin; refine wpList_append_lies _ rfl _ _ 22 rfl w6'.heap.size 31 i0 (.agg #[.int .i64 0, .int .i64 0, .string ⟨#[]⟩, .int .i64 0, .int .i64 0, .int .i64 0]) 6 56 Tryd.underlying22 hi0 hy0 hy1 hy2 rfl (by decide) (.slice (some ⟨w6'.heap.size, 0, none⟩) 0 0) 0 [] (by rfl) ?ap0 ⟨b, o, none⟩ len cap (flatN ns) (by rfl) HFN.out HNC.out (flatN_one2 _) hpos ?ap1 ?ap2 ?ap3 (w6'.heap.size + 1) (by simp) ?_)
  case ap0 => exact ⟨rfl, .inr ⟨w6'.heap.size, 0, #[], rfl, Nat.le_refl _, heap_alloc_new _ _, Nat.le_refl _, Nat.zero_le _, rfl, rfl⟩⟩
  case ap1 => unfold maxLen; omega
  case ap2 => omega
  case ap3 => simp
  intro g7 cap7 w7 hown hgrow _ hlt7
  have HO7 : Hid (w7.ownsRow w6'.heap.size 31 6 (.slice (some ⟨g7, 0, none⟩) len cap7) len (flatN ns)) := by first | exact hown | (have h9 := hown; rw [Nat.zero_add] at h9; exact h9)
  have hb67 : Below w6'.heap.size w6' w7 := ((Below.refl _ _).alloc (Nat.le_refl _) _).grown hgrow (by simp) (by intro k hk; simp [Value.ownBlock] at hk; omega)
  have HB67 : Hid _ := hb67
  have HB8 : Hid (Below w.heap.size w w7) := HB6.out.trans (hb67.mono HB6.out.size)
  have HX7 : Hid _ := HX6.out.below hb67
  have HR7 : Hid _ := HR6.out.below hb67
  have HC7 : Hid (w7.heap[g]? = some (.cells cur 31)) := (hb67.block g (by omega)).trans HC6.out
  obtain ⟨hs1, hs2, hs3, hs4, hs5, cur7, hs6, hs7⟩ := row_nodes HO7.out HLen.out
  have HS7 : Hid _ := hs1
  have HC77 : Hid (w7.heap[g7]? = some (.cells cur7 31)) := hs6
  have HCM7 : Hid _ := hs3
  have hgg : ¬ g7 = g := by omega
  have hgg' : ¬ g = g7 := by omega
  have hxg : ¬ w.heap.size = g := by omega
  have hxg7 : ¬ w.heap.size = g7 := by omega
  have hgx7 : ¬ g7 = w.heap.size := by omega
  have hgx0 : ¬ g = w.heap.size := by omega
  have hg7w : w.heap.size ≤ g7 := by have := HB6.out.size; omega
  have hcl7 : len ≤ cap7 := hs2
  have hgl7 : g7 < w7.heap.size := hs5
  clear hown hgrow hb67 hs1 hs2 hs3 hs4 hs5 hs6 hs7
  obtain ⟨_, a0, a1, a2, a3, a4, a5⟩ := HX7.out
  replace a0 := a0 0 (by simp)
  replace a1 := a1 0 (by simp)
  replace a2 := a2 0 (by simp)
  replace a3 := a3 0 (by simp)
  replace a4 := a4 0 (by simp)
  replace a5 := a5 0 (by simp)
  simp only [Nat.zero_mul, Nat.zero_add, List.getElem_cons_zero] at a0 a1 a2 a3 a4 a5
  have hjn : j < ns.length := by rw [HLen.out]; exact hj
  obtain ⟨_, e0, e1, e2, e3, e4, e5⟩ := HS7.out
  replace e0 := e0 j hjn
  replace e1 := e1 j hjn
  replace e2 := e2 j hjn
  replace e3 := e3 j hjn
  replace e4 := e4 j hjn
  replace e5 := e5 j hjn
  simp only [Nat.zero_add] at e0 e1 e2 e3 e4 e5
  have hjr : j < (ns ++ [roomN]).length := by rw [HLR.out]; omega
  obtain ⟨_, f0, f1, f2, f3, f4, f5⟩ := HR7.out
  replace f0 := f0 j hjr
  replace f1 := f1 j hjr
  replace f2 := f2 j hjr
  replace f3 := f3 j hjr
  replace f4 := f4 j hjr
  replace f5 := f5 j hjr
  simp only [Nat.zero_add] at f0 f1 f2 f3 f4 f5
  have fz7 : ∀ k, w7.frozen? ⟨g7, k, none⟩ = false := fun k => by simp [World.frozen?, HC77.out]
  have fz : ∀ k, w7.frozen? ⟨g, k, none⟩ = false := fun k => by simp [World.frozen?, HC7.out]
  generalize ns[j] = m1 at e0 e1 e2 e3 e4 e5
  generalize (ns ++ [roomN])[j] = m2 at f0 f1 f2 f3 f4 f5
  clear hjn hjr
  have hjn : j < ns.length := by rw [HLen.out]; exact hj
  obtain ⟨T2, E2, hBT2⟩ := HAll.out (ns.set j nd) (fun n hn => by
    rcases List.mem_or_eq_of_mem_set hn with h | h
    · exact HOK.out n h
    · rw [h]; exact HND.out)
  have hl2 : (ns.set j nd).length = len := by rw [List.length_set]; exact HLen.out
  obtain ⟨W9, hW9⟩ : ∃ W9, W9 = setNd (setNd w7 g7 j nd) g j nd := ⟨_, rfl⟩
  have hB9 : Below w.heap.size w W9 := by
    rw [hW9]
    exact Beside.below (Beside.below HB8.out (setNd_beside w7 g7 j nd) (by omega) HB8.out.size) (setNd_beside _ g j nd) (by omega) (by rw [setNd_size]; exact HB8.out.size)
  have hN9 : NodesAt W9 g 0 (ns.set j nd ++ [roomN]) := by
    rw [hW9]
    have h9 := setNd_same nd (setNd_other (b := g7) (j := j) nd HR7.out (fun h => hgg' h)) (by rw [HLR.out]; omega : j < (ns ++ [roomN]).length)
    rw [List.set_append_left _ _ hjn] at h9
    exact h9
  have hO9 : NodesAt W9 g7 0 (ns.set j nd) := by
    rw [hW9]
    exact setNd_other nd (setNd_same nd HS7.out hjn) (fun h => hgg h)
  have HB9 : Hid _ := hB9
  have HN9 : Hid _ := hN9
  have HO9 : Hid _ := hO9
  have HW9 : Hid _ := hW9
  have HD2 : Hid (∀ w' c, Below w.heap.size w w' → NodesAt w' g 0 (ns.set j nd) → len ≤ c → c ≤ maxLen → Calls Tryd.prog 6 #[.slice (some ⟨g, 0, none⟩) len c] w' fun y w2 => y = .returned (.tuple #[.string ⟨T2.toArray⟩, .int .i64 E2]) ∧ Below w'.heap.size w' w2) :=
    fun w' c hb hn h1 h2 => by have h9 := hBT2.dev g 0 c w' (HG.out.below hb) hn (by omega) h2; rw [hl2] at h9; exact h9
  have HR8 : Hid (∀ w', Below w.heap.size w w' → NodesAt w' g7 0 (ns.set j nd) → Calls Tryd.prog 8 #[.slice (some ⟨g7, 0, none⟩) len cap7] w' fun y w2 => y = .returned (.tuple #[.string ⟨T2.toArray⟩, .int .i64 E2]) ∧ Below w'.heap.size w' w2) :=
    fun w' hb hn => by have h9 := hBT2.doc g7 0 cap7 w' (HG.out.below hb) hn (by omega) HCM7.out; rw [hl2] at h9; exact h9
  have HL2 : Hid (∀ w', NodesAt w' g7 0 (ns.set j nd) → Calls Tryd.prog 7 #[.slice (some ⟨g7, 0, none⟩) len cap7] w' fun y w2 => ∃ g cap2, y = .returned (.slice (some ⟨g, 0, none⟩) (len + 1) cap2) ∧ w2.ownsRow w'.heap.size 31 6 (.slice (some ⟨g, 0, none⟩) (len + 1) cap2) (len + 1) (flatN (ns.set j nd ++ [roomN])) ∧ Below w'.heap.size w' w2) :=
    fun w' hn => lent_any (some ⟨g7, 0, none⟩) len cap7 (fun h => by cases h) hbytes (ns.set j nd) hl2 w' (fun ad had => by cases had; exact hn.cells2) (flatN_one2 _)
  have hlr2 : (ns.set j nd ++ [roomN]).length = len + 1 := by rw [List.length_append, hl2]; rfl
  have HLR2 : Hid _ := hlr2
  have HAS2 : Hid (∀ w' c g2 c2, NodesAt w' g 0 (ns.set j nd ++ [roomN]) → NodesAt w' g2 0 (ns.set j nd ++ [roomN]) → Calls Tryd.prog 9 #[.slice (some ⟨g, 0, none⟩) (len + 1) c, .slice (some ⟨g2, 0, none⟩) (len + 1) c2] w' fun y w2 => y = .returned (.bool true) ∧ Below w'.heap.size w' w2) :=
    fun w' c g2 c2 h1 h2 => by
      have h9 := as_any g 0 c g2 0 c2 (ns.set j nd ++ [roomN]) w' h1 h2 (by rw [hlr2]; omega)
      rw [hlr2] at h9
      exact h9
  clear hjn hBT2 hl2 hB9 hN9 hO9 hW9 hlr2
  go_wp2_with fail
  show Calls Tryd.prog 6 _ (setNd (setNd w7 g7 j nd) g j nd) _
  rw [← HW9.out]
  refine (HD2.out _ cap2 HB9.out HN9.out.take' hcl HCM.out).mono ?_
  rintro y w10 ⟨rfl, hb10⟩
  have HB10 : Hid (Below w.heap.size w w10) := HB9.out.trans (hb10.mono HB9.out.size)
  have HN10 : Hid _ := HN9.out.below hb10
  have HO10 : Hid _ := HO9.out.below hb10
  clear hb10 a0 a1 a2 a3 a4 a5 e0 e1 e2 e3 e4 e5 f0 f1 f2 f3 f4 f5 fz fz7
  go_wp2_with fail
  refine (HR8.out _ HB10.out HO10.out).mono ?_
  rintro y w11 ⟨rfl, hb11⟩
  have HB11 : Hid (Below w.heap.size w w11) := HB10.out.trans (hb11.mono HB10.out.size)
  have HN11 : Hid _ := HN10.out.below hb11
  have HO11 : Hid _ := HO10.out.below hb11
  clear hb11
  go_wp2_with fail
  refine (HL2.out _ HO11.out).mono ?_
  rintro y w12 ⟨g12, cap12, rfl, ho12, hb12⟩
  have HB12 : Hid (Below w.heap.size w w12) := HB11.out.trans (hb12.mono HB11.out.size)
  have HN12 : Hid _ := HN11.out.below hb12
  have HQ12 : Hid _ := (row_nodes ho12 HLR2.out).1
  clear ho12 hb12
  go_wp2_with fail
  refine (HAS2.out _ cap2 g12 cap12 HN12.out HQ12.out).mono ?_
  rintro y w13 ⟨rfl, hb13⟩
  have HB13 : Hid (Below w.heap.size w w13) := HB12.out.trans (hb13.mono HB12.out.size)
  clear hb13
  go_wp2_with fail
  go_ret
  exact ⟨rfl, HB13.out⟩
end Go.Proofs.YtjngjanheoeojaaDoor
