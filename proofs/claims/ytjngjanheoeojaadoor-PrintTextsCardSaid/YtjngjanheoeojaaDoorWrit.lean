import Derived.Test.YtjngjanheoeojaaDoorBlk
namespace Go.Proofs.YtjngjanheoeojaaDoor
set_option linter.unusedVariables false
set_option linter.unusedSimpArgs false
open Go.RowKit
theorem alloc4_heap (w : World) (a b c d : Obj) : ((((w.alloc a).alloc b).alloc c).alloc d).heap[w.heap.size]? = some a ∧ ((((w.alloc a).alloc b).alloc c).alloc d).heap[w.heap.size + 1]? = some b ∧ ((((w.alloc a).alloc b).alloc c).alloc d).heap[w.heap.size + 1 + 1]? = some c ∧ ((((w.alloc a).alloc b).alloc c).alloc d).heap[w.heap.size + 1 + 1 + 1]? = some d := by
  have z : ∀ (w : World) (o : Obj), (w.alloc o).heap.size = w.heap.size + 1 := fun w o => by simp
  refine ⟨?_, ?_, ?_, ?_⟩
  · rw [Lib.alloc_old _ _ _ (by simp; omega), Lib.alloc_old _ _ _ (by simp; omega), Lib.alloc_old _ _ _ (by simp), heap_alloc_new]
  · rw [Lib.alloc_old _ _ _ (by simp), Lib.alloc_old _ _ _ (by simp)]
    have := heap_alloc_new (w.alloc a) b
    rwa [z] at this
  · rw [Lib.alloc_old _ _ _ (by simp)]
    have := heap_alloc_new ((w.alloc a).alloc b) c
    rwa [z, z] at this
  · have := heap_alloc_new (((w.alloc a).alloc b).alloc c) d
    rwa [z, z, z] at this
set_option maxHeartbeats 2000000 in
theorem expressions_any (bn bt : Nat) (w : World) (hbt : bt < w.heap.size) :
    Calls Tryd.prog 36 #[.func (.func 21) #[] #[.pointer (some ⟨bn, 0, none⟩)], .func (.func 19) #[] #[.pointer (some ⟨bt, 0, none⟩)]] w fun y w' => ∃ e, y = .returned (.func (.func 57) #[] #[.pointer (some ⟨e, 0, none⟩), .pointer (some ⟨e + 3, 0, none⟩), .pointer (some ⟨e + 1, 0, none⟩)]) ∧ ExEnv e bn bt w' ∧ Below w.heap.size w w' := by
  have hsf := fun (a : Addr) (c : Array Value) (w : World) => run_store Tryd.prog w a (.func (.func 54) #[] c) .plain rfl
  have hsg := fun (a : Addr) (c : Array Value) (w : World) => run_store Tryd.prog w a (.func (.func 57) #[] c) .plain rfl
  go_enter Tryd.func36, Tryd.ntmps36
  go_wp2_with fail
  clear hsf hsg
  go_ret
  obtain ⟨h0, h1, h2, h3⟩ := alloc4_heap w (.cells #[.func (.func 21) #[] #[.pointer (some ⟨bn, 0, none⟩)]] 59) (.cells #[.func (.func 19) #[] #[.pointer (some ⟨bt, 0, none⟩)]] 58) (.cells #[.func (.func 57) #[] #[.pointer (some ⟨w.heap.size, 0, none⟩), .pointer (some ⟨w.heap.size + 1 + 1 + 1, 0, none⟩), .pointer (some ⟨w.heap.size + 1, 0, none⟩)]] 81) (.cells #[.func (.func 54) #[] #[.pointer (some ⟨w.heap.size + 1, 0, none⟩), .pointer (some ⟨w.heap.size + 1 + 1, 0, none⟩)]] 84)
  exact ⟨w.heap.size, rfl, ⟨h0, h1, h2, h3, hbt⟩, ((((Below.refl _ _).alloc (Nat.le_refl _) _).alloc (by simp) _).alloc (by simp; omega) _).alloc (by simp; omega) _⟩
theorem alloc3_heap (w : World) (a b c : Obj) : (((w.alloc a).alloc b).alloc c).heap[w.heap.size]? = some a ∧ (((w.alloc a).alloc b).alloc c).heap[w.heap.size + 1]? = some b ∧ (((w.alloc a).alloc b).alloc c).heap[w.heap.size + 1 + 1]? = some c := by
  have z : ∀ (w : World) (o : Obj), (w.alloc o).heap.size = w.heap.size + 1 := fun w o => by simp
  refine ⟨?_, ?_, ?_⟩
  · rw [Lib.alloc_old _ _ _ (by simp; omega), Lib.alloc_old _ _ _ (by simp), heap_alloc_new]
  · rw [Lib.alloc_old _ _ _ (by simp)]
    have := heap_alloc_new (w.alloc a) b
    rwa [z] at this
  · have := heap_alloc_new ((w.alloc a).alloc b) c
    rwa [z, z] at this
set_option maxHeartbeats 2000000 in
theorem lines_any (bn bt : Nat) (w : World) (hmid : bn < bt) (hbt : bt < w.heap.size) :
    Calls Tryd.prog 23 #[.func (.func 21) #[] #[.pointer (some ⟨bn, 0, none⟩)], .func (.func 22) #[] #[.pointer (some ⟨bn, 0, none⟩)], .func (.func 19) #[] #[.pointer (some ⟨bt, 0, none⟩)]] w fun y w' => ∃ e L x v ln bl, y = .returned (.func (.func 40) #[] #[.pointer (some ⟨L, 0, none⟩), .pointer (some ⟨L + 2, 0, none⟩), .pointer (some ⟨v, 0, none⟩), .pointer (some ⟨bl, 0, none⟩)]) ∧ LnEnv e L x v ln bl bn bt w' ∧ Below w.heap.size w w' := by
  have hsf := fun (a : Addr) (c : Array Value) (w : World) => run_store Tryd.prog w a (.func (.func 37) #[] c) .plain rfl
  have hsg := fun (a : Addr) (c : Array Value) (w : World) => run_store Tryd.prog w a (.func (.func 38) #[] c) .plain rfl
  have hsh := fun (a : Addr) (c : Array Value) (w : World) => run_store Tryd.prog w a (.func (.func 40) #[] c) .plain rfl
  have hsi := fun (a : Addr) (c : Array Value) (w : World) => run_store Tryd.prog w a (.func (.func 57) #[] c) .plain rfl
  obtain ⟨W, hW⟩ : ∃ W, W = (((w.alloc (.cells #[.func (.func 21) #[] #[.pointer (some ⟨bn, 0, none⟩)]] 59)).alloc (.cells #[.func (.func 22) #[] #[.pointer (some ⟨bn, 0, none⟩)]] 48)).alloc (.cells #[.func (.func 19) #[] #[.pointer (some ⟨bt, 0, none⟩)]] 58)) := ⟨_, rfl⟩
  obtain ⟨h0, h1, h2⟩ := alloc3_heap w (.cells #[.func (.func 21) #[] #[.pointer (some ⟨bn, 0, none⟩)]] 59) (.cells #[.func (.func 22) #[] #[.pointer (some ⟨bn, 0, none⟩)]] 48) (.cells #[.func (.func 19) #[] #[.pointer (some ⟨bt, 0, none⟩)]] 58)
  rw [← hW] at h0 h1 h2
  have hB : Below w.heap.size w W := by rw [hW]; exact (((Below.refl _ _).alloc (Nat.le_refl _) _).alloc (by simp) _).alloc (by simp; omega) _
  have hz := hB.size
  have hzW := (Array.getElem?_eq_some_iff.1 h2).1
  have H0 : Hid _ := h0
  have H1 : Hid _ := h1
  have H2 : Hid _ := h2
  have HB : Hid _ := hB
  have HW : Hid _ := hW
  clear h0 h1 h2 hB hW
  go_enter Tryd.func23, Tryd.ntmps23
  go_wp2_with fail
  rw [← HW.out]
  refine (expressions_any bn bt W (by omega)).mono ?_
  rintro y w1 ⟨e, rfl, hE, hb1⟩
  have hz1 := hb1.size
  have HE : Hid _ := hE
  have G0 : Hid (w1.heap[w.heap.size]? = _) := (hb1.block _ (by omega)).trans H0.out
  have G1 : Hid (w1.heap[w.heap.size + 1]? = _) := (hb1.block _ (by omega)).trans H1.out
  have G2 : Hid (w1.heap[w.heap.size + 1 + 1]? = _) := (hb1.block _ (by omega)).trans H2.out
  have HB1 : Hid (Below w.heap.size w w1) := HB.out.trans (hb1.mono hz)
  clear hE hb1
  go_wp2_with fail
  clear hsf hsg hsh hsi
  go_ret
  obtain ⟨k0, k1, k2, k3⟩ := alloc4_heap w1 (.cells #[.func (.func 57) #[] #[.pointer (some ⟨e, 0, none⟩), .pointer (some ⟨e + 3, 0, none⟩), .pointer (some ⟨e + 1, 0, none⟩)]] 81) (.cells #[.func (.func 37) #[] #[.pointer (some ⟨w1.heap.size, 0, none⟩)]] 1)
    (.cells #[.func (.func 40) #[] #[.pointer (some ⟨w.heap.size, 0, none⟩), .pointer (some ⟨w.heap.size + 1 + 1, 0, none⟩), .pointer (some ⟨w1.heap.size + 1, 0, none⟩), .pointer (some ⟨w1.heap.size + 1 + 1 + 1, 0, none⟩)]] 1)
    (.cells #[.func (.func 38) #[] #[.pointer (some ⟨w.heap.size + 1, 0, none⟩), .pointer (some ⟨w.heap.size + 1 + 1, 0, none⟩), .pointer (some ⟨w.heap.size, 0, none⟩), .pointer (some ⟨w1.heap.size + 1 + 1, 0, none⟩)]] 84)
  obtain ⟨W4, hW4⟩ : ∃ W, W = ((((w1.alloc (.cells #[.func (.func 57) #[] #[.pointer (some ⟨e, 0, none⟩), .pointer (some ⟨e + 3, 0, none⟩), .pointer (some ⟨e + 1, 0, none⟩)]] 81)).alloc (.cells #[.func (.func 37) #[] #[.pointer (some ⟨w1.heap.size, 0, none⟩)]] 1)).alloc
    (.cells #[.func (.func 40) #[] #[.pointer (some ⟨w.heap.size, 0, none⟩), .pointer (some ⟨w.heap.size + 1 + 1, 0, none⟩), .pointer (some ⟨w1.heap.size + 1, 0, none⟩), .pointer (some ⟨w1.heap.size + 1 + 1 + 1, 0, none⟩)]] 1)).alloc
    (.cells #[.func (.func 38) #[] #[.pointer (some ⟨w.heap.size + 1, 0, none⟩), .pointer (some ⟨w.heap.size + 1 + 1, 0, none⟩), .pointer (some ⟨w.heap.size, 0, none⟩), .pointer (some ⟨w1.heap.size + 1 + 1, 0, none⟩)]] 84)) := ⟨_, rfl⟩
  have hB4 : Below w1.heap.size w1 W4 := by rw [hW4]; exact ((((Below.refl _ _).alloc (Nat.le_refl _) _).alloc (by simp) _).alloc (by simp; omega) _).alloc (by simp; omega) _
  rw [← hW4] at k0 k1 k2 k3 ⊢
  exact ⟨e, w.heap.size, w1.heap.size, w1.heap.size + 1, w1.heap.size + 1 + 1, w1.heap.size + 1 + 1 + 1, rfl,
    ⟨HE.out.kept (Kp.of hB4 (by omega)) hmid, (hB4.block _ (by omega)).trans G0.out, (hB4.block _ (by omega)).trans G1.out, (hB4.block _ (by omega)).trans G2.out, k0, k1, k2, k3, by omega⟩, HB1.out.trans (hB4.mono (by omega))⟩
theorem ends_top {P : Parts} (hP : ∀ s ∈ P, St 0 s.1 s.2) : Ends (2 * ((0 : Nat) : Int) + 1) (nodesOf P) := by
  intro n t h
  cases P with
  | nil => cases h
  | cons s P =>
    obtain ⟨l, M⟩ := s
    obtain ⟨m, l', hl, hm⟩ := (hP (l, M) List.mem_cons_self).head
    simp only at hl
    rw [nodesOf_cons, hl, List.cons_append] at h
    injection h with h1 _
    rw [← h1, hm]; omega
set_option maxHeartbeats 2000000 in
theorem written_any (b o cap : Nat) (P : Parts) (hP : ∀ p ∈ P, St 0 p.1 p.2) (hPL : ∀ (e L x v ln bl bn bt b : Nat), ∀ p ∈ P, LineC e L x v ln bl bn bt b 0 p.1 p.2) (hlen : (flatL (linesOf P)).length ≤ 700000) (w : World) (hN : NodesAt w b o (nodesOf P)) (hcap : (nodesOf P).length ≤ cap) (hO : OpsIs w)
    (hT : Lib.TabIs Tryd.prog w "internal/strconv.uint64pow10" .u64 Lib.pow10Tab) :
    Calls Tryd.prog 12 #[.slice (some ⟨b, o, none⟩) (nodesOf P).length cap] w fun y w' => y = .returned (.string ⟨(flatL (linesOf P)).toArray⟩) ∧ Below w.heap.size w w' := by
  obtain ⟨W, hW⟩ : ∃ W, W = ((w.alloc (.cells #[.slice (some ⟨b, o, none⟩) (nodesOf P).length cap] 22)).alloc (.cells #[.pointer none, .slice none 0 0] 53)) := ⟨_, rfl⟩
  have hB : Below w.heap.size w W := by rw [hW]; exact ((Below.refl _ _).alloc (Nat.le_refl _) _).alloc (by simp) _
  have hz1 := hN.lt
  have hbld : Lib.IsBuilderF 53 5 (w.heap.size + 1) (w.heap.size + 1) (Lib.byteCells []) W := by
    have h9 := Lib.IsBuilderF.of (Lib.fresh_isBuilder 53 5 (w.alloc (.cells #[.slice (some ⟨b, o, none⟩) (nodesOf P).length cap] 22)))
    have z : (w.alloc (.cells #[.slice (some ⟨b, o, none⟩) (nodesOf P).length cap] 22)).heap.size = w.heap.size + 1 := by simp
    rw [z, ← hW] at h9
    exact h9
  have HPR : Hid (Pr w.heap.size (w.heap.size + 1) b (nodesOf P) [] W) := ⟨⟨o, cap, by rw [hW]; exact heap_alloc2_old _ _ _, hcap, hN.below hB⟩, hbld, hz1, by omega⟩
  have HG : Hid (Gl w.heap.size W) := ⟨⟨by have := hO.lt; have := hB.size; omega, fun k hk => (hB.cell (p := ⟨1, k * 2, none⟩) hO.lt).trans (hO.sign k hk), fun k hk => (hB.cell (p := ⟨1, k * 2 + 1, none⟩) hO.lt).trans (hO.level k hk)⟩, (Lib.tabBelow_of_tabIs hT).on hB, hO.lt⟩
  have HB : Hid _ := hB
  have HW : Hid _ := hW
  have HP : Hid _ := hP
  have HPL : Hid _ := hPL
  have HL : Hid _ := hlen
  clear hP hPL hlen hN hcap hO hT hB hW hbld
  go_enter Tryd.func12, Tryd.ntmps12
  go_wp2_with fail
  rw [← HW.out]
  refine (lines_any w.heap.size (w.heap.size + 1) W (by omega) (HPR.out.hi)).mono ?_
  rintro y w1 ⟨e, L, x, v, ln, bl, rfl, hE, hb1⟩
  have HS1 : Hid (Ls W e L x v ln bl w.heap.size (w.heap.size + 1) b (nodesOf P) [] w1) := ⟨Kp.of hb1 (by have := HPR.out.hi; omega), HPR.out.below hb1, hE, HG.out.low (hb1.mono (by have := HPR.out.hi; omega))⟩
  clear hE hb1
  go_wp2_with fail
  go_loopw [] (fun wr => ∃ P1 P2 : Parts, Hid (P = P1 ++ P2) ∧ Hid (Ls W e L x v ln bl w.heap.size (w.heap.size + 1) b (nodesOf P2) (flatL (linesOf P1)) wr)) (fun wr => nsLen w.heap.size wr)
  case atStart => exact ⟨[], P, rfl, HS1⟩
  case round =>
    obtain ⟨P1, P2, HPP, HS⟩ := hrel
    obtain ⟨o', cap', h1, _, _⟩ := HS.out.pr.ns
    have c1 : wr.cell? ⟨w.heap.size, 0, none⟩ = some (.slice (some ⟨b, o', none⟩) (nodesOf P2).length cap') := by rw [Lib.cell_of_heap h1]; rfl
    clear h1
    cases P2 with
    | nil =>
      have hl0 : (nodesOf []).length = 0 := rfl
      rw [hl0] at c1
      have HP1 : Hid (P = P1) := by unfold Hid; rw [HPP.out, List.append_nil]
      go_wp2_with fail
      refine (Tryd.Builder_String_any_k (w.heap.size + 1) (w.heap.size + 1) (flatL (linesOf P1)) wr HS.out.pr.bld (by have := HS.out.pr.hi; omega)).mono ?_
      rintro y w2 ⟨rfl, _, hb2, _⟩
      have HB2 : Hid (Below w.heap.size w w2) := HB.out.trans (HS.out.kp.low.trans (hb2.mono (by omega)))
      clear hb2
      go_wp2_with fail
      go_ret
      exact ⟨by rw [HP1.out]; rfl, HB2.out⟩
    | cons s P3 =>
      obtain ⟨sl, sM⟩ := s
      have hmem : (sl, sM) ∈ P := by rw [HPP.out]; simp
      have HLC : Hid (LineC e L x v ln bl w.heap.size (w.heap.size + 1) b 0 sl sM) := HPL.out _ _ _ _ _ _ _ _ _ _ hmem
      obtain ⟨m, l', hl, hm⟩ := (HP.out _ hmem).head
      have HSL : Hid (0 < sl.length) := by unfold Hid; simp only at hl; rw [hl]; simp
      have hpos : 0 < ((nodesOf ((sl, sM) :: P3)).length : Int) := by
        rw [nodesOf_cons, List.length_append]; have := HSL.out; omega
      have HE5 : Hid (Ends (2 * ((0 : Nat) : Int) + 1) (nodesOf P3)) := ends_top (fun s hs => HP.out s (by rw [HPP.out]; simp [hs]))
      have HL5 : Hid ((flatL (linesOf P1)).length + (flatL sM).length ≤ 800000) := by
        unfold Hid
        have h9 := HL.out
        rw [HPP.out, linesOf_app, linesOf_cons, flat_app, flat_app] at h9
        simp only [List.length_append] at h9
        omega
      have HLEN : Hid (nsLen w.heap.size wr = (nodesOf ((sl, sM) :: P3)).length) := HS.out.pr.nsLen
      clear hmem hl hm
      go_wp2_with fail
      refine (HLC.out W (nodesOf P3) (flatL (linesOf P1)) wr HS.out HE5.out HL5.out).mono ?_
      rintro y w2 ⟨rfl, hs2, hk2⟩
      have HS2 : Hid _ := hs2
      clear hs2 hk2
      go_wp2_with fail
      go_roundw
      case rel =>
        refine ⟨P1 ++ [(sl, sM)], P3, ?_, ?_⟩
        · unfold Hid; rw [HPP.out]; simp
        · unfold Hid
          rw [linesOf_snoc, flat_app]
          exact HS2.out
      case measure =>
        rw [HS2.out.pr.nsLen, HLEN.out, nodesOf_cons]
        have h9 := HSL.out
        simp only [List.length_append]
        omega
end Go.Proofs.YtjngjanheoeojaaDoor
