import Derived.Test.YtaocomjhepgabaaKDb
import Derived.Test.YtaocomjhepgabaaKWto
set_option linter.unusedVariables false
set_option linter.unusedSimpArgs false
set_option linter.unnecessarySimpa false
/- Dc -/
namespace Go.Proofs.Ytaocomjhepgabaa
open Go.RowKit Go.Maps
/-- What flat may turn. -/
structure GO (w : World) (o : Value) (w' : World) (o' : Value) : Prop where
  gr : w.grownBy w' o.ownBlock
  at_ : o'.ownBlock = o.ownBlock ∨ ∃ b, o'.ownBlock = some b ∧ w.heap.size ≤ b
theorem GO.refl (w : World) (o : Value) : GO w o w o := ⟨World.grownBy.refl _ _, .inl rfl⟩
theorem GO.trans {w w1 w2 : World} {o o1 o2 : Value} (h : GO w o w1 o1) (k : GO w1 o1 w2 o2) : GO w o w2 o2 := by
  have hs := h.gr.size
  refine ⟨⟨k.gr.os.trans h.gr.os, k.gr.tape.trans h.gr.tape, k.gr.output.trans h.gr.output, Nat.le_trans hs k.gr.size, fun b hb h3 => ?_⟩, ?_⟩
  · refine (k.gr.block b (by omega) ?_).trans (h.gr.block b hb h3)
    rcases h.at_ with e | ⟨g, e, hg⟩
    · rw [e]; exact h3
    · rw [e]; intro e2; injection e2 with e2; omega
  · rcases k.at_ with e | ⟨g, e, hg⟩
    · rcases h.at_ with e2 | ⟨g, e2, hg⟩
      · exact .inl (e.trans e2)
      · exact .inr ⟨g, e.trans e2, hg⟩
    · exact .inr ⟨g, e, by omega⟩
theorem GO.off {w w1 : World} {o o1 : Value} (h : GO w o w1 o1) {K : Nat → Prop} (hK : ∀ b, K b → b < w.heap.size) (ho : ∀ b, o.ownBlock = some b → ¬ K b) : ∀ b, o1.ownBlock = some b → ¬ K b := by
  intro b hb hk
  rcases h.at_ with e | ⟨g, e, hg⟩
  · exact ho b (by rw [← e]; exact hb) hk
  · rw [e] at hb; injection hb with hb; have := hK b hk; omega
theorem GO.kept {w w1 : World} {o o1 : Value} (h : GO w o w1 o1) {K : Nat → Prop} (hK : ∀ b, K b → b < w.heap.size) (ho : ∀ b, o.ownBlock = some b → ¬ K b) : ∀ b, K b → w1.heap[b]? = w.heap[b]? :=
  fun b hb => h.gr.block b (hK b hb) (fun e => ho b e.symm hb)
theorem GO.app {w w1 : World} {o : Value} {blk : Obj} {g n c : Nat} (hg : (w.alloc blk).grownBy w1 o.ownBlock) (hat : o.ownBlock = some g ∨ g = w.heap.size + 1) : GO w o w1 (.slice (some ⟨g, 0, none⟩) n c) := by
  have hs : w.heap.size + 1 ≤ w1.heap.size := by have := hg.size; simpa using this
  refine ⟨⟨hg.os, hg.tape, hg.output, by omega, fun b hb h3 => (hg.block b (by simp; omega) h3).trans (Below.heap_alloc _ _ _ hb)⟩, ?_⟩
  rcases hat with e | e
  · left; rw [e]; rfl
  · exact .inr ⟨g, rfl, by omega⟩
def FlatAt (p : Value) (d : Nat) (L : List (Int × Nat × Bool)) (B2 : Nat) (wr : World) (out : Value) (O : List (Int × Int × Bool)) : Prop :=
  Calls Try.prog 22 #[p, .int .i64 (d : Nat), out] wr fun e w' => ∃ out', e = .returned out' ∧ w'.ownsRow B2 35 3 out' (O.length + L.length) (fl (O ++ els L)) ∧ GO wr out w' out'
def FI (ps : List Pc) (i : Nat) : List (Int × Nat × Bool) := ((ps.take i).map (fun p => p.2.2.2)).flatten
theorem FI_zero (ps : List Pc) : FI ps 0 = [] := by unfold FI; simp
theorem FI_succ {ps : List Pc} {i : Nat} {p : Pc} (h : ps[i]? = some p) : FI ps (i + 1) = FI ps i ++ p.2.2.2 := by
  unfold FI
  rw [List.take_add_one, h]; simp
theorem FI_all (ps : List Pc) : FI ps ps.length = (ps.map (fun p => p.2.2.2)).flatten := by unfold FI; simp
theorem FI_le {ps : List Pc} {i : Nat} (h : i ≤ ps.length) : (FI ps i).length ≤ (ps.map (fun p => p.2.2.2)).flatten.length := by
  have e : (ps.map (fun p => p.2.2.2)).flatten = FI ps i ++ ((ps.drop i).map (fun p => p.2.2.2)).flatten := by
    unfold FI; rw [← List.flatten_append, ← List.map_append, List.take_append_drop]
  rw [e, List.length_append]; omega
set_option maxRecDepth 100000 in
set_option maxHeartbeats 8000000 in
theorem flat_core {w : World} {B B2 : Nat} {K : Nat → Prop} {v out : Value} {d : Nat} {ps : List Pc} {O : List (Int × Int × Bool)} (hv : w.ownsRow B 77 3 v ps.length (pcs ps)) (hvK : ∀ b, v.ownBlock = some b → K b) (hK : ∀ b, K b → b < w.heap.size)
    (hleaf : ∀ p ∈ ps, p.2.1 = false → p.2.2.2 = [(p.1, d, false)])
    (hrec : ∀ p ∈ ps, p.2.1 = true → ∃ L', p.2.2.2 = (p.1, d + 1, true) :: L' ∧ ∀ wr o' O', (∀ b, K b → wr.heap[b]? = w.heap[b]?) → wr.ownsRow B2 35 3 o' (List.length O') (fl O') → B2 ≤ wr.heap.size → (∀ b, o'.ownBlock = some b → ¬ K b) → O'.length + L'.length ≤ 1000000000000 → FlatAt p.2.2.1 (d + 1) L' B2 wr o' O')
    (ho : w.ownsRow B2 35 3 out O.length (fl O)) (hB2 : B2 ≤ w.heap.size) (hoK : ∀ b, out.ownBlock = some b → ¬ K b) (hd : d ≤ 1000000000000) (hbd : O.length + (ps.map (fun p => p.2.2.2)).flatten.length ≤ 1000000000000) (hpl : ps.length ≤ 1000000000000) :
    FlatAt v d (ps.map (fun p => p.2.2.2)).flatten B2 w out O := by
  unfold FlatAt
  obtain ⟨ao, cap, rfl⟩ := own_form hv
  have HV : Hid (w.ownsRow B 77 3 (.slice ao ps.length cap) ps.length (pcs ps)) := hv
  have HVK : Hid (∀ b, (Value.slice ao ps.length cap).ownBlock = some b → K b) := hvK
  have HK : Hid (∀ b, K b → b < w.heap.size) := hK
  have HR : Hid _ := And.intro hleaf hrec
  have HO : Hid (w.ownsRow B2 35 3 out O.length (fl O)) := ho
  have HOK : Hid (∀ b, out.ownBlock = some b → ¬ K b) := hoK
  have HB : Hid (B2 ≤ w.heap.size ∧ d ≤ 1000000000000 ∧ O.length + (ps.map (fun p => p.2.2.2)).flatten.length ≤ 1000000000000) := ⟨hB2, hd, hbd⟩
  have hdw : IntKind.i64.wrap ((d : Int) + 1) = ((d + 1 : Nat) : Int) := wrap_nat (by omega) (by omega)
  obtain ⟨d1, hd1⟩ : ∃ d1, d1 = d + 1 := ⟨_, rfl⟩
  rw [← hd1] at hdw
  have HD1 : Hid (d1 = d + 1) := hd1
  obtain ⟨i35, hi35, hz0, hz1, hz2⟩ := info_of Try.info35
  obtain ⟨o0, c0, rfl⟩ := own_form ho
  obtain ⟨LL, hLL⟩ : ∃ LL, LL = (ps.map (fun p => p.2.2.2)).flatten := ⟨_, rfl⟩
  rw [← hLL] at HB ⊢
  have HLL : Hid (LL = (ps.map (fun p => p.2.2.2)).flatten) := hLL
  clear hv hvK hK hleaf hrec ho hB2 hoK hd hbd hd1 hLL
  go_enter Try.func22, Try.ntmps22
  go_wp2_with fail
  go_loopw [2, 7] (fun s i wr => ∃ (k N0 : Nat) (oo : Option Addr) (oc : Nat), k ≤ ps.length ∧ s = .slice oo N0 oc ∧ i = .int .i64 (k : Nat) ∧ Hid (GO w (.slice o0 O.length c0) wr (.slice oo N0 oc) ∧ wr.ownsRow B2 35 3 (.slice oo N0 oc) N0 (fl (O ++ els (FI ps k))) ∧ N0 = O.length + (FI ps k).length)) (fun _ i _ => ((ps.length : Int) - intOf i).toNat)
  case atStart => exact ⟨0, O.length, o0, c0, Nat.zero_le _, rfl, rfl, GO.refl _ _, by rw [FI_zero]; simpa [els] using HO.out, by rw [FI_zero]; rfl⟩
  case round =>
    obtain ⟨k, N0, oo, oc, hk, rfl, rfl, HJ⟩ := hrel
    by_cases hkl : k < ps.length
    · have hkl' : (k : Int) < (ps.length : Int) := cast_lt' hkl
      have hkw : IntKind.i64.wrap ((k : Int) + 1) = ((k + 1 : Nat) : Int) := kw_bnd (Nat.lt_of_lt_of_le hkl hpl)
      obtain ⟨p, hp⟩ : ∃ p, ps[k]? = some p := ⟨ps[k], List.getElem?_eq_getElem hkl⟩
      obtain ⟨ga, hao⟩ : ∃ g, ao = some ⟨g, 0, none⟩ := by
        obtain ⟨g, c, e, _⟩ := HV.out.form (by omega)
        injection e with e1
        exact ⟨g, e1⟩
      subst hao
      have hga : K ga := HVK.out ga rfl
      have hgl := HK.out ga hga
      have hkp := HJ.out.1.kept HK.out HOK.out
      have hgw : ga < wr.heap.size := Nat.lt_of_lt_of_le hgl HJ.out.1.gr.size
      have hrow := own_same HV.out (w' := wr) (fun b hb => hkp b (HVK.out b hb))
      obtain ⟨q0, q1, q2⟩ := pcs_get ps k p hp
      have c0 := hrow.cells (g := ga) rfl _ _ q0
      have c1 := hrow.cells (g := ga) rfl _ _ q1
      have c2 := hrow.cells (g := ga) rfl _ _ q2
      rw [add_off, Nat.zero_add] at c0 c1 c2
      have hoff := HJ.out.1.off HK.out HOK.out
      have hmem : p ∈ ps := List.mem_of_getElem? hp
      have hle1 := FI_le (ps := ps) (i := k + 1) (by omega)
      rw [FI_succ hp] at hle1
      have hbd := HB.out.2.2
      rw [HLL.out] at hbd
      have hln : N0 + p.2.2.2.length ≤ 1000000000000 := by rw [List.length_append] at hle1; have := HJ.out.2.2; omega
      have HLN : Hid (N0 + p.2.2.2.length ≤ 1000000000000) := hln
      have HP : Hid (ps[k]? = some p ∧ p ∈ ps) := ⟨hp, hmem⟩
      have HGA : Hid (K ga) := hga
      have HOF : Hid (∀ b, (Value.slice oo N0 oc).ownBlock = some b → ¬ K b) := hoff
      have HKP : Hid (∀ b, K b → wr.heap[b]? = w.heap[b]?) := hkp
      have hB2 : B2 ≤ wr.heap.size := Nat.le_trans HB.out.1 HJ.out.1.gr.size
      obtain ⟨x, hd, z, sub⟩ := p
      simp only at c0 c1 c2 HLN HP
      have HN63 : Hid (N0 + 1 ≤ maxLen ∧ (N0 + 1) * 24 ≤ 140737488355328) := by
        have hs : 1 ≤ sub.length := by
          cases hd with
          | false => rw [show sub = [(x, d, false)] from HR.out.1 _ hmem rfl]; simp
          | true => obtain ⟨L', e, _⟩ := HR.out.2 _ hmem rfl; rw [show sub = (x, d + 1, true) :: L' from e]; simp
        have := HLN.out
        unfold Hid maxLen
        omega
      clear q0 q1 q2 hrow hkp hoff hmem hle1 hbd hln hp hga
      cases hd with
      | false =>
        have HS : Hid (sub = [(x, d, false)]) := HR.out.1 _ HP.out.2 rfl
        go_wp2_with (at_builtin; refine wpList_append_lies _ rfl _ _ 23 rfl B2 35 i35 _ 3 24 Try.underlying23 hi35 hz0 hz1 hz2 rfl (by decide) _ N0 (fl (O ++ els (FI ps k))) (by rfl) (World.ownsRow.alloc HJ.out.2.1 _) ⟨wr.heap.size, 0, none⟩ 1 1 [.int .i64 x, .int .i64 (d : Nat), .bool false] (by rfl) rfl (by intro j u hj; exact news_row (heap_at _ _ _ (by simp)) j u hj) (by simp [Value.oneCell']) (by decide) HN63.out.1 HN63.out.2 (by simp; omega) (wr.heap.size + 1) (by simp) ?_; intro gg capg w4 hown4 hgrow hat4 hlt4; have HO4 : Hid _ := hown4; have HG4 : Hid (GO wr (.slice oo N0 oc) w4 (.slice (some ⟨gg, 0, none⟩) (N0 + 1) capg)) := GO.app hgrow hat4; clear hown4 hgrow hat4)
        go_roundw
        case rel =>
          refine ⟨k + 1, N0 + 1, some ⟨gg, 0, none⟩, capg, hkl, rfl, rfl, HJ.out.1.trans HG4.out, ?_, ?_⟩
          · rw [FI_succ HP.out.1, HS.out, els_app, ← List.append_assoc, fl_app]
            exact HO4.out
          · rw [FI_succ HP.out.1, HS.out, List.length_append, HJ.out.2.2]; rfl
        case measure => exact meas hkl
      | true =>
        obtain ⟨L', hsub, hcall⟩ := HR.out.2 _ HP.out.2 rfl
        have HS : Hid (sub = (x, d1, true) :: L') := by unfold Hid; rw [HD1.out]; exact hsub
        have HC : Hid (∀ wr o' O', (∀ b, K b → wr.heap[b]? = w.heap[b]?) → wr.ownsRow B2 35 3 o' (List.length O') (fl O') → B2 ≤ wr.heap.size → (∀ b, o'.ownBlock = some b → ¬ K b) → O'.length + L'.length ≤ 1000000000000 → FlatAt z d1 L' B2 wr o' O') := by unfold Hid; rw [HD1.out]; exact hcall
        clear hsub hcall
        go_wp2_with (first
          | (at_builtin; refine wpList_append_lies _ rfl _ _ 23 rfl B2 35 i35 _ 3 24 Try.underlying23 hi35 hz0 hz1 hz2 rfl (by decide) _ N0 (fl (O ++ els (FI ps k))) (by rfl) (World.ownsRow.alloc HJ.out.2.1 _) ⟨wr.heap.size, 0, none⟩ 1 1 [.int .i64 x, .int .i64 (d1 : Nat), .bool true] (by rfl) rfl (by intro j u hj; exact news_row (heap_at _ _ _ (by simp)) j u hj) (by simp [Value.oneCell']) (by decide) HN63.out.1 HN63.out.2 (by simp; omega) (wr.heap.size + 1) (by simp) ?_; intro gg capg w4 hown4 hgrow hat4 hlt4; have HO4 : Hid _ := hown4; have HG4 : Hid (GO wr (.slice oo N0 oc) w4 (.slice (some ⟨gg, 0, none⟩) (N0 + 1) capg)) := GO.app hgrow hat4; have hgw4 : ga < w4.heap.size := Nat.lt_of_lt_of_le hgw HG4.out.gr.size; have c2' : w4.cell? ⟨ga, k * 3 + 2, none⟩ = some z := (World.cell?_of_block (a := ⟨ga, k * 3 + 2, none⟩) (HG4.out.gr.block ga hgw (fun e => HOF.out ga e.symm HGA.out))).trans c2; clear c0 c1 c2 hown4 hgrow hat4)
          | fail)
        have hsz := HJ.out.1.gr.size
        have hKr : ∀ b, K b → b < wr.heap.size := fun b hb => Nat.lt_of_lt_of_le (HK.out b hb) hsz
        have hlenO : (O ++ els (FI ps k) ++ [(x, (d1 : Int), true)]).length = N0 + 1 := by rw [List.length_append, List.length_append, els_len, HJ.out.2.2]; rfl
        have hlenL : N0 + 1 + L'.length ≤ 1000000000000 := by have h1 := HLN.out; rw [HS.out, List.length_cons] at h1; omega
        have hcall := HC.out w4 (.slice (some ⟨gg, 0, none⟩) (N0 + 1) capg) (O ++ els (FI ps k) ++ [(x, (d1 : Int), true)]) (fun b hb => (HG4.out.kept hKr HOF.out b hb).trans (HKP.out b hb)) (by rw [fl_app, hlenO]; exact HO4.out) (Nat.le_trans hB2 HG4.out.gr.size) (HG4.out.off hKr HOF.out) (by rw [hlenO]; exact hlenL)
        unfold FlatAt at hcall
        rw [hlenO] at hcall
        refine Calls.mono hcall ?_
        clear hcall hlenO hlenL hKr hsz
        rintro e w5 ⟨o5, rfl, ho5, hg5⟩
        obtain ⟨o5, c5, rfl⟩ := own_form ho5
        have HO5 : Hid _ := ho5
        have HG5 : Hid _ := hg5
        clear ho5 hg5 c2'
        go_wp2_with fail
        go_roundw
        case rel =>
          refine ⟨k + 1, _, _, _, hkl, rfl, rfl, (HJ.out.1.trans HG4.out).trans HG5.out, ?_, ?_⟩
          · rw [FI_succ HP.out.1, HS.out, els_app, ← List.append_assoc]
            have h1 : w5.ownsRow B2 35 3 (.slice o5 (N0 + 1 + L'.length) c5) (N0 + 1 + L'.length) (fl (O ++ els (FI ps k) ++ [(x, (d1 : Int), true)] ++ els L')) := HO5.out
            rw [List.append_assoc] at h1
            exact h1
          · rw [FI_succ HP.out.1, HS.out, List.length_append, HJ.out.2.2, List.length_cons]; omega
        case measure => exact meas hkl
    · have hkl' : ¬ (k : Int) < (ps.length : Int) := cast_nlt hkl
      go_wp2_with fail
      go_ret
      have hke : k = ps.length := by omega
      subst hke
      rw [FI_all, ← HLL.out] at HJ
      exact ⟨_, rfl, by rw [← HJ.out.2.2]; exact HJ.out.2.1, HJ.out.1⟩
theorem flat_any {B B2 : Nat} : ∀ (n : Nat) {w : World} {K : Nat → Prop} {v : Value} {d : Nat} {L : List (Int × Nat × Bool)} {out : Value} {O : List (Int × Int × Bool)}, PL w B K n v d L → (∀ b, K b → b < w.heap.size) → w.ownsRow B2 35 3 out O.length (fl O) → B2 ≤ w.heap.size → (∀ b, out.ownBlock = some b → ¬ K b) → d + L.length ≤ 1000000000000 → O.length + L.length ≤ 1000000000000 → FlatAt v d L B2 w out O
  | 0, w, K, v, d, L, out, O, h, hK, ho, hB, hoK, hd, hb => by
    obtain ⟨rfl, rfl⟩ := h
    exact flat_core (ps := []) (B := B) (World.ownsRow_nil _ _ _ _) (fun b hb => by simp [Value.ownBlock] at hb) hK (fun p hp => by cases hp) (fun p hp => by cases hp) ho hB hoK (by omega) hb (Nat.zero_le _)
  | n + 1, w, K, v, d, L, out, O, h, hK, ho, hB, hoK, hd, hb => by
    have hlen := h.len
    obtain ⟨ps, k1, k2, k3, rfl⟩ := h
    have hpl : ps.length ≤ 1000000000000 := by
      have : ps.length ≤ (ps.map (fun p => p.2.2.2)).flatten.length := by
        clear k1 k2 hd hb hlen
        induction ps with
        | nil => exact Nat.zero_le _
        | cons p ps ih =>
          have i := ih (fun q hq => k3 q (List.mem_cons_of_mem _ hq))
          have hp : 1 ≤ p.2.2.2.length := by
            have hq := k3 p List.mem_cons_self
            cases e : p.2.1 with
            | false => rw [hq.2.1 e]; simp
            | true => obtain ⟨L', _, b⟩ := hq.2.2 e; rw [b]; simp
          simp only [List.map_cons, List.flatten_cons, List.length_append, List.length_cons]
          omega
      omega
    refine flat_core (B := B) k1 k2 hK (fun p hp e => (k3 p hp).2.1 e) (fun p hp e => ?_) ho hB hoK (by omega) hb hpl
    obtain ⟨L', a, b⟩ := (k3 p hp).2.2 e
    have hll : L'.length + 1 ≤ (ps.map (fun p => p.2.2.2)).flatten.length := by
      have h1 : p.2.2.2.length ≤ (ps.map (fun p => p.2.2.2)).flatten.length := (List.sublist_flatten_of_mem (List.mem_map.2 ⟨p, hp, rfl⟩ : p.2.2.2 ∈ ps.map (fun p => p.2.2.2))).length_le
      rw [b, List.length_cons] at h1; exact h1
    refine ⟨L', b, fun wr o' O' hkp hown hB' hoff hle => ?_⟩
    have hK' : ∀ b, K b → b < wr.heap.size := fun b hb => by
      have h1 := hK b hb
      have h2 := hkp b hb
      rw [Array.getElem?_eq_getElem h1] at h2
      exact (Array.getElem?_eq_some_iff.1 h2).1
    exact flat_any n (PL.kept hkp (fun b hb => hb) a) hK' hown hB' hoff (by omega) hle
end Go.Proofs.Ytaocomjhepgabaa
