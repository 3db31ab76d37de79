import Derived.Test.YtklkpaekdpaloaaDoorKPs
set_option linter.unusedVariables false
set_option linter.unusedSimpArgs false
set_option linter.unnecessarySimpa false
namespace Go.Proofs.YtklkpaekdpaloaaDoor
section
open Go.RowKit
theorem rshape_empty (ao : Option Addr) (cap : Nat) (w : World) :
  Calls Tryd.prog 27 #[.slice ao 0 cap] w fun y w' => y = .returned (.tuple #[.int .i64 0, .int .i64 0]) ∧ Below w.heap.size w w' := by
 go_enter Tryd.func27, Tryd.ntmps27
 go_wp2_with fail
 go_loop [4, 6] (fun s i => s = .slice none 0 0 ∧ i = .int .i64 0) (fun _ _ => 0)
 case atStart => exact ⟨rfl, rfl⟩
 case round =>
  obtain ⟨rfl, rfl⟩ := hrel
  go_wp2_with fail
  go_loop [12] (fun i => i = .int .i64 0) (fun _ => 0)
  case atStart => rfl
  case round =>
   subst hrel
   go_wp2_with fail
   go_ret2
   exact ⟨rfl, Below.refl _ _⟩
theorem programR_nil : programR [] = (0, 0, ls0) := rfl
def PrIs (w : World) (B : Nat) (v : Nat → Value) (ns : List Nd) (l : Ls) : Prop := ∀ k, k < 6 → w.ownsRow B (TY k) (SZ k) (v k) (nOf ns.length l k) (xOf ns ns.length l k)
theorem PrIs.none (w : World) (B : Nat) : PrIs w B (fun _ => .slice none 0 0) [] ls0 := by
 intro k hk
 have h1 : nOf ([] : List Nd).length ls0 k = 0 := by unfold nOf ls0; simp
 have h2 : xOf [] ([] : List Nd).length ls0 k = [] := by unfold xOf ls0; simp
 rw [h1, h2]
 exact World.ownsRow_nil _ _ _ _
set_option maxRecDepth 100000 in
set_option maxHeartbeats 4000000 in
theorem program_empty (ao : Option Addr) (cap : Nat) (w : World) :
  Calls Tryd.prog 14 #[.slice ao 0 cap] w fun e w' => e = .returned (.tuple #[.agg #[.slice none 0 0, .slice none 0 0, .slice none 0 0, .slice none 0 0, .slice none 0 0, .slice none 0 0], .int .i64 0, .int .i64 0]) ∧ Ok w w' := by
 have HB0 : Hid (∀ ob, Below w.heap.size w (w.alloc ob)) := fun ob => (Below.refl _ _).alloc (Nat.le_refl _) _
 go_enter Tryd.func14, Tryd.ntmps14
 go_wp2_with fail
 refine (rshape_empty ao cap _).mono ?_
 rintro e w1 ⟨rfl, hb1⟩
 have HX : Hid (Six w1 w.heap.size (.slice none 0 0) (.slice none 0 0) (.slice none 0 0) (.slice none 0 0) (.slice none 0 0) (.slice none 0 0)) := (Six.new w _ _ _ _ _ _).below hb1
 have HB1 : Hid (Below w.heap.size w w1) := (HB0.out _).trans (hb1.mono (by simp))
 clear hb1
 obtain ⟨z1, c0, c1, c2, c3, c4, c5⟩ := HX.out.pc
 have wf := HX.out.warm
 go_wp2_with fail
 go_loop [8] (fun i => i = .int .i64 0) (fun _ => 0)
 case atStart => rfl
 case round =>
  subst hrel
  go_wp2_with fail
  try simp only [Exit.inBlock, Exit.then]
  refine bodyPost_ret (results_row_tmp2 rfl _ _ w.heap.size 28 _ (0, 0) _ rfl (heap_past _ _ _ (lt_row (six_set HX.out.heap _ _ _ _ _ _)) (six_set HX.out.heap _ _ _ _ _ _)) Tryd.underlying28 rfl Tryd.info28) rfl ?_
  exact ⟨rfl, (show Ok w _ from six_below HB1.out (Nat.le_refl _) _ _ _ _ _ _).alloc _⟩
theorem fit_ok {n : Nd} (h : n.Fit) : n.Ok := ⟨by have := h.name; unfold maxLen; omega, h.lo, h.hi, h.num⟩
theorem program_s (v : Value) (ns : List Nd) (w : World) (h : SNds w v ns) :
  Calls Tryd.prog 14 #[v] w fun e w' => ∃ u : Nat → Value, e = .returned (.tuple #[.agg #[u 0, u 1, u 2, u 3, u 4, u 5], .int .i64 (programR ns).1, .int .i64 (programR ns).2.1]) ∧ Ok w w' ∧ ((programR ns).1 = 0 → PrIs w' w.heap.size u ns (programR ns).2.2) ∧ ((programR ns).1 ≠ 0 → ∀ k, u k = .slice none 0 0) := by
 obtain ⟨hok, ao, cap, rfl, h1, h2, h3⟩ := h
 rcases h3 with rfl | ⟨b, o, rfl, hN⟩
 ·refine (program_empty ao cap w).mono ?_
  rintro e w' ⟨rfl, hk⟩
  rw [programR_nil]
  exact ⟨fun _ => .slice none 0 0, rfl, hk, fun _ => PrIs.none _ _, fun h => absurd rfl h⟩
 ·refine (program_any b o cap ns w hok hN h1 h2).mono ?_
  rintro e w' ⟨u, rfl, hb, h3, h4⟩
  exact ⟨u, rfl, hb, h3, h4⟩
theorem nodes_of {w : World} {B g n cap : Nat} {ns : List Nd} (h : w.ownsRow B 58 6 (.slice (some ⟨g, 0, none⟩) n cap) n (ndL ns)) (hn : n = ns.length) : NodesAt w g 0 ns := by
 have hc : ∀ j u, (ndL ns)[j]? = some u → w.cell? ⟨g, j, none⟩ = some u := fun j u hj => by
  have := h.cells (g := g) rfl j u hj
  rw [add_off, Nat.zero_add] at this
  exact this
 have hg : ∀ (i : Nat) (hi : i < ns.length), ns[i]? = some ns[i] := fun i hi => List.getElem?_eq_getElem hi
 refine ⟨(h.lt g rfl).2, ?_, ?_, ?_, ?_, ?_, ?_⟩
 ·intro i hi; rw [Nat.zero_add]; exact hc _ _ (ndL_get (hg i hi)).1
 ·intro i hi; rw [Nat.zero_add]; exact hc _ _ (ndL_get (hg i hi)).2.1
 ·intro i hi; rw [Nat.zero_add]; exact hc _ _ (ndL_get (hg i hi)).2.2.1
 ·intro i hi; rw [Nat.zero_add]; exact hc _ _ (ndL_get (hg i hi)).2.2.2.1
 ·intro i hi; rw [Nat.zero_add]; exact hc _ _ (ndL_get (hg i hi)).2.2.2.2.1
 ·intro i hi; rw [Nat.zero_add]; exact hc _ _ (ndL_get (hg i hi)).2.2.2.2.2
theorem NL.snds {w : World} {B : Nat} {v : Value} {ns : List Nd} (h : NL w B v ns) (hok : ∀ n ∈ ns, n.Ok) : SNds w v ns := by
 refine ⟨hok, ?_⟩
 rcases h.2 with ⟨rfl, h0⟩ | ⟨g, cap, cur, rfl, hBg, hg, hnc, hcm, hcs, htk⟩
 ·exact ⟨none, 0, by rw [h0], by omega, by simp [maxLen], .inl (List.eq_nil_of_length_eq_zero h0)⟩
 ·exact ⟨_, cap, rfl, hnc, hcm, .inr ⟨g, 0, rfl, nodes_of h rfl⟩⟩
theorem progFrom_in (ns : List Nd) : ∀ (t : List Nd) (i : Nat) (l : Ls), (progFrom ns t i l).1 ≠ 0 → ∃ m : Nat, (progFrom ns t i l).2.1 = m ∧ i ≤ m ∧ m < i + t.length
 | [], i, l, h => absurd rfl h
 | n :: t, i, l, h => by
  rw [progFrom] at h ⊢
  split at h
  ·next h0 =>
   rw [if_pos h0]
   obtain ⟨m, e, h1, h2⟩ := progFrom_in ns t (i + 1) _ h
   exact ⟨m, e, by omega, by rw [List.length_cons]; omega⟩
  ·next h0 =>
   rw [if_neg h0]
   exact ⟨i, rfl, Nat.le_refl _, by rw [List.length_cons]; omega⟩
theorem programR_in {P : RP} (hG : P.ts.length ≤ 8192) (h0 : (parE P).1 = 0) (h : (programR (parE P).2.2).1 ≠ 0) : ∃ m : Nat, (programR (parE P).2.2).2.1 = m ∧ m < (parE P).2.2.length := by
 obtain ⟨hl, hs⟩ := parse_shape hG h0
 unfold programR at h ⊢
 rcases hs with hs | hs
 ·rw [hs, if_pos rfl] at h ⊢
  obtain ⟨m, e, h1, h2⟩ := progFrom_in _ _ _ _ h
  exact ⟨m, e, by omega⟩
 ·rw [if_neg hs.1] at h ⊢
  obtain ⟨m, e, h1, h2⟩ := hs.2
  exact ⟨m, e, h2⟩
end
section
open Go.RowKit
def TxIs (w : World) (P : RP) (e : Ending) (w' : World) : Prop :=
 ((parE P).1 = 0 ∧ (programR (parE P).2.2).1 = 0 ∧ ∃ u : Nat → Value, e = .returned (.tuple #[.agg #[u 0, u 1, u 2, u 3, u 4, u 5], .int .i64 0, .int .i64 0]) ∧ PrIs w' w.heap.size u (parE P).2.2 (programR (parE P).2.2).2.2 ∧ ∀ n ∈ (parE P).2.2, n.Fit)
 ∨ (((parE P).1 = 0 → (programR (parE P).2.2).1 ≠ 0) ∧ ∃ er at0 : Int, er ≠ 0 ∧ e = .returned (.tuple #[.agg #[.slice none 0 0, .slice none 0 0, .slice none 0 0, .slice none 0 0, .slice none 0 0, .slice none 0 0], .int .i64 er, .int .i64 at0]))
def TextIs (w : World) (l : List UInt8) (e : Ending) (w' : World) : Prop :=
 match lexS l with
 | .inl (er, at0) => 20 ≤ er ∧ e = .returned (.tuple #[.agg #[.slice none 0 0, .slice none 0 0, .slice none 0 0, .slice none 0 0, .slice none 0 0, .slice none 0 0], .int .i64 (er : Nat), .int .i64 (at0 : Nat)])
 | .inr ts => ∃ P : RP, P.ts = ts ∧ P.en = l.length ∧ TxIs w P e w'
set_option maxRecDepth 100000 in
set_option maxHeartbeats 4000000 in
theorem text_any (s : ByteArray) (w : World) :
  Calls Tryd.prog 8 #[.string s] w fun e w' => TextIs w s.toList e w' ∧ Ok w w' := by
 cases hlx : lexS s.toList with
 | inl p =>
  obtain ⟨er, at0⟩ := p
  have HLX : Hid (lexS s.toList = .inl (er, at0)) := hlx
  have HER : Hid (20 ≤ er) := lexS_err hlx
  have her2 : ((er : Int) == 0) = false := by rw [beq_eq_false_iff_ne]; have := lexS_err hlx; omega
  clear hlx
  go_enter Tryd.func8, Tryd.ntmps8
  go_wp2_with (first
   | (go_at_call 13; refine (parse_any s _).mono ?_; rintro e w1 ⟨ht, hok⟩; unfold ParIs at ht; rw [HLX.out] at ht; subst ht; have HX : Hid (Six w1 w.heap.size (.slice none 0 0) (.slice none 0 0) (.slice none 0 0) (.slice none 0 0) (.slice none 0 0) (.slice none 0 0)) := (Six.new w _ _ _ _ _ _).below hok; have HK : Hid (Ok w w1) := ((Ok.refl w).alloc _).step hok; obtain ⟨z1, c0, c1, c2, c3, c4, c5⟩ := HX.out.pc; have wf := HX.out.warm; clear hok)
   | fail)
  try simp only [Exit.inBlock, Exit.then]
  refine bodyPost_ret (results_row_tmp2 rfl _ _ w.heap.size 28 _ (0, 0) _ rfl (six_set HX.out.heap _ _ _ _ _ _) Tryd.underlying28 rfl Tryd.info28) rfl ?_
  refine ⟨?_, six_below HK.out (Nat.le_refl _) _ _ _ _ _ _⟩
  unfold TextIs; rw [HLX.out]
  exact ⟨HER.out, rfl⟩
 | inr ts =>
  have HLX : Hid (lexS s.toList = .inr ts) := hlx
  have HGT : Hid (ts.length ≤ 8192) := (lexS_gt hlx).2.1
  clear hlx
  go_enter Tryd.func8, Tryd.ntmps8
  go_wp2_with fail
  refine (parse_any s _).mono ?_
  rintro e w1 ⟨ht, hok⟩
  unfold ParIs at ht
  rw [HLX.out] at ht
  obtain ⟨P, v, h1, h2, rfl, h3, h4⟩ := ht
  have HPR : Hid ((parE P).1 = 0 → (programR (parE P).2.2).1 ≠ 0 → ∃ m : Nat, (programR (parE P).2.2).2.1 = m ∧ m < (parE P).2.2.length) := programR_in (by rw [h1]; exact HGT.out)
  have HL3 : Hid ((parE P).1 = 0 → (parE P).2.2.length ≤ 300) := fun h0 => (parse_shape (by rw [h1]; exact HGT.out) h0).1
  have HTX : Hid (∀ e w', TxIs w P e w' → TextIs w s.toList e w') := fun e w' h => by unfold TextIs; rw [HLX.out]; exact ⟨P, h1, h2, h⟩
  unfold TxIs at HTX
  obtain ⟨x, hE⟩ : ∃ x, x = parE P := ⟨_, rfl⟩
  rw [← hE] at h3 h4 HPR HTX HL3 ⊢
  obtain ⟨er, at0, ns⟩ := x
  simp only at h3 h4 HPR HTX HL3 ⊢
  obtain ⟨ao, cp, rfl⟩ := own_form h3
  have HX : Hid (Six w1 w.heap.size (.slice none 0 0) (.slice none 0 0) (.slice none 0 0) (.slice none 0 0) (.slice none 0 0) (.slice none 0 0)) := (Six.new w _ _ _ _ _ _).below hok
  have HK : Hid (Ok w w1) := ((Ok.refl w).alloc _).step hok
  have HN : Hid (NL w1 (w.heap.size + 1) (.slice ao ns.length cp) ns ∧ ∀ n ∈ ns, n.Fit) := ⟨(by simpa using h3), h4⟩
  obtain ⟨z1, c0, c1, c2, c3, c4, c5⟩ := HX.out.pc
  have wf := HX.out.warm
  clear hok h1 h2 h3 h4 hE
  by_cases hc : er = 0
  ·have HT1 : Hid (∀ e w' (u : Nat → Value), (programR ns).1 = 0 → e = .returned (.tuple #[.agg #[u 0, u 1, u 2, u 3, u 4, u 5], .int .i64 0, .int .i64 0]) → PrIs w' w.heap.size u ns (programR ns).2.2 → TextIs w s.toList e w') := fun e w' u h0 h1 h2 => HTX.out _ _ (.inl ⟨hc, h0, u, h1, h2, HN.out.2⟩)
   have HT2 : Hid (∀ e w' (er at0 : Int), (programR ns).1 ≠ 0 → er ≠ 0 → e = .returned (.tuple #[.agg #[.slice none 0 0, .slice none 0 0, .slice none 0 0, .slice none 0 0, .slice none 0 0, .slice none 0 0], .int .i64 er, .int .i64 at0]) → TextIs w s.toList e w') := fun e w' er at0 h0 h1 h2 => HTX.out _ _ (.inr ⟨fun _ => h0, er, at0, h1, h2⟩)
   have HP1 : Hid ((programR ns).1 ≠ 0 → ∃ m : Nat, (programR ns).2.1 = m ∧ m < ns.length) := HPR.out hc
   have HL1 : Hid (ns.length ≤ 300) := HL3.out hc
   subst hc
   clear c0 c1 c2 c3 c4 c5 z1 wf HTX HPR HL3
   go_wp2_with fail
   refine (program_s _ ns w1 (HN.out.1.snds fun n hn => fit_ok (HN.out.2 n hn))).mono ?_
   rintro e w2 ⟨u, rfl, hok2, hz, hnz⟩
   have HX2 : Hid (Six w2 w.heap.size (.slice none 0 0) (.slice none 0 0) (.slice none 0 0) (.slice none 0 0) (.slice none 0 0) (.slice none 0 0)) := HX.out.below hok2
   have HK2 : Hid (Ok w w2) := HK.out.step hok2
   have HU : Hid (((programR ns).1 = 0 → PrIs w2 w1.heap.size u ns (programR ns).2.2) ∧ ((programR ns).1 ≠ 0 → ∀ k, u k = .slice none 0 0)) := ⟨hz, hnz⟩
   have HLT : Hid (w.heap.size < w1.heap.size) := HX.out.lt
   have HN2 : Hid (NL w2 (w.heap.size + 1) (.slice ao ns.length cp) ns) := own_ok HN.out.1 hok2
   obtain ⟨z1, c0, c1, c2, c3, c4, c5⟩ := HX2.out.pc
   have wf := HX2.out.warm
   clear hok2 hz hnz
   obtain ⟨pe, hpe⟩ : ∃ x, x = (programR ns).1 := ⟨_, rfl⟩
   obtain ⟨pi, hpi⟩ : ∃ x, x = (programR ns).2.1 := ⟨_, rfl⟩
   rw [← hpe, ← hpi]
   by_cases hp : pe = 0
   ·have HP0 : Hid ((programR ns).1 = 0) := by unfold Hid; rw [← hpe]; exact hp
    subst hp
    have HFH : Hid (PrIs w2 w1.heap.size u ns (programR ns).2.2) := HU.out.1 HP0.out
    clear HU hpe hpi
    obtain ⟨o0, p0, e0⟩ := own_form (HFH.out 0 (by decide))
    obtain ⟨o1, p1, e1⟩ := own_form (HFH.out 1 (by decide))
    obtain ⟨o2, p2, e2⟩ := own_form (HFH.out 2 (by decide))
    obtain ⟨o3, p3, e3⟩ := own_form (HFH.out 3 (by decide))
    obtain ⟨o4, p4, e4⟩ := own_form (HFH.out 4 (by decide))
    obtain ⟨o5, p5, e5⟩ := own_form (HFH.out 5 (by decide))
    have HE0 : Hid (u 0 = _) := e0
    have HE1 : Hid (u 1 = _) := e1
    have HE2 : Hid (u 2 = _) := e2
    have HE3 : Hid (u 3 = _) := e3
    have HE4 : Hid (u 4 = _) := e4
    have HE5 : Hid (u 5 = _) := e5
    rw [e0, e1, e2, e3, e4, e5]
    clear e0 e1 e2 e3 e4 e5
    go_wp2_with fail
    try simp only [Exit.inBlock, Exit.then]
    refine bodyPost_ret (results_row_tmp2 rfl _ _ w.heap.size 28 _ (0, 0) _ rfl (heap_past _ _ _ (lt_row (six_set HX2.out.heap _ _ _ _ _ _)) (six_set HX2.out.heap _ _ _ _ _ _)) Tryd.underlying28 rfl Tryd.info28) rfl ?_
    refine ⟨?_, (show Ok w _ from six_below HK2.out (Nat.le_refl _) _ _ _ _ _ _).alloc _⟩
    refine HT1.out _ _ u HP0.out ?_ ?_
    ·rw [HE0.out, HE1.out, HE2.out, HE3.out, HE4.out, HE5.out]; rfl
    ·intro k hk
     exact World.ownsRow.alloc (own_six (HFH.out k hk) HLT.out _ _ _ _ _ _) _
   ·have HP0 : Hid ((programR ns).1 ≠ 0) := by unfold Hid; rw [← hpe]; exact hp
    have HPE : Hid (pe ≠ 0) := hp
    have hp2 : (pe == 0) = false := by rw [beq_eq_false_iff_ne]; exact hp
    have hu := HU.out.2 HP0.out
    obtain ⟨m, hm, hml⟩ := HP1.out HP0.out
    rw [← hpi] at hm
    subst hm
    have hml' : (m : Int) < (ns.length : Int) := cast_lt' hml
    obtain ⟨n, hn⟩ : ∃ n, ns[m]? = some n := ⟨ns[m], List.getElem?_eq_getElem hml⟩
    obtain ⟨g, hg⟩ : ∃ g, ao = some ⟨g, 0, none⟩ := by
     obtain ⟨g, c, e, _⟩ := HN2.out.form (by omega)
     injection e with e1
     exact ⟨g, e1⟩
    subst hg
    have d5 := HN2.out.cells (g := g) rfl _ _ (ndL_get hn).2.2.2.2.2
    rw [add_off, Nat.zero_add] at d5
    have hgl := (HN2.out.lt g rfl).2
    have hgb := (HN2.out.lt g rfl).1
    have hgne : ¬ w.heap.size = g := by omega
    have hgne2 : ¬ g = w.heap.size := by omega
    rw [hu 0, hu 1, hu 2, hu 3, hu 4, hu 5]
    clear hp hpe hpi hu hn HU hgb
    go_wp2_with fail
    go_region
    go_wp2_with fail
    try simp only [Exit.inBlock, Exit.then]
    refine bodyPost_ret (results_row_tmp2 rfl _ _ w.heap.size 28 _ (0, 0) _ rfl (heap_past _ _ _ (lt_row (six_set HX2.out.heap _ _ _ _ _ _)) (six_set HX2.out.heap _ _ _ _ _ _)) Tryd.underlying28 rfl Tryd.info28) rfl ?_
    refine ⟨?_, Below.drew ((show Ok w _ from six_below HK2.out (Nat.le_refl _) _ _ _ _ _ _).alloc _)⟩
    exact HT2.out _ _ pe n.pos HP0.out HPE.out rfl
  ·have HC : Hid (er ≠ 0) := hc
   have hc2 : (er == 0) = false := by rw [beq_eq_false_iff_ne]; exact hc
   clear hc
   go_wp2_with fail
   try simp only [Exit.inBlock, Exit.then]
   refine bodyPost_ret (results_row_tmp2 rfl _ _ w.heap.size 28 _ (0, 0) _ rfl (six_set HX.out.heap _ _ _ _ _ _) Tryd.underlying28 rfl Tryd.info28) rfl ?_
   refine ⟨?_, six_below HK.out (Nat.le_refl _) _ _ _ _ _ _⟩
   exact HTX.out _ _ (.inr ⟨fun h => absurd h HC.out, er, at0, HC.out, rfl⟩)
end
section
open Go.RowKit
theorem eqNode (n : Nd) (w : World) : (Op.equalIn 10000 58 (.agg #[.int .i64 n.depth, .int .i64 n.kind, .string n.name, .int .i64 n.num, .int .i64 n.op, .int .i64 n.pos]) (.agg #[.int .i64 n.depth, .int .i64 n.kind, .string n.name, .int .i64 n.num, .int .i64 n.op, .int .i64 n.pos])).run Tryd.prog w = .ok true w := by
 rw [show (10000 : Nat) = 9999 + 1 from rfl, run_equalIn_agg w 9999 58 _ _ (by kernel_rfl) (by kernel_rfl)]
 simp only [Program.fieldsOf, Tryd.underlying58]
 go_simp
theorem guNd : Tryd.prog.eqGuardType Tryd.prog.depth 58 = false := by kernel_rfl
theorem sameLs_sc {l m : Ls} (h : likeB eqSt l.sc m.sc = false) : sameLs l m = false := by unfold sameLs; rw [h]; simp
theorem sameLs_ar {l m : Ls} (h : likeB eqAr l.ar m.ar = false) : sameLs l m = false := by unfold sameLs; rw [h]; simp
theorem sameLs_sy {l m : Ls} (h : likeB eqIn l.sy m.sy = false) : sameLs l m = false := by unfold sameLs; rw [h]; simp
theorem sameLs_si {l m : Ls} (h : likeB eqIn l.si m.si = false) : sameLs l m = false := by unfold sameLs; rw [h]; simp
theorem sameLs_so {l m : Ls} (h : likeB eqIn l.so m.so = false) : sameLs l m = false := by unfold sameLs; rw [h]; simp
end
section
open Go.RowKit
theorem own_len {w : World} {B : Nat} {e : TypeId} {s n : Nat} {v : Value} {xs : List Value} (h : w.ownsRow B e s v n xs) : n ≤ maxLen := by
 rcases h.2 with ⟨_, h0⟩ | ⟨g, cap, cur, _, _, _, h1, h2, _⟩
 ·rw [h0]; exact Nat.zero_le _
 ·omega
theorem own_cell {w : World} {B g cap : Nat} {e : TypeId} {s n : Nat} {xs : List Value} (h : w.ownsRow B e s (.slice (some ⟨g, 0, none⟩) n cap) n xs) {j : Nat} {u : Value} (hj : xs[j]? = some u) : w.cell? ⟨g, 0 + j, none⟩ = some u := by
 have := h.cells (g := g) rfl j u hj
 rw [add_off] at this
 exact this
theorem own_open {w : World} {B : Nat} {e : TypeId} {s n : Nat} {v : Value} {xs : List Value} (h : w.ownsRow B e s v n xs) : ∃ ao cap, v = .slice ao n cap ∧ (n = 0 ∨ ∃ g, ao = some ⟨g, 0, none⟩ ∧ g < w.heap.size ∧ B ≤ g) := by
 have hh := h
 rcases h.2 with ⟨rfl, h0⟩ | ⟨g, cap, cur, rfl, hB, _⟩
 ·exact ⟨none, 0, by rw [h0], .inl h0⟩
 ·exact ⟨_, cap, rfl, .inr ⟨g, rfl, (hh.lt g rfl).2, hB⟩⟩
theorem own_str {w : World} {B : Nat} {v : Value} {l : List ByteArray} (h : w.ownsRow B 9 1 v l.length (l.map fun s => .string s)) : SStr w v l := by
 obtain ⟨ao, cap, rfl, h1⟩ := own_open h
 refine ⟨own_len h, ao, cap, rfl, ?_⟩
 rcases h1 with h1 | ⟨g, rfl, hg, _⟩
 ·exact .inl (List.eq_nil_of_length_eq_zero h1)
 ·refine .inr ⟨g, 0, rfl, hg, fun i hi => ?_⟩
  exact own_cell h (by rw [List.getElem?_map, List.getElem?_eq_getElem hi]; rfl)
theorem own_int {w : World} {B : Nat} {v : Value} {l : List Int} (h : w.ownsRow B 3 1 v l.length (l.map fun s => .int .i64 s)) : SInt w v l := by
 obtain ⟨ao, cap, rfl, h1⟩ := own_open h
 refine ⟨own_len h, ao, cap, rfl, ?_⟩
 rcases h1 with h1 | ⟨g, rfl, hg, _⟩
 ·exact .inl (List.eq_nil_of_length_eq_zero h1)
 ·refine .inr ⟨g, 0, rfl, hg, fun i hi => ?_⟩
  exact own_cell h (by rw [List.getElem?_map, List.getElem?_eq_getElem hi]; rfl)
theorem arr_get : ∀ {l : List (ByteArray × Int)} {i : Nat} {x : ByteArray × Int}, l[i]? = some x → (l.flatMap fun a => [Value.string a.1, .int .i64 a.2])[i * 2]? = some (.string x.1) ∧ (l.flatMap fun a => [Value.string a.1, .int .i64 a.2])[i * 2 + 1]? = some (.int .i64 x.2)
 | [], i, x, h => by simp at h
 | a :: l, 0, x, h => by simp at h; subst h; exact ⟨rfl, rfl⟩
 | a :: l, i + 1, x, h => by
  rw [List.getElem?_cons_succ] at h
  have := arr_get h
  rw [List.flatMap_cons, show (i + 1) * 2 = i * 2 + 1 + 1 by omega]
  exact this
theorem own_arr {w : World} {B : Nat} {v : Value} {l : List (ByteArray × Int)} (h : w.ownsRow B 64 2 v l.length (l.flatMap fun a => [.string a.1, .int .i64 a.2])) : SArr w v l := by
 obtain ⟨ao, cap, rfl, h1⟩ := own_open h
 refine ⟨own_len h, ao, cap, rfl, ?_⟩
 rcases h1 with h1 | ⟨g, rfl, hg, _⟩
 ·exact .inl (List.eq_nil_of_length_eq_zero h1)
 ·refine .inr ⟨g, 0, rfl, hg, fun i hi => ?_, fun i hi => ?_⟩
  ·exact own_cell h (arr_get (List.getElem?_eq_getElem hi)).1
  ·exact own_cell h (arr_get (List.getElem?_eq_getElem hi)).2
theorem ndL_flat (ns : List Nd) : ns.flatMap ndCells = ndL ns := rfl
theorem PrIs.prog {w : World} {B : Nat} {u : Nat → Value} {ns : List Nd} {l : Ls} (h : PrIs w B u ns l) (hok : ∀ n ∈ ns, n.Ok) : ProgIs w (u 0) (u 1) (u 2) (u 3) (u 4) (u 5) ns l := by
 refine ⟨NL.snds (B := B) ?_ hok, own_str (B := B) (h 1 (by decide)), own_arr (B := B) (h 2 (by decide)), own_int (B := B) (h 3 (by decide)), own_int (B := B) (h 4 (by decide)), own_int (B := B) (h 5 (by decide))⟩
 have := h 0 (by decide)
 have e : xOf ns ns.length l 0 = ndL ns := by unfold xOf; rw [if_pos rfl, List.take_length]; rfl
 rw [e] at this
 exact this
theorem good_eq (ns : List Nd) (l : Ls) (hok : ∀ n ∈ ns, n.Ok) : goodD ns l = (decide ((programR ns).1 = 0) && sameLs l (programR ns).2.2) := by
 unfold goodD; rw [program_eq ns hok]
end
end Go.Proofs.YtklkpaekdpaloaaDoor
