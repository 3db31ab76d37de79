import Derived.Test.YtklkpaekdpaloaaDoorKLr
set_option linter.unusedVariables false
set_option linter.unusedSimpArgs false
set_option linter.unnecessarySimpa false
namespace Go.Proofs.YtklkpaekdpaloaaDoor
open Go.RowKit
theorem name_size {P : RP} {a : Nat} {s : ByteArray} (hG : GT P) (hs : s.toList = txS P a) : s.size ≤ 1000000 := by
 rw [← toList_len, hs]
 unfold txS
 split
 ·next x hx => exact (hG.2 x (List.mem_of_getElem? hx)).1
 ·exact Nat.zero_le _
theorem fin_load {S S' : List Nd → Nat → Int → Prop} {P : RP} {rb : Nat} {w w7 w8 w9 : World} {a a' B : Nat} {bad bad' : Int} {ns : List Nd} {n : Nd} {v v4 : Value} {o : Obj} {t : List UInt8} (hf7 : Fr rb w w7) (hf8 : Fr rb w7 w8) (hb : bad < 0) (hgot : Got S P (a + 2) bad ns a' bad') (hri : RI P rb w8 (if isS P a' bad' t then a' + 1 else a') (if isS P a' bad' t then bad' else failS P a' bad')) (hn4 : NL w9 B v4 (nodeS n [(v, ns)])) (hB : w.heap.size ≤ B) (hok : Ok (w8.alloc o) w9) (hn : n.Fit) (hs : S' (nodeS n [(v, ns)]) (if isS P a' bad' t then a' + 1 else a') (if isS P a' bad' t then bad' else failS P a' bad')) : EPx S' P rb w a bad (.returned v4) w9 := by
 have h2 : Ok w8 w9 := ((Ok.refl w8).alloc o).step hok
 exact ⟨v4, _, _, _, rfl, own_base hn4 hB, hri.ok h2, (hf7.trans hf8).trans (Fr.of h2), Got.node1 hb (Got.take (S' := fun _ _ _ => True) hb (Got.shift hb hgot) t trivial) hn hs, fun h0 => by omega⟩
theorem got_len_take {S : List Nd → Nat → Int → Prop} {P : RP} {rb : Nat} {w8 : World} {a a' a8 : Nat} {bad bad' b8 : Int} {ns : List Nd} {v : Value} (hG : GT P) (h : Got S P a bad ns a' bad') (hle : a' ≤ P.ts.length) : 1 + (held [(v, ns)]).length ≤ 1000000 := by
 have := h.len' hG hle
 rw [held1, List.length_map]; omega
set_option maxRecDepth 100000 in
set_option maxHeartbeats 4000000 in
theorem atom_none (P : RP) (rb : Nat) (w : World) (a : Nat) (bad : Int) (hG : GT P) (m : Nat) (hE : ∀ k, k < m → ExprOK P rb k) (hm : (P.ts.length - a) * 10 + 2 ≤ m) (h : RI P rb w a bad) (hb0 : bad < 0) (x : Tk) (hx : P.ts[a]? = some x) (hk : ¬ x.1 = 1) (hi2 : isS P a bad [116, 114, 117, 101] = false) (hi3 : isS P a bad [102, 97, 108, 115, 101] = false) (hi4 : isS P a bad [40] = false) (hn : namS P a bad = false) : Calls Tryd.prog 88 #[.pointer (some ⟨rb, 0, none⟩)] w (EPx (ExS P 7 a bad) P rb w a bad) := by
 have H : Hid (RI P rb w a bad) := h
 have HE : Hid (∀ k, k < m → ExprOK P rb k) := hE
 have HM : Hid ((P.ts.length - a) * 10 + 2 ≤ m) := hm
 have HG : Hid (GT P) := hG
 have ha : a < P.ts.length := (List.getElem?_eq_some_iff.1 hx).1
 have hlen : (P.ts.length : Nat) ≤ 1000000 := h.lim.1
 have HB0 : Hid (bad < 0) := hb0
 have hb0' : decide (bad < 0) = true := decide_eq_true hb0
 have ha' : (a : Int) < (P.ts.length : Int) := cast_lt' ha
 have ha2 : decide (a < P.ts.length) = true := decide_eq_true ha
 have haw : IntKind.i64.wrap ((a : Int) + 1) = ((a + 1 : Nat) : Int) := kw_bnd (by omega)
 obtain ⟨kd, tx, nm, pl⟩ := x
 have hk1 : ((kd : Int) == 1) = false := by rw [beq_eq_false_iff_ne]; intro e; exact hk (show kd = 1 by omega)
 have HX : Hid (P.ts[a]? = some (kd, tx, nm, pl)) := hx
 have HNU : Hid (numS P a bad = false) := numS_no hx hk
 clear h hx hk hG hE hm
 have HI_2 : Hid _ := hi2
 have HI_3 : Hid _ := hi3
 have HI_4 : Hid _ := hi4
 clear hi2 hi3 hi4
 have HN : Hid (namS P a bad = false) := hn
 clear hn
 go_enter Tryd.func88, Tryd.ntmps88
 go_wp2_with (first | (go_at_call 44; refine (place_any P rb _ a bad H.out).mono ?_; rintro e w1 ⟨rfl, hok⟩; have HR1 : Hid (RI P rb w1 a bad) := H.out.ok hok; have HK1 : Hid (Ok w w1) := hok; obtain ⟨f0, f1, f2, f3, z0, z1, z2, z3⟩ := row4_facts HR1.out.row; have hlt := HR1.out.lt; clear hok) | fail)
 obtain ⟨g, c, y, b, htv, hg, hy, hb, c0, c1, c2, c3⟩ := HR1.out.tok ha
 have e : y = (kd, tx, nm, pl) := by have := HX.out; rw [hy] at this; exact Option.some.inj this
 subst e
 simp only at c0 c1 c2 c3
 rw [htv] at f0
 clear htv hb hy
 go_quiet (fail)
 obtain ⟨w9, hw9⟩ : ∃ w9, w9 = w1.drewN nq := ⟨_, rfl⟩
 rw [← hw9]
 have HR9 : Hid (RI P rb w9 a bad) := by unfold Hid; rw [hw9]; exact HR1.out.ok ((Ok.refl _).draws _)
 have HK9 : Hid (Ok w w9) := by unfold Hid; rw [hw9]; exact HK1.out.draws _
 clear hw9 f0 f1 f2 f3 z0 z1 z2 z3 hlt
 clear c0 c1 c2 c3 hg
 go_wp2_with (first
  | (go_at_call_of 24 ((⟨#[116, 114, 117, 101]⟩ : ByteArray)); refine (is_any P rb _ a bad _ HR9.out).mono ?_; rintro e w2 ⟨rfl, hok⟩; rw [show isS P a bad (⟨#[116, 114, 117, 101]⟩ : ByteArray).toList = false by (rw [ByteArray.toList_eq]; exact HI_2.out)]; have HR2 : Hid (RI P rb w2 a bad) := HR9.out.ok hok; have HK2 : Hid (Ok w w2) := HK9.out.step hok; clear hok)
  | (go_at_call_of 24 ((⟨#[102, 97, 108, 115, 101]⟩ : ByteArray)); refine (is_any P rb _ a bad _ HR2.out).mono ?_; rintro e w3 ⟨rfl, hok⟩; rw [show isS P a bad (⟨#[102, 97, 108, 115, 101]⟩ : ByteArray).toList = false by (rw [ByteArray.toList_eq]; exact HI_3.out)]; have HR3 : Hid (RI P rb w3 a bad) := HR2.out.ok hok; have HK3 : Hid (Ok w w3) := HK2.out.step hok; clear hok)
  | (go_at_call_of 24 ((⟨#[40]⟩ : ByteArray)); refine (is_any P rb _ a bad _ HR3.out).mono ?_; rintro e w4 ⟨rfl, hok⟩; rw [show isS P a bad (⟨#[40]⟩ : ByteArray).toList = false by (rw [ByteArray.toList_eq]; exact HI_4.out)]; have HR4 : Hid (RI P rb w4 a bad) := HR3.out.ok hok; have HK4 : Hid (Ok w w4) := HK3.out.step hok; clear hok)
  | (go_at_call 74; refine (named_any P rb _ a bad HR4.out).mono ?_; rintro e w5 ⟨rfl, hok⟩; rw [HN.out]; have HR5 : Hid (RI P rb w5 a bad) := HR4.out.ok hok; have HK5 : Hid (Ok w w5) := HK4.out.step hok; clear hok)
  | (go_at_call 48; refine (fail_any P rb _ a bad HR5.out).mono ?_; rintro e w6 ⟨rfl, hr9, hf9⟩; have HF : Hid (EPx (ExS P 7 a bad) P rb w a bad (.returned (.slice none 0 0)) w6) := fin_fail HK5.out hr9 hf9 (ExS.nil HNU.out HI_2.out HI_3.out HI_4.out HN.out); clear hr9 hf9)
  | fail)
 go_ret
 exact HF.out
set_option maxRecDepth 100000 in
set_option maxHeartbeats 4000000 in
theorem atom_read (P : RP) (rb : Nat) (w : World) (a : Nat) (bad : Int) (hG : GT P) (m : Nat) (hE : ∀ k, k < m → ExprOK P rb k) (hm : (P.ts.length - a) * 10 + 2 ≤ m) (h : RI P rb w a bad) (hb0 : bad < 0) (x : Tk) (hx : P.ts[a]? = some x) (hk : ¬ x.1 = 1) (hi2 : isS P a bad [116, 114, 117, 101] = false) (hi3 : isS P a bad [102, 97, 108, 115, 101] = false) (hi4 : isS P a bad [40] = false) (hn : namS P a bad = true) (hi8 : isS P (a + 1) bad [91] = false) : Calls Tryd.prog 88 #[.pointer (some ⟨rb, 0, none⟩)] w (EPx (ExS P 7 a bad) P rb w a bad) := by
 have H : Hid (RI P rb w a bad) := h
 have HE : Hid (∀ k, k < m → ExprOK P rb k) := hE
 have HM : Hid ((P.ts.length - a) * 10 + 2 ≤ m) := hm
 have HG : Hid (GT P) := hG
 have ha : a < P.ts.length := (List.getElem?_eq_some_iff.1 hx).1
 have hlen : (P.ts.length : Nat) ≤ 1000000 := h.lim.1
 have HB0 : Hid (bad < 0) := hb0
 have hb0' : decide (bad < 0) = true := decide_eq_true hb0
 have ha' : (a : Int) < (P.ts.length : Int) := cast_lt' ha
 have ha2 : decide (a < P.ts.length) = true := decide_eq_true ha
 have haw : IntKind.i64.wrap ((a : Int) + 1) = ((a + 1 : Nat) : Int) := kw_bnd (by omega)
 obtain ⟨kd, tx, nm, pl⟩ := x
 have hk1 : ((kd : Int) == 1) = false := by rw [beq_eq_false_iff_ne]; intro e; exact hk (show kd = 1 by omega)
 have HX : Hid (P.ts[a]? = some (kd, tx, nm, pl)) := hx
 have HNU : Hid (numS P a bad = false) := numS_no hx hk
 clear h hx hk hG hE hm
 have HI_2 : Hid _ := hi2
 have HI_3 : Hid _ := hi3
 have HI_4 : Hid _ := hi4
 clear hi2 hi3 hi4
 have HN : Hid (namS P a bad = true) := hn
 have HI_8 : Hid _ := hi8
 clear hn hi8
 go_enter Tryd.func88, Tryd.ntmps88
 go_wp2_with (first | (go_at_call 44; refine (place_any P rb _ a bad H.out).mono ?_; rintro e w1 ⟨rfl, hok⟩; have HR1 : Hid (RI P rb w1 a bad) := H.out.ok hok; have HK1 : Hid (Ok w w1) := hok; obtain ⟨f0, f1, f2, f3, z0, z1, z2, z3⟩ := row4_facts HR1.out.row; have hlt := HR1.out.lt; clear hok) | fail)
 obtain ⟨g, c, y, b, htv, hg, hy, hb, c0, c1, c2, c3⟩ := HR1.out.tok ha
 have e : y = (kd, tx, nm, pl) := by have := HX.out; rw [hy] at this; exact Option.some.inj this
 subst e
 simp only at c0 c1 c2 c3
 rw [htv] at f0
 clear htv hb hy
 go_quiet (fail)
 obtain ⟨w9, hw9⟩ : ∃ w9, w9 = w1.drewN nq := ⟨_, rfl⟩
 rw [← hw9]
 have HR9 : Hid (RI P rb w9 a bad) := by unfold Hid; rw [hw9]; exact HR1.out.ok ((Ok.refl _).draws _)
 have HK9 : Hid (Ok w w9) := by unfold Hid; rw [hw9]; exact HK1.out.draws _
 clear hw9 f0 f1 f2 f3 z0 z1 z2 z3 hlt
 clear c0 c1 c2 c3 hg
 go_wp2_with (first
  | (go_at_call_of 24 ((⟨#[116, 114, 117, 101]⟩ : ByteArray)); refine (is_any P rb _ a bad _ HR9.out).mono ?_; rintro e w2 ⟨rfl, hok⟩; rw [show isS P a bad (⟨#[116, 114, 117, 101]⟩ : ByteArray).toList = false by (rw [ByteArray.toList_eq]; exact HI_2.out)]; have HR2 : Hid (RI P rb w2 a bad) := HR9.out.ok hok; have HK2 : Hid (Ok w w2) := HK9.out.step hok; clear hok)
  | (go_at_call_of 24 ((⟨#[102, 97, 108, 115, 101]⟩ : ByteArray)); refine (is_any P rb _ a bad _ HR2.out).mono ?_; rintro e w3 ⟨rfl, hok⟩; rw [show isS P a bad (⟨#[102, 97, 108, 115, 101]⟩ : ByteArray).toList = false by (rw [ByteArray.toList_eq]; exact HI_3.out)]; have HR3 : Hid (RI P rb w3 a bad) := HR2.out.ok hok; have HK3 : Hid (Ok w w3) := HK2.out.step hok; clear hok)
  | (go_at_call_of 24 ((⟨#[40]⟩ : ByteArray)); refine (is_any P rb _ a bad _ HR3.out).mono ?_; rintro e w4 ⟨rfl, hok⟩; rw [show isS P a bad (⟨#[40]⟩ : ByteArray).toList = false by (rw [ByteArray.toList_eq]; exact HI_4.out)]; have HR4 : Hid (RI P rb w4 a bad) := HR3.out.ok hok; have HK4 : Hid (Ok w w4) := HK3.out.step hok; clear hok)
  | (go_at_call 74; refine (named_any P rb _ a bad HR4.out).mono ?_; rintro e w5 ⟨rfl, hok⟩; rw [HN.out]; have HR5 : Hid (RI P rb w5 a bad) := HR4.out.ok hok; have HK5 : Hid (Ok w w5) := HK4.out.step hok; clear hok)
  | (go_at_call 45; refine (name_any P rb _ a bad HR5.out).mono ?_; rintro e w6 ⟨s, rfl, hs, hr6, hf6⟩; have HNA : Hid (s = naT P a bad) := naT_of hs; rw [HN.out] at hs hr6; simp only [if_true] at hs hr6; have HR6 : Hid (RI P rb w6 (a + 1) bad) := hr6; have HF6 : Hid (Fr rb w w6) := (Fr.of HK5.out).trans hf6; have HSZ : Hid (s.size ≤ 1000000) := name_size HG.out hs; clear hs hr6 hf6)
  | (go_at_call_of 24 ((⟨#[91]⟩ : ByteArray)); refine (is_any P rb _ (a + 1) bad _ HR6.out).mono ?_; rintro e w8 ⟨rfl, hok⟩; rw [show isS P (a + 1) bad (⟨#[91]⟩ : ByteArray).toList = false by (rw [ByteArray.toList_eq]; exact HI_8.out)]; have HR8 : Hid (RI P rb w8 (a + 1) bad) := HR6.out.ok hok; have HF8 : Hid (Fr rb w w8) := HF6.out.trans (Fr.of hok); clear hok)
  | (go_at_call 47; refine (node_any _ ⟨0, 12, s, 0, 0, (plS P a : Nat)⟩ _ [] (HD.none _) (by simp [held]) (by simp)).mono ?_; rintro e w7 ⟨v4, rfl, hn4, hok⟩; have HF : Hid (EPx (ExS P 7 a bad) P rb w a bad (.returned v4) w7) := fin_leaf HF8.out HR8.out HB0.out hn4 HF8.out.le hok ⟨HSZ.out, by simp, by simp, by simp⟩ (ExS.read HNU.out HI_2.out HI_3.out HI_4.out HN.out HI_8.out HNA.out); clear hn4 hok)
  | fail)
 go_ret
 exact HF.out
set_option maxRecDepth 100000 in
set_option maxHeartbeats 4000000 in
theorem atom_load (P : RP) (rb : Nat) (w : World) (a : Nat) (bad : Int) (hG : GT P) (m : Nat) (hE : ∀ k, k < m → ExprOK P rb k) (hm : (P.ts.length - a) * 10 + 2 ≤ m) (h : RI P rb w a bad) (hb0 : bad < 0) (x : Tk) (hx : P.ts[a]? = some x) (hk : ¬ x.1 = 1) (hi2 : isS P a bad [116, 114, 117, 101] = false) (hi3 : isS P a bad [102, 97, 108, 115, 101] = false) (hi4 : isS P a bad [40] = false) (hn : namS P a bad = true) (hi8 : isS P (a + 1) bad [91] = true) : Calls Tryd.prog 88 #[.pointer (some ⟨rb, 0, none⟩)] w (EPx (ExS P 7 a bad) P rb w a bad) := by
 have H : Hid (RI P rb w a bad) := h
 have HE : Hid (∀ k, k < m → ExprOK P rb k) := hE
 have HM : Hid ((P.ts.length - a) * 10 + 2 ≤ m) := hm
 have HG : Hid (GT P) := hG
 have ha : a < P.ts.length := (List.getElem?_eq_some_iff.1 hx).1
 have hlen : (P.ts.length : Nat) ≤ 1000000 := h.lim.1
 have HB0 : Hid (bad < 0) := hb0
 have hb0' : decide (bad < 0) = true := decide_eq_true hb0
 have ha' : (a : Int) < (P.ts.length : Int) := cast_lt' ha
 have ha2 : decide (a < P.ts.length) = true := decide_eq_true ha
 have haw : IntKind.i64.wrap ((a : Int) + 1) = ((a + 1 : Nat) : Int) := kw_bnd (by omega)
 obtain ⟨kd, tx, nm, pl⟩ := x
 have hk1 : ((kd : Int) == 1) = false := by rw [beq_eq_false_iff_ne]; intro e; exact hk (show kd = 1 by omega)
 have HX : Hid (P.ts[a]? = some (kd, tx, nm, pl)) := hx
 have HNU : Hid (numS P a bad = false) := numS_no hx hk
 clear h hx hk hG hE hm
 have HI_2 : Hid _ := hi2
 have HI_3 : Hid _ := hi3
 have HI_4 : Hid _ := hi4
 clear hi2 hi3 hi4
 have HN : Hid (namS P a bad = true) := hn
 have HI_8 : Hid _ := hi8
 clear hn hi8
 have hal2 : a + 2 ≤ P.ts.length := (isS_yes HI_8.out).2
 have hw2 : IntKind.i64.wrap ((a : Int) + 1 + 1) = ((a + 2 : Nat) : Int) := wrap_nat (by omega) (by omega)
 go_enter Tryd.func88, Tryd.ntmps88
 go_wp2_with (first | (go_at_call 44; refine (place_any P rb _ a bad H.out).mono ?_; rintro e w1 ⟨rfl, hok⟩; have HR1 : Hid (RI P rb w1 a bad) := H.out.ok hok; have HK1 : Hid (Ok w w1) := hok; obtain ⟨f0, f1, f2, f3, z0, z1, z2, z3⟩ := row4_facts HR1.out.row; have hlt := HR1.out.lt; clear hok) | fail)
 obtain ⟨g, c, y, b, htv, hg, hy, hb, c0, c1, c2, c3⟩ := HR1.out.tok ha
 have e : y = (kd, tx, nm, pl) := by have := HX.out; rw [hy] at this; exact Option.some.inj this
 subst e
 simp only at c0 c1 c2 c3
 rw [htv] at f0
 clear htv hb hy
 go_quiet (fail)
 obtain ⟨w9, hw9⟩ : ∃ w9, w9 = w1.drewN nq := ⟨_, rfl⟩
 rw [← hw9]
 have HR9 : Hid (RI P rb w9 a bad) := by unfold Hid; rw [hw9]; exact HR1.out.ok ((Ok.refl _).draws _)
 have HK9 : Hid (Ok w w9) := by unfold Hid; rw [hw9]; exact HK1.out.draws _
 clear hw9 f0 f1 f2 f3 z0 z1 z2 z3 hlt
 clear c0 c1 c2 c3 hg
 go_wp2_with (first
  | (go_at_call_of 24 ((⟨#[116, 114, 117, 101]⟩ : ByteArray)); refine (is_any P rb _ a bad _ HR9.out).mono ?_; rintro e w2 ⟨rfl, hok⟩; rw [show isS P a bad (⟨#[116, 114, 117, 101]⟩ : ByteArray).toList = false by (rw [ByteArray.toList_eq]; exact HI_2.out)]; have HR2 : Hid (RI P rb w2 a bad) := HR9.out.ok hok; have HK2 : Hid (Ok w w2) := HK9.out.step hok; clear hok)
  | (go_at_call_of 24 ((⟨#[102, 97, 108, 115, 101]⟩ : ByteArray)); refine (is_any P rb _ a bad _ HR2.out).mono ?_; rintro e w3 ⟨rfl, hok⟩; rw [show isS P a bad (⟨#[102, 97, 108, 115, 101]⟩ : ByteArray).toList = false by (rw [ByteArray.toList_eq]; exact HI_3.out)]; have HR3 : Hid (RI P rb w3 a bad) := HR2.out.ok hok; have HK3 : Hid (Ok w w3) := HK2.out.step hok; clear hok)
  | (go_at_call_of 24 ((⟨#[40]⟩ : ByteArray)); refine (is_any P rb _ a bad _ HR3.out).mono ?_; rintro e w4 ⟨rfl, hok⟩; rw [show isS P a bad (⟨#[40]⟩ : ByteArray).toList = false by (rw [ByteArray.toList_eq]; exact HI_4.out)]; have HR4 : Hid (RI P rb w4 a bad) := HR3.out.ok hok; have HK4 : Hid (Ok w w4) := HK3.out.step hok; clear hok)
  | (go_at_call 74; refine (named_any P rb _ a bad HR4.out).mono ?_; rintro e w5 ⟨rfl, hok⟩; rw [HN.out]; have HR5 : Hid (RI P rb w5 a bad) := HR4.out.ok hok; have HK5 : Hid (Ok w w5) := HK4.out.step hok; clear hok)
  | (go_at_call 45; refine (name_any P rb _ a bad HR5.out).mono ?_; rintro e w6 ⟨s, rfl, hs, hr6, hf6⟩; have HNA : Hid (s = naT P a bad) := naT_of hs; rw [HN.out] at hs hr6; simp only [if_true] at hs hr6; have HR6 : Hid (RI P rb w6 (a + 1) bad) := hr6; have HF6 : Hid (Fr rb w w6) := (Fr.of HK5.out).trans hf6; have HSZ : Hid (s.size ≤ 1000000) := name_size HG.out hs; clear hs hr6 hf6)
  | (go_at_call_of 24 ((⟨#[91]⟩ : ByteArray)); refine (is_any P rb _ (a + 1) bad _ HR6.out).mono ?_; rintro e w8 ⟨rfl, hok⟩; rw [show isS P (a + 1) bad (⟨#[91]⟩ : ByteArray).toList = true by (rw [ByteArray.toList_eq]; exact HI_8.out)]; have HR8 : Hid (RI P rb w8 (a + 1) bad) := HR6.out.ok hok; have HF8 : Hid (Fr rb w w8) := HF6.out.trans (Fr.of hok); obtain ⟨f0, f1, f2, f3, z0, z1, z2, z3⟩ := row4_facts HR8.out.row; have hlt := HR8.out.lt; clear hok)
  | (go_at_call 49; refine (HE.out ((P.ts.length - (a + 2)) * 10 + (9 - 0)) (by have := HM.out; omega) _ (a + 2) bad 0 (by decide) (HR8.out.setAt (a + 2) hal2) (Nat.le_refl _)).mono ?_; rintro e w7 ⟨v3, ms, a2, bad2, rfl, hnl, hri, hfr, hgot, _⟩; obtain ⟨bo, cq, rfl⟩ := own_form hnl; have HQ : Hid (NL w7 (w8.setCell ⟨rb, 1, none⟩ (.int .i64 ((a + 2 : Nat) : Int))).heap.size (.slice bo ms.length cq) ms ∧ RI P rb w7 a2 bad2 ∧ Fr rb (w8.setCell ⟨rb, 1, none⟩ (.int .i64 ((a + 2 : Nat) : Int))) w7 ∧ Got (ExS P 0 (a + 2) bad) P (a + 2) bad ms a2 bad2) := ⟨hnl, hri, hfr, hgot⟩; clear hnl hri hfr hgot f0 f1 f2 f3 z0 z1 z2 z3 hlt)
  | (go_at_call 46; refine (take_any P rb _ a2 bad2 _ HQ.out.2.1).mono ?_; rintro e w10 ⟨rfl, hr8, hf8⟩; have HT : Hid (RI P rb w10 (if isS P a2 bad2 (⟨#[93]⟩ : ByteArray).toList then a2 + 1 else a2) (if isS P a2 bad2 (⟨#[93]⟩ : ByteArray).toList then bad2 else failS P a2 bad2) ∧ Fr rb w7 w10 ∧ NL w10 0 (.slice bo ms.length cq) ms) := ⟨hr8, hf8, (NL.fr HQ.out.1 hf8 (fun b hb => by have h1 := (HQ.out.1.lt b hb).1; have h2 := HR8.out.lt; simp at h1; omega)).base⟩; clear hr8 hf8)
  | (go_at_call 47; refine (node_any _ ⟨0, 13, s, 0, 0, (plS P a : Nat)⟩ _ [(.slice bo ms.length cq, ms)] (HD.one (heap_new0 _ _) (own_ok HT.out.2.2 ((Ok.refl w10).alloc _))) (bnd1 HG.out HQ.out.2.2.2 HQ.out.2.1) (by simp)).mono ?_; rintro e w11 ⟨v4, rfl, hn4, hok⟩; have HF : Hid (EPx (ExS P 7 a bad) P rb w a bad (.returned v4) w11) := fin_load ((HF8.out.set 1 _).trans HQ.out.2.2.1) HT.out.2.1 HB0.out HQ.out.2.2.2 HT.out.1 hn4 (by have h1 := HF8.out.le; have h2 := HQ.out.2.2.1.le; have h3 := HT.out.2.1.le; simp at h2 ⊢; omega) hok ⟨HSZ.out, by simp, by simp, by simp⟩ (ExS.load (by rw [ByteArray.toList_eq]) ha HNU.out HI_2.out HI_3.out HI_4.out HN.out HI_8.out HNA.out HQ.out.2.2.2.sem); clear hn4 hok)
  | fail)
 go_ret
 exact HF.out
end Go.Proofs.YtklkpaekdpaloaaDoor
