import Derived.Test.YtklkpaekdpaloaaDoorKLy
set_option linter.unusedVariables false
set_option linter.unusedSimpArgs false
set_option linter.unnecessarySimpa false
namespace Go.Proofs.YtklkpaekdpaloaaDoor
section
open Go.RowKit
theorem fit_held1 {ns : List Nd} {v : Value} (h : ∀ x ∈ ns, x.Fit) : ∀ x ∈ held [(v, ns)], x.Fit := by
 intro x hx
 rw [held1, List.mem_map] at hx
 obtain ⟨y, hy, rfl⟩ := hx
 exact deep_fit (h y hy)
theorem fit_held2 {ns ms : List Nd} {v u : Value} (h : ∀ x ∈ ns, x.Fit) (h' : ∀ x ∈ ms, x.Fit) : ∀ x ∈ held [(v, ns), (u, ms)], x.Fit := by
 intro x hx
 rw [held2, List.mem_append, List.mem_map, List.mem_map] at hx
 rcases hx with ⟨y, hy, rfl⟩ | ⟨y, hy, rfl⟩
 ·exact deep_fit (h y hy)
 ·exact deep_fit (h' y hy)
set_option maxRecDepth 100000 in
set_option maxHeartbeats 4000000 in
theorem stmt_assign (P : RP) (rb : Nat) (w : World) (a : Nat) (bad : Int) (hG : GT P) (h : RI P rb w a bad) (hi2 : isS P a bad [105, 110, 112, 117, 116] = false) (hi3 : isS P a bad [97, 115, 115, 101, 114, 116] = false) (hi4 : isS P a bad [115, 107, 105, 112] = false) (hi5 : isS P a bad [119, 104, 105, 108, 101] = false) (hi6 : isS P a bad [105, 102] = false) (hn : namS P a bad = true) (hi8 : isS P (a + 1) bad [91] = false) : Calls Tryd.prog 26 #[.pointer (some ⟨rb, 0, none⟩)] w (EPs (StS P a bad) P rb w a bad) := by
 have H : Hid (RI P rb w a bad) := h
 have HG : Hid (GT P) := hG
 have HI_2 : Hid _ := hi2
 have HI_3 : Hid _ := hi3
 have HI_4 : Hid _ := hi4
 have HI_5 : Hid _ := hi5
 have HI_6 : Hid _ := hi6
 clear hi2 hi3 hi4 hi5 hi6
 have HN : Hid (namS P a bad = true) := hn
 have HB0 : Hid (bad < 0) := (namS_yes hn).1
 have HI_8 : Hid _ := hi8
 clear h hG hn hi8
 go_enter Tryd.func26, Tryd.ntmps26
 go_wp2_with (first
  | (go_at_call 44; refine (place_any P rb _ a bad H.out).mono ?_; rintro e w1 ⟨rfl, hok⟩; have HR1 : Hid (RI P rb w1 a bad) := H.out.ok hok; have HK1 : Hid (Ok w w1) := hok; clear hok)
  | (go_at_call_of 24 ((⟨#[105, 110, 112, 117, 116]⟩ : ByteArray)); refine (is_any P rb _ a bad _ HR1.out).mono ?_; rintro e w2 ⟨rfl, hok⟩; rw [show isS P a bad (⟨#[105, 110, 112, 117, 116]⟩ : ByteArray).toList = false by (rw [ByteArray.toList_eq]; exact HI_2.out)]; have HR2 : Hid (RI P rb w2 a bad) := HR1.out.ok hok; have HK2 : Hid (Ok w w2) := HK1.out.step hok; clear hok)
  | (go_at_call_of 24 ((⟨#[97, 115, 115, 101, 114, 116]⟩ : ByteArray)); refine (is_any P rb _ a bad _ HR2.out).mono ?_; rintro e w3 ⟨rfl, hok⟩; rw [show isS P a bad (⟨#[97, 115, 115, 101, 114, 116]⟩ : ByteArray).toList = false by (rw [ByteArray.toList_eq]; exact HI_3.out)]; have HR3 : Hid (RI P rb w3 a bad) := HR2.out.ok hok; have HK3 : Hid (Ok w w3) := HK2.out.step hok; clear hok)
  | (go_at_call_of 24 ((⟨#[115, 107, 105, 112]⟩ : ByteArray)); refine (is_any P rb _ a bad _ HR3.out).mono ?_; rintro e w4 ⟨rfl, hok⟩; rw [show isS P a bad (⟨#[115, 107, 105, 112]⟩ : ByteArray).toList = false by (rw [ByteArray.toList_eq]; exact HI_4.out)]; have HR4 : Hid (RI P rb w4 a bad) := HR3.out.ok hok; have HK4 : Hid (Ok w w4) := HK3.out.step hok; clear hok)
  | (go_at_call_of 24 ((⟨#[119, 104, 105, 108, 101]⟩ : ByteArray)); refine (is_any P rb _ a bad _ HR4.out).mono ?_; rintro e w5 ⟨rfl, hok⟩; rw [show isS P a bad (⟨#[119, 104, 105, 108, 101]⟩ : ByteArray).toList = false by (rw [ByteArray.toList_eq]; exact HI_5.out)]; have HR5 : Hid (RI P rb w5 a bad) := HR4.out.ok hok; have HK5 : Hid (Ok w w5) := HK4.out.step hok; clear hok)
  | (go_at_call_of 24 ((⟨#[105, 102]⟩ : ByteArray)); refine (is_any P rb _ a bad _ HR5.out).mono ?_; rintro e w6 ⟨rfl, hok⟩; rw [show isS P a bad (⟨#[105, 102]⟩ : ByteArray).toList = false by (rw [ByteArray.toList_eq]; exact HI_6.out)]; have HR6 : Hid (RI P rb w6 a bad) := HR5.out.ok hok; have HK6 : Hid (Ok w w6) := HK5.out.step hok; clear hok)
  | (go_at_call 45; refine (name_any P rb _ a bad HR6.out).mono ?_; rintro e w10 ⟨s, rfl, hs, hr6, hf6⟩; have HSZ : Hid (s.size ≤ 1000000) := name_any_size HG.out hs; have HNA : Hid (s = naT P a bad) := naT_of hs; rw [HN.out] at hr6; simp only [if_true] at hr6; have HT1 : Hid (RI P rb w10 (a + 1) bad ∧ Fr rb w w10) := ⟨hr6, (Fr.of HK6.out).trans hf6⟩; clear hs hr6 hf6)
  | (go_at_call_of 24 ((⟨#[91]⟩ : ByteArray)); refine (is_any P rb _ (a + 1) bad _ HT1.out.1).mono ?_; rintro e w11 ⟨rfl, hok⟩; rw [show isS P (a + 1) bad (⟨#[91]⟩ : ByteArray).toList = false by (rw [ByteArray.toList_eq]; exact HI_8.out)]; have HT2 : Hid (RI P rb w11 (a + 1) bad ∧ Fr rb w w11 ∧ Acc P a 0 (a + 1) bad 0) := ⟨HT1.out.1.ok hok, HT1.out.2.trans (Fr.of hok), Acc.start P a bad⟩; clear hok)
  | (go_at_call_of 46 ((⟨#[58, 61]⟩ : ByteArray)); refine (take_any P rb _ (a + 1) bad _ HT2.out.1).mono ?_; rintro e w12 ⟨rfl, hr, hf⟩; obtain ⟨a3, ha1⟩ : ∃ x, x = (if isS P (a + 1) bad (⟨#[58, 61]⟩ : ByteArray).toList then (a + 1) + 1 else (a + 1)) := ⟨_, rfl⟩; obtain ⟨b3, hb1⟩ : ∃ x, x = (if isS P (a + 1) bad (⟨#[58, 61]⟩ : ByteArray).toList then bad else failS P (a + 1) bad) := ⟨_, rfl⟩; rw [← ha1, ← hb1] at hr; have HT3 : Hid (RI P rb w12 a3 b3 ∧ Fr rb w w12 ∧ Acc P a (0) a3 b3 0) := ⟨hr, HT2.out.2.1.trans hf, (by rw [ha1, hb1]; exact HT2.out.2.2.take _)⟩; have HA3 : Hid (a3 = tkA P (a + 1) bad [58, 61] ∧ b3 = tkB P (a + 1) bad [58, 61]) := ⟨by rw [ha1, ByteArray.toList_eq]; rfl, by rw [hb1, ByteArray.toList_eq]; rfl⟩; clear hr hf ha1 hb1)
  | (go_at_call 49; refine (expr_any P rb HG.out _ a3 b3 0 (by decide) HT3.out.1).mono ?_; rintro e w13 ⟨vv, ms, a4, b4, rfl, hnl, hri, hfr, hgot, h0⟩; have HE4 : Hid (exA P a3 b3 = (ms, a4, b4)) := hgot.sem.all; obtain ⟨mso, msq, rfl⟩ := own_form hnl; have HQ : Hid (NL w13 w.heap.size (.slice mso ms.length msq) ms ∧ (∀ x ∈ ms, x.Fit) ∧ ms.length ≤ 65544) := ⟨own_base hnl (by have := HT3.out.2.1.le; simpa using this), hgot.fit, hgot.len' HG.out hri.le⟩; have HT4 : Hid (RI P rb w13 a4 b4 ∧ Fr rb w w13 ∧ Acc P a (0 + ms.length) a4 b4 0) := ⟨hri, Fr.trans HT3.out.2.1 hfr, Acc.expr HT3.out.2.2 hgot h0⟩; clear hnl hri hfr hgot h0)
  | (go_at_call_of 46 ((⟨#[59]⟩ : ByteArray)); refine (take_any P rb _ a4 b4 _ HT4.out.1).mono ?_; rintro e w14 ⟨rfl, hr, hf⟩; obtain ⟨a5, ha1⟩ : ∃ x, x = (if isS P a4 b4 (⟨#[59]⟩ : ByteArray).toList then a4 + 1 else a4) := ⟨_, rfl⟩; obtain ⟨b5, hb1⟩ : ∃ x, x = (if isS P a4 b4 (⟨#[59]⟩ : ByteArray).toList then b4 else failS P a4 b4) := ⟨_, rfl⟩; rw [← ha1, ← hb1] at hr; have HT5 : Hid (RI P rb w14 a5 b5 ∧ Fr rb w w14 ∧ Acc P a (0 + ms.length) a5 b5 0) := ⟨hr, HT4.out.2.1.trans hf, (by rw [ha1, hb1]; exact HT4.out.2.2.take _)⟩; have HNC : Hid (NL w14 w.heap.size (.slice mso ms.length msq) ms) := NL.up HQ.out.1 hf H.out.lt; have HA5 : Hid (a5 = tkA P a4 b4 [59] ∧ b5 = tkB P a4 b4 [59]) := ⟨by rw [ha1, ByteArray.toList_eq]; rfl, by rw [hb1, ByteArray.toList_eq]; rfl⟩; clear hr hf ha1 hb1)
  | (go_at_call 47; refine (node_any _ ⟨0, 2, s, 0, 0, (plS P a : Nat)⟩ _ [(.slice mso ms.length msq, ms)] (HD.one (heap_new0 _ _) (own_ok HNC.out.base ((Ok.refl w14).alloc _))) (by have := HQ.out.2.2; rw [held1, List.length_map]; omega) (by simp)).mono ?_; rintro e w21 ⟨v4, rfl, hn4, hok⟩; have HF : Hid (EPs (StS P a bad) P rb w a bad (.returned v4) w21) := fin_stmt HT5.out.2.1 HT5.out.1 HB0.out HT5.out.2.2 (by decide) ⟨HSZ.out, by simp, by simp, by simp⟩ (by rw [held1, List.length_map, Nat.zero_add]) (fit_held1 HQ.out.2.1) hn4 (by have := HT5.out.2.1.le; simp; omega) (((Ok.refl w14).alloc _).step hok) (StS.assign ⟨HI_2.out, HI_3.out, HI_4.out, HI_5.out, HI_6.out⟩ HN.out HI_8.out HNA.out HA3.out HE4.out HA5.out); clear hn4 hok)
  | fail)
 go_ret
 exact HF.out
set_option maxRecDepth 100000 in
set_option maxHeartbeats 4000000 in
theorem stmt_store (P : RP) (rb : Nat) (w : World) (a : Nat) (bad : Int) (hG : GT P) (h : RI P rb w a bad) (hi2 : isS P a bad [105, 110, 112, 117, 116] = false) (hi3 : isS P a bad [97, 115, 115, 101, 114, 116] = false) (hi4 : isS P a bad [115, 107, 105, 112] = false) (hi5 : isS P a bad [119, 104, 105, 108, 101] = false) (hi6 : isS P a bad [105, 102] = false) (hn : namS P a bad = true) (hi8 : isS P (a + 1) bad [91] = true) : Calls Tryd.prog 26 #[.pointer (some ⟨rb, 0, none⟩)] w (EPs (StS P a bad) P rb w a bad) := by
 have H : Hid (RI P rb w a bad) := h
 have HG : Hid (GT P) := hG
 have HI_2 : Hid _ := hi2
 have HI_3 : Hid _ := hi3
 have HI_4 : Hid _ := hi4
 have HI_5 : Hid _ := hi5
 have HI_6 : Hid _ := hi6
 clear hi2 hi3 hi4 hi5 hi6
 have HN : Hid (namS P a bad = true) := hn
 have HB0 : Hid (bad < 0) := (namS_yes hn).1
 have HI_8 : Hid _ := hi8
 have hal2 : a + 2 ≤ P.ts.length := (isS_yes hi8).2
 have hw2 : IntKind.i64.wrap ((a : Int) + 1 + 1) = ((a + 2 : Nat) : Int) := wrap_nat (by omega) (by have := h.lim; omega)
 clear h hG hn hi8
 go_enter Tryd.func26, Tryd.ntmps26
 go_wp2_with (first
  | (go_at_call 44; refine (place_any P rb _ a bad H.out).mono ?_; rintro e w1 ⟨rfl, hok⟩; have HR1 : Hid (RI P rb w1 a bad) := H.out.ok hok; have HK1 : Hid (Ok w w1) := hok; clear hok)
  | (go_at_call_of 24 ((⟨#[105, 110, 112, 117, 116]⟩ : ByteArray)); refine (is_any P rb _ a bad _ HR1.out).mono ?_; rintro e w2 ⟨rfl, hok⟩; rw [show isS P a bad (⟨#[105, 110, 112, 117, 116]⟩ : ByteArray).toList = false by (rw [ByteArray.toList_eq]; exact HI_2.out)]; have HR2 : Hid (RI P rb w2 a bad) := HR1.out.ok hok; have HK2 : Hid (Ok w w2) := HK1.out.step hok; clear hok)
  | (go_at_call_of 24 ((⟨#[97, 115, 115, 101, 114, 116]⟩ : ByteArray)); refine (is_any P rb _ a bad _ HR2.out).mono ?_; rintro e w3 ⟨rfl, hok⟩; rw [show isS P a bad (⟨#[97, 115, 115, 101, 114, 116]⟩ : ByteArray).toList = false by (rw [ByteArray.toList_eq]; exact HI_3.out)]; have HR3 : Hid (RI P rb w3 a bad) := HR2.out.ok hok; have HK3 : Hid (Ok w w3) := HK2.out.step hok; clear hok)
  | (go_at_call_of 24 ((⟨#[115, 107, 105, 112]⟩ : ByteArray)); refine (is_any P rb _ a bad _ HR3.out).mono ?_; rintro e w4 ⟨rfl, hok⟩; rw [show isS P a bad (⟨#[115, 107, 105, 112]⟩ : ByteArray).toList = false by (rw [ByteArray.toList_eq]; exact HI_4.out)]; have HR4 : Hid (RI P rb w4 a bad) := HR3.out.ok hok; have HK4 : Hid (Ok w w4) := HK3.out.step hok; clear hok)
  | (go_at_call_of 24 ((⟨#[119, 104, 105, 108, 101]⟩ : ByteArray)); refine (is_any P rb _ a bad _ HR4.out).mono ?_; rintro e w5 ⟨rfl, hok⟩; rw [show isS P a bad (⟨#[119, 104, 105, 108, 101]⟩ : ByteArray).toList = false by (rw [ByteArray.toList_eq]; exact HI_5.out)]; have HR5 : Hid (RI P rb w5 a bad) := HR4.out.ok hok; have HK5 : Hid (Ok w w5) := HK4.out.step hok; clear hok)
  | (go_at_call_of 24 ((⟨#[105, 102]⟩ : ByteArray)); refine (is_any P rb _ a bad _ HR5.out).mono ?_; rintro e w6 ⟨rfl, hok⟩; rw [show isS P a bad (⟨#[105, 102]⟩ : ByteArray).toList = false by (rw [ByteArray.toList_eq]; exact HI_6.out)]; have HR6 : Hid (RI P rb w6 a bad) := HR5.out.ok hok; have HK6 : Hid (Ok w w6) := HK5.out.step hok; clear hok)
  | (go_at_call 45; refine (name_any P rb _ a bad HR6.out).mono ?_; rintro e w10 ⟨s, rfl, hs, hr6, hf6⟩; have HSZ : Hid (s.size ≤ 1000000) := name_any_size HG.out hs; have HNA : Hid (s = naT P a bad) := naT_of hs; rw [HN.out] at hr6; simp only [if_true] at hr6; have HT1 : Hid (RI P rb w10 (a + 1) bad ∧ Fr rb w w10) := ⟨hr6, (Fr.of HK6.out).trans hf6⟩; clear hs hr6 hf6)
  | (go_at_call_of 24 ((⟨#[91]⟩ : ByteArray)); refine (is_any P rb _ (a + 1) bad _ HT1.out.1).mono ?_; rintro e w11 ⟨rfl, hok⟩; rw [show isS P (a + 1) bad (⟨#[91]⟩ : ByteArray).toList = true by (rw [ByteArray.toList_eq]; exact HI_8.out)]; have HT2 : Hid (RI P rb w11 (a + 1) bad ∧ Fr rb w w11 ∧ Acc P a 0 (a + 1) bad 0) := ⟨HT1.out.1.ok hok, HT1.out.2.trans (Fr.of hok), Acc.start P a bad⟩; obtain ⟨f0, f1, f2, f3, z0, z1, z2, z3⟩ := row4_facts HT2.out.1.row; have hlt := HT2.out.1.lt; clear hok)
  | fail)
 refine (expr_any P rb HG.out _ (a + 2) bad 0 (by decide) (HT2.out.1.setAt (a + 2) hal2)).mono ?_; rintro e w13 ⟨vv, ms, a4, b4, rfl, hnl, hri, hfr, hgot, h0⟩; have HE4 : Hid (exA P (a + 2) bad = (ms, a4, b4)) := hgot.sem.all; obtain ⟨mso, msq, rfl⟩ := own_form hnl; have HQ : Hid (NL w13 w.heap.size (.slice mso ms.length msq) ms ∧ (∀ x ∈ ms, x.Fit) ∧ ms.length ≤ 65544) := ⟨own_base hnl (by have := HT2.out.2.1.le; simpa using this), hgot.fit, hgot.len' HG.out hri.le⟩; have HT4 : Hid (RI P rb w13 a4 b4 ∧ Fr rb w w13 ∧ Acc P a (0 + ms.length) a4 b4 0) := ⟨hri, Fr.trans (HT2.out.2.1.set 1 _) hfr, Acc.expr HT2.out.2.2.on hgot h0⟩; clear hnl hri hfr hgot h0 f0 f1 f2 f3 z0 z1 z2 z3 hlt
 go_wp2_with (first
  | (go_at_call_of 46 ((⟨#[93]⟩ : ByteArray)); refine (take_any P rb _ a4 b4 _ HT4.out.1).mono ?_; rintro e w14 ⟨rfl, hr, hf⟩; obtain ⟨a5, ha1⟩ : ∃ x, x = (if isS P a4 b4 (⟨#[93]⟩ : ByteArray).toList then a4 + 1 else a4) := ⟨_, rfl⟩; obtain ⟨b5, hb1⟩ : ∃ x, x = (if isS P a4 b4 (⟨#[93]⟩ : ByteArray).toList then b4 else failS P a4 b4) := ⟨_, rfl⟩; rw [← ha1, ← hb1] at hr; have HT5 : Hid (RI P rb w14 a5 b5 ∧ Fr rb w w14 ∧ Acc P a (0 + ms.length) a5 b5 0) := ⟨hr, HT4.out.2.1.trans hf, (by rw [ha1, hb1]; exact HT4.out.2.2.take _)⟩; have HN1 : Hid (NL w14 w.heap.size (.slice mso ms.length msq) ms) := NL.up HQ.out.1 hf H.out.lt; have HA5 : Hid (a5 = tkA P a4 b4 [93] ∧ b5 = tkB P a4 b4 [93]) := ⟨by rw [ha1, ByteArray.toList_eq]; rfl, by rw [hb1, ByteArray.toList_eq]; rfl⟩; clear hr hf ha1 hb1)
  | (go_at_call_of 46 ((⟨#[58, 61]⟩ : ByteArray)); refine (take_any P rb _ a5 b5 _ HT5.out.1).mono ?_; rintro e w15 ⟨rfl, hr, hf⟩; obtain ⟨a6, ha1⟩ : ∃ x, x = (if isS P a5 b5 (⟨#[58, 61]⟩ : ByteArray).toList then a5 + 1 else a5) := ⟨_, rfl⟩; obtain ⟨b6, hb1⟩ : ∃ x, x = (if isS P a5 b5 (⟨#[58, 61]⟩ : ByteArray).toList then b5 else failS P a5 b5) := ⟨_, rfl⟩; rw [← ha1, ← hb1] at hr; have HT6 : Hid (RI P rb w15 a6 b6 ∧ Fr rb w w15 ∧ Acc P a (0 + ms.length) a6 b6 0) := ⟨hr, HT5.out.2.1.trans hf, (by rw [ha1, hb1]; exact HT5.out.2.2.take _)⟩; have HN2 : Hid (NL w15 w.heap.size (.slice mso ms.length msq) ms) := NL.up HN1.out hf H.out.lt; have HA6 : Hid (a6 = tkA P a5 b5 [58, 61] ∧ b6 = tkB P a5 b5 [58, 61]) := ⟨by rw [ha1, ByteArray.toList_eq]; rfl, by rw [hb1, ByteArray.toList_eq]; rfl⟩; clear hr hf ha1 hb1)
  | fail)
 refine (expr_any P rb HG.out _ a6 b6 0 (by decide) HT6.out.1).mono ?_; rintro e w16 ⟨vv, ks, a7, b7, rfl, hnl, hri, hfr, hgot, h0⟩; have HE7 : Hid (exA P a6 b6 = (ks, a7, b7)) := hgot.sem.all; obtain ⟨kso, ksq, rfl⟩ := own_form hnl; have HS : Hid (NL w16 w.heap.size (.slice kso ks.length ksq) ks ∧ (∀ x ∈ ks, x.Fit) ∧ ks.length ≤ 65544) := ⟨own_base hnl (by have := HT6.out.2.1.le; simpa using this), hgot.fit, hgot.len' HG.out hri.le⟩; have HT7 : Hid (RI P rb w16 a7 b7 ∧ Fr rb w w16 ∧ Acc P a (0 + ms.length + ks.length) a7 b7 0) := ⟨hri, Fr.trans HT6.out.2.1 hfr, Acc.expr HT6.out.2.2 hgot h0⟩; have HN3 : Hid (NL w16 w.heap.size (.slice mso ms.length msq) ms) := NL.up HN2.out hfr H.out.lt; clear hnl hri hfr hgot h0
 go_wp2_with (first
  | (go_at_call_of 46 ((⟨#[59]⟩ : ByteArray)); refine (take_any P rb _ a7 b7 _ HT7.out.1).mono ?_; rintro e w17 ⟨rfl, hr, hf⟩; obtain ⟨a8, ha1⟩ : ∃ x, x = (if isS P a7 b7 (⟨#[59]⟩ : ByteArray).toList then a7 + 1 else a7) := ⟨_, rfl⟩; obtain ⟨b8, hb1⟩ : ∃ x, x = (if isS P a7 b7 (⟨#[59]⟩ : ByteArray).toList then b7 else failS P a7 b7) := ⟨_, rfl⟩; rw [← ha1, ← hb1] at hr; have HT8 : Hid (RI P rb w17 a8 b8 ∧ Fr rb w w17 ∧ Acc P a (0 + ms.length + ks.length) a8 b8 0) := ⟨hr, HT7.out.2.1.trans hf, (by rw [ha1, hb1]; exact HT7.out.2.2.take _)⟩; have HN4 : Hid (NL w17 w.heap.size (.slice mso ms.length msq) ms) := NL.up HN3.out hf H.out.lt; have HN5 : Hid (NL w17 w.heap.size (.slice kso ks.length ksq) ks) := NL.up HS.out.1 hf H.out.lt; have HA8 : Hid (a8 = tkA P a7 b7 [59] ∧ b8 = tkB P a7 b7 [59]) := ⟨by rw [ha1, ByteArray.toList_eq]; rfl, by rw [hb1, ByteArray.toList_eq]; rfl⟩; clear hr hf ha1 hb1)
  | (go_at_call 47; refine (node_any _ ⟨0, 3, s, 0, 0, (plS P a : Nat)⟩ _ [(.slice mso ms.length msq, ms), (.slice kso ks.length ksq, ks)] (hd_two (heap_new0 _ _) (own_ok HN4.out.base ((Ok.refl w17).alloc _)) (own_ok HN5.out.base ((Ok.refl w17).alloc _))) (by have := HQ.out.2.2; have := HS.out.2.2; rw [held2, List.length_append, List.length_map, List.length_map]; omega) (by simp)).mono ?_; rintro e w21 ⟨v4, rfl, hn4, hok⟩; have HF : Hid (EPs (StS P a bad) P rb w a bad (.returned v4) w21) := fin_stmt HT8.out.2.1 HT8.out.1 HB0.out HT8.out.2.2 (by decide) ⟨HSZ.out, by simp, by simp, by simp⟩ (by rw [held2, List.length_append, List.length_map, List.length_map, Nat.zero_add]) (fit_held2 HQ.out.2.1 HS.out.2.1) hn4 (by have := HT8.out.2.1.le; simp; omega) (((Ok.refl w17).alloc _).step hok) (StS.store ⟨HI_2.out, HI_3.out, HI_4.out, HI_5.out, HI_6.out⟩ HN.out HI_8.out HNA.out HE4.out HA5.out HA6.out HE7.out HA8.out); clear hn4 hok)
  | fail)
 go_ret
 exact HF.out
theorem stmt_step (P : RP) (rb m : Nat) (hG : GT P) (hB : ∀ k, k < m → BlockOK P rb k) : StmtOK P rb m := by
 intro w a bad h hm
 cases h2 : isS P a bad [105, 110, 112, 117, 116] with
 | true => exact stmt_input P rb w a bad hG h h2
 | false =>
  cases h3 : isS P a bad [97, 115, 115, 101, 114, 116] with
  | true => exact stmt_assert P rb w a bad hG h h2 h3
  | false =>
   cases h4 : isS P a bad [115, 107, 105, 112] with
   | true => exact stmt_skip P rb w a bad hG h h2 h3 h4
   | false =>
    cases h5 : isS P a bad [119, 104, 105, 108, 101] with
    | true => exact stmt_while P rb w a bad m hB hm hG h h2 h3 h4 h5
    | false =>
     cases h6 : isS P a bad [105, 102] with
     | true => exact stmt_if P rb w a bad m hB hm hG h h2 h3 h4 h5 h6
     | false =>
      cases hn : namS P a bad with
      | false => exact stmt_noname P rb w a bad hG h h2 h3 h4 h5 h6 hn
      | true =>
       cases h8 : isS P (a + 1) bad [91] with
       | false => exact stmt_assign P rb w a bad hG h h2 h3 h4 h5 h6 hn h8
       | true => exact stmt_store P rb w a bad hG h h2 h3 h4 h5 h6 hn h8
theorem stmts_ok (P : RP) (rb : Nat) (hG : GT P) (m : Nat) : StmtOK P rb m ∧ BlockOK P rb m := by
 induction m using Nat.strongRecOn with
 | ind m ih => exact ⟨stmt_step P rb m hG fun k hk => (ih k hk).2, block_step P rb m hG fun k hk => (ih k hk).1⟩
theorem statement_any (P : RP) (rb : Nat) (hG : GT P) (w : World) (a : Nat) (bad : Int) (h : RI P rb w a bad) :
  Calls Tryd.prog 26 #[.pointer (some ⟨rb, 0, none⟩)] w (EPs (StS P a bad) P rb w a bad) := (stmts_ok P rb hG _).1 w a bad h (Nat.le_refl _)
end
section
open Go.RowKit
theorem wrap64_le (x : Int) : wrap64 x ≤ 9223372036854775807 := by unfold wrap64; omega
theorem valF_le : ∀ (l : List UInt8) (n : Int), n ≤ 9223372036854775807 → valF n l ≤ 9223372036854775807
 | [], n, h => h
 | c :: r, n, h => valF_le r _ (wrap64_le _)
theorem piece_num_le {l : List UInt8} {k : Nat} {t : List UInt8} {n : Int} (h : pieceS l = .inr (k, t, n)) : n ≤ 9223372036854775807 := by
 cases l with
 | nil => cases h
 | cons c r =>
  simp only [pieceS] at h
  repeat' split at h
  all_goals (first | (cases h; done) | skip)
  all_goals (cases h)
  all_goals (first | exact valF_le _ _ (by decide) | decide)
theorem lexF_gt : ∀ (f : Nat) (l : List UInt8) (i : Nat) (ts : List Tk), lexF f l i = .inr ts → ts.length ≤ l.length ∧ ∀ x ∈ ts, x.2.1.length ≤ l.length ∧ x.2.2.1 ≤ 9223372036854775807
 | 0, l, i, ts, h => by cases h; exact ⟨Nat.zero_le _, fun x hx => by cases hx⟩
 | f + 1, [], i, ts, h => by cases h; exact ⟨Nat.zero_le _, fun x hx => by cases hx⟩
 | f + 1, c :: r, i, ts, h => by
  by_cases hb : 0 < behS (c :: r)
  ·rw [lexF_beh (List.cons_ne_nil _ _) hb] at h
   have := lexF_gt f _ _ ts h
   rw [List.length_drop] at this
   exact ⟨by omega, fun x hx => ⟨by have := (this.2 x hx).1; omega, (this.2 x hx).2⟩⟩
  ·cases hp : pieceS (c :: r) with
   | inl e => rw [lexF_err (List.cons_ne_nil _ _) hb hp] at h; cases h
   | inr p =>
    obtain ⟨k, t, n⟩ := p
    rw [lexF_tok (List.cons_ne_nil _ _) hb hp] at h
    cases hr : lexF f ((c :: r).drop t.length) (i + t.length) with
    | inl e => rw [hr] at h; cases h
    | inr rs =>
     rw [hr] at h
     have h' : (k, t, n, i) :: rs = ts := Sum.inr.inj h
     subst h'
     have h1 := lexF_gt f _ _ rs hr
     have h2 := piece_len hp
     rw [List.length_drop] at h1
     refine ⟨by rw [List.length_cons]; omega, fun x hx => ?_⟩
     rw [List.mem_cons] at hx
     rcases hx with rfl | hx
     ·exact ⟨h2.2, piece_num_le hp⟩
     ·exact ⟨by have := (h1.2 x hx).1; omega, (h1.2 x hx).2⟩
theorem lexS_gt {l : List UInt8} {ts : List Tk} (h : lexS l = .inr ts) : l.length ≤ 8192 ∧ ts.length ≤ 8192 ∧ ∀ x ∈ ts, x.2.1.length ≤ 1000000 ∧ x.2.2.1 ≤ 9223372036854775807 := by
 unfold lexS at h
 split at h
 ·cases h
 ·next h8 =>
  have := lexF_gt _ _ _ _ h
  exact ⟨by omega, by omega, fun x hx => ⟨by have := (this.2 x hx).1; omega, (this.2 x hx).2⟩⟩
theorem GT.of {P : RP} {l : List UInt8} (h : lexS l = .inr P.ts) : GT P := ⟨(lexS_gt h).2.1, (lexS_gt h).2.2⟩
end
end Go.Proofs.YtklkpaekdpaloaaDoor
