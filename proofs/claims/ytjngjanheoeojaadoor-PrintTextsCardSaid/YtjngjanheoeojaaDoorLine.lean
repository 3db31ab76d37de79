import Derived.Test.YtjngjanheoeojaaDoorBlk
namespace Go.Proofs.YtjngjanheoeojaaDoor
set_option linter.unusedVariables false
set_option linter.unusedSimpArgs false
open Go.RowKit
def LineT (e L x v ln bl bn bt b : Nat) (q : Nat) (l : List Nd) (T : List UInt8) : Prop :=
  ∀ (w0 : World) (r : List Nd) (txt : List UInt8) (w : World), Ls w0 e L x v ln bl bn bt b (l ++ r) txt w → Ends (2 * q + 1) r → txt.length + T.length ≤ 800000 →
    Calls Tryd.prog 40 #[.pointer (some ⟨L, 0, none⟩), .pointer (some ⟨L + 2, 0, none⟩), .pointer (some ⟨v, 0, none⟩), .pointer (some ⟨bl, 0, none⟩)] w fun y w' => y = .returned (.tuple #[]) ∧ Ls w0 e L x v ln bl bn bt b r (txt ++ T) w' ∧ Kp bn bt w w'
set_option maxHeartbeats 4000000 in
theorem line_var (e L x v ln bl bn bt b q : Nat) (n : Nd) (hd : n.depth = 2 * q + 1) (hf : Fine n) (hk : n.kind = 0) : LineT e L x v ln bl bn bt b q [n] (ind q ++ ([118, 97, 114, 32] ++ (n.name.toList ++ [59, 10]))) := by
  intro w0 r txt w h hr hlen
  simp only [List.cons_append, List.append_assoc, List.nil_append] at h
  have hhi := h.pr.hi
  have hmid := h.pr.mid
  have t1 := h.env.ctake
  have HS : Hid _ := h
  have HMG : Hid _ := margin_ind n q hd hf.deep
  unfold ndVal at HMG
  simp only [hk] at HMG
  have HD : Hid _ := hd
  have HD2 : Hid _ := hf.deep
  have HR : Hid _ := hr
  have HLM : Hid ((txt).length + (cat [⟨(ind q).toArray⟩]).length ≤ 1000000) := by unfold Hid; simp [cat, ByteArray.toList_eq] at hlen ⊢; omega
  have HL1 : Hid ((txt ++ cat [⟨(ind q).toArray⟩]).length + (cat [⟨#[118, 97, 114, 32]⟩, n.name]).length ≤ 1000000) := by unfold Hid; simp [cat, ByteArray.toList_eq] at hlen ⊢; omega
  have HL2 : Hid ((txt ++ cat [⟨(ind q).toArray⟩] ++ cat [⟨#[118, 97, 114, 32]⟩, n.name]).length + (cat [⟨#[59, 10]⟩]).length ≤ 1000000) := by unfold Hid; simp [cat, ByteArray.toList_eq] at hlen ⊢; omega
  clear h hd hr
  go_enter Tryd.func40, Tryd.ntmps40
  go_wp2_with fail
  refine (take_any bn bt b n _ txt w HS.out.pr).mono ?_
  rintro y w1 ⟨rfl, hp1, hk1⟩
  have HS1 : Hid _ := HS.out.next hp1 hk1
  have HK1 : Hid (Kp bn bt w w1) := hk1
  have hz1 : bt < w1.heap.size := HS1.out.pr.hi
  clear hp1 hk1 t1
  obtain ⟨w2, hW⟩ : ∃ W, W = w1.alloc (.cells #[.int .i64 n.depth, .int .i64 n.kind, .string n.name, .int .i64 n.num, .int .i64 n.op, .int .i64 n.pos] 31) := ⟨_, rfl⟩
  have hB2 : Below w1.heap.size w1 w2 := by rw [hW]; exact (Below.refl _ _).alloc (Nat.le_refl _) _
  have HS2 : Hid _ := HS1.out.below hB2
  have HK2 : Hid (Kp bn bt w w2) := HK1.out.trans (Kp.of hB2 (by omega))
  have HN2 : Hid (NdAt w2 w1.heap.size n) := by unfold Hid; rw [hW]; exact heap_alloc_new _ _
  rw [hk] at hW
  have HW : Hid _ := hW
  clear hW hB2
  unfold ndVal
  rw [hk]
  go_wp2_with fail
  rw [← HW.out]
  obtain ⟨d0, d1, d2, d3, d4, d5⟩ := HN2.out.cells
  rw [hk] at d1
  have s2 := HS2.out.env.csay
  have z2 := HS2.out.env.sz
  have zn2 := HN2.out.lt
  have e1 : L + 2 < w2.heap.size := z2.1
  have e2 : ¬ L + 2 = w2.heap.size := by omega
  have e3 : ¬ w1.heap.size = w2.heap.size := by omega
  clear z2
  go_region_held3 (fun w' => w'.cell? ⟨L + 2, 0, none⟩ = some (.func (.func 19) #[] #[.pointer (some ⟨bt, 0, none⟩)]) ∧ w'.cell? ⟨w1.heap.size, 0, none⟩ = some (.int .i64 n.depth) ∧ w'.cell? ⟨w1.heap.size, 1, none⟩ = some (.int .i64 0) ∧ w'.cell? ⟨w1.heap.size, 2, none⟩ = some (.string n.name) ∧ w'.cell? ⟨w1.heap.size, 3, none⟩ = some (.int .i64 n.num) ∧ w'.cell? ⟨w1.heap.size, 4, none⟩ = some (.int .i64 n.op) ∧ w'.cell? ⟨w1.heap.size, 5, none⟩ = some (.int .i64 n.pos)) (go_keep)
    (first
    | (go_at_call 39; refine (HMG.out _).mono ?_; rintro y wm ⟨rfl, hbm⟩; have HSm : Hid _ := HS2.out.drew.below hbm; have HNm : Hid (NdAt wm w1.heap.size n) := (HN2.out.below (Below.refl _ _).drew).below hbm; obtain ⟨p0, p1, p2, p3, p4, p5⟩ := HNm.out.cells; rw [hk] at p1; have sm := HSm.out.env.csay; have zm := HSm.out.env.sz; have znm := HNm.out.lt; have o1 : L + 2 < wm.heap.size := zm.1; have o2 : ¬ L + 2 = wm.heap.size := (by omega); have o3 : ¬ w1.heap.size = wm.heap.size := (by omega); clear zm)
    | (go_at_call 19; refine (say_pr bn bt b 1 1 _ _ _ _ rfl [⟨(ind q).toArray⟩] _ rfl rfl HSm.out.pr HLM.out (by simp)).mono ?_; rintro y w3 ⟨rfl, hp3, hk3⟩; have HS3 : Hid _ := HSm.out.next hp3 hk3; have HN3 : Hid (NdAt w3 w1.heap.size n) := HNm.out.kept hk3 hz1 hmid; have HK3 : Hid (Kp bn bt w w3) := (HK2.out.trans (Kp.of (Below.refl _ _).drew (by omega))).trans ((Kp.of hbm (by have := HS2.out.drew.pr.hi; omega)).trans hk3); obtain ⟨r0, r1, r2, r3, r4, r5⟩ := HN3.out.cells; rw [hk] at r1; have s3 := HS3.out.env.csay))
  clear d0 d1 d2 d3 d4 d5 s2 p0 p1 p2 p3 p4 p5 sm r0 r2 r3 r4 r5 s3 hp3 hk3 hbm
  have s3 := HS3.out.env.csay
  have dn := HN3.out.cells.2.2.1
  go_wp2_with fail
  refine (say_pr bn bt b 2 2 _ _ _ w3 rfl [⟨#[118, 97, 114, 32]⟩, n.name] _ rfl rfl HS3.out.pr HL1.out (by simp)).mono ?_
  rintro y w4 ⟨rfl, hp, hk0⟩
  have HS4 : Hid _ := HS3.out.next hp hk0
  have HK4 : Hid (Kp bn bt w w4) := HK3.out.trans hk0
  have HN4 : Hid (NdAt w4 w1.heap.size n) := HN3.out.kept hk0 hz1 hmid
  clear hp hk0
  clear s3 dn
  have s4 := HS4.out.env.csay
  go_wp2_with fail
  refine (say_pr bn bt b 1 1 _ _ _ w4 rfl [⟨#[59, 10]⟩] _ rfl rfl HS4.out.pr HL2.out (by simp)).mono ?_
  rintro y w5 ⟨rfl, hp, hk0⟩
  have HS5 : Hid _ := HS4.out.next hp hk0
  have HK5 : Hid (Kp bn bt w w5) := HK4.out.trans hk0
  have HN5 : Hid (NdAt w5 w1.heap.size n) := HN4.out.kept hk0 hz1 hmid
  clear hp hk0
  clear s4
  go_wp2_with fail
  go_end0
  refine ⟨rfl, ?_, HK5.out⟩
  have h9 := HS5.out
  simpa [cat, ByteArray.toList_eq] using h9
set_option maxHeartbeats 4000000 in
theorem line_input (e L x v ln bl bn bt b q : Nat) (n : Nd) (hd : n.depth = 2 * q + 1) (hf : Fine n) (hk : n.kind = 4) : LineT e L x v ln bl bn bt b q [n] (ind q ++ ([105, 110, 112, 117, 116, 32] ++ (n.name.toList ++ [59, 10]))) := by
  intro w0 r txt w h hr hlen
  simp only [List.cons_append, List.append_assoc, List.nil_append] at h
  have hhi := h.pr.hi
  have hmid := h.pr.mid
  have t1 := h.env.ctake
  have HS : Hid _ := h
  have HMG : Hid _ := margin_ind n q hd hf.deep
  unfold ndVal at HMG
  simp only [hk] at HMG
  have HD : Hid _ := hd
  have HD2 : Hid _ := hf.deep
  have HR : Hid _ := hr
  have HLM : Hid ((txt).length + (cat [⟨(ind q).toArray⟩]).length ≤ 1000000) := by unfold Hid; simp [cat, ByteArray.toList_eq] at hlen ⊢; omega
  have HL1 : Hid ((txt ++ cat [⟨(ind q).toArray⟩]).length + (cat [⟨#[105, 110, 112, 117, 116, 32]⟩, n.name]).length ≤ 1000000) := by unfold Hid; simp [cat, ByteArray.toList_eq] at hlen ⊢; omega
  have HL2 : Hid ((txt ++ cat [⟨(ind q).toArray⟩] ++ cat [⟨#[105, 110, 112, 117, 116, 32]⟩, n.name]).length + (cat [⟨#[59, 10]⟩]).length ≤ 1000000) := by unfold Hid; simp [cat, ByteArray.toList_eq] at hlen ⊢; omega
  clear h hd hr
  go_enter Tryd.func40, Tryd.ntmps40
  go_wp2_with fail
  refine (take_any bn bt b n _ txt w HS.out.pr).mono ?_
  rintro y w1 ⟨rfl, hp1, hk1⟩
  have HS1 : Hid _ := HS.out.next hp1 hk1
  have HK1 : Hid (Kp bn bt w w1) := hk1
  have hz1 : bt < w1.heap.size := HS1.out.pr.hi
  clear hp1 hk1 t1
  obtain ⟨w2, hW⟩ : ∃ W, W = w1.alloc (.cells #[.int .i64 n.depth, .int .i64 n.kind, .string n.name, .int .i64 n.num, .int .i64 n.op, .int .i64 n.pos] 31) := ⟨_, rfl⟩
  have hB2 : Below w1.heap.size w1 w2 := by rw [hW]; exact (Below.refl _ _).alloc (Nat.le_refl _) _
  have HS2 : Hid _ := HS1.out.below hB2
  have HK2 : Hid (Kp bn bt w w2) := HK1.out.trans (Kp.of hB2 (by omega))
  have HN2 : Hid (NdAt w2 w1.heap.size n) := by unfold Hid; rw [hW]; exact heap_alloc_new _ _
  rw [hk] at hW
  have HW : Hid _ := hW
  clear hW hB2
  unfold ndVal
  rw [hk]
  go_wp2_with fail
  rw [← HW.out]
  obtain ⟨d0, d1, d2, d3, d4, d5⟩ := HN2.out.cells
  rw [hk] at d1
  have s2 := HS2.out.env.csay
  have z2 := HS2.out.env.sz
  have zn2 := HN2.out.lt
  have e1 : L + 2 < w2.heap.size := z2.1
  have e2 : ¬ L + 2 = w2.heap.size := by omega
  have e3 : ¬ w1.heap.size = w2.heap.size := by omega
  clear z2
  go_region_held3 (fun w' => w'.cell? ⟨L + 2, 0, none⟩ = some (.func (.func 19) #[] #[.pointer (some ⟨bt, 0, none⟩)]) ∧ w'.cell? ⟨w1.heap.size, 0, none⟩ = some (.int .i64 n.depth) ∧ w'.cell? ⟨w1.heap.size, 1, none⟩ = some (.int .i64 4) ∧ w'.cell? ⟨w1.heap.size, 2, none⟩ = some (.string n.name) ∧ w'.cell? ⟨w1.heap.size, 3, none⟩ = some (.int .i64 n.num) ∧ w'.cell? ⟨w1.heap.size, 4, none⟩ = some (.int .i64 n.op) ∧ w'.cell? ⟨w1.heap.size, 5, none⟩ = some (.int .i64 n.pos)) (go_keep)
    (first
    | (go_at_call 39; refine (HMG.out _).mono ?_; rintro y wm ⟨rfl, hbm⟩; have HSm : Hid _ := HS2.out.drew.below hbm; have HNm : Hid (NdAt wm w1.heap.size n) := (HN2.out.below (Below.refl _ _).drew).below hbm; obtain ⟨p0, p1, p2, p3, p4, p5⟩ := HNm.out.cells; rw [hk] at p1; have sm := HSm.out.env.csay; have zm := HSm.out.env.sz; have znm := HNm.out.lt; have o1 : L + 2 < wm.heap.size := zm.1; have o2 : ¬ L + 2 = wm.heap.size := (by omega); have o3 : ¬ w1.heap.size = wm.heap.size := (by omega); clear zm)
    | (go_at_call 19; refine (say_pr bn bt b 1 1 _ _ _ _ rfl [⟨(ind q).toArray⟩] _ rfl rfl HSm.out.pr HLM.out (by simp)).mono ?_; rintro y w3 ⟨rfl, hp3, hk3⟩; have HS3 : Hid _ := HSm.out.next hp3 hk3; have HN3 : Hid (NdAt w3 w1.heap.size n) := HNm.out.kept hk3 hz1 hmid; have HK3 : Hid (Kp bn bt w w3) := (HK2.out.trans (Kp.of (Below.refl _ _).drew (by omega))).trans ((Kp.of hbm (by have := HS2.out.drew.pr.hi; omega)).trans hk3); obtain ⟨r0, r1, r2, r3, r4, r5⟩ := HN3.out.cells; rw [hk] at r1; have s3 := HS3.out.env.csay))
  clear d0 d1 d2 d3 d4 d5 s2 p0 p1 p2 p3 p4 p5 sm r0 r2 r3 r4 r5 s3 hp3 hk3 hbm
  have s3 := HS3.out.env.csay
  have dn := HN3.out.cells.2.2.1
  go_wp2_with fail
  refine (say_pr bn bt b 2 2 _ _ _ w3 rfl [⟨#[105, 110, 112, 117, 116, 32]⟩, n.name] _ rfl rfl HS3.out.pr HL1.out (by simp)).mono ?_
  rintro y w4 ⟨rfl, hp, hk0⟩
  have HS4 : Hid _ := HS3.out.next hp hk0
  have HK4 : Hid (Kp bn bt w w4) := HK3.out.trans hk0
  have HN4 : Hid (NdAt w4 w1.heap.size n) := HN3.out.kept hk0 hz1 hmid
  clear hp hk0
  clear s3 dn
  have s4 := HS4.out.env.csay
  go_wp2_with fail
  refine (say_pr bn bt b 1 1 _ _ _ w4 rfl [⟨#[59, 10]⟩] _ rfl rfl HS4.out.pr HL2.out (by simp)).mono ?_
  rintro y w5 ⟨rfl, hp, hk0⟩
  have HS5 : Hid _ := HS4.out.next hp hk0
  have HK5 : Hid (Kp bn bt w w5) := HK4.out.trans hk0
  have HN5 : Hid (NdAt w5 w1.heap.size n) := HN4.out.kept hk0 hz1 hmid
  clear hp hk0
  clear s4
  go_wp2_with fail
  go_end0
  refine ⟨rfl, ?_, HK5.out⟩
  have h9 := HS5.out
  simpa [cat, ByteArray.toList_eq] using h9
set_option maxHeartbeats 4000000 in
theorem line_skip (e L x v ln bl bn bt b q : Nat) (n : Nd) (hd : n.depth = 2 * q + 1) (hf : Fine n) (hk : n.kind = 6) : LineT e L x v ln bl bn bt b q [n] (ind q ++ ([115, 107, 105, 112] ++ [59, 10])) := by
  intro w0 r txt w h hr hlen
  simp only [List.cons_append, List.append_assoc, List.nil_append] at h
  have hhi := h.pr.hi
  have hmid := h.pr.mid
  have t1 := h.env.ctake
  have HS : Hid _ := h
  have HMG : Hid _ := margin_ind n q hd hf.deep
  unfold ndVal at HMG
  simp only [hk] at HMG
  have HD : Hid _ := hd
  have HD2 : Hid _ := hf.deep
  have HR : Hid _ := hr
  have HLM : Hid ((txt).length + (cat [⟨(ind q).toArray⟩]).length ≤ 1000000) := by unfold Hid; simp [cat, ByteArray.toList_eq] at hlen ⊢; omega
  have HL1 : Hid ((txt ++ cat [⟨(ind q).toArray⟩]).length + (cat [⟨#[115, 107, 105, 112]⟩]).length ≤ 1000000) := by unfold Hid; simp [cat, ByteArray.toList_eq] at hlen ⊢; omega
  have HL2 : Hid ((txt ++ cat [⟨(ind q).toArray⟩] ++ cat [⟨#[115, 107, 105, 112]⟩]).length + (cat [⟨#[59, 10]⟩]).length ≤ 1000000) := by unfold Hid; simp [cat, ByteArray.toList_eq] at hlen ⊢; omega
  clear h hd hr
  go_enter Tryd.func40, Tryd.ntmps40
  go_wp2_with fail
  refine (take_any bn bt b n _ txt w HS.out.pr).mono ?_
  rintro y w1 ⟨rfl, hp1, hk1⟩
  have HS1 : Hid _ := HS.out.next hp1 hk1
  have HK1 : Hid (Kp bn bt w w1) := hk1
  have hz1 : bt < w1.heap.size := HS1.out.pr.hi
  clear hp1 hk1 t1
  obtain ⟨w2, hW⟩ : ∃ W, W = w1.alloc (.cells #[.int .i64 n.depth, .int .i64 n.kind, .string n.name, .int .i64 n.num, .int .i64 n.op, .int .i64 n.pos] 31) := ⟨_, rfl⟩
  have hB2 : Below w1.heap.size w1 w2 := by rw [hW]; exact (Below.refl _ _).alloc (Nat.le_refl _) _
  have HS2 : Hid _ := HS1.out.below hB2
  have HK2 : Hid (Kp bn bt w w2) := HK1.out.trans (Kp.of hB2 (by omega))
  have HN2 : Hid (NdAt w2 w1.heap.size n) := by unfold Hid; rw [hW]; exact heap_alloc_new _ _
  rw [hk] at hW
  have HW : Hid _ := hW
  clear hW hB2
  unfold ndVal
  rw [hk]
  go_wp2_with fail
  rw [← HW.out]
  obtain ⟨d0, d1, d2, d3, d4, d5⟩ := HN2.out.cells
  rw [hk] at d1
  have s2 := HS2.out.env.csay
  have z2 := HS2.out.env.sz
  have zn2 := HN2.out.lt
  have e1 : L + 2 < w2.heap.size := z2.1
  have e2 : ¬ L + 2 = w2.heap.size := by omega
  have e3 : ¬ w1.heap.size = w2.heap.size := by omega
  clear z2
  go_region_held3 (fun w' => w'.cell? ⟨L + 2, 0, none⟩ = some (.func (.func 19) #[] #[.pointer (some ⟨bt, 0, none⟩)]) ∧ w'.cell? ⟨w1.heap.size, 0, none⟩ = some (.int .i64 n.depth) ∧ w'.cell? ⟨w1.heap.size, 1, none⟩ = some (.int .i64 6) ∧ w'.cell? ⟨w1.heap.size, 2, none⟩ = some (.string n.name) ∧ w'.cell? ⟨w1.heap.size, 3, none⟩ = some (.int .i64 n.num) ∧ w'.cell? ⟨w1.heap.size, 4, none⟩ = some (.int .i64 n.op) ∧ w'.cell? ⟨w1.heap.size, 5, none⟩ = some (.int .i64 n.pos)) (go_keep)
    (first
    | (go_at_call 39; refine (HMG.out _).mono ?_; rintro y wm ⟨rfl, hbm⟩; have HSm : Hid _ := HS2.out.drew.below hbm; have HNm : Hid (NdAt wm w1.heap.size n) := (HN2.out.below (Below.refl _ _).drew).below hbm; obtain ⟨p0, p1, p2, p3, p4, p5⟩ := HNm.out.cells; rw [hk] at p1; have sm := HSm.out.env.csay; have zm := HSm.out.env.sz; have znm := HNm.out.lt; have o1 : L + 2 < wm.heap.size := zm.1; have o2 : ¬ L + 2 = wm.heap.size := (by omega); have o3 : ¬ w1.heap.size = wm.heap.size := (by omega); clear zm)
    | (go_at_call 19; refine (say_pr bn bt b 1 1 _ _ _ _ rfl [⟨(ind q).toArray⟩] _ rfl rfl HSm.out.pr HLM.out (by simp)).mono ?_; rintro y w3 ⟨rfl, hp3, hk3⟩; have HS3 : Hid _ := HSm.out.next hp3 hk3; have HN3 : Hid (NdAt w3 w1.heap.size n) := HNm.out.kept hk3 hz1 hmid; have HK3 : Hid (Kp bn bt w w3) := (HK2.out.trans (Kp.of (Below.refl _ _).drew (by omega))).trans ((Kp.of hbm (by have := HS2.out.drew.pr.hi; omega)).trans hk3); obtain ⟨r0, r1, r2, r3, r4, r5⟩ := HN3.out.cells; rw [hk] at r1; have s3 := HS3.out.env.csay))
  clear d0 d1 d2 d3 d4 d5 s2 p0 p1 p2 p3 p4 p5 sm r0 r2 r3 r4 r5 s3 hp3 hk3 hbm
  have s3 := HS3.out.env.csay
  go_wp2_with fail
  refine (say_pr bn bt b 1 1 _ _ _ w3 rfl [⟨#[115, 107, 105, 112]⟩] _ rfl rfl HS3.out.pr HL1.out (by simp)).mono ?_
  rintro y w4 ⟨rfl, hp, hk0⟩
  have HS4 : Hid _ := HS3.out.next hp hk0
  have HK4 : Hid (Kp bn bt w w4) := HK3.out.trans hk0
  have HN4 : Hid (NdAt w4 w1.heap.size n) := HN3.out.kept hk0 hz1 hmid
  clear hp hk0
  clear s3
  have s4 := HS4.out.env.csay
  go_wp2_with fail
  refine (say_pr bn bt b 1 1 _ _ _ w4 rfl [⟨#[59, 10]⟩] _ rfl rfl HS4.out.pr HL2.out (by simp)).mono ?_
  rintro y w5 ⟨rfl, hp, hk0⟩
  have HS5 : Hid _ := HS4.out.next hp hk0
  have HK5 : Hid (Kp bn bt w w5) := HK4.out.trans hk0
  have HN5 : Hid (NdAt w5 w1.heap.size n) := HN4.out.kept hk0 hz1 hmid
  clear hp hk0
  clear s4
  go_wp2_with fail
  go_end0
  refine ⟨rfl, ?_, HK5.out⟩
  have h9 := HS5.out
  simpa [cat, ByteArray.toList_eq] using h9
set_option maxHeartbeats 4000000 in
theorem line_assert (e L x v ln bl bn bt b q : Nat) (n : Nd) (hd : n.depth = 2 * q + 1) (hf : Fine n) (f : List Nd) (lv : Nat) (t : List UInt8) (hx : Ex (2 * q + 2) f lv t) (hk : n.kind = 5) : LineT e L x v ln bl bn bt b q (n :: f) (ind q ++ ([97, 115, 115, 101, 114, 116, 32] ++ (brk 1 lv t ++ [59, 10]))) := by
  intro w0 r txt w h hr hlen
  simp only [List.cons_append, List.append_assoc, List.nil_append] at h
  have hhi := h.pr.hi
  have hmid := h.pr.mid
  have t1 := h.env.ctake
  have HS : Hid _ := h
  have HMG : Hid _ := margin_ind n q hd hf.deep
  unfold ndVal at HMG
  simp only [hk] at HMG
  have HD : Hid _ := hd
  have HD2 : Hid _ := hf.deep
  have HR : Hid _ := hr
  have HX : Hid _ := hx
  clear hx
  have HLM : Hid ((txt).length + (cat [⟨(ind q).toArray⟩]).length ≤ 1000000) := by unfold Hid; simp [cat, ByteArray.toList_eq] at hlen ⊢; omega
  have HL1 : Hid ((txt ++ cat [⟨(ind q).toArray⟩]).length + (cat [⟨#[97, 115, 115, 101, 114, 116, 32]⟩]).length ≤ 1000000) := by unfold Hid; simp [cat, ByteArray.toList_eq] at hlen ⊢; omega
  have HL2 : Hid ((txt ++ cat [⟨(ind q).toArray⟩] ++ cat [⟨#[97, 115, 115, 101, 114, 116, 32]⟩]).length + (brk 1 lv t).length ≤ 900000) := by unfold Hid; simp [cat, ByteArray.toList_eq] at hlen ⊢; omega
  have HL3 : Hid ((txt ++ cat [⟨(ind q).toArray⟩] ++ cat [⟨#[97, 115, 115, 101, 114, 116, 32]⟩] ++ brk 1 lv t).length + (cat [⟨#[59, 10]⟩]).length ≤ 1000000) := by unfold Hid; simp [cat, ByteArray.toList_eq] at hlen ⊢; omega
  clear h hd hr
  go_enter Tryd.func40, Tryd.ntmps40
  go_wp2_with fail
  refine (take_any bn bt b n _ txt w HS.out.pr).mono ?_
  rintro y w1 ⟨rfl, hp1, hk1⟩
  have HS1 : Hid _ := HS.out.next hp1 hk1
  have HK1 : Hid (Kp bn bt w w1) := hk1
  have hz1 : bt < w1.heap.size := HS1.out.pr.hi
  clear hp1 hk1 t1
  obtain ⟨w2, hW⟩ : ∃ W, W = w1.alloc (.cells #[.int .i64 n.depth, .int .i64 n.kind, .string n.name, .int .i64 n.num, .int .i64 n.op, .int .i64 n.pos] 31) := ⟨_, rfl⟩
  have hB2 : Below w1.heap.size w1 w2 := by rw [hW]; exact (Below.refl _ _).alloc (Nat.le_refl _) _
  have HS2 : Hid _ := HS1.out.below hB2
  have HK2 : Hid (Kp bn bt w w2) := HK1.out.trans (Kp.of hB2 (by omega))
  have HN2 : Hid (NdAt w2 w1.heap.size n) := by unfold Hid; rw [hW]; exact heap_alloc_new _ _
  rw [hk] at hW
  have HW : Hid _ := hW
  clear hW hB2
  unfold ndVal
  rw [hk]
  go_wp2_with fail
  rw [← HW.out]
  obtain ⟨d0, d1, d2, d3, d4, d5⟩ := HN2.out.cells
  rw [hk] at d1
  have s2 := HS2.out.env.csay
  have z2 := HS2.out.env.sz
  have zn2 := HN2.out.lt
  have e1 : L + 2 < w2.heap.size := z2.1
  have e2 : ¬ L + 2 = w2.heap.size := by omega
  have e3 : ¬ w1.heap.size = w2.heap.size := by omega
  clear z2
  go_region_held3 (fun w' => w'.cell? ⟨L + 2, 0, none⟩ = some (.func (.func 19) #[] #[.pointer (some ⟨bt, 0, none⟩)]) ∧ w'.cell? ⟨w1.heap.size, 0, none⟩ = some (.int .i64 n.depth) ∧ w'.cell? ⟨w1.heap.size, 1, none⟩ = some (.int .i64 5) ∧ w'.cell? ⟨w1.heap.size, 2, none⟩ = some (.string n.name) ∧ w'.cell? ⟨w1.heap.size, 3, none⟩ = some (.int .i64 n.num) ∧ w'.cell? ⟨w1.heap.size, 4, none⟩ = some (.int .i64 n.op) ∧ w'.cell? ⟨w1.heap.size, 5, none⟩ = some (.int .i64 n.pos)) (go_keep)
    (first
    | (go_at_call 39; refine (HMG.out _).mono ?_; rintro y wm ⟨rfl, hbm⟩; have HSm : Hid _ := HS2.out.drew.below hbm; have HNm : Hid (NdAt wm w1.heap.size n) := (HN2.out.below (Below.refl _ _).drew).below hbm; obtain ⟨p0, p1, p2, p3, p4, p5⟩ := HNm.out.cells; rw [hk] at p1; have sm := HSm.out.env.csay; have zm := HSm.out.env.sz; have znm := HNm.out.lt; have o1 : L + 2 < wm.heap.size := zm.1; have o2 : ¬ L + 2 = wm.heap.size := (by omega); have o3 : ¬ w1.heap.size = wm.heap.size := (by omega); clear zm)
    | (go_at_call 19; refine (say_pr bn bt b 1 1 _ _ _ _ rfl [⟨(ind q).toArray⟩] _ rfl rfl HSm.out.pr HLM.out (by simp)).mono ?_; rintro y w3 ⟨rfl, hp3, hk3⟩; have HS3 : Hid _ := HSm.out.next hp3 hk3; have HN3 : Hid (NdAt w3 w1.heap.size n) := HNm.out.kept hk3 hz1 hmid; have HK3 : Hid (Kp bn bt w w3) := (HK2.out.trans (Kp.of (Below.refl _ _).drew (by omega))).trans ((Kp.of hbm (by have := HS2.out.drew.pr.hi; omega)).trans hk3); obtain ⟨r0, r1, r2, r3, r4, r5⟩ := HN3.out.cells; rw [hk] at r1; have s3 := HS3.out.env.csay))
  clear d0 d1 d2 d3 d4 d5 s2 p0 p1 p2 p3 p4 p5 sm r0 r2 r3 r4 r5 s3 hp3 hk3 hbm
  have s3 := HS3.out.env.csay
  go_wp2_with fail
  refine (say_pr bn bt b 1 1 _ _ _ w3 rfl [⟨#[97, 115, 115, 101, 114, 116, 32]⟩] _ rfl rfl HS3.out.pr HL1.out (by simp)).mono ?_
  rintro y w4 ⟨rfl, hp, hk0⟩
  have HS4 : Hid _ := HS3.out.next hp hk0
  have HK4 : Hid (Kp bn bt w w4) := HK3.out.trans hk0
  have HN4 : Hid (NdAt w4 w1.heap.size n) := HN3.out.kept hk0 hz1 hmid
  clear hp hk0
  clear s3
  have vv := HS4.out.env.cvalue
  go_wp2_with fail
  refine (value_any HX.out HS4.out HL2.out).mono ?_
  rintro y w5 ⟨rfl, hs, hk0⟩
  have HS5 : Hid _ := hs
  have HK5 : Hid (Kp bn bt w w5) := HK4.out.trans hk0
  have HN5 : Hid (NdAt w5 w1.heap.size n) := HN4.out.kept hk0 hz1 hmid
  clear hs hk0 vv
  have s5 := HS5.out.env.csay
  go_wp2_with fail
  refine (say_pr bn bt b 1 1 _ _ _ w5 rfl [⟨#[59, 10]⟩] _ rfl rfl HS5.out.pr HL3.out (by simp)).mono ?_
  rintro y w6 ⟨rfl, hp, hk0⟩
  have HS6 : Hid _ := HS5.out.next hp hk0
  have HK6 : Hid (Kp bn bt w w6) := HK5.out.trans hk0
  have HN6 : Hid (NdAt w6 w1.heap.size n) := HN5.out.kept hk0 hz1 hmid
  clear hp hk0
  clear s5
  go_wp2_with fail
  go_end0
  refine ⟨rfl, ?_, HK6.out⟩
  have h9 := HS6.out
  simpa [cat, ByteArray.toList_eq] using h9
set_option maxHeartbeats 4000000 in
theorem line_assign (e L x v ln bl bn bt b q : Nat) (n : Nd) (hd : n.depth = 2 * q + 1) (hf : Fine n) (f : List Nd) (lv : Nat) (t : List UInt8) (hx : Ex (2 * q + 2) f lv t) (hk : n.kind = 2) : LineT e L x v ln bl bn bt b q (n :: f) (ind q ++ (n.name.toList ++ ([32, 58, 61, 32] ++ (brk 1 lv t ++ [59, 10])))) := by
  intro w0 r txt w h hr hlen
  simp only [List.cons_append, List.append_assoc, List.nil_append] at h
  have hhi := h.pr.hi
  have hmid := h.pr.mid
  have t1 := h.env.ctake
  have HS : Hid _ := h
  have HMG : Hid _ := margin_ind n q hd hf.deep
  unfold ndVal at HMG
  simp only [hk] at HMG
  have HD : Hid _ := hd
  have HD2 : Hid _ := hf.deep
  have HR : Hid _ := hr
  have HX : Hid _ := hx
  clear hx
  have HLM : Hid ((txt).length + (cat [⟨(ind q).toArray⟩]).length ≤ 1000000) := by unfold Hid; simp [cat, ByteArray.toList_eq] at hlen ⊢; omega
  have HL1 : Hid ((txt ++ cat [⟨(ind q).toArray⟩]).length + (cat [n.name, ⟨#[32, 58, 61, 32]⟩]).length ≤ 1000000) := by unfold Hid; simp [cat, ByteArray.toList_eq] at hlen ⊢; omega
  have HL2 : Hid ((txt ++ cat [⟨(ind q).toArray⟩] ++ cat [n.name, ⟨#[32, 58, 61, 32]⟩]).length + (brk 1 lv t).length ≤ 900000) := by unfold Hid; simp [cat, ByteArray.toList_eq] at hlen ⊢; omega
  have HL3 : Hid ((txt ++ cat [⟨(ind q).toArray⟩] ++ cat [n.name, ⟨#[32, 58, 61, 32]⟩] ++ brk 1 lv t).length + (cat [⟨#[59, 10]⟩]).length ≤ 1000000) := by unfold Hid; simp [cat, ByteArray.toList_eq] at hlen ⊢; omega
  clear h hd hr
  go_enter Tryd.func40, Tryd.ntmps40
  go_wp2_with fail
  refine (take_any bn bt b n _ txt w HS.out.pr).mono ?_
  rintro y w1 ⟨rfl, hp1, hk1⟩
  have HS1 : Hid _ := HS.out.next hp1 hk1
  have HK1 : Hid (Kp bn bt w w1) := hk1
  have hz1 : bt < w1.heap.size := HS1.out.pr.hi
  clear hp1 hk1 t1
  obtain ⟨w2, hW⟩ : ∃ W, W = w1.alloc (.cells #[.int .i64 n.depth, .int .i64 n.kind, .string n.name, .int .i64 n.num, .int .i64 n.op, .int .i64 n.pos] 31) := ⟨_, rfl⟩
  have hB2 : Below w1.heap.size w1 w2 := by rw [hW]; exact (Below.refl _ _).alloc (Nat.le_refl _) _
  have HS2 : Hid _ := HS1.out.below hB2
  have HK2 : Hid (Kp bn bt w w2) := HK1.out.trans (Kp.of hB2 (by omega))
  have HN2 : Hid (NdAt w2 w1.heap.size n) := by unfold Hid; rw [hW]; exact heap_alloc_new _ _
  rw [hk] at hW
  have HW : Hid _ := hW
  clear hW hB2
  unfold ndVal
  rw [hk]
  go_wp2_with fail
  rw [← HW.out]
  obtain ⟨d0, d1, d2, d3, d4, d5⟩ := HN2.out.cells
  rw [hk] at d1
  have s2 := HS2.out.env.csay
  have z2 := HS2.out.env.sz
  have zn2 := HN2.out.lt
  have e1 : L + 2 < w2.heap.size := z2.1
  have e2 : ¬ L + 2 = w2.heap.size := by omega
  have e3 : ¬ w1.heap.size = w2.heap.size := by omega
  clear z2
  go_region_held3 (fun w' => w'.cell? ⟨L + 2, 0, none⟩ = some (.func (.func 19) #[] #[.pointer (some ⟨bt, 0, none⟩)]) ∧ w'.cell? ⟨w1.heap.size, 0, none⟩ = some (.int .i64 n.depth) ∧ w'.cell? ⟨w1.heap.size, 1, none⟩ = some (.int .i64 2) ∧ w'.cell? ⟨w1.heap.size, 2, none⟩ = some (.string n.name) ∧ w'.cell? ⟨w1.heap.size, 3, none⟩ = some (.int .i64 n.num) ∧ w'.cell? ⟨w1.heap.size, 4, none⟩ = some (.int .i64 n.op) ∧ w'.cell? ⟨w1.heap.size, 5, none⟩ = some (.int .i64 n.pos)) (go_keep)
    (first
    | (go_at_call 39; refine (HMG.out _).mono ?_; rintro y wm ⟨rfl, hbm⟩; have HSm : Hid _ := HS2.out.drew.below hbm; have HNm : Hid (NdAt wm w1.heap.size n) := (HN2.out.below (Below.refl _ _).drew).below hbm; obtain ⟨p0, p1, p2, p3, p4, p5⟩ := HNm.out.cells; rw [hk] at p1; have sm := HSm.out.env.csay; have zm := HSm.out.env.sz; have znm := HNm.out.lt; have o1 : L + 2 < wm.heap.size := zm.1; have o2 : ¬ L + 2 = wm.heap.size := (by omega); have o3 : ¬ w1.heap.size = wm.heap.size := (by omega); clear zm)
    | (go_at_call 19; refine (say_pr bn bt b 1 1 _ _ _ _ rfl [⟨(ind q).toArray⟩] _ rfl rfl HSm.out.pr HLM.out (by simp)).mono ?_; rintro y w3 ⟨rfl, hp3, hk3⟩; have HS3 : Hid _ := HSm.out.next hp3 hk3; have HN3 : Hid (NdAt w3 w1.heap.size n) := HNm.out.kept hk3 hz1 hmid; have HK3 : Hid (Kp bn bt w w3) := (HK2.out.trans (Kp.of (Below.refl _ _).drew (by omega))).trans ((Kp.of hbm (by have := HS2.out.drew.pr.hi; omega)).trans hk3); obtain ⟨r0, r1, r2, r3, r4, r5⟩ := HN3.out.cells; rw [hk] at r1; have s3 := HS3.out.env.csay))
  clear d0 d1 d2 d3 d4 d5 s2 p0 p1 p2 p3 p4 p5 sm r0 r2 r3 r4 r5 s3 hp3 hk3 hbm
  have s3 := HS3.out.env.csay
  have dn := HN3.out.cells.2.2.1
  go_wp2_with fail
  refine (say_pr bn bt b 2 2 _ _ _ w3 rfl [n.name, ⟨#[32, 58, 61, 32]⟩] _ rfl rfl HS3.out.pr HL1.out (by simp)).mono ?_
  rintro y w4 ⟨rfl, hp, hk0⟩
  have HS4 : Hid _ := HS3.out.next hp hk0
  have HK4 : Hid (Kp bn bt w w4) := HK3.out.trans hk0
  have HN4 : Hid (NdAt w4 w1.heap.size n) := HN3.out.kept hk0 hz1 hmid
  clear hp hk0
  clear s3 dn
  have vv := HS4.out.env.cvalue
  go_wp2_with fail
  refine (value_any HX.out HS4.out HL2.out).mono ?_
  rintro y w5 ⟨rfl, hs, hk0⟩
  have HS5 : Hid _ := hs
  have HK5 : Hid (Kp bn bt w w5) := HK4.out.trans hk0
  have HN5 : Hid (NdAt w5 w1.heap.size n) := HN4.out.kept hk0 hz1 hmid
  clear hs hk0 vv
  have s5 := HS5.out.env.csay
  go_wp2_with fail
  refine (say_pr bn bt b 1 1 _ _ _ w5 rfl [⟨#[59, 10]⟩] _ rfl rfl HS5.out.pr HL3.out (by simp)).mono ?_
  rintro y w6 ⟨rfl, hp, hk0⟩
  have HS6 : Hid _ := HS5.out.next hp hk0
  have HK6 : Hid (Kp bn bt w w6) := HK5.out.trans hk0
  have HN6 : Hid (NdAt w6 w1.heap.size n) := HN5.out.kept hk0 hz1 hmid
  clear hp hk0
  clear s5
  go_wp2_with fail
  go_end0
  refine ⟨rfl, ?_, HK6.out⟩
  have h9 := HS6.out
  simpa [cat, ByteArray.toList_eq] using h9
set_option maxHeartbeats 4000000 in
theorem line_store (e L x v ln bl bn bt b q : Nat) (n : Nd) (hd : n.depth = 2 * q + 1) (hf : Fine n) (f : List Nd) (lv : Nat) (t : List UInt8) (hx : Ex (2 * q + 2) f lv t) (f2 : List Nd) (lv2 : Nat) (t2 : List UInt8) (hx2 : Ex (2 * q + 2) f2 lv2 t2) (hk : n.kind = 3) : LineT e L x v ln bl bn bt b q (n :: (f ++ f2)) (ind q ++ (n.name.toList ++ 91 :: (brk 1 lv t ++ ([93, 32, 58, 61, 32] ++ (brk 1 lv2 t2 ++ [59, 10]))))) := by
  intro w0 r txt w h hr hlen
  simp only [List.cons_append, List.append_assoc, List.nil_append] at h
  have hhi := h.pr.hi
  have hmid := h.pr.mid
  have t1 := h.env.ctake
  have HS : Hid _ := h
  have HMG : Hid _ := margin_ind n q hd hf.deep
  unfold ndVal at HMG
  simp only [hk] at HMG
  have HD : Hid _ := hd
  have HD2 : Hid _ := hf.deep
  have HR : Hid _ := hr
  have HX : Hid _ := hx
  clear hx
  have HX2 : Hid _ := hx2
  clear hx2
  have HLM : Hid ((txt).length + (cat [⟨(ind q).toArray⟩]).length ≤ 1000000) := by unfold Hid; simp [cat, ByteArray.toList_eq] at hlen ⊢; omega
  have HL1 : Hid ((txt ++ cat [⟨(ind q).toArray⟩]).length + (cat [n.name, ⟨#[91]⟩]).length ≤ 1000000) := by unfold Hid; simp [cat, ByteArray.toList_eq] at hlen ⊢; omega
  have HL2 : Hid ((txt ++ cat [⟨(ind q).toArray⟩] ++ cat [n.name, ⟨#[91]⟩]).length + (brk 1 lv t).length ≤ 900000) := by unfold Hid; simp [cat, ByteArray.toList_eq] at hlen ⊢; omega
  have HL3 : Hid ((txt ++ cat [⟨(ind q).toArray⟩] ++ cat [n.name, ⟨#[91]⟩] ++ brk 1 lv t).length + (cat [⟨#[93, 32, 58, 61, 32]⟩]).length ≤ 1000000) := by unfold Hid; simp [cat, ByteArray.toList_eq] at hlen ⊢; omega
  have HL4 : Hid ((txt ++ cat [⟨(ind q).toArray⟩] ++ cat [n.name, ⟨#[91]⟩] ++ brk 1 lv t ++ cat [⟨#[93, 32, 58, 61, 32]⟩]).length + (brk 1 lv2 t2).length ≤ 900000) := by unfold Hid; simp [cat, ByteArray.toList_eq] at hlen ⊢; omega
  have HL5 : Hid ((txt ++ cat [⟨(ind q).toArray⟩] ++ cat [n.name, ⟨#[91]⟩] ++ brk 1 lv t ++ cat [⟨#[93, 32, 58, 61, 32]⟩] ++ brk 1 lv2 t2).length + (cat [⟨#[59, 10]⟩]).length ≤ 1000000) := by unfold Hid; simp [cat, ByteArray.toList_eq] at hlen ⊢; omega
  clear h hd hr
  go_enter Tryd.func40, Tryd.ntmps40
  go_wp2_with fail
  refine (take_any bn bt b n _ txt w HS.out.pr).mono ?_
  rintro y w1 ⟨rfl, hp1, hk1⟩
  have HS1 : Hid _ := HS.out.next hp1 hk1
  have HK1 : Hid (Kp bn bt w w1) := hk1
  have hz1 : bt < w1.heap.size := HS1.out.pr.hi
  clear hp1 hk1 t1
  obtain ⟨w2, hW⟩ : ∃ W, W = w1.alloc (.cells #[.int .i64 n.depth, .int .i64 n.kind, .string n.name, .int .i64 n.num, .int .i64 n.op, .int .i64 n.pos] 31) := ⟨_, rfl⟩
  have hB2 : Below w1.heap.size w1 w2 := by rw [hW]; exact (Below.refl _ _).alloc (Nat.le_refl _) _
  have HS2 : Hid _ := HS1.out.below hB2
  have HK2 : Hid (Kp bn bt w w2) := HK1.out.trans (Kp.of hB2 (by omega))
  have HN2 : Hid (NdAt w2 w1.heap.size n) := by unfold Hid; rw [hW]; exact heap_alloc_new _ _
  rw [hk] at hW
  have HW : Hid _ := hW
  clear hW hB2
  unfold ndVal
  rw [hk]
  go_wp2_with fail
  rw [← HW.out]
  obtain ⟨d0, d1, d2, d3, d4, d5⟩ := HN2.out.cells
  rw [hk] at d1
  have s2 := HS2.out.env.csay
  have z2 := HS2.out.env.sz
  have zn2 := HN2.out.lt
  have e1 : L + 2 < w2.heap.size := z2.1
  have e2 : ¬ L + 2 = w2.heap.size := by omega
  have e3 : ¬ w1.heap.size = w2.heap.size := by omega
  clear z2
  go_region_held3 (fun w' => w'.cell? ⟨L + 2, 0, none⟩ = some (.func (.func 19) #[] #[.pointer (some ⟨bt, 0, none⟩)]) ∧ w'.cell? ⟨w1.heap.size, 0, none⟩ = some (.int .i64 n.depth) ∧ w'.cell? ⟨w1.heap.size, 1, none⟩ = some (.int .i64 3) ∧ w'.cell? ⟨w1.heap.size, 2, none⟩ = some (.string n.name) ∧ w'.cell? ⟨w1.heap.size, 3, none⟩ = some (.int .i64 n.num) ∧ w'.cell? ⟨w1.heap.size, 4, none⟩ = some (.int .i64 n.op) ∧ w'.cell? ⟨w1.heap.size, 5, none⟩ = some (.int .i64 n.pos)) (go_keep)
    (first
    | (go_at_call 39; refine (HMG.out _).mono ?_; rintro y wm ⟨rfl, hbm⟩; have HSm : Hid _ := HS2.out.drew.below hbm; have HNm : Hid (NdAt wm w1.heap.size n) := (HN2.out.below (Below.refl _ _).drew).below hbm; obtain ⟨p0, p1, p2, p3, p4, p5⟩ := HNm.out.cells; rw [hk] at p1; have sm := HSm.out.env.csay; have zm := HSm.out.env.sz; have znm := HNm.out.lt; have o1 : L + 2 < wm.heap.size := zm.1; have o2 : ¬ L + 2 = wm.heap.size := (by omega); have o3 : ¬ w1.heap.size = wm.heap.size := (by omega); clear zm)
    | (go_at_call 19; refine (say_pr bn bt b 1 1 _ _ _ _ rfl [⟨(ind q).toArray⟩] _ rfl rfl HSm.out.pr HLM.out (by simp)).mono ?_; rintro y w3 ⟨rfl, hp3, hk3⟩; have HS3 : Hid _ := HSm.out.next hp3 hk3; have HN3 : Hid (NdAt w3 w1.heap.size n) := HNm.out.kept hk3 hz1 hmid; have HK3 : Hid (Kp bn bt w w3) := (HK2.out.trans (Kp.of (Below.refl _ _).drew (by omega))).trans ((Kp.of hbm (by have := HS2.out.drew.pr.hi; omega)).trans hk3); obtain ⟨r0, r1, r2, r3, r4, r5⟩ := HN3.out.cells; rw [hk] at r1; have s3 := HS3.out.env.csay))
  clear d0 d1 d2 d3 d4 d5 s2 p0 p1 p2 p3 p4 p5 sm r0 r2 r3 r4 r5 s3 hp3 hk3 hbm
  have s3 := HS3.out.env.csay
  have dn := HN3.out.cells.2.2.1
  go_wp2_with fail
  refine (say_pr bn bt b 2 2 _ _ _ w3 rfl [n.name, ⟨#[91]⟩] _ rfl rfl HS3.out.pr HL1.out (by simp)).mono ?_
  rintro y w4 ⟨rfl, hp, hk0⟩
  have HS4 : Hid _ := HS3.out.next hp hk0
  have HK4 : Hid (Kp bn bt w w4) := HK3.out.trans hk0
  have HN4 : Hid (NdAt w4 w1.heap.size n) := HN3.out.kept hk0 hz1 hmid
  clear hp hk0
  clear s3 dn
  have vv := HS4.out.env.cvalue
  go_wp2_with fail
  refine (value_any HX.out HS4.out HL2.out).mono ?_
  rintro y w5 ⟨rfl, hs, hk0⟩
  have HS5 : Hid _ := hs
  have HK5 : Hid (Kp bn bt w w5) := HK4.out.trans hk0
  have HN5 : Hid (NdAt w5 w1.heap.size n) := HN4.out.kept hk0 hz1 hmid
  clear hs hk0 vv
  have s5 := HS5.out.env.csay
  go_wp2_with fail
  refine (say_pr bn bt b 1 1 _ _ _ w5 rfl [⟨#[93, 32, 58, 61, 32]⟩] _ rfl rfl HS5.out.pr HL3.out (by simp)).mono ?_
  rintro y w6 ⟨rfl, hp, hk0⟩
  have HS6 : Hid _ := HS5.out.next hp hk0
  have HK6 : Hid (Kp bn bt w w6) := HK5.out.trans hk0
  have HN6 : Hid (NdAt w6 w1.heap.size n) := HN5.out.kept hk0 hz1 hmid
  clear hp hk0
  clear s5
  have vv := HS6.out.env.cvalue
  go_wp2_with fail
  refine (value_any HX2.out HS6.out HL4.out).mono ?_
  rintro y w7 ⟨rfl, hs, hk0⟩
  have HS7 : Hid _ := hs
  have HK7 : Hid (Kp bn bt w w7) := HK6.out.trans hk0
  have HN7 : Hid (NdAt w7 w1.heap.size n) := HN6.out.kept hk0 hz1 hmid
  clear hs hk0 vv
  have s7 := HS7.out.env.csay
  go_wp2_with fail
  refine (say_pr bn bt b 1 1 _ _ _ w7 rfl [⟨#[59, 10]⟩] _ rfl rfl HS7.out.pr HL5.out (by simp)).mono ?_
  rintro y w8 ⟨rfl, hp, hk0⟩
  have HS8 : Hid _ := HS7.out.next hp hk0
  have HK8 : Hid (Kp bn bt w w8) := HK7.out.trans hk0
  have HN8 : Hid (NdAt w8 w1.heap.size n) := HN7.out.kept hk0 hz1 hmid
  clear hp hk0
  clear s7
  go_wp2_with fail
  go_end0
  refine ⟨rfl, ?_, HK8.out⟩
  have h9 := HS8.out
  simpa [cat, ByteArray.toList_eq] using h9
set_option maxHeartbeats 4000000 in
theorem line_array (e L x v ln bl bn bt b q : Nat) (n : Nd) (hd : n.depth = 2 * q + 1) (hf : Fine n) (hu1 : -9223372036854775808 ≤ n.num) (hu2 : n.num ≤ 9223372036854775807) (hk : n.kind = 1) : LineT e L x v ln bl bn bt b q [n] (ind q ++ ([97, 114, 114, 97, 121, 32] ++ (n.name.toList ++ 91 :: (Lib.itoa n.num ++ [93, 59, 10])))) := by
  intro w0 r txt w h hr hlen
  simp only [List.cons_append, List.append_assoc, List.nil_append] at h
  have hhi := h.pr.hi
  have hmid := h.pr.mid
  have t1 := h.env.ctake
  have HS : Hid _ := h
  have HMG : Hid _ := margin_ind n q hd hf.deep
  unfold ndVal at HMG
  simp only [hk] at HMG
  have HD : Hid _ := hd
  have HD2 : Hid _ := hf.deep
  have HR : Hid _ := hr
  have HU1 : Hid _ := hu1
  have HU2 : Hid _ := hu2
  clear hu1 hu2
  have HLM : Hid ((txt).length + (cat [⟨(ind q).toArray⟩]).length ≤ 1000000) := by unfold Hid; simp [cat, ByteArray.toList_eq] at hlen ⊢; omega
  have HL1 : Hid ((txt ++ cat [⟨(ind q).toArray⟩]).length + (cat [⟨#[97, 114, 114, 97, 121, 32]⟩, n.name, ⟨#[91]⟩, ⟨(Lib.itoa n.num).toArray⟩, ⟨#[93]⟩]).length ≤ 1000000) := by unfold Hid; simp [cat, ByteArray.toList_eq] at hlen ⊢; omega
  have HL2 : Hid ((txt ++ cat [⟨(ind q).toArray⟩] ++ cat [⟨#[97, 114, 114, 97, 121, 32]⟩, n.name, ⟨#[91]⟩, ⟨(Lib.itoa n.num).toArray⟩, ⟨#[93]⟩]).length + (cat [⟨#[59, 10]⟩]).length ≤ 1000000) := by unfold Hid; simp [cat, ByteArray.toList_eq] at hlen ⊢; omega
  clear h hd hr
  go_enter Tryd.func40, Tryd.ntmps40
  go_wp2_with fail
  refine (take_any bn bt b n _ txt w HS.out.pr).mono ?_
  rintro y w1 ⟨rfl, hp1, hk1⟩
  have HS1 : Hid _ := HS.out.next hp1 hk1
  have HK1 : Hid (Kp bn bt w w1) := hk1
  have hz1 : bt < w1.heap.size := HS1.out.pr.hi
  clear hp1 hk1 t1
  obtain ⟨w2, hW⟩ : ∃ W, W = w1.alloc (.cells #[.int .i64 n.depth, .int .i64 n.kind, .string n.name, .int .i64 n.num, .int .i64 n.op, .int .i64 n.pos] 31) := ⟨_, rfl⟩
  have hB2 : Below w1.heap.size w1 w2 := by rw [hW]; exact (Below.refl _ _).alloc (Nat.le_refl _) _
  have HS2 : Hid _ := HS1.out.below hB2
  have HK2 : Hid (Kp bn bt w w2) := HK1.out.trans (Kp.of hB2 (by omega))
  have HN2 : Hid (NdAt w2 w1.heap.size n) := by unfold Hid; rw [hW]; exact heap_alloc_new _ _
  rw [hk] at hW
  have HW : Hid _ := hW
  clear hW hB2
  unfold ndVal
  rw [hk]
  go_wp2_with fail
  rw [← HW.out]
  obtain ⟨d0, d1, d2, d3, d4, d5⟩ := HN2.out.cells
  rw [hk] at d1
  have s2 := HS2.out.env.csay
  have z2 := HS2.out.env.sz
  have zn2 := HN2.out.lt
  have e1 : L + 2 < w2.heap.size := z2.1
  have e2 : ¬ L + 2 = w2.heap.size := by omega
  have e3 : ¬ w1.heap.size = w2.heap.size := by omega
  clear z2
  go_region_held3 (fun w' => w'.cell? ⟨L + 2, 0, none⟩ = some (.func (.func 19) #[] #[.pointer (some ⟨bt, 0, none⟩)]) ∧ w'.cell? ⟨w1.heap.size, 0, none⟩ = some (.int .i64 n.depth) ∧ w'.cell? ⟨w1.heap.size, 1, none⟩ = some (.int .i64 1) ∧ w'.cell? ⟨w1.heap.size, 2, none⟩ = some (.string n.name) ∧ w'.cell? ⟨w1.heap.size, 3, none⟩ = some (.int .i64 n.num) ∧ w'.cell? ⟨w1.heap.size, 4, none⟩ = some (.int .i64 n.op) ∧ w'.cell? ⟨w1.heap.size, 5, none⟩ = some (.int .i64 n.pos)) (go_keep)
    (first
    | (go_at_call 39; refine (HMG.out _).mono ?_; rintro y wm ⟨rfl, hbm⟩; have HSm : Hid _ := HS2.out.drew.below hbm; have HNm : Hid (NdAt wm w1.heap.size n) := (HN2.out.below (Below.refl _ _).drew).below hbm; obtain ⟨p0, p1, p2, p3, p4, p5⟩ := HNm.out.cells; rw [hk] at p1; have sm := HSm.out.env.csay; have zm := HSm.out.env.sz; have znm := HNm.out.lt; have o1 : L + 2 < wm.heap.size := zm.1; have o2 : ¬ L + 2 = wm.heap.size := (by omega); have o3 : ¬ w1.heap.size = wm.heap.size := (by omega); clear zm)
    | (go_at_call 19; refine (say_pr bn bt b 1 1 _ _ _ _ rfl [⟨(ind q).toArray⟩] _ rfl rfl HSm.out.pr HLM.out (by simp)).mono ?_; rintro y w3 ⟨rfl, hp3, hk3⟩; have HS3 : Hid _ := HSm.out.next hp3 hk3; have HN3 : Hid (NdAt w3 w1.heap.size n) := HNm.out.kept hk3 hz1 hmid; have HK3 : Hid (Kp bn bt w w3) := (HK2.out.trans (Kp.of (Below.refl _ _).drew (by omega))).trans ((Kp.of hbm (by have := HS2.out.drew.pr.hi; omega)).trans hk3); obtain ⟨r0, r1, r2, r3, r4, r5⟩ := HN3.out.cells; rw [hk] at r1; have s3 := HS3.out.env.csay))
  clear d0 d1 d2 d3 d4 d5 s2 p0 p1 p2 p3 p4 p5 sm r0 r2 r3 r4 r5 s3 hp3 hk3 hbm
  have s3 := HS3.out.env.csay
  have dn := HN3.out.cells.2.2.1
  have du := HN3.out.cells.2.2.2.1
  have zz := HS3.out.env.sz
  have znn := HN3.out.lt
  have f1 : L + 2 < w3.heap.size := zz.1
  have f2 : ¬ L + 2 = w3.heap.size := by omega
  have f3 : ¬ w1.heap.size = w3.heap.size := by omega
  clear zz
  go_wp2_with fail
  go_region_held3 (fun w' => w'.cell? ⟨L + 2, 0, none⟩ = some (.func (.func 19) #[] #[.pointer (some ⟨bt, 0, none⟩)]) ∧ w'.cell? ⟨w1.heap.size, 2, none⟩ = some (.string n.name) ∧ w'.cell? ⟨w1.heap.size, 3, none⟩ = some (.int .i64 n.num)) (go_keep)
    (first
    | (go_at_call 41; refine (print_any n.num HU1.out HU2.out _ (HS3.out.drew.gl.tab.here)).mono ?_; rintro y wp ⟨rfl, hbp⟩; have HSp : Hid _ := HS3.out.drew.below hbp; have HNp : Hid (NdAt wp w1.heap.size n) := (HN3.out.below (Below.refl _ _).drew).below hbp; have sp := HSp.out.env.csay; have dnp := HNp.out.cells.2.2.1; have dup := HNp.out.cells.2.2.2.1; have zp := HSp.out.env.sz; have znp := HNp.out.lt; have i1 : L + 2 < wp.heap.size := zp.1; have i2 : ¬ L + 2 = wp.heap.size := (by omega); have i3 : ¬ w1.heap.size = wp.heap.size := (by omega); clear zp)
    | (go_at_call 19; refine (say_pr bn bt b 5 5 _ _ _ _ rfl [⟨#[97, 114, 114, 97, 121, 32]⟩, n.name, ⟨#[91]⟩, ⟨(Lib.itoa n.num).toArray⟩, ⟨#[93]⟩] _ rfl rfl HSp.out.pr HL1.out (by simp)).mono ?_; rintro y w4 ⟨rfl, hp4, hk4⟩; have HS4 : Hid _ := HSp.out.next hp4 hk4; have HN4 : Hid (NdAt w4 w1.heap.size n) := HNp.out.kept hk4 hz1 hmid; have HK4 : Hid (Kp bn bt w w4) := (HK3.out.trans (Kp.of (Below.refl _ _).drew (by have := HS3.out.pr.hi; omega))).trans ((Kp.of hbp (by have := HS3.out.drew.pr.hi; omega)).trans hk4); have s4 := HS4.out.env.csay; have dn4 := HN4.out.cells.2.2.1; have du4 := HN4.out.cells.2.2.2.1))
  clear s3 dn du sp dnp dup s4 dn4 du4 hp4 hk4 hbp
  have s4 := HS4.out.env.csay
  go_wp2_with fail
  refine (say_pr bn bt b 1 1 _ _ _ w4 rfl [⟨#[59, 10]⟩] _ rfl rfl HS4.out.pr HL2.out (by simp)).mono ?_
  rintro y w5 ⟨rfl, hp, hk0⟩
  have HS5 : Hid _ := HS4.out.next hp hk0
  have HK5 : Hid (Kp bn bt w w5) := HK4.out.trans hk0
  have HN5 : Hid (NdAt w5 w1.heap.size n) := HN4.out.kept hk0 hz1 hmid
  clear hp hk0
  clear s4
  go_wp2_with fail
  go_end0
  refine ⟨rfl, ?_, HK5.out⟩
  have h9 := HS5.out
  simpa [cat, ByteArray.toList_eq] using h9
set_option maxHeartbeats 4000000 in
theorem line_if (e L x v ln bl bn bt b q : Nat) (n : Nd) (hd : n.depth = 2 * q + 1) (hf : Fine n) (f : List Nd) (lv : Nat) (t : List UInt8) (hx : Ex (2 * q + 2) f lv t) (B : Blks) (hBC : ∀ (w0 : World) (r : List Nd) (txt : List UInt8) (w : World), Ls w0 e L x v ln bl bn bt b (blkN B ++ r) txt w → Ends (2 * q + 1) r → txt.length + (blkT q true B).length ≤ 800000 → Calls Tryd.prog 38 #[ndVal n, .pointer (some ⟨L + 1, 0, none⟩), .pointer (some ⟨L + 2, 0, none⟩), .pointer (some ⟨L, 0, none⟩), .pointer (some ⟨ln, 0, none⟩)] w fun y w' => y = .returned (.tuple #[]) ∧ Ls w0 e L x v ln bl bn bt b r (txt ++ blkT q true B) w' ∧ Kp bn bt w w') (hk : n.kind = 7) : LineT e L x v ln bl bn bt b q (n :: (f ++ blkN B)) (ind q ++ ([105, 102, 32] ++ (brk 1 lv t ++ blkT q true B))) := by
  intro w0 r txt w h hr hlen
  simp only [List.cons_append, List.append_assoc, List.nil_append] at h
  have hhi := h.pr.hi
  have hmid := h.pr.mid
  have t1 := h.env.ctake
  have HS : Hid _ := h
  have HMG : Hid _ := margin_ind n q hd hf.deep
  unfold ndVal at HMG
  simp only [hk] at HMG
  have HD : Hid _ := hd
  have HD2 : Hid _ := hf.deep
  have HR : Hid _ := hr
  have HX : Hid _ := hx
  clear hx
  have HBC : Hid _ := hBC
  clear hBC
  have HLM : Hid ((txt).length + (cat [⟨(ind q).toArray⟩]).length ≤ 1000000) := by unfold Hid; simp [cat, ByteArray.toList_eq] at hlen ⊢; omega
  have HL1 : Hid ((txt ++ cat [⟨(ind q).toArray⟩]).length + (cat [⟨#[105, 102, 32]⟩]).length ≤ 1000000) := by unfold Hid; simp [cat, ByteArray.toList_eq] at hlen ⊢; omega
  have HL2 : Hid ((txt ++ cat [⟨(ind q).toArray⟩] ++ cat [⟨#[105, 102, 32]⟩]).length + (brk 1 lv t).length ≤ 900000) := by unfold Hid; simp [cat, ByteArray.toList_eq] at hlen ⊢; omega
  have HL3 : Hid ((txt ++ cat [⟨(ind q).toArray⟩] ++ cat [⟨#[105, 102, 32]⟩] ++ brk 1 lv t).length + (blkT q true B).length ≤ 800000) := by unfold Hid; simp [cat, ByteArray.toList_eq] at hlen ⊢; omega
  clear h hd hr
  go_enter Tryd.func40, Tryd.ntmps40
  go_wp2_with fail
  refine (take_any bn bt b n _ txt w HS.out.pr).mono ?_
  rintro y w1 ⟨rfl, hp1, hk1⟩
  have HS1 : Hid _ := HS.out.next hp1 hk1
  have HK1 : Hid (Kp bn bt w w1) := hk1
  have hz1 : bt < w1.heap.size := HS1.out.pr.hi
  clear hp1 hk1 t1
  obtain ⟨w2, hW⟩ : ∃ W, W = w1.alloc (.cells #[.int .i64 n.depth, .int .i64 n.kind, .string n.name, .int .i64 n.num, .int .i64 n.op, .int .i64 n.pos] 31) := ⟨_, rfl⟩
  have hB2 : Below w1.heap.size w1 w2 := by rw [hW]; exact (Below.refl _ _).alloc (Nat.le_refl _) _
  have HS2 : Hid _ := HS1.out.below hB2
  have HK2 : Hid (Kp bn bt w w2) := HK1.out.trans (Kp.of hB2 (by omega))
  have HN2 : Hid (NdAt w2 w1.heap.size n) := by unfold Hid; rw [hW]; exact heap_alloc_new _ _
  rw [hk] at hW
  have HW : Hid _ := hW
  clear hW hB2
  unfold ndVal
  rw [hk]
  go_wp2_with fail
  rw [← HW.out]
  obtain ⟨d0, d1, d2, d3, d4, d5⟩ := HN2.out.cells
  rw [hk] at d1
  have s2 := HS2.out.env.csay
  have z2 := HS2.out.env.sz
  have zn2 := HN2.out.lt
  have e1 : L + 2 < w2.heap.size := z2.1
  have e2 : ¬ L + 2 = w2.heap.size := by omega
  have e3 : ¬ w1.heap.size = w2.heap.size := by omega
  clear z2
  go_region_held3 (fun w' => w'.cell? ⟨L + 2, 0, none⟩ = some (.func (.func 19) #[] #[.pointer (some ⟨bt, 0, none⟩)]) ∧ w'.cell? ⟨w1.heap.size, 0, none⟩ = some (.int .i64 n.depth) ∧ w'.cell? ⟨w1.heap.size, 1, none⟩ = some (.int .i64 7) ∧ w'.cell? ⟨w1.heap.size, 2, none⟩ = some (.string n.name) ∧ w'.cell? ⟨w1.heap.size, 3, none⟩ = some (.int .i64 n.num) ∧ w'.cell? ⟨w1.heap.size, 4, none⟩ = some (.int .i64 n.op) ∧ w'.cell? ⟨w1.heap.size, 5, none⟩ = some (.int .i64 n.pos)) (go_keep)
    (first
    | (go_at_call 39; refine (HMG.out _).mono ?_; rintro y wm ⟨rfl, hbm⟩; have HSm : Hid _ := HS2.out.drew.below hbm; have HNm : Hid (NdAt wm w1.heap.size n) := (HN2.out.below (Below.refl _ _).drew).below hbm; obtain ⟨p0, p1, p2, p3, p4, p5⟩ := HNm.out.cells; rw [hk] at p1; have sm := HSm.out.env.csay; have zm := HSm.out.env.sz; have znm := HNm.out.lt; have o1 : L + 2 < wm.heap.size := zm.1; have o2 : ¬ L + 2 = wm.heap.size := (by omega); have o3 : ¬ w1.heap.size = wm.heap.size := (by omega); clear zm)
    | (go_at_call 19; refine (say_pr bn bt b 1 1 _ _ _ _ rfl [⟨(ind q).toArray⟩] _ rfl rfl HSm.out.pr HLM.out (by simp)).mono ?_; rintro y w3 ⟨rfl, hp3, hk3⟩; have HS3 : Hid _ := HSm.out.next hp3 hk3; have HN3 : Hid (NdAt w3 w1.heap.size n) := HNm.out.kept hk3 hz1 hmid; have HK3 : Hid (Kp bn bt w w3) := (HK2.out.trans (Kp.of (Below.refl _ _).drew (by omega))).trans ((Kp.of hbm (by have := HS2.out.drew.pr.hi; omega)).trans hk3); obtain ⟨r0, r1, r2, r3, r4, r5⟩ := HN3.out.cells; rw [hk] at r1; have s3 := HS3.out.env.csay))
  clear d0 d1 d2 d3 d4 d5 s2 p0 p1 p2 p3 p4 p5 sm r0 r2 r3 r4 r5 s3 hp3 hk3 hbm
  have s3 := HS3.out.env.csay
  go_wp2_with fail
  refine (say_pr bn bt b 1 1 _ _ _ w3 rfl [⟨#[105, 102, 32]⟩] _ rfl rfl HS3.out.pr HL1.out (by simp)).mono ?_
  rintro y w4 ⟨rfl, hp, hk0⟩
  have HS4 : Hid _ := HS3.out.next hp hk0
  have HK4 : Hid (Kp bn bt w w4) := HK3.out.trans hk0
  have HN4 : Hid (NdAt w4 w1.heap.size n) := HN3.out.kept hk0 hz1 hmid
  clear hp hk0
  clear s3
  have vv := HS4.out.env.cvalue
  go_wp2_with fail
  refine (value_any HX.out HS4.out HL2.out).mono ?_
  rintro y w5 ⟨rfl, hs, hk0⟩
  have HS5 : Hid _ := hs
  have HK5 : Hid (Kp bn bt w w5) := HK4.out.trans hk0
  have HN5 : Hid (NdAt w5 w1.heap.size n) := HN4.out.kept hk0 hz1 hmid
  clear hs hk0 vv
  obtain ⟨k0, k1, k2, k3, k4, k5⟩ := HN5.out.cells
  rw [hk] at k1
  have bb := HS5.out.env.cblocks
  go_wp2_with fail
  rw [← hk]
  refine (HBC.out _ _ _ _ HS5.out HR.out HL3.out).mono ?_
  rintro y w6 ⟨rfl, hs, hk0⟩
  have HS6 : Hid _ := hs
  have HK6 : Hid (Kp bn bt w w6) := HK5.out.trans hk0
  clear hs hk0 bb k0 k1 k2 k3 k4 k5
  go_wp2_with fail
  try simp only [Exit.inBlock, Exit.then]
  refine bodyPost_ret (results_none rfl _ _ _) rfl ?_
  refine ⟨rfl, ?_, HK6.out⟩
  have h9 := HS6.out
  simpa [cat] using h9
set_option maxHeartbeats 4000000 in
theorem line_while (e L x v ln bl bn bt b q : Nat) (n : Nd) (hd : n.depth = 2 * q + 1) (hf : Fine n) (f : List Nd) (lv : Nat) (t : List UInt8) (hx : Ex (2 * q + 2) f lv t) (B : Blks) (hBC : ∀ (w0 : World) (r : List Nd) (txt : List UInt8) (w : World), Ls w0 e L x v ln bl bn bt b (blkN B ++ r) txt w → Ends (2 * q + 1) r → txt.length + (blkT q true B).length ≤ 800000 → Calls Tryd.prog 38 #[ndVal n, .pointer (some ⟨L + 1, 0, none⟩), .pointer (some ⟨L + 2, 0, none⟩), .pointer (some ⟨L, 0, none⟩), .pointer (some ⟨ln, 0, none⟩)] w fun y w' => y = .returned (.tuple #[]) ∧ Ls w0 e L x v ln bl bn bt b r (txt ++ blkT q true B) w' ∧ Kp bn bt w w') (hk : n.kind = 8) : LineT e L x v ln bl bn bt b q (n :: (f ++ blkN B)) (ind q ++ ([119, 104, 105, 108, 101, 32] ++ (brk 1 lv t ++ blkT q true B))) := by
  intro w0 r txt w h hr hlen
  simp only [List.cons_append, List.append_assoc, List.nil_append] at h
  have hhi := h.pr.hi
  have hmid := h.pr.mid
  have t1 := h.env.ctake
  have HS : Hid _ := h
  have HMG : Hid _ := margin_ind n q hd hf.deep
  unfold ndVal at HMG
  simp only [hk] at HMG
  have HD : Hid _ := hd
  have HD2 : Hid _ := hf.deep
  have HR : Hid _ := hr
  have HX : Hid _ := hx
  clear hx
  have HBC : Hid _ := hBC
  clear hBC
  have HLM : Hid ((txt).length + (cat [⟨(ind q).toArray⟩]).length ≤ 1000000) := by unfold Hid; simp [cat, ByteArray.toList_eq] at hlen ⊢; omega
  have HL1 : Hid ((txt ++ cat [⟨(ind q).toArray⟩]).length + (cat [⟨#[119, 104, 105, 108, 101, 32]⟩]).length ≤ 1000000) := by unfold Hid; simp [cat, ByteArray.toList_eq] at hlen ⊢; omega
  have HL2 : Hid ((txt ++ cat [⟨(ind q).toArray⟩] ++ cat [⟨#[119, 104, 105, 108, 101, 32]⟩]).length + (brk 1 lv t).length ≤ 900000) := by unfold Hid; simp [cat, ByteArray.toList_eq] at hlen ⊢; omega
  have HL3 : Hid ((txt ++ cat [⟨(ind q).toArray⟩] ++ cat [⟨#[119, 104, 105, 108, 101, 32]⟩] ++ brk 1 lv t).length + (blkT q true B).length ≤ 800000) := by unfold Hid; simp [cat, ByteArray.toList_eq] at hlen ⊢; omega
  clear h hd hr
  go_enter Tryd.func40, Tryd.ntmps40
  go_wp2_with fail
  refine (take_any bn bt b n _ txt w HS.out.pr).mono ?_
  rintro y w1 ⟨rfl, hp1, hk1⟩
  have HS1 : Hid _ := HS.out.next hp1 hk1
  have HK1 : Hid (Kp bn bt w w1) := hk1
  have hz1 : bt < w1.heap.size := HS1.out.pr.hi
  clear hp1 hk1 t1
  obtain ⟨w2, hW⟩ : ∃ W, W = w1.alloc (.cells #[.int .i64 n.depth, .int .i64 n.kind, .string n.name, .int .i64 n.num, .int .i64 n.op, .int .i64 n.pos] 31) := ⟨_, rfl⟩
  have hB2 : Below w1.heap.size w1 w2 := by rw [hW]; exact (Below.refl _ _).alloc (Nat.le_refl _) _
  have HS2 : Hid _ := HS1.out.below hB2
  have HK2 : Hid (Kp bn bt w w2) := HK1.out.trans (Kp.of hB2 (by omega))
  have HN2 : Hid (NdAt w2 w1.heap.size n) := by unfold Hid; rw [hW]; exact heap_alloc_new _ _
  rw [hk] at hW
  have HW : Hid _ := hW
  clear hW hB2
  unfold ndVal
  rw [hk]
  go_wp2_with fail
  rw [← HW.out]
  obtain ⟨d0, d1, d2, d3, d4, d5⟩ := HN2.out.cells
  rw [hk] at d1
  have s2 := HS2.out.env.csay
  have z2 := HS2.out.env.sz
  have zn2 := HN2.out.lt
  have e1 : L + 2 < w2.heap.size := z2.1
  have e2 : ¬ L + 2 = w2.heap.size := by omega
  have e3 : ¬ w1.heap.size = w2.heap.size := by omega
  clear z2
  go_region_held3 (fun w' => w'.cell? ⟨L + 2, 0, none⟩ = some (.func (.func 19) #[] #[.pointer (some ⟨bt, 0, none⟩)]) ∧ w'.cell? ⟨w1.heap.size, 0, none⟩ = some (.int .i64 n.depth) ∧ w'.cell? ⟨w1.heap.size, 1, none⟩ = some (.int .i64 8) ∧ w'.cell? ⟨w1.heap.size, 2, none⟩ = some (.string n.name) ∧ w'.cell? ⟨w1.heap.size, 3, none⟩ = some (.int .i64 n.num) ∧ w'.cell? ⟨w1.heap.size, 4, none⟩ = some (.int .i64 n.op) ∧ w'.cell? ⟨w1.heap.size, 5, none⟩ = some (.int .i64 n.pos)) (go_keep)
    (first
    | (go_at_call 39; refine (HMG.out _).mono ?_; rintro y wm ⟨rfl, hbm⟩; have HSm : Hid _ := HS2.out.drew.below hbm; have HNm : Hid (NdAt wm w1.heap.size n) := (HN2.out.below (Below.refl _ _).drew).below hbm; obtain ⟨p0, p1, p2, p3, p4, p5⟩ := HNm.out.cells; rw [hk] at p1; have sm := HSm.out.env.csay; have zm := HSm.out.env.sz; have znm := HNm.out.lt; have o1 : L + 2 < wm.heap.size := zm.1; have o2 : ¬ L + 2 = wm.heap.size := (by omega); have o3 : ¬ w1.heap.size = wm.heap.size := (by omega); clear zm)
    | (go_at_call 19; refine (say_pr bn bt b 1 1 _ _ _ _ rfl [⟨(ind q).toArray⟩] _ rfl rfl HSm.out.pr HLM.out (by simp)).mono ?_; rintro y w3 ⟨rfl, hp3, hk3⟩; have HS3 : Hid _ := HSm.out.next hp3 hk3; have HN3 : Hid (NdAt w3 w1.heap.size n) := HNm.out.kept hk3 hz1 hmid; have HK3 : Hid (Kp bn bt w w3) := (HK2.out.trans (Kp.of (Below.refl _ _).drew (by omega))).trans ((Kp.of hbm (by have := HS2.out.drew.pr.hi; omega)).trans hk3); obtain ⟨r0, r1, r2, r3, r4, r5⟩ := HN3.out.cells; rw [hk] at r1; have s3 := HS3.out.env.csay))
  clear d0 d1 d2 d3 d4 d5 s2 p0 p1 p2 p3 p4 p5 sm r0 r2 r3 r4 r5 s3 hp3 hk3 hbm
  have s3 := HS3.out.env.csay
  go_wp2_with fail
  refine (say_pr bn bt b 1 1 _ _ _ w3 rfl [⟨#[119, 104, 105, 108, 101, 32]⟩] _ rfl rfl HS3.out.pr HL1.out (by simp)).mono ?_
  rintro y w4 ⟨rfl, hp, hk0⟩
  have HS4 : Hid _ := HS3.out.next hp hk0
  have HK4 : Hid (Kp bn bt w w4) := HK3.out.trans hk0
  have HN4 : Hid (NdAt w4 w1.heap.size n) := HN3.out.kept hk0 hz1 hmid
  clear hp hk0
  clear s3
  have vv := HS4.out.env.cvalue
  go_wp2_with fail
  refine (value_any HX.out HS4.out HL2.out).mono ?_
  rintro y w5 ⟨rfl, hs, hk0⟩
  have HS5 : Hid _ := hs
  have HK5 : Hid (Kp bn bt w w5) := HK4.out.trans hk0
  have HN5 : Hid (NdAt w5 w1.heap.size n) := HN4.out.kept hk0 hz1 hmid
  clear hs hk0 vv
  obtain ⟨k0, k1, k2, k3, k4, k5⟩ := HN5.out.cells
  rw [hk] at k1
  have bb := HS5.out.env.cblocks
  go_wp2_with fail
  rw [← hk]
  refine (HBC.out _ _ _ _ HS5.out HR.out HL3.out).mono ?_
  rintro y w6 ⟨rfl, hs, hk0⟩
  have HS6 : Hid _ := hs
  have HK6 : Hid (Kp bn bt w w6) := HK5.out.trans hk0
  clear hs hk0 bb k0 k1 k2 k3 k4 k5
  go_wp2_with fail
  try simp only [Exit.inBlock, Exit.then]
  refine bodyPost_ret (results_none rfl _ _ _) rfl ?_
  refine ⟨rfl, ?_, HK6.out⟩
  have h9 := HS6.out
  simpa [cat] using h9
end Go.Proofs.YtjngjanheoeojaaDoor
