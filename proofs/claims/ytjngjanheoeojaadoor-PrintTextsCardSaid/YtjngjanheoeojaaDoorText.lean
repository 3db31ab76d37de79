import Derived.Test.YtjngjanheoeojaaDoorLine
import Derived.Test.YtjngjanheoeojaaDoorWrit
namespace Go.Proofs.YtjngjanheoeojaaDoor
set_option linter.unusedVariables false
set_option linter.unusedSimpArgs false
open Go.RowKit
theorem line_of {e L x v ln bl bn bt b q : Nat} {l : List Nd} {M : List (List UInt8)} {T : List UInt8} (h : LineT e L x v ln bl bn bt b q l T) (hT : T = flatL M) : LineC e L x v ln bl bn bt b q l M := by
  subst hT; exact h
theorem line_any {e L x v ln bl bn bt b q : Nat} {l : List Nd} {M : List (List UInt8)} (h : St q l M) : LineC e L x v ln bl bn bt b q l M := by
  induction h using St.indu with
  | var q n hd hf hk => exact line_of (line_var e L x v ln bl bn bt b q n hd hf hk) (by simp [flatL])
  | array q n hd hf hk =>
    have := hf.ops; rw [hk] at this; simp [rMost] at this
    exact line_of (line_array e L x v ln bl bn bt b q n hd hf (by omega) (by omega) hk) (by simp [flatL])
  | assign q n f lv t hd hf hk hx => exact line_of (line_assign e L x v ln bl bn bt b q n hd hf f lv t hx hk) (by simp [flatL])
  | store q n f g l1 l2 t u hd hf hk hx hy => exact line_of (line_store e L x v ln bl bn bt b q n hd hf f l1 t hx g l2 u hy hk) (by simp [flatL])
  | input q n hd hf hk => exact line_of (line_input e L x v ln bl bn bt b q n hd hf hk) (by simp [flatL])
  | assert q n f lv t hd hf hk hx => exact line_of (line_assert e L x v ln bl bn bt b q n hd hf f lv t hx hk) (by simp [flatL])
  | skip q n hd hf hk => exact line_of (line_skip e L x v ln bl bn bt b q n hd hf hk) (by simp [flatL])
  | if1 q n c f lv t P hd hf hk hx hcd hcf hck hP ih =>
    have hB : ∀ p ∈ [(c, P)], p.1.depth = 2 * (q : Int) + 2 ∧ ∀ s ∈ p.2, St (q + 1) s.1 s.2 ∧ LineC e L x v ln bl bn bt b (q + 1) s.1 s.2 := by
      intro p hp; simp at hp; subst hp; exact ⟨hcd, fun s hs => ⟨hP s hs, ih s hs⟩⟩
    have h9 := line_if e L x v ln bl bn bt b q n hd hf f lv t hx [(c, P)] (fun w0 r txt w h hr hl => blocks_any e L x v ln bl bn bt b q n hd hf.deep _ hB w0 r txt w h hr hl) hk
    rw [show blkN [(c, P)] = c :: nodesOf P by simp [blkN]] at h9
    exact line_of h9 (by simp [flat_con, flat_app, flatL_nil, blkT, opn])
  | if2 q n c d f lv t P Q hd hf hk hx hcd hcf hck hP hdd hdf hdk hQ ihP ihQ =>
    have hB : ∀ p ∈ [(c, P), (d, Q)], p.1.depth = 2 * (q : Int) + 2 ∧ ∀ s ∈ p.2, St (q + 1) s.1 s.2 ∧ LineC e L x v ln bl bn bt b (q + 1) s.1 s.2 := by
      intro p hp; simp at hp
      rcases hp with rfl | rfl
      · exact ⟨hcd, fun s hs => ⟨hP s hs, ihP s hs⟩⟩
      · exact ⟨hdd, fun s hs => ⟨hQ s hs, ihQ s hs⟩⟩
    have h9 := line_if e L x v ln bl bn bt b q n hd hf f lv t hx [(c, P), (d, Q)] (fun w0 r txt w h hr hl => blocks_any e L x v ln bl bn bt b q n hd hf.deep _ hB w0 r txt w h hr hl) hk
    rw [show blkN [(c, P), (d, Q)] = c :: (nodesOf P ++ d :: nodesOf Q) by simp [blkN]] at h9
    exact line_of h9 (by simp [flat_con, flat_app, flatL_nil, blkT, opn])
  | loop q n c f lv t P hd hf hk hx hcd hcf hck hP ih =>
    have hB : ∀ p ∈ [(c, P)], p.1.depth = 2 * (q : Int) + 2 ∧ ∀ s ∈ p.2, St (q + 1) s.1 s.2 ∧ LineC e L x v ln bl bn bt b (q + 1) s.1 s.2 := by
      intro p hp; simp at hp; subst hp; exact ⟨hcd, fun s hs => ⟨hP s hs, ih s hs⟩⟩
    have h9 := line_while e L x v ln bl bn bt b q n hd hf f lv t hx [(c, P)] (fun w0 r txt w h hr hl => blocks_any e L x v ln bl bn bt b q n hd hf.deep _ hB w0 r txt w h hr hl) hk
    rw [show blkN [(c, P)] = c :: nodesOf P by simp [blkN]] at h9
    exact line_of h9 (by simp [flat_con, flat_app, flatL_nil, blkT, opn])
theorem Fine.name {n : Nd} (h : Fine n) : n.name.toList.length ≤ 16 := by
  have := h.fit
  unfold fitN fitB at this
  simp only [Bool.and_eq_true, decide_eq_true_eq] at this
  obtain ⟨_, h1, _⟩ := this
  split at h1
  · unfold nameB at h1
    simp only [Bool.and_eq_true, decide_eq_true_eq] at h1
    omega
  · cases hl : n.name.toList with
    | nil => simp
    | cons a t => rw [hl] at h1; simp at h1
theorem brk_len (want lv : Nat) (t : List UInt8) : (brk want lv t).length ≤ t.length + 2 := by
  unfold brk; split <;> simp
theorem sgn_len (k : Nat) : (sgn k).length ≤ 2 := by
  by_cases h : k < 16
  · have : ∀ j : Fin 16, (sgn j).length ≤ 2 := by decide
    exact this ⟨k, h⟩
  · have : sgn k = [] := by unfold sgn; rw [List.getD_eq_getElem?_getD, List.getElem?_eq_none (by simp; omega)]; rfl
    rw [this]; simp
theorem Ex.len {d : Nat} {l : List Nd} {lv : Nat} {t : List UInt8} (h : Ex d l lv t) : t.length + 2 ≤ 60 * l.length := by
  induction h using Ex.indu with
  | num d n hd hf hk =>
    have := hf.ops; rw [hk] at this; simp [rMost] at this
    have := Lib.itoa_length_le n.num (by omega) (by omega)
    simp; omega
  | bool d n hd hf hk => split <;> simp
  | read d n hd hf hk => have := hf.name; simp; omega
  | load d n f lv t hd hf hk hx ih => have := hf.name; have := brk_len 1 lv t; simp; omega
  | unary d n f lv t hd hf hk hx ih => have := sgn_len n.op.toNat; have := brk_len 6 lv t; simp; omega
  | binary d n f g l1 l2 t u hd hf hk hx hy ih1 ih2 => have := sgn_len n.op.toNat; have := brk_len (leftW (lvl n.op.toNat)) l1 t; have := brk_len (lvl n.op.toNat + 1) l2 u; simp; omega
theorem St.len {q : Nat} {l : List Nd} {M : List (List UInt8)} (h : St q l M) : (flatL M).length ≤ 200 * l.length := by
  have key : ∀ (P : Parts), (∀ p ∈ P, (flatL p.2).length ≤ 200 * p.1.length) → (flatL (linesOf P)).length ≤ 200 * (nodesOf P).length := by
    intro P
    induction P with
    | nil => intro _; simp [linesOf, flatL]
    | cons p P ih =>
      intro h
      obtain ⟨a, M⟩ := p
      have h1 := h (a, M) List.mem_cons_self
      have h2 := ih (fun p hp => h p (List.mem_cons_of_mem _ hp))
      rw [linesOf_cons, flat_app, nodesOf_cons]
      simp only [List.length_append] at *
      omega
  have ind_len : ∀ (n : Nd) (q : Nat), n.depth = 2 * q + 1 → Fine n → (ind q).length ≤ 23 := by
    intro n q hd hf
    have := hf.deep
    unfold ind; simp; omega
  induction h using St.indu with
  | var q n hd hf hk => have := hf.name; have := ind_len n q hd hf; simp [flatL]; omega
  | array q n hd hf hk =>
    have := hf.ops; rw [hk] at this; simp [rMost] at this
    have := Lib.itoa_length_le n.num (by omega) (by omega)
    have := hf.name; have := ind_len n q hd hf; simp [flatL]; omega
  | assign q n f lv t hd hf hk hx => have := hx.len; have := brk_len 1 lv t; have := hf.name; have := ind_len n q hd hf; simp [flatL]; omega
  | store q n f g l1 l2 t u hd hf hk hx hy => have := hx.len; have := hy.len; have := brk_len 1 l1 t; have := brk_len 1 l2 u; have := hf.name; have := ind_len n q hd hf; simp [flatL]; omega
  | input q n hd hf hk => have := hf.name; have := ind_len n q hd hf; simp [flatL]; omega
  | assert q n f lv t hd hf hk hx => have := hx.len; have := brk_len 1 lv t; have := ind_len n q hd hf; simp [flatL]; omega
  | skip q n hd hf hk => have := ind_len n q hd hf; simp [flatL]; omega
  | if1 q n c f lv t P hd hf hk hx hcd hcf hck hP ih => have := key P ih; have := hx.len; have := brk_len 1 lv t; have := ind_len n q hd hf; simp [flat_con, flat_app, flatL_nil]; omega
  | if2 q n c d f lv t P Q hd hf hk hx hcd hcf hck hP hdd hdf hdk hQ ihP ihQ => have := key P ihP; have := key Q ihQ; have := hx.len; have := brk_len 1 lv t; have := ind_len n q hd hf; simp [flat_con, flat_app, flatL_nil]; omega
  | loop q n c f lv t P hd hf hk hx hcd hcf hck hP ih => have := key P ih; have := hx.len; have := brk_len 1 lv t; have := ind_len n q hd hf; simp [flat_con, flat_app, flatL_nil]; omega
theorem parts_len {q : Nat} (P : Parts) (hP : ∀ p ∈ P, St q p.1 p.2) : (flatL (linesOf P)).length ≤ 200 * (nodesOf P).length := by
  induction P with
  | nil => simp [linesOf, flatL]
  | cons p P ih =>
    obtain ⟨a, M⟩ := p
    have h1 := (hP (a, M) List.mem_cons_self).len
    have h2 := ih (fun p hp => hP p (List.mem_cons_of_mem _ hp))
    rw [linesOf_cons, flat_app, nodesOf_cons]
    simp only [List.length_append] at *
    omega
structure G0 (w : World) : Prop where
  rules : RulesIs w
  ops : OpsIs w
  tab : Lib.TabIs Tryd.prog w "internal/strconv.uint64pow10" .u64 Lib.pow10Tab
theorem G0.below {w w' : World} (h : G0 w) (hb : Below w.heap.size w w') : G0 w' :=
  ⟨h.rules.below hb, ⟨Nat.lt_of_lt_of_le h.ops.lt hb.size, fun k hk => (hb.cell (p := ⟨1, k * 2, none⟩) h.ops.lt).trans (h.ops.sign k hk), fun k hk => (hb.cell (p := ⟨1, k * 2 + 1, none⟩) h.ops.lt).trans (h.ops.level k hk)⟩, (Lib.tabBelow_of_tabIs h.tab) w' hb⟩
def outT (P : Parts) : List UInt8 := if 8192 < (flatL (linesOf P)).length then [] else flatL (linesOf P)
def outE (P : Parts) : Int := if 8192 < (flatL (linesOf P)).length then 50 else 0
set_option maxHeartbeats 1000000 in
theorem text_no (b o cap : Nat) (ns : List Nd) (w : World) (hok : ∀ n ∈ ns, n.Ok) (hG : G0 w) (hN : NodesAt w b o ns) (hlen : ns.length ≤ cap) (hcap : cap ≤ maxLen) (hs : (shapeD ns).1 ≠ 0) :
    Calls Tryd.prog 6 #[.slice (some ⟨b, o, none⟩) ns.length cap] w fun y w' => y = .returned (.tuple #[.string ⟨#[]⟩, .int .i64 (shapeD ns).1]) ∧ Below w.heap.size w w' := by
  have HS : Hid _ := shape_any b o cap ns w hok hG.rules hN hlen hcap
  have hs' : ((shapeD ns).1 == 0) = false := by rw [beq_eq_false_iff_ne]; exact hs
  clear hok hG hN hlen hcap hs
  generalize (shapeD ns).1 = c at *
  generalize (shapeD ns).2 = c2 at *
  go_enter Tryd.func6, Tryd.ntmps6
  go_wp2_with fail
  refine Calls.mono HS.out ?_
  rintro y w1 ⟨rfl, hb1⟩
  have HB : Hid _ := hb1
  clear hb1
  go_wp2_with fail
  go_ret2
  exact ⟨rfl, HB.out⟩
set_option maxHeartbeats 1000000 in
theorem text_ok (b o cap : Nat) (P : Parts) (w : World) (hok : ∀ n ∈ nodesOf P, n.Ok) (hG : G0 w) (hN : NodesAt w b o (nodesOf P)) (hlen : (nodesOf P).length ≤ cap) (hcap : cap ≤ maxLen) (hs : (shapeD (nodesOf P)).1 = 0) (h300 : (nodesOf P).length ≤ 300) (hP : ∀ p ∈ P, St 0 p.1 p.2) :
    Calls Tryd.prog 6 #[.slice (some ⟨b, o, none⟩) (nodesOf P).length cap] w fun y w' => y = .returned (.tuple #[.string ⟨(outT P).toArray⟩, .int .i64 (outE P)]) ∧ Below w.heap.size w w' := by
  have HS : Hid _ := shape_any b o cap (nodesOf P) w hok hG.rules hN hlen hcap
  rw [hs] at HS
  have hl := parts_len P hP
  have HW : Hid (∀ w', Below w.heap.size w w' → Calls Tryd.prog 12 #[.slice (some ⟨b, o, none⟩) (nodesOf P).length cap] w' fun y w2 => y = .returned (.string ⟨(flatL (linesOf P)).toArray⟩) ∧ Below w'.heap.size w' w2) :=
    fun w' hb => written_any b o cap P hP (fun e L x v ln bl bn bt b p hp => line_any (hP p hp)) (by omega) w' (hN.below hb) hlen (hG.below hb).ops (hG.below hb).tab
  clear hok hG hN hlen hcap hs hP
  generalize (shapeD (nodesOf P)).2 = c2 at *
  unfold outT outE
  have hsz : (⟨(flatL (linesOf P)).toArray⟩ : ByteArray).size = (flatL (linesOf P)).length := by simp [ByteArray.size]
  generalize flatL (linesOf P) = T at *
  go_enter Tryd.func6, Tryd.ntmps6
  go_wp2_with fail
  refine Calls.mono HS.out ?_
  rintro y w1 ⟨rfl, hb1⟩
  have HB : Hid _ := hb1
  clear hb1
  go_wp2_with fail
  refine (HW.out _ HB.out).mono ?_
  rintro y w2 ⟨rfl, hb2⟩
  have HB2 : Hid (Below w.heap.size w w2) := HB.out.trans (hb2.mono HB.out.size)
  clear hb2
  by_cases h8 : 8192 < T.length
  · have h8' : (8192 : Int) < (T.length : Int) := by omega
    go_wp2_with fail
    go_ret2
    exact ⟨rfl, HB2.out⟩
  · have h8' : ¬ (8192 : Int) < (T.length : Int) := by omega
    go_wp2_with fail
    go_ret2
    exact ⟨rfl, HB2.out⟩
end Go.Proofs.YtjngjanheoeojaaDoor
