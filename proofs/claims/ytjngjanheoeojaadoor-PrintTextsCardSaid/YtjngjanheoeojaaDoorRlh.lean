import Derived.Test.YtjngjanheoeojaaDoorRexs
import Derived.Test.YtjngjanheoeojaaDoorFixd
import Derived.Deep.AppendLies
import Derived.Laws.AppendOwnNone
/- The document's lines: where the parts lie; what is asked of lines. -/
namespace Go.Proofs.YtjngjanheoeojaaDoor
set_option linter.unusedVariables false
set_option linter.unusedSimpArgs false
set_option linter.unnecessarySimpa false
open Go.RowKit
def SegD (d : Nat) (g : List Nd) : Prop := ∃ n r, g = n :: r ∧ n.depth = d ∧ ∀ x ∈ r, (d : Int) < x.depth
def placesL : Nat → List (List Nd) → List Nat
  | _, [] => []
  | s, g :: t => s :: placesL (s + g.length) t
theorem SegD.cut {d : Nat} {g : List Nd} (h : SegD d g) (pre post : List Nd) (hp : Ends d post) : Cut (pre ++ (g ++ post)) pre.length (pre.length + g.length) := by
  obtain ⟨n, r, rfl, hd, hr⟩ := h
  exact cut_of hd hr hp
theorem SegD.all {d : Nat} {g : List Nd} (h : SegD d g) : ∀ x ∈ g, (d : Int) ≤ x.depth := by
  obtain ⟨n, r, rfl, hd, hr⟩ := h
  intro x hx
  rcases List.mem_cons.1 hx with rfl | hx
  · omega
  · have := hr x hx; omega
theorem SegD.pos {d : Nat} {g : List Nd} (h : SegD d g) : 0 < g.length := by obtain ⟨n, r, rfl, _⟩ := h; simp
theorem segs_ends {d : Nat} (segs : List (List Nd)) (hs : ∀ g ∈ segs, SegD d g) (post : List Nd) (hp : Ends d post) : Ends d (segs.flatten ++ post) := by
  cases segs with
  | nil => exact hp
  | cons g t =>
    obtain ⟨n, r, hg, hd, _⟩ := hs g List.mem_cons_self
    intro m u hm
    rw [List.flatten_cons, hg, List.cons_append, List.cons_append] at hm
    injection hm with h1 _
    rw [← h1, hd]; omega
theorem segs_chain {d : Nat} : ∀ (segs : List (List Nd)) (pre post : List Nd), (∀ g ∈ segs, SegD d g) → Ends d post → Chain (pre ++ (segs.flatten ++ post)) (pre.length + segs.flatten.length) pre.length (placesL pre.length segs)
  | [], pre, post, _, _ => by simp [placesL]; exact .nil
  | g :: t, pre, post, hs, hp => by
    have hg := hs g List.mem_cons_self
    have ht : ∀ x ∈ t, SegD d x := fun x hx => hs x (List.mem_cons_of_mem _ hx)
    have h1 := hg.cut pre (t.flatten ++ post) (segs_ends t ht post hp)
    have h2 := segs_chain t (pre ++ g) post ht hp
    rw [show pre ++ g ++ (t.flatten ++ post) = pre ++ ((g :: t).flatten ++ post) by simp, List.length_append] at h2
    rw [show pre ++ (g ++ (t.flatten ++ post)) = pre ++ ((g :: t).flatten ++ post) by simp] at h1
    have := hg.pos
    rw [show pre.length + (g :: t).flatten.length = pre.length + g.length + t.flatten.length by simp; omega]
    exact .cons _ _ _ (by omega) h1 h2
theorem at_segs {d : Nat} {n : Nd} {pre post : List Nd} (segs : List (List Nd)) (hd : n.depth = d) (hs : ∀ g ∈ segs, SegD (d + 1) g) (hp : Ends d post) : At (pre ++ (n :: segs.flatten ++ post)) pre.length n (placesL (pre.length + 1) segs) := by
  refine ⟨by simp, fun h => by simp, ⟨pre.length + (segs.flatten.length + 1), cut_of hd (fun x hx => ?_) hp, ?_⟩⟩
  · obtain ⟨g, hg, hx⟩ := List.mem_flatten.1 hx
    have := (hs g hg).all x hx
    omega
  · have h1 := segs_chain segs (pre ++ [n]) post hs (hp.up (by omega))
    rw [show pre ++ [n] ++ (segs.flatten ++ post) = pre ++ (n :: segs.flatten ++ post) by simp, show (pre ++ [n]).length = pre.length + 1 by simp] at h1
    rw [show pre.length + (segs.flatten.length + 1) = pre.length + 1 + segs.flatten.length by omega]
    exact h1
theorem Ex.segD {d : Nat} {l : List Nd} {lv : Nat} {t : List UInt8} (h : Ex d l lv t) : SegD d l := h.seg
theorem St.segD {q : Nat} {l : List Nd} {M : List (List UInt8)} (h : St q l M) : SegD (2 * q + 1) l := by
  have key : ∀ (d : Nat) (P : Parts), (∀ p ∈ P, SegD d p.1) → ∀ x ∈ nodesOf P, (d : Int) ≤ x.depth := by
    intro d P hP x hx
    obtain ⟨g, hg, hx⟩ := List.mem_flatten.1 hx
    obtain ⟨p, hp, rfl⟩ := List.mem_map.1 hg
    exact (hP p hp).all x hx
  induction h using St.indu with
  | var q n hd hf hk => exact ⟨n, [], rfl, hd, by simp⟩
  | array q n hd hf hk => exact ⟨n, [], rfl, hd, by simp⟩
  | assign q n f lv t hd hf hk hx => exact ⟨n, f, rfl, hd, fun x h => by have := hx.all x h; omega⟩
  | store q n f g l1 l2 t u hd hf hk hx hy => exact ⟨n, _, rfl, hd, fun x h => by
      rcases List.mem_append.1 h with h | h
      · have := hx.all x h; omega
      · have := hy.all x h; omega⟩
  | input q n hd hf hk => exact ⟨n, [], rfl, hd, by simp⟩
  | assert q n f lv t hd hf hk hx => exact ⟨n, f, rfl, hd, fun x h => by have := hx.all x h; omega⟩
  | skip q n hd hf hk => exact ⟨n, [], rfl, hd, by simp⟩
  | if1 q n c f lv t P hd hf hk hx hcd hcf hck hP ih => exact ⟨n, _, rfl, hd, fun x h => by
      rcases List.mem_append.1 h with h | h
      · have := hx.all x h; omega
      · rcases List.mem_cons.1 h with rfl | h
        · omega
        · have := key _ P ih x h; omega⟩
  | if2 q n c e f lv t P Q hd hf hk hx hcd hcf hck hP hdd hdf hdk hQ ihP ihQ => exact ⟨n, _, rfl, hd, fun x h => by
      rcases List.mem_append.1 h with h | h
      · have := hx.all x h; omega
      · rcases List.mem_cons.1 h with rfl | h
        · omega
        · rcases List.mem_append.1 h with h | h
          · have := key _ P ihP x h; omega
          · rcases List.mem_cons.1 h with rfl | h
            · omega
            · have := key _ Q ihQ x h; omega⟩
  | loop q n c f lv t P hd hf hk hx hcd hcf hck hP ih => exact ⟨n, _, rfl, hd, fun x h => by
      rcases List.mem_append.1 h with h | h
      · have := hx.all x h; omega
      · rcases List.mem_cons.1 h with rfl | h
        · omega
        · have := key _ P ih x h; omega⟩
def strs (L : List (List UInt8)) : List Value := L.map fun l => Value.string ⟨l.toArray⟩
theorem Tryd.info9 : (Tryd.prog.info? 9).map (fun i => (i.zero, i.size, i.bytes)) = some (some (.string ⟨#[]⟩), 1, 16) := by kernel_rfl
def places (s : Nat) (P : Parts) : List Nat := placesL s (P.map (·.1))
theorem nodesOf_app (P Q : Parts) : nodesOf (P ++ Q) = nodesOf P ++ nodesOf Q := by unfold nodesOf; rw [List.map_append, List.flatten_append]
theorem places_len (s : Nat) (P : Parts) : (places s P).length = P.length := by
  unfold places
  induction P generalizing s with
  | nil => rfl
  | cons p P ih => simp only [List.map_cons, placesL, List.length_cons]; rw [ih]
theorem places_get (s : Nat) (P1 : Parts) (l : List Nd) (M : List (List UInt8)) (P3 : Parts) (h : P1.length < (places s (P1 ++ (l, M) :: P3)).length) : (places s (P1 ++ (l, M) :: P3))[P1.length] = s + (nodesOf P1).length := by
  induction P1 generalizing s with
  | nil => simp [places, placesL, nodesOf]
  | cons p P1 ih =>
    obtain ⟨a, A⟩ := p
    have h2 := ih (s + a.length) (by simpa [places_len] using h)
    have e : places s ((a, A) :: P1 ++ (l, M) :: P3) = s :: places (s + a.length) (P1 ++ (l, M) :: P3) := rfl
    simp only [e, List.length_cons, List.getElem_cons_succ]
    rw [h2, nodesOf_cons, List.length_append]; omega
structure PlRow (w : World) (v : Value) (ks : List Nat) : Prop where
  form : ∃ A gc, v = .slice A ks.length gc ∧ (0 < ks.length → ∃ g, A = some ⟨g, 0, none⟩ ∧ g < w.heap.size ∧ ∀ (j : Nat) (hj : j < ks.length), w.cell? ⟨g, j, none⟩ = some (.int .i64 (ks[j] : Nat)))
theorem PlRow.of {w : World} {B : Nat} {v : Value} {ks : List Nat} (h : w.ownsRow B 3 1 v ks.length (ints ks)) : PlRow w v ks := by
  by_cases hk : 0 < ks.length
  · obtain ⟨g, cap, hv, _, hl, hc⟩ := own_cells h hk
    exact ⟨⟨_, cap, hv, fun _ => ⟨g, rfl, hl, hc⟩⟩⟩
  · rcases h.2 with ⟨hv, h0⟩ | ⟨g, cap, cur, hv, _⟩
    · exact ⟨⟨none, 0, by rw [hv, h0], fun h => absurd h hk⟩⟩
    · exact ⟨⟨_, cap, hv, fun h => absurd h hk⟩⟩
theorem lines_le (L : List (List UInt8)) : L.length ≤ (flatL L).length := by
  induction L with
  | nil => simp
  | cons a L ih => rw [flat_con]; simp; omega
theorem repeat2 : ∀ c : Nat, Lib.repeatL [32, 32] c = ind c
  | 0 => rfl
  | c + 1 => by
    rw [Lib.repeatL, repeat2 c]
    unfold ind
    rw [show 2 * (c + 1) = 2 * c + 1 + 1 by omega, List.replicate_succ, List.replicate_succ]
    rfl
theorem held_block {w : World} {B : Nat} {v : Value} {ks : List Nat} (h : w.ownsRow B 3 1 v ks.length (ints ks)) (hk : 0 < ks.length) :
    ∃ g cap cur, v = .slice (some ⟨g, 0, none⟩) ks.length cap ∧ B ≤ g ∧ g < w.heap.size ∧ w.heap[g]? = some (.cells cur 3) ∧ ∀ (j : Nat) (hj : j < ks.length), cur[j]? = some (.int .i64 (ks[j] : Nat)) := by
  obtain ⟨hl, h2⟩ := h
  rcases h2 with ⟨_, h0⟩ | ⟨g, cap, cur, hv, hB, hg, _, _, _, ht⟩
  · omega
  · refine ⟨g, cap, cur, hv, hB, (Array.getElem?_eq_some_iff.1 hg).1, hg, fun j hj => ?_⟩
    have h9 : (ints ks)[j]? = some (.int .i64 (ks[j] : Nat)) := by unfold ints; rw [List.getElem?_map, List.getElem?_eq_getElem hj]; rfl
    rw [← ht, List.getElem?_take, if_pos (by omega), Array.getElem?_toList] at h9
    exact h9
theorem own_ne {w : World} {B n g : Nat} {v : Value} {xs : List Value} {cur : Array Value} (h : w.ownsRow B 9 1 v n xs) (hg : w.heap[g]? = some (.cells cur 3)) : some g ≠ v.ownBlock := by
  intro e
  rcases h.2 with ⟨hv, _⟩ | ⟨g', cap, cur', hv, _, hg', _⟩
  · rw [hv] at e; cases e
  · rw [hv] at e
    have e2 : g = g' := by simpa [Value.ownBlock] using e
    rw [e2, hg'] at hg
    injection hg with hg
    injection hg with _ h3 _
    cases h3
theorem strs_one (L : List (List UInt8)) : ∀ u ∈ strs L, u.oneCell' = true := by
  intro u hu
  obtain ⟨l, _, rfl⟩ := List.mem_map.1 hu
  rfl
theorem wpList_append_row {P : Program} {w : World} {ops : Array Oper} {rest : List Oper} {op : Oper} {a : Act} {Q : Exit → Act → World → Prop} (hgd : op.guard = none) (s x : Operand) (t : TypeId)
    (ho : op.op = .call { callee := .builtin .append, args := #[s, x], argTypes := #[t, t] })
    (base : Nat) (e : TypeId) (i : TypeInfo) (z : Value) (size bytes : Nat) (ht : P.underlying t = some (.slice e)) (hi : P.info? e = some i) (hz : i.zero = some z)
    (hsize : i.size = size) (hby : i.bytes = bytes) (hzs : z.cells.size = size) (hsz : 0 < size)
    (v : Value) (n : Nat) (xs : List Value) (hs : a.eval s = v) (hown : w.ownsRow base e size v n xs)
    (u : Value) (base2 m : Nat) (ys : List Value) (hx : a.eval x = u) (hown2 : w.ownsRow base2 e size u m ys) (h1 : ∀ y ∈ ys, y.oneCell' = true)
    (h63 : n + m ≤ maxLen) (hbytes : (n + m) * bytes ≤ 140737488355328) (hbase : base ≤ w.heap.size)
    (h : ∀ v' w', w'.ownsRow base e size v' (n + m) (xs ++ ys) → w.grownBy w' v.ownBlock → wpList P ops Q rest (a.put op.dst v') w') : wpList P ops Q (op :: rest) a w := by
  have hown2' := hown2
  rcases hown2'.2 with ⟨hu, hm⟩ | ⟨g, cap, cur, hu, _⟩
  · have hys : ys = [] := List.length_eq_zero_iff.1 (by rw [hown2.1, hm, Nat.zero_mul])
    subst hys hm
    refine wpList_append_own_none hgd s x t ho base e i size ht hi v n xs hs hown (by rw [hx, hu]) (h v w ?_ (World.grownBy.refl w _))
    rw [Nat.add_zero, List.append_nil]
    exact hown
  · subst hu
    refine wpList_append_own w hgd s x t ho base e i z size bytes ht hi hz hsize hby hzs hsz v n xs hs hown ⟨g, 0, none⟩ m cap ys hx hown2.1 (fun j u hu => World.ownsRow.cells hown2 rfl j u hu) h1 h63 hbytes hbase ?_
    intro v' w' k1 k2 _
    exact h v' w' k1 k2
theorem news_one (w : World) (v : Value) (t : TypeId) : ∀ (j : Nat) (u : Value), [v][j]? = some u → (w.alloc (.cells #[v] t)).cell? (Addr.add ⟨w.heap.size, 0, none⟩ j) = some u := by
  intro j u hj
  match j, hj with
  | 0, hj => simp at hj; subst hj; simp [Addr.add, go_sem]
def RlC (P : Parts) : Prop := ∀ (q b o cap : Nat) (pre post : List Nd) (v : Value) (w : World), (∀ p ∈ P, St q p.1 p.2) → Ends (2 * q + 1) post → NodesAt w b o (pre ++ (nodesOf P ++ post)) → (pre ++ (nodesOf P ++ post)).length ≤ 300 → G0 w → q ≤ 12 → PlRow w v (places pre.length P) →
    Calls Tryd.prog 15 #[.slice (some ⟨b, o, none⟩) (pre ++ (nodesOf P ++ post)).length cap, v, .int .i64 q] w fun y w' => ∃ u, y = .returned u ∧ w'.ownsRow w.heap.size 9 1 u (linesOf P).length (strs (linesOf P)) ∧ Below w.heap.size w w'
end Go.Proofs.YtjngjanheoeojaaDoor
