import Derived.Test.YtaocomjhepgabaaKDj
set_option linter.unusedVariables false
set_option linter.unusedSimpArgs false
set_option linter.unnecessarySimpa false
/- Dk -/
namespace Go.Proofs.Ytaocomjhepgabaa
open Go.RowKit Go.Maps Go.ChangeShapes Go.WideShapes
/-- What an order is: its error, its list. -/
def OL (n : Int) (ars : List (Int × Int)) (root : Int) (e : Int) (L : List (Int × Nat × Bool)) : Prop :=
  ((badV n root || ars.any (badA n)) = true ∧ e = 100 ∧ L = []) ∨ ((badV n root || ars.any (badA n)) = false ∧ e = 0 ∧ Ends (outs ars) (start (outs ars) root) L)
theorem OL.one {n : Int} {ars : List (Int × Int)} {root e e' : Int} {L L' : List (Int × Nat × Bool)} (h : OL n ars root e L) (k : OL n ars root e' L') : e' = e ∧ L' = L := by
  rcases h with ⟨h1, h2, h3⟩ | ⟨h1, h2, h3⟩
  · rcases k with ⟨k1, k2, k3⟩ | ⟨k1, k2, k3⟩
    · exact ⟨by rw [h2, k2], by rw [h3, k3]⟩
    · rw [h1] at k1; cases k1
  · rcases k with ⟨k1, k2, k3⟩ | ⟨k1, k2, k3⟩
    · rw [h1] at k1; cases k1
    · exact ⟨by rw [h2, k2], Ends.one k3 h3⟩
def OPost (w : World) (n : Int) (ars : List (Int × Int)) (root : Int) (e : Ending) (w' : World) : Prop :=
  ∃ (err : Int) (L : List (Int × Nat × Bool)) (v : Value), e = .returned (.tuple #[v, .int .i64 err]) ∧ OL n ars root err L ∧ w'.ownsRow w.heap.size 35 3 v L.length (fl (els L)) ∧ L.length ≤ 1000000000000 ∧ Ok w w'
theorem order_code {w : World} {n root : Int} {ro : Option Addr} {cap : Nat} {ars : List (Int × Int)} (hs : SAr w ro ars) (hl : ars.length ≤ 1000) (hr : in64 root) (hin : ∀ x ∈ ars, in64 x.1 ∧ in64 x.2) :
    Calls Try.prog 7 #[.int .i64 n, .slice ro ars.length cap, .int .i64 root] w (OPost w n ars root) := by
  refine (Order_any hs (by omega) hr.1 hr.2 hin).mono ?_
  rintro e w' ⟨h1, h2, h3⟩
  cases hb : (badV n root || ars.any (badA n)) with
  | true => exact ⟨100, [], .slice none 0 0, h2 hb, .inl ⟨hb, rfl, rfl⟩, World.ownsRow_nil _ _ _ _, Nat.zero_le _, h1⟩
  | false =>
    obtain ⟨L, v, k1, k2, k3, k4⟩ := h3 hb
    exact ⟨0, L, v, k2, .inr ⟨hb, rfl, k1⟩, k3, k4, h1⟩
theorem order_doc {w : World} {n root : Int} {ro : Option Addr} {cap : Nat} {ars : List (Int × Int)} (hs : SAr w ro ars) (hl : ars.length ≤ 1000) (hr : in64 root) (hin : ∀ x ∈ ars, in64 x.1 ∧ in64 x.2) :
    Calls Try.prog 14 #[.int .i64 n, .slice ro ars.length cap, .int .i64 root] w (OPost w n ars root) := by
  refine (ROrder_any hs hl hr hin).mono ?_
  rintro e w' ⟨h1, h2, h3⟩
  cases hb : (badV n root || ars.any (badA n)) with
  | true => exact ⟨100, [], .slice none 0 0, h2 hb, .inl ⟨hb, rfl, rfl⟩, World.ownsRow_nil _ _ _ _, Nat.zero_le _, h1⟩
  | false =>
    obtain ⟨L, v, k1, k2, k3, k4⟩ := h3 hb
    exact ⟨0, L, v, k2, .inr ⟨hb, rfl, k1⟩, k3, k4, h1⟩
def mkA : Int × Int := (-7, -8)
set_option maxHeartbeats 4000000 in
theorem lent_any {w : World} {ro : Option Addr} {cap : Nat} {ts : List (Int × Int)} (hs : SAr w ro ts) (hao : ro = none → cap = 0) (hl : ts.length ≤ 1000) :
    Calls Try.prog 13 #[.slice ro ts.length cap] w fun e w' => ∃ g c, e = .returned (.slice (some ⟨g, 0, none⟩) (ts.length + 1) c) ∧ w'.ownsRow w.heap.size 29 2 (.slice (some ⟨g, 0, none⟩) (ts.length + 1) c) (ts.length + 1) (pr (ts ++ [mkA])) ∧ Ok w w' := by
  have HS : Hid (SAr w ro ts) := hs
  have HAO : Hid (ro = none → cap = 0) := hao
  have HL : Hid (ts.length ≤ 1000) := hl
  obtain ⟨i9, hi9, hy0, hy1, hy2⟩ := info_of Try.info29
  have HL63 : Hid (ts.length + 1 ≤ maxLen ∧ (ts.length + 1) * 16 ≤ 140737488355328) := by unfold Hid maxLen; omega
  clear hs hao hl
  go_enter Try.func13, Try.ntmps13
  go_wp2_with (first
    | (at_builtin; refine wpList_append_arcs rfl _ _ rfl w.heap.size (.slice (some ⟨w.heap.size, 0, none⟩) 0 0) 0 [] (by rfl) (own_empty w) ro cap ts (by rfl) (HS.out.ok ((Ok.refl _).alloc _)) HAO.out (by have := HL.out; omega) (by simp) ?_; intro v1 w1 hown1 hgrow1; have HO1 : Hid (w1.ownsRow w.heap.size 29 2 v1 ts.length (pr ts)) := (by rw [Nat.zero_add] at hown1; exact hown1); have HK1 : Hid (Ok w w1) := Below.grown ((Ok.refl w).alloc _) hgrow1 (by simp) (fun k e => by simp [Value.ownBlock] at e; omega); clear hown1 hgrow1; obtain ⟨ao1, cap1, hv1⟩ := own_form HO1.out; subst hv1; have hws := HK1.out.le)
    | (at_builtin; refine wpList_append_lies _ rfl _ _ 22 rfl w.heap.size 29 i9 _ 2 16 Try.underlying22 hi9 hy0 hy1 hy2 rfl (by decide) _ ts.length (pr ts) (by rfl) (World.ownsRow.alloc HO1.out _) ⟨w1.heap.size, 0, none⟩ 1 1 [.int .i64 (-7), .int .i64 (-8)] (by rfl) rfl (by intro j u hj; exact news_row (heap_at _ _ _ (by simp)) j u hj) (by simp [Value.oneCell']) (by decide) HL63.out.1 HL63.out.2 (by simp; omega) (w1.heap.size + 1) (by simp) ?_; intro gg capg w4 hown4 hgrow hat4 hlt4; have HO4 : Hid _ := hown4; have HK4 : Hid (Ok w w4) := Below.grown (HK1.out.alloc _) hgrow (by simp; omega) (fun k e => (HO1.out.lt k e).1); clear hown4 hgrow hat4)
    | fail)
  go_ret
  refine ⟨gg, capg, rfl, ?_, HK4.out⟩
  rw [pr_app]
  exact HO4.out
set_option maxHeartbeats 4000000 in
theorem untouched_any {w : World} {B g c : Nat} {ro : Option Addr} {cap : Nat} {ts : List (Int × Int)} (ho : w.ownsRow B 29 2 (.slice (some ⟨g, 0, none⟩) (ts.length + 1) c) (ts.length + 1) (pr (ts ++ [mkA]))) (hs : SAr w ro ts) (hl : ts.length ≤ 1000) :
    Calls Try.prog 15 #[.slice (some ⟨g, 0, none⟩) (ts.length + 1) c, .slice ro ts.length cap] w fun e w' => e = .returned (.bool true) ∧ Ok w w' := by
  have HO : Hid (w.ownsRow B 29 2 (.slice (some ⟨g, 0, none⟩) (ts.length + 1) c) (ts.length + 1) (pr (ts ++ [mkA]))) := ho
  have HS : Hid (SAr w ro ts) := hs
  have HL : Hid (ts.length ≤ 1000) := hl
  have hgl := (ho.lt g rfl).2
  clear ho hs hl
  go_enter Try.func15, Try.ntmps15
  go_wp2_with fail
  go_loopw [5] (fun a wr => ∃ (k : Nat), k ≤ ts.length ∧ a = .int .i64 (k : Nat) ∧ Hid (Ok w wr)) (fun a _ => ((ts.length : Int) - intOf a).toNat)
  case atStart => exact ⟨0, Nat.zero_le _, rfl, Ok.refl _⟩
  case round =>
    obtain ⟨k, hk, rfl, HK⟩ := hrel
    by_cases hkl : k < ts.length
    · have hkl' : (k : Int) < (ts.length : Int) := cast_lt' hkl
      have hkl2 : k < ts.length + 1 := by omega
      have hkl3 : (k : Int) < (ts.length : Int) + 1 := by omega
      have hkw : IntKind.i64.wrap ((k : Int) + 1) = ((k + 1 : Nat) : Int) := kw_bnd (by have := HL.out; omega)
      obtain ⟨x, hx⟩ : ∃ x, ts[k]? = some x := ⟨ts[k], List.getElem?_eq_getElem hkl⟩
      obtain ⟨tb, o, hro, htb, hc⟩ := HS.out (fun e => by rw [e] at hkl; cases hkl)
      subst hro
      obtain ⟨c0, c1⟩ := hc k x hx
      replace c0 := HK.out.cell (p := ⟨tb, o + k * 2, none⟩) htb c0
      replace c1 := HK.out.cell (p := ⟨tb, o + k * 2 + 1, none⟩) htb c1
      obtain ⟨p0, p1⟩ := pr_get (ts ++ [mkA]) k x (by rw [List.getElem?_append_left hkl]; exact hx)
      have a0 := HO.out.cells (g := g) rfl _ _ p0
      have a1 := HO.out.cells (g := g) rfl _ _ p1
      rw [add_off, Nat.zero_add] at a0 a1
      replace a0 := HK.out.cell (p := ⟨g, k * 2, none⟩) hgl a0
      replace a1 := HK.out.cell (p := ⟨g, k * 2 + 1, none⟩) hgl a1
      obtain ⟨x1, x2⟩ := x
      simp only at c0 c1 a0 a1
      clear hc hx p0 p1
      go_wp2_with fail
      go_quiet (fail)
      go_wp2_with fail
      refine ⟨⟨k + 1, hkl, rfl, ?_⟩, meas hkl⟩
      first | exact HK | exact HK.out.draws _ | exact Below.drew HK.out
    · have hkl' : ¬ (k : Int) < (ts.length : Int) := cast_nlt hkl
      obtain ⟨p0, p1⟩ := pr_get (ts ++ [mkA]) ts.length mkA (by simp)
      have a0 := HO.out.cells (g := g) rfl _ _ p0
      have a1 := HO.out.cells (g := g) rfl _ _ p1
      rw [add_off, Nat.zero_add] at a0 a1
      replace a0 := HK.out.cell (p := ⟨g, ts.length * 2, none⟩) hgl a0
      replace a1 := HK.out.cell (p := ⟨g, ts.length * 2 + 1, none⟩) hgl a1
      simp only [mkA] at a0 a1
      have hl1 : ts.length < ts.length + 1 := by omega
      have hl2 : (ts.length : Int) < (ts.length : Int) + 1 := by omega
      clear p0 p1
      go_wp2_with fail
      go_ret
      exact ⟨rfl, HK.out⟩
end Go.Proofs.Ytaocomjhepgabaa
