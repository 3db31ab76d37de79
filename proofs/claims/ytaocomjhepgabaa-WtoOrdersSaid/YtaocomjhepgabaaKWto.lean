import Derived.Test.YtaocomjhepgabaaKWix
import Derived.Test.YtaocomjhepgabaaKWnu
import Derived.Test.YtaocomjhepgabaaKWod
set_option linter.unusedVariables false
set_option linter.unusedSimpArgs false
set_option linter.unnecessarySimpa false
/- Wto -/
namespace Go.Proofs.Ytaocomjhepgabaa
open Go.RowKit
theorem num_gr (root : Int) (ars : List (Int × Int)) (hl : ars.length ≤ 10000) : Gr (outs (numAll [root] ars).2) (List.range (numAll [root] ars).1.length) := by
  have h1 := numAll_len ars [root]
  refine ⟨List.nodup_range, ?_, ?_⟩
  · intro v hv u hu
    unfold outs at hu
    obtain ⟨x, hx, rfl⟩ := List.mem_map.1 hu
    obtain ⟨k, hk⟩ := List.getElem?_of_mem (List.mem_filter.1 hx).1
    obtain ⟨a, _, _, h2⟩ := numAll_at ars [root] k x hk
    simpa using (List.getElem?_eq_some_iff.1 h2).1
  · rw [List.length_range]
    have : (numAll [root] ars).1.length ≤ 100000 := by have := h1.1; simp at this; omega
    have := nsq this
    unfold DONE; omega
theorem num_nm (root : Int) (ars : List (Int × Int)) (f : Nat → Int) (hf : ∀ (i : Nat) (x : Int), (numAll [root] ars).1[i]? = some x → f i = x) : Nm f (fun i => i < (numAll [root] ars).1.length) (outs (numAll [root] ars).2) (outs ars) := by
  have nd := numAll_nodup ars (vs := [root]) (by simp)
  have fget : ∀ i (h : i < (numAll [root] ars).1.length), f i = (numAll [root] ars).1[i] := fun i h => hf i _ (List.getElem?_eq_getElem h)
  have inj : ∀ a b, a < (numAll [root] ars).1.length → b < (numAll [root] ars).1.length → f a = f b → a = b := fun a b ha hb e => by
    rw [fget a ha, fget b hb] at e
    exact (List.getElem_inj nd).1 e
  have hat := numAll_at ars [root]
  refine ⟨inj, ?_, ?_⟩
  · intro v hv u hu
    unfold outs at hu
    obtain ⟨x, hx, rfl⟩ := List.mem_map.1 hu
    obtain ⟨k, hk⟩ := List.getElem?_of_mem (List.mem_filter.1 hx).1
    obtain ⟨a, _, _, h2⟩ := hat k x hk
    exact (List.getElem?_eq_some_iff.1 h2).1
  · intro v hv
    refine outs_map (numAll_len ars [root]).2 ?_ ?_
    · intro k x hx
      obtain ⟨a, h1, h2, h3⟩ := hat k x hx
      exact ⟨a, h1, hf _ _ h2, hf _ _ h3⟩
    · intro x hx e
      obtain ⟨k, hk⟩ := List.getElem?_of_mem hx
      obtain ⟨a, h1, h2, h3⟩ := hat k x hk
      exact inj _ _ (List.getElem?_eq_some_iff.1 h2).1 hv e
def els (L : List (Int × Nat × Bool)) : List (Int × Int × Bool) := L.map (fun x => (x.1, (x.2.1 : Int), x.2.2))
/-- What Order leaves. -/
def OrderIs (w : World) (n : Int) (ars : List (Int × Int)) (root : Int) (e : Ending) (w' : World) : Prop :=
  Ok w w' ∧ ((badV n root || ars.any (badA n)) = true → e = .returned (.tuple #[.slice none 0 0, .int .i64 100])) ∧
    ((badV n root || ars.any (badA n)) = false → ∃ L v, Ends (outs ars) (start (outs ars) root) L ∧ e = .returned (.tuple #[v, .int .i64 0]) ∧ w'.ownsRow w.heap.size 35 3 v L.length (fl (els L)) ∧ L.length ≤ 1000000000000)
def OW (w : World) (n : Int) : World := (w.alloc (.cells #[.int .i64 n] 3)).alloc (.cells #[.func (.func 16) #[] #[.pointer (some ⟨w.heap.size, 0, none⟩)]] 46)
theorem OW_oc (w : World) (n : Int) : OC (OW w n) n w.heap.size (w.heap.size + 1) := by
  have h0 : (OW w n).heap[w.heap.size]? = some (.cells #[.int .i64 n] 3 (0, 0)) := by unfold OW; exact (by repeat (first | (refine heap_at _ _ _ ?hx; case hx => (first | (simp; done) | (simp; omega))) | (refine heap_past _ _ _ ?hy ?_; case hy => (first | (simp; done) | (simp; omega))) | fail))
  have h1 : (OW w n).heap[w.heap.size + 1]? = some (.cells #[.func (.func 16) #[] #[.pointer (some ⟨w.heap.size, 0, none⟩)]] 46 (0, 0)) := by unfold OW; exact (by repeat (first | (refine heap_at _ _ _ ?hx; case hx => (first | (simp; done) | (simp; omega))) | (refine heap_past _ _ _ ?hy ?_; case hy => (first | (simp; done) | (simp; omega))) | fail))
  obtain ⟨a, _, b⟩ := box_cell h0
  obtain ⟨c, _, d⟩ := box_cell h1
  exact ⟨a, b, c, d⟩
theorem OW_ok (w : World) (n : Int) : Ok w (OW w n) := ((Ok.refl w).alloc _).alloc _
set_option maxHeartbeats 4000000 in
theorem Order_any {w : World} {n root : Int} {ro : Option Addr} {cap : Nat} {ars : List (Int × Int)} (hs : SAr w ro ars) (hl : ars.length ≤ 10000) (hr0 : -9223372036854775808 ≤ root) (hr1 : root ≤ 9223372036854775807)
    (hin : ∀ x ∈ ars, (-9223372036854775808 ≤ x.1 ∧ x.1 ≤ 9223372036854775807) ∧ (-9223372036854775808 ≤ x.2 ∧ x.2 ≤ 9223372036854775807)) :
    Calls Try.prog 7 #[.int .i64 n, .slice ro ars.length cap, .int .i64 root] w (OrderIs w n ars root) := by
  have hmf : ∀ (fn : Fn) (first cap : Array Value) (w : World), (Instr.makeFunc fn first cap).run Try.prog w = .ok (.func fn first cap) w := fun _ _ _ _ => rfl
  have hsf1 := fun a c w => run_store Try.prog w a (.func (.func 16) #[] c) .plain rfl
  have HO : Hid (OC (OW w n) n w.heap.size (w.heap.size + 1)) := OW_oc w n
  have HS : Hid (SAr (OW w n) ro ars) := hs.ok (OW_ok w n)
  have HC1 : Hid (Calls Try.prog 16 #[.int .i64 root, .pointer (some ⟨w.heap.size, 0, none⟩)] (OW w n) fun e w' => e = .returned (.bool (badV n root)) ∧ w' = OW w n) := none_any _ n root _ HO.out.c
  have HC2 : Hid (Calls Try.prog 18 #[.slice ro ars.length cap, .func (.func 17) #[] #[.pointer (some ⟨w.heap.size + 1, 0, none⟩)]] (OW w n) fun e w' => e = .returned (.bool (ars.any (badA n))) ∧ Ok (OW w n) w') := contains_any HO.out HS.out hl
  have HC3 : Hid (∀ w', Ok (OW w n) w' → Calls Try.prog 20 #[.slice ro ars.length cap, .int .i64 root] w' (Numbered w' ars root)) := fun w' hk => numbered_any (HS.out.ok hk) hl hr0 hr1 hin
  have HK : Hid (Ok w (OW w n)) := OW_ok w n
  clear hs hin
  cases h1 : badV n root with
  | true =>
    have HE : Hid ((badV n root || ars.any (badA n)) = true) := by unfold Hid; rw [h1]; rfl
    rw [h1] at HC1
    clear h1
    go_enter Try.func7, Try.ntmps7
    go_wp2_with (go_at_call 16; refine (Calls.mono HC1.out ?_); rintro e w1 ⟨rfl, hw⟩; replace hw := hw.symm; subst hw)
    go_ret2
    exact ⟨HK.out, fun _ => rfl, fun h => by rw [HE.out] at h; cases h⟩
  | false =>
    rw [h1] at HC1
    cases h2 : ars.any (badA n) with
    | true =>
      have HE : Hid ((badV n root || ars.any (badA n)) = true) := by unfold Hid; rw [h1, h2]; rfl
      rw [h2] at HC2
      clear h1 h2
      go_enter Try.func7, Try.ntmps7
      go_wp2_with (first
        | (go_at_call 16; refine (Calls.mono HC1.out ?_); rintro e w1 ⟨rfl, hw⟩; replace hw := hw.symm; subst hw)
        | (go_at_call 18; refine (Calls.mono HC2.out ?_); rintro e w2 ⟨rfl, hk⟩; have HK2 : Hid (Ok (OW w n) w2) := hk; clear hk)
        | fail)
      go_ret2
      exact ⟨HK.out.step HK2.out, fun _ => rfl, fun h => by rw [HE.out] at h; cases h⟩
    | false =>
      have HE : Hid ((badV n root || ars.any (badA n)) = false) := by unfold Hid; rw [h1, h2]; rfl
      rw [h2] at HC2
      clear h1 h2
      go_enter Try.func7, Try.ntmps7
      go_wp2_with (first
        | (go_at_call 16; refine (Calls.mono HC1.out ?_); rintro e w1 ⟨rfl, hw⟩; replace hw := hw.symm; subst hw)
        | (go_at_call 18; refine (Calls.mono HC2.out ?_); rintro e w2 ⟨rfl, hk⟩; have HK2 : Hid (Ok (OW w n) w2) := hk; clear hk)
        | (go_at_call 20; refine (Calls.mono (HC3.out w2 HK2.out) ?_); rintro e w3 ⟨g, rfl, hg1, hg2, hg3, hg4, hg5⟩; have HG1 : Hid (GOk g w3) := hg1; have HG2 : Hid (Ok w2 w3) := hg2; have HG3 : Hid (g.N = (numAll [root] ars).1.length) := hg3; have HG4 : Hid (g.succ = outs (numAll [root] ars).2) := hg4; have HG5 : Hid (∀ (i : Nat) (x : Int), (numAll [root] ars).1[i]? = some x → g.vs i = x) := hg5; clear hg1 hg2 hg3 hg4 hg5)
        | (go_at_call 19; refine (Calls.mono (order_any HG1.out (by rw [HG4.out, HG3.out]; exact num_gr root ars hl) (by rw [HG3.out]; have := (numAll_len ars [root]).1; simp at this; omega)) ?_); rintro e w4 ⟨L, v, hL, rfl, ho, hk, hll⟩; have HL : Hid (Ends g.succ (start g.succ 0) L) := hL; have HO4 : Hid (w4.ownsRow w3.heap.size 35 3 v L.length (fl (elems g L))) := ho; have HK4 : Hid (Ok w3 w4) := hk; have HLL : Hid (L.length ≤ 1000000000000) := hll; clear hL ho hk hll)
        | fail)
      go_ret2
      have hok : Ok w w4 := ((HK.out.step HK2.out).step HG2.out).step HK4.out
      refine ⟨hok, (by intro h; rw [HE.out] at h; cases h), fun _ => ⟨mapL g.vs L, v, ?_, rfl, ?_, by unfold mapL; rw [List.length_map]; exact HLL.out⟩⟩
      · have hl1 := HL.out
        rw [HG4.out] at hl1
        have hm := Ends.map (num_nm root ars g.vs HG5.out) (r := 0) (by
          obtain ⟨t, ht⟩ := numAll_pre ars [root]
          show 0 < (numAll [root] ars).1.length
          rw [ht]; simp) hl1
        have e0 : g.vs 0 = root := HG5.out 0 root (by
          obtain ⟨t, ht⟩ := numAll_pre ars [root]
          rw [ht]; rfl)
        rw [e0] at hm
        exact hm
      · have h1 := own_base HO4.out ((HK.out.step HK2.out).step HG2.out).le
        have e1 : elems g L = els (mapL g.vs L) := by unfold elems els mapL; rw [List.map_map]; rfl
        rw [e1] at h1
        have e2 : (mapL g.vs L).length = L.length := by unfold mapL; rw [List.length_map]
        rw [e2]; exact h1
end Go.Proofs.Ytaocomjhepgabaa
