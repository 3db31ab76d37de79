import Derived.Test.YtaocomjhepgabaaKWor
set_option linter.unusedVariables false
set_option linter.unusedSimpArgs false
set_option linter.unnecessarySimpa false
/- Wod -/
namespace Go.Proofs.Ytaocomjhepgabaa
open Go.RowKit
theorem own_base {w : World} {B B' e s n : Nat} {v : Value} {xs : List Value} (h : w.ownsRow B' e s v n xs) (hB : B ≤ B') : w.ownsRow B e s v n xs :=
  ⟨h.1, h.2.imp id (fun ⟨g, cap, cur, h1, h2, h3⟩ => ⟨g, cap, cur, h1, Nat.le_trans hB h2, h3⟩)⟩
def W0 (g : GD) (w : World) : World :=
  (((((((((w.alloc (.cells #[.slice (some ⟨g.b1, 0, none⟩) g.N g.c1, .slice (some ⟨g.b2, 0, none⟩) g.E g.c2, .slice (some ⟨g.b3, 0, none⟩) (g.N + 1) g.c3] 51)).alloc (.cells #[.slice none 0 0] 62)).alloc (.cells #[.slice none 0 0] 32)).alloc (.cells #[.slice none 0 0] 23)).alloc (.cells #[.int .i64 0] 3)).alloc (.cells (mkRow g.N fun _ => 0) 3)).alloc (.cells #[.slice (some ⟨w.heap.size + 5, 0, none⟩) g.N g.N] 63)).alloc (.cells #[.int .i64 0] 3)).alloc (.cells #[.func (.func 24) #[] #[.pointer (some ⟨w.heap.size + 3, 0, none⟩), .pointer (some ⟨w.heap.size, 0, none⟩), .pointer (some ⟨w.heap.size + 4, 0, none⟩)]] 64)).alloc (.cells #[.func (.func 26) #[] #[.pointer (some ⟨w.heap.size + 4, 0, none⟩), .pointer (some ⟨w.heap.size, 0, none⟩)]] 69)
theorem W0_ms {g : GD} {w : World} (hg : GOk g w) : MS g w.heap.size w (W0 g w) (.slice none 0 0) (.slice none 0 0) (.slice none 0 0) ⟨[], [], [], 0, fun _ => 0, 0⟩ := by
  have hsz : (W0 g w).heap.size = w.heap.size + 10 := by simp [W0]
  refine ⟨by unfold W0; repeat (first | exact Ok.refl _ | refine Ok.alloc ?_ _), Nat.le_refl _, hg, ?_, ?_, ?_, ?_, ?_, ?_, ?_, ?_, ?_, ?_, World.ownsRow_nil _ _ _ _, World.ownsRow_nil _ _ _ _, World.ownsRow_nil _ _ _ _, .inl rfl, .inl rfl, .inl rfl, by rw [hsz]; exact Nat.le_refl _⟩
  all_goals
    unfold W0
    exact (by repeat (first | (refine heap_at _ _ _ ?hx; case hx => (first | (simp; done) | (simp; omega))) | (refine heap_past _ _ _ ?hy ?_; case hy => (first | (simp; done) | (simp; omega))) | fail))
/-- What order leaves: the elements of the run's list, in new memory. -/
def Ordered (g : GD) (w : World) (e : Ending) (w' : World) : Prop := ∃ L v, Ends g.succ (start g.succ 0) L ∧ e = .returned v ∧ w'.ownsRow w.heap.size 35 3 v L.length (fl (elems g L)) ∧ Ok w w' ∧ L.length ≤ 1000000000000
theorem nsq {N : Nat} (h : N ≤ 100000) : N * (N + 2) ≤ 10000200000 := Nat.le_trans (Nat.mul_le_mul h (Nat.add_le_add_right h 2)) (by decide)
set_option maxHeartbeats 8000000 in
theorem order_any {g : GD} {w : World} (hg : GOk g w) (hG : Gr g.succ (List.range g.N)) (hN : g.N ≤ 100000) :
    Calls Try.prog 19 #[.agg #[.slice (some ⟨g.b1, 0, none⟩) g.N g.c1, .slice (some ⟨g.b2, 0, none⟩) g.E g.c2, .slice (some ⟨g.b3, 0, none⟩) (g.N + 1) g.c3]] w (Ordered g w) := by
  have hmf : ∀ (fn : Fn) (first cap : Array Value) (w : World), (Instr.makeFunc fn first cap).run Try.prog w = .ok (.func fn first cap) w := fun _ _ _ _ => rfl
  have hsf1 := fun a c w => run_store Try.prog w a (.func (.func 24) #[] c) .plain rfl
  have hsf2 := fun a c w => run_store Try.prog w a (.func (.func 26) #[] c) .plain rfl
  have hn := hg.nN
  have hnE := hg.nE
  have hn1 := hg.n1
  have hmk := fun w => run_marks g.N hn w
  have HG : Hid (Gr g.succ (List.range g.N)) := hG
  have h0U : 0 ∈ List.range g.N := by simpa using hn1
  obtain ⟨L, hL⟩ := start_ends hG h0U
  obtain ⟨K, hK⟩ := hL
  have HL : Hid (Ends g.succ (start g.succ 0) L) := ⟨K, hK⟩
  have HK : Hid ((iter g.succ K (start g.succ 0)).calls = [] ∧ (iter g.succ K (start g.succ 0)).list = L) := hK
  have HI0 : Hid (Inv g.succ (List.range g.N) (start g.succ 0)) := Inv.start hG h0U
  have HSQ : Hid (g.N * (g.N + 2) ≤ 10000200000) := nsq hN
  have HM0 : Hid (MS g w.heap.size w (W0 g w) (.slice none 0 0) (.slice none 0 0) (.slice none 0 0) ⟨[], [], [], 0, fun _ => 0, 0⟩) := W0_ms hg
  have HV : Hid (Calls Try.prog 25 #[.int .i64 0, .pointer (some ⟨w.heap.size + 7, 0, none⟩), .pointer (some ⟨w.heap.size + 6, 0, none⟩), .pointer (some ⟨w.heap.size + 2, 0, none⟩), .pointer (some ⟨w.heap.size + 1, 0, none⟩), .pointer (some ⟨w.heap.size, 0, none⟩)] (W0 g w) fun e w' => e = .returned (.tuple #[]) ∧ ∃ vc' vk', MS g w.heap.size w w' vc' vk' (.slice none 0 0) (start g.succ 0)) := visit_any HM0.out 0 hn1 (by simp) (by simp) (by simp)
  have HGK : Hid (GOk g w) := hg
  clear hK hG h0U HM0 hg
  go_enter Try.func19, Try.ntmps19
  go_wp2_with (go_at_call 25; simp only [Nat.add_assoc, Nat.reduceAdd]; refine (Calls.mono HV.out ?_); rintro e W ⟨rfl, vc0, vk0, hM⟩; have HM : Hid (MS g w.heap.size w W vc0 vk0 (.slice none 0 0) (start g.succ 0)) := hM; clear hM HV)
  obtain ⟨H, hH⟩ : ∃ H, H = w.heap.size := ⟨_, rfl⟩
  rw [← hH] at HM ⊢
  have HH : Hid (H = w.heap.size) := hH
  clear hH hmk hmf hsf1 hsf2
  go_loopg [] K (fun k wr => ∃ vc vk vl T, Hid (MS g H w wr vc vk vl T) ∧ Hid (Inv g.succ (List.range g.N) T) ∧ Hid ((iter g.succ k T).calls = [] ∧ (iter g.succ k T).list = L))
  case atStart => exact ⟨_, _, _, _, HM, HI0, HK⟩
  case round =>
    clear HM HK HI0
    obtain ⟨vc, vk, vl, T, HM, HI, HE⟩ := hrel
    have hsm : T.count ≤ 10000200000 := by
      have h1 := HI.out.cnt
      rw [List.length_range] at h1
      have h2 := HSQ.out
      omega
    have hlen := HI.out.len
    have hstl := HI.out.stl
    have hll : T.list.length ≤ 1000000000000 := by omega
    have hcl : T.calls.length ≤ 1000000000000 := by omega
    have hsl : T.stack.length ≤ 1000000000000 := by omega
    have hct : T.count ≤ 1000000000000 := by omega
    have hdl : T.depth ≤ 1000000000000 := by
      rw [HI.out.dep]
      exact Nat.le_trans (List.length_filter_le _ _) hcl
    have hst : Hid (∀ u ∈ T.stack, u < g.N) := fun u hu => by simpa using (HI.out.stk u hu).1
    clear hlen hstl hsm
    obtain ⟨c0, c1, c2⟩ := box_cell HM.out.b1
    have hlt := HM.out.lt
    cases hc : T.calls with
    | nil =>
      obtain ⟨ao, cap, rfl⟩ := own_form HM.out.co
      have hl0 : T.calls.length = 0 := by rw [hc]; rfl
      rw [hl0] at c0
      have HTL : Hid (T.list = L) := by
        have := HE.out.2
        rw [iter_nil gk hc] at this
        exact this
      have HO : Hid (wr.ownsRow (H + 10) 35 3 vl (elems g T.list).reverse.length (fl (elems g T.list).reverse)) := by
        have := HM.out.lo
        rw [elCells_fl] at this
        rw [fl_elems]; exact this
      obtain ⟨lo, lcap, hlo⟩ := own_form HM.out.lo
      obtain ⟨l0, l1, l2⟩ := box_cell HM.out.b3
      clear hc
      have hll' : Hid ((elems g T.list).reverse.length ≤ 1000000000000) := by unfold Hid; rw [fl_elems]; exact hll
      subst hlo
      go_wp2_with (go_at_call 31; refine (Calls.mono (rev_gen HO.out hll'.out) ?_); rintro e w1 ⟨rfl, ho, hgr⟩; obtain ⟨q1, q2, q3, q4⟩ := HM.out.midL hgr; have HO1 : Hid (w1.ownsRow (H + 10) 35 3 _ (elems g T.list).reverse.length (fl (elems g T.list).reverse.reverse)) := ho; have HOK : Hid (Ok w w1) := HM.out.ok.grown hgr HM.out.ok.le (fun b e => by have := (HM.out.lo.lt b e).1; have := HM.out.hH; omega); clear ho hgr q4)
      go_ret
      refine ⟨L, _, HL.out, rfl, ?_, HOK.out, by rw [← HTL.out]; exact hll⟩
      have h1 := HO1.out
      rw [List.reverse_reverse, fl_elems, HTL.out] at h1
      rw [← HTL.out] at h1 ⊢
      have hHH := HH.out
      exact own_base h1 (by omega)
    | cons c r =>
      have hpos : 0 < T.calls.length := by rw [hc]; simp
      obtain ⟨gc, cap, rfl, hgc1, hgc2⟩ := HM.out.co.form hpos
      obtain ⟨x0, x1, x2, x3, x4, x5, x6, x7⟩ := HM.out.callCell (p := []) hc
      obtain ⟨m0, m1, m2⟩ := box_cell HM.out.b6
      have y1 := x5 (r.length * 5 + 1)
      obtain ⟨n, hnn⟩ : ∃ n, n = T.calls.length := ⟨_, rfl⟩
      have HN : Hid (n = T.calls.length) := hnn
      rw [← hnn] at c0
      have hnr : n = r.length + 1 := by rw [hnn, hc]; rfl
      have hw1 : IntKind.i64.wrap ((n : Int) - 1) = (r.length : Int) := wrap_nat (by omega) (by omega)
      have hrn : r.length < n := by omega
      have hn0 : 0 < n := by omega
      have hn0' : (0 : Int) < (n : Int) := by omega
      have HMn : Hid (MS g H w wr (.slice (some ⟨gc, 0, none⟩) n cap) vk vl T) := by rw [hnn]; exact HM.out
      clear HM
      have HMN : Hid (MS g H w wr (.slice (some ⟨gc, 0, none⟩) n cap) vk vl T) := HMn
      clear HMn
      have HC : Hid (T.calls = c :: r) := hc
      have hcc := HI.out.cls c (by rw [hc]; exact List.mem_cons_self)
      have hv : c.v < g.N := by simpa using hcc.1
      have HP : Hid (∃ p, g.succ c.v = p ++ c.rest) := hcc.2.1
      have hG := HMN.out.gk.ok HMN.out.ok
      have g2 : wr.cell? ⟨H, 2, none⟩ = some (.slice (some ⟨g.b3, 0, none⟩) (g.N + 1) g.c3) := (cell_of_row _ _ 2 _ _ _ HMN.out.b0).trans (by simp)
      have g1 : wr.cell? ⟨H, 1, none⟩ = some (.slice (some ⟨g.b2, 0, none⟩) g.E g.c2) := (cell_of_row _ _ 1 _ _ _ HMN.out.b0).trans (by simp)
      have hk3 := hG.k3 (c.v + 1) (by omega)
      have hb3 := hG.l3
      have hb2 := hG.l2
      have hv1 : IntKind.i64.wrap ((c.v : Int) + 1) = ((c.v + 1 : Nat) : Int) := wrap_nat (by omega) (by omega)
      have hv2 : c.v + 1 < g.N + 1 := by omega
      obtain ⟨hup, huE⟩ := hG.up c.v hv
      have HU : Hid (g.bg (c.v + 1) = g.bg c.v + (g.succ c.v).length) := hup
      have HAT : Hid (∀ r (h : r < (g.succ c.v).length), g.en (g.bg c.v + r) = (g.succ c.v)[r]) := hG.at_ c.v hv
      have HK2 : Hid (∀ i, i < g.E → wr.cell? ⟨g.b2, i, none⟩ = some (.int .i64 (g.en i))) := hG.k2
      obtain ⟨k, hgk⟩ : ∃ k, gk = k + 1 := by
        cases gk with
        | zero => have := HE.out.1; simp only [iter] at this; rw [hc] at this; cases this
        | succ k => exact ⟨k, rfl⟩
      have HE1 : Hid ((iter g.succ k (step g.succ T)).calls = [] ∧ (iter g.succ k (step g.succ T)).list = L) := by
        have := HE.out; rw [hgk] at this; exact this
      have HI1 : Hid (Inv g.succ (List.range g.N) (step g.succ T)) := HI.out.step HG.out
      have HGKe : Hid (gk = k + 1) := hgk
      have HDP : Hid (c.second = true → 1 ≤ T.depth) := fun h2 => by
        rw [HI.out.dep, hc]; simp [h2]
      have HTP : Hid (c.second = false → c.v ∈ T.stack) := fun h2 => HI.out.top hc h2
      have HUE : Hid (g.bg (c.v + 1) ≤ g.E) := huE
      clear hc hcc hG x5 hnn hnr hpos hgk HE hup huE hgc1 hgc2
      have z1 : ¬ gc = H + 5 := by omega
      have z2 : ¬ gc = H + 6 := by omega
      have z3 : ¬ H + 5 = gc := by omega
      have z4 : ¬ H + 6 = gc := by omega
      cases hr : c.rest with
      | nil =>
        have hx1 : arcOf g c = g.bg (c.v + 1) := by unfold arcOf; rw [hr]; simp
        rw [hx1] at x1
        have HSE : Hid (step g.succ T = through g.succ c r T) := by unfold Hid step; rw [HC.out]; simp only [hr]
        clear hr hx1
        go_wp2_with fail
        go_quiet (fail)
        go_wp2_with (go_at_call 27; refine (Calls.mono (thr_any (MS.below HMN.out (by repeat (first | exact Below.refl _ _ | refine Below.alloc ?_ (Nat.le_refl _) _ | refine Below.drew ?_ | refine below_drewN ?_ _))) HC.out HN.out hcl hv hll hsl hdl HDP.out hst.out HTP.out) ?_); rintro e w1 ⟨rfl, vc1, vk1, vl1, hM⟩; have HM1 : Hid (MS g H w w1 vc1 vk1 vl1 (through g.succ c r T)) := hM; clear hM)
        go_roundg k
        case measure => rw [HGKe.out]; omega
        case rel =>
          refine ⟨vc1, vk1, vl1, step g.succ T, ?_, HI1, HE1⟩
          rw [HSE.out]; exact HM1
      | cons u q =>
        obtain ⟨p, hp⟩ := HP.out
        rw [hr] at hp
        have hlen : (g.succ c.v).length = p.length + (q.length + 1) := by rw [hp]; simp
        obtain ⟨a, ha⟩ : ∃ a, a = arcOf g c := ⟨_, rfl⟩
        rw [← ha] at x1
        have hU := HU.out
        have hUE := HUE.out
        have ha1 : a = g.bg c.v + p.length := by rw [ha]; unfold arcOf; rw [hr, hU, hlen]; simp; omega
        have haE : a < g.E := by omega
        have hne : ¬ (a : Int) = (g.bg (c.v + 1) : Int) := by omega
        have hne' : ((a : Int) == (g.bg (c.v + 1) : Int)) = false := by simp; omega
        have hen : g.en a = u := by
          rw [ha1, HAT.out p.length (by omega)]
          simp [hp]
        have hk2 := HK2.out a haE
        rw [hen] at hk2
        obtain ⟨a1, ha2⟩ : ∃ a1, a1 = a + 1 := ⟨_, rfl⟩
        have hwa : IntKind.i64.wrap ((a : Int) + 1) = (a1 : Int) := wrap_nat (by omega) (by omega)
        have HA : Hid (cl5 g ⟨c.v, q, c.least, c.loop, c.second⟩ = (cl5 g c).set 1 (.int .i64 (a1 : Nat))) := by
          have : arcOf g ⟨c.v, q, c.least, c.loop, c.second⟩ = a1 := by
            show g.bg (c.v + 1) - q.length = a1
            omega
          unfold Hid cl5; rw [this]; rfl
        have hu : u < g.N := by
          have := (HI.out.arc HG.out HC.out hr).1
          simpa using this
        have r0 : wr.cell? ⟨H + 5, u, none⟩ = some (.int .i64 (T.marks u : Nat)) := (cell_of_row _ _ u _ _ _ HMN.out.b5).trans (mkRow_get _ _ u hu)
        have HR : Hid (c.rest = u :: q) := hr
        clear hr hp hlen ha hU hUE ha1 hen ha2 HAT HK2 HP HU HUE HDP HTP
        by_cases h0 : T.marks u = 0
        · rw [h0] at r0
          have HSE : Hid (step g.succ T = visit g.succ u ⟨⟨c.v, q, c.least, c.loop, c.second⟩ :: r, T.stack, T.list, T.depth, T.marks, T.count⟩) := by unfold Hid step; rw [HC.out]; simp only [HR.out]; rw [if_pos h0]
          have HCL : Hid ((⟨c.v, q, c.least, c.loop, c.second⟩ :: r : List (Cl Nat)).length ≤ 1000000000000) := by unfold Hid; rw [HC.out] at hcl; exact hcl
          clear h0
          go_wp2_with fail
          go_quiet (fail)
          go_wp2_with fail
          go_quiet (fail)
          go_wp2_with (go_at_call 25; refine (Calls.mono (visit_any (MS.setCall (MS.below HMN.out (by repeat (first | exact Below.refl _ _ | refine Below.alloc ?_ (Nat.le_refl _) _ | refine Below.drew ?_ | refine below_drewN ?_ _))) (p := []) (r := r) HC.out (d := ⟨c.v, q, c.least, c.loop, c.second⟩) (f := 1) (by omega) HA.out) u hu hct HCL.out hsl) ?_); rintro e w1 ⟨rfl, vc1, vk1, hM⟩; have HM1 : Hid (MS g H w w1 vc1 vk1 vl (visit g.succ u ⟨⟨c.v, q, c.least, c.loop, c.second⟩ :: r, T.stack, T.list, T.depth, T.marks, T.count⟩)) := hM; clear hM)
          go_roundg k
          case measure => rw [HGKe.out]; omega
          case rel =>
            refine ⟨vc1, vk1, vl, step g.succ T, ?_, HI1, HE1⟩
            rw [HSE.out]; exact HM1
        · have h0' : ((T.marks u : Int) == 0) = false := by simp; omega
          have h0'' : ¬ (T.marks u : Int) = 0 := by omega
          have HSE : Hid (step g.succ T = ⟨hear ⟨c.v, q, c.least, c.loop, c.second⟩ (T.marks u) :: r, T.stack, T.list, T.depth, T.marks, T.count⟩) := by unfold Hid step; rw [HC.out]; simp only [HR.out]; rw [if_neg h0]
          go_wp2_with fail
          go_quiet (fail)
          go_wp2_with fail
          go_quiet (fail)
          go_wp2_with (go_at_call 30; refine (Calls.mono (hear_ms (MS.setCall (MS.below HMN.out (by repeat (first | exact Below.refl _ _ | refine Below.alloc ?_ (Nat.le_refl _) _ | refine Below.drew ?_ | refine below_drewN ?_ _))) (p := []) (r := r) HC.out (d := ⟨c.v, q, c.least, c.loop, c.second⟩) (f := 1) (by omega) HA.out) (p := []) (r := r) rfl (T.marks u)) ?_); rintro e w1 ⟨rfl, hM⟩; have HM1 : Hid (MS g H w w1 (.slice (some ⟨gc, 0, none⟩) n cap) vk vl ⟨hear ⟨c.v, q, c.least, c.loop, c.second⟩ (T.marks u) :: r, T.stack, T.list, T.depth, T.marks, T.count⟩) := hM; clear hM)
          go_roundg k
          case measure => rw [HGKe.out]; omega
          case rel =>
            refine ⟨.slice (some ⟨gc, 0, none⟩) n cap, vk, vl, step g.succ T, ?_, HI1, HE1⟩
            rw [HSE.out]; exact HM1
end Go.Proofs.Ytaocomjhepgabaa
