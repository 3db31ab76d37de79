import Derived.Test.YtbakinibehhfnaaWbt
import Derived.Test.YtbakinibehhfnaaWrc
import Derived.Test.YtbakinibehhfnaaWnp
set_option linter.unusedVariables false
set_option linter.unusedSimpArgs false
set_option linter.unnecessarySimpa false
/- WtoHolds: P10.2 of a list of arcs: plain mathematics. -/
namespace Go.Proofs.Ytbakinibehhfnaa
/-- The numbers of a list, each once. -/
def once : List Int → List Int
  | [] => []
  | x :: l => if x ∈ l then once l else x :: once l
theorem mem_once : ∀ {l : List Int} {x : Int}, x ∈ once l ↔ x ∈ l
  | [], x => by simp [once]
  | y :: l, x => by
    unfold once
    split
    · rename_i h
      rw [mem_once, List.mem_cons]
      exact ⟨Or.inr, fun hh => hh.elim (fun e => by rw [e]; exact h) (fun e => e)⟩
    · rw [List.mem_cons, List.mem_cons, mem_once]
theorem once_nodup : ∀ (l : List Int), (once l).Nodup
  | [] => by simp [once]
  | y :: l => by
    unfold once
    split
    · exact once_nodup l
    · rename_i h
      rw [List.nodup_cons]
      exact ⟨fun hh => h (mem_once.1 hh), once_nodup l⟩
theorem once_len : ∀ (l : List Int), (once l).length ≤ l.length
  | [] => Nat.le_refl _
  | y :: l => by
    have := once_len l
    unfold once
    split <;> simp <;> omega
theorem mem_outs {ars : List (Int × Int)} {v w : Int} : w ∈ outs ars v ↔ (v, w) ∈ ars := by
  unfold outs
  rw [List.mem_map]
  constructor
  · rintro ⟨a, ha, rfl⟩
    rw [List.mem_filter] at ha
    have : a.1 = v := by simpa using ha.2
    rw [← this]; exact ha.1
  · intro h
    exact ⟨(v, w), List.mem_filter.2 ⟨h, by simp⟩, rfl⟩
theorem arcs_gr (ars : List (Int × Int)) (root : Int) (hl : ars.length ≤ 1000) : ∃ U, Gr (outs ars) U ∧ root ∈ U := by
  refine ⟨once (root :: ars.map (·.2)), ⟨once_nodup _, fun v _ u hu => ?_, ?_⟩, mem_once.2 List.mem_cons_self⟩
  · rw [mem_outs] at hu
    exact mem_once.2 (List.mem_cons_of_mem _ (List.mem_map.2 ⟨(v, u), hu, rfl⟩))
  · have h1 := once_len (root :: ars.map (·.2))
    have h2 : (once (root :: ars.map (·.2))).length ≤ 1001 := by
      simp only [List.length_cons, List.length_map] at h1; omega
    have h3 := Nat.mul_le_mul h2 (show (once (root :: ars.map (·.2))).length + 2 ≤ 1003 by omega)
    have : (1001 * 1003 : Nat) < DONE := by decide
    omega
/-- P10.2, of what Order answers of arcs. -/
structure Weak (ars : List (Int × Int)) (root : Int) (L : List (Int × Nat × Bool)) : Prop where
  nd : (lv L).Nodup
  ord : OrdL (outs ars) 0 L
  fst : ∃ e L', L = e :: L' ∧ e.1 = root
  cls : ∀ x ∈ ars, x.1 ∈ lv L → x.2 ∈ lv L
  rch : ∀ P : Int → Prop, P root → (∀ x ∈ ars, P x.1 → P x.2) → ∀ v ∈ lv L, P v
theorem weak_of {ars : List (Int × Int)} {root : Int} {L : List (Int × Nat × Bool)} (hl : ars.length ≤ 1000) (h : Ends (outs ars) (start (outs ars) root) L) : Weak ars root L := by
  obtain ⟨U, g, hr⟩ := arcs_gr ars root hl
  obtain ⟨h1, h2, h3⟩ := h.holds g hr
  refine ⟨h.nodup g hr, h1, h2, fun x hx hv => h3 x.1 hv x.2 (mem_outs.2 hx), fun P h0 hc v hv => ?_⟩
  obtain ⟨e, he, rfl⟩ := List.mem_map.1 hv
  exact h.reached (P := P) (fun a ha u hu => hc (a, u) (mem_outs.1 hu) ha) h0 e he
/-- What a root reaches, said twice, is one set. -/
theorem Weak.keys {ars : List (Int × Int)} {root : Int} {L : List (Int × Nat × Bool)} (h : Weak ars root L) {ks : List Int} (rt : root ∈ ks) (cl : ∀ x ∈ ars, x.1 ∈ ks → x.2 ∈ ks) (rc : ∀ P : Int → Prop, P root → (∀ x ∈ ars, P x.1 → P x.2) → ∀ v ∈ ks, P v) : ∀ v, v ∈ lv L ↔ v ∈ ks := by
  intro v
  constructor
  · exact h.rch (· ∈ ks) rt cl v
  · refine rc (· ∈ lv L) ?_ h.cls v
    obtain ⟨e, L', e1, e2⟩ := h.fst
    rw [e1, lv_cons, e2]; exact List.mem_cons_self
/-- What the depth of an element may be, of the one ahead. -/
theorem chn_at : ∀ {d : Nat} {l : List (Int × Nat × Bool)}, Chn d l → ∀ (i : Nat) (e : Int × Nat × Bool), l[i]? = some e → e.2.1 ≤ (match i with | 0 => d | j + 1 => (match l[j]? with | some f => f.2.1 | none => 0)) + hd1 e
  | d, [], _, i, e, h => by simp at h
  | d, f :: r, hc, 0, e, h => by simp at h; subst h; exact hc.1
  | d, f :: r, hc, i + 1, e, h => by
    have h' : r[i]? = some e := by simpa using h
    have := chn_at hc.2 i e h'
    cases i with
    | zero => simpa using this
    | succ j => simpa using this
end Go.Proofs.Ytbakinibehhfnaa
