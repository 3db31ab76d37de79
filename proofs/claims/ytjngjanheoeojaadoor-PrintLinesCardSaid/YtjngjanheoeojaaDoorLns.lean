import Derived.Test.YtjngjanheoeojaaDoorText
import Derived.Lib.ItoaNum
import Derived.Lib.ItoaMem
/- PrintLines, the mathematics: what every line of a text is made of. -/
namespace Go.Proofs.YtjngjanheoeojaaDoor
set_option linter.unusedVariables false
set_option linter.unusedSimpArgs false
/-- The bytes of an expression's text, blanks aside. -/
def okb (c : UInt8) : Bool := decide (33 ≤ c.toNat) && decide (c.toNat ≤ 126) && !(c == 35) && !(c == 59) && !(c == 123) && !(c == 125)
/-- Bytes and single blanks between them; p: a blank, or nothing, stands ahead. -/
def scan : Bool → List UInt8 → Bool
  | p, [] => !p
  | p, c :: t => if c = 32 then !p && scan true t else okb c && scan false t
theorem scan_app {t : List UInt8} : ∀ {p : Bool} {u : List UInt8}, scan p t = true → scan p (t ++ u) = scan false u := by
  induction t with
  | nil => intro p u h; cases p <;> simp [scan] at h ⊢
  | cons c t ih =>
    intro p u h
    simp only [scan, List.cons_append] at h ⊢
    split
    · rename_i hc
      rw [if_pos hc, Bool.and_eq_true] at h
      rw [h.1, Bool.true_and, ih h.2]
    · rename_i hc
      rw [if_neg hc, Bool.and_eq_true] at h
      rw [h.1, Bool.true_and, ih h.2]
theorem scan_any {t : List UInt8} (h : scan true t = true) (p : Bool) : scan p t = true := by
  cases t with
  | nil => simp [scan] at h
  | cons c t =>
    simp only [scan] at h ⊢
    split
    · rename_i hc; rw [if_pos hc] at h; simp at h
    · rename_i hc; rw [if_neg hc] at h; exact h
theorem scan_all {t : List UInt8} (h : t.all okb = true) : scan false t = true := by
  induction t with
  | nil => rfl
  | cons c t ih =>
    rw [List.all_cons, Bool.and_eq_true] at h
    simp only [scan]
    rw [if_neg (by rintro rfl; exact absurd h.1 (by decide)), h.1, ih h.2]; rfl
theorem scan_all1 {t : List UInt8} (hne : t ≠ []) (h : t.all okb = true) : scan true t = true := by
  cases t with
  | nil => exact absurd rfl hne
  | cons c t =>
    rw [List.all_cons, Bool.and_eq_true] at h
    simp only [scan]
    rw [if_neg (by rintro rfl; exact absurd h.1 (by decide)), h.1, scan_all h.2]; rfl
theorem scan_con {c : UInt8} {p : Bool} {t : List UInt8} (h : okb c = true) : scan p (c :: t) = scan false t := by
  simp only [scan]
  rw [if_neg (by rintro rfl; exact absurd h (by decide)), h]; rfl
theorem scan_blank {t : List UInt8} : scan false (32 :: t) = scan true t := by simp [scan]
theorem scan_brk {want lv : Nat} {t : List UInt8} (h : scan true t = true) : scan true (brk want lv t) = true := by
  unfold brk
  split
  · rw [scan_con (by decide), scan_app (scan_any h false)]; rfl
  · exact h
theorem sgn_all (k : Nat) : (sgn k).all okb = true := by
  by_cases h : k < 16
  · have : ∀ j : Fin 16, (sgn j).all okb = true := by decide
    exact this ⟨k, h⟩
  · have : sgn k = [] := by unfold sgn; rw [List.getD_eq_getElem?_getD, List.getElem?_eq_none (by simp; omega)]; rfl
    rw [this]; rfl
theorem sgn_ne {k : Nat} (h1 : 0 < k) (h : k < 16) : sgn k ≠ [] := by
  have : ∀ j : Fin 16, 0 < (j : Nat) → sgn j ≠ [] := by decide
  exact this ⟨k, h⟩ h1
theorem okc_okb {c : UInt8} (h : okc c = true) : okb c = true := by
  rw [okc_iff] at h
  have e : ∀ k : Nat, k < 256 → (c == UInt8.ofNat k) = decide (c.toNat = k) := by
    intro k hk
    rw [Bool.eq_iff_iff]
    simp only [beq_iff_eq, decide_eq_true_eq]
    constructor
    · intro h; rw [h]; simp; omega
    · intro h; apply UInt8.toNat_inj.1; rw [h]; simp; omega
  have e1 : (c == 35) = decide (c.toNat = 35) := e 35 (by decide)
  have e2 : (c == 59) = decide (c.toNat = 59) := e 59 (by decide)
  have e3 : (c == 123) = decide (c.toNat = 123) := e 123 (by decide)
  have e4 : (c == 125) = decide (c.toNat = 125) := e 125 (by decide)
  unfold okb
  rw [e1, e2, e3, e4]
  simp only [Bool.and_eq_true, decide_eq_true_eq, Bool.not_eq_true', decide_eq_false_iff_not]
  omega
theorem dec_ok (u : Nat) : (Lib.decDigits u).all okb = true ∧ Lib.decDigits u ≠ [] := by
  constructor
  · rw [Lib.decDigits_eq]
    rw [List.all_eq_true]
    intro c hc
    obtain ⟨t, _, rfl⟩ := List.mem_map.1 hc
    unfold Lib.dg
    have : ∀ j : Fin 10, okb (UInt8.ofNat (48 + (j : Nat))) = true := by decide
    exact this ⟨_, Nat.mod_lt _ (by decide)⟩
  · intro h
    have := Lib.decDigits_length u
    rw [h] at this
    unfold Lib.nDigits at this
    split at this <;> simp at this
theorem itoa_scan {v : Int} (h : 0 ≤ v) : scan true (Lib.itoa v) = true := by
  have : Lib.itoa v = Lib.decDigits v.toNat := by unfold Lib.itoa; rw [if_neg (by omega)]
  rw [this]
  exact scan_all1 (dec_ok _).2 (dec_ok _).1
theorem Fine.named {n : Nd} (h : Fine n) (hk : rNamed n.kind.toNat = true) : scan true n.name.toList = true := by
  have := h.fit
  unfold fitN fitB at this
  simp only [Bool.and_eq_true, decide_eq_true_eq] at this
  obtain ⟨_, h1, _⟩ := this
  rw [if_pos hk] at h1
  unfold nameB at h1
  simp only [Bool.and_eq_true, Bool.not_eq_true', List.isEmpty_eq_false_iff] at h1
  refine scan_all1 h1.1.1.1.1 ?_
  rw [List.all_eq_true]
  intro c hc
  exact okc_okb (List.all_eq_true.1 h1.2 c hc)
theorem Fine.oper {n : Nd} (h : Fine n) : 0 ≤ n.num ∧ rOp0 n.kind.toNat ≤ n.op ∧ n.op ≤ rOp1 n.kind.toNat := by
  have := h.fit
  unfold fitN fitB at this
  simp only [Bool.and_eq_true, decide_eq_true_eq] at this
  exact ⟨this.2.2.1.1.1, this.2.2.1.2, this.2.2.2⟩
theorem Ex.scan {d : Nat} {l : List Nd} {lv : Nat} {t : List UInt8} (h : Ex d l lv t) : scan true t = true := by
  induction h using Ex.indu with
  | num d n hd hf hk => exact itoa_scan hf.oper.1
  | bool d n hd hf hk => split <;> decide
  | read d n hd hf hk => exact hf.named (by rw [hk]; rfl)
  | load d n f lv t hd hf hk hx ih =>
    rw [scan_app (hf.named (by rw [hk]; rfl)), scan_con (by decide), scan_app (scan_any (scan_brk ih) _)]; rfl
  | unary d n f lv t hd hf hk hx ih =>
    have h0 := hf.oper
    rw [hk] at h0
    simp [rOp0, rOp1] at h0
    rw [scan_app (scan_all1 (sgn_ne (by omega) (by omega)) (sgn_all _))]
    exact scan_any (scan_brk ih) _
  | binary d n f g l1 l2 t u hd hf hk hx hy ih1 ih2 =>
    have h0 := hf.oper
    rw [hk] at h0
    simp [rOp0, rOp1] at h0
    rw [scan_app (scan_brk ih1), scan_blank, scan_app (scan_all1 (sgn_ne (by omega) (by omega)) (sgn_all _)), scan_blank]
    exact scan_brk ih2
/-- A line's body; the blocks that it shuts, the blocks that it opens. -/
def Bd (b : List UInt8) (x y : Nat) : Prop :=
  (∃ t, scan true t = true ∧ b = t ++ [59] ∧ x = 0 ∧ y = 0) ∨ (∃ t, scan true t = true ∧ b = t ++ [32, 123] ∧ x = 0 ∧ y = 1) ∨ (b = [125] ∧ x = 1 ∧ y = 0) ∨ (b = [125, 32, 101, 108, 115, 101, 32, 123] ∧ x = 1 ∧ y = 1)
theorem Bd.semi (t : List UInt8) (h : scan true t = true) : Bd (t ++ [59]) 0 0 := .inl ⟨t, h, rfl, rfl, rfl⟩
theorem Bd.opens (t : List UInt8) (h : scan true t = true) : Bd (t ++ [32, 123]) 0 1 := .inr (.inl ⟨t, h, rfl, rfl, rfl⟩)
theorem Bd.shuts : Bd [125] 1 0 := .inr (.inr (.inl ⟨rfl, rfl, rfl⟩))
theorem Bd.els : Bd [125, 32, 101, 108, 115, 101, 32, 123] 1 1 := .inr (.inr (.inr ⟨rfl, rfl, rfl⟩))
theorem Bd.cas {motive : ∀ (b : List UInt8) (x y : Nat), Bd b x y → Prop} (semi : ∀ (t : List UInt8) (h : scan true t = true), motive (t ++ [59]) 0 0 (Bd.semi t h)) (opens : ∀ (t : List UInt8) (h : scan true t = true), motive (t ++ [32, 123]) 0 1 (Bd.opens t h))
    (shuts : motive [125] 1 0 Bd.shuts) (els : motive [125, 32, 101, 108, 115, 101, 32, 123] 1 1 Bd.els) {b : List UInt8} {x y : Nat} (h : Bd b x y) : motive b x y h := by
  have h' := h
  rcases h' with ⟨t, ht, rfl, rfl, rfl⟩ | ⟨t, ht, rfl, rfl, rfl⟩ | ⟨rfl, rfl, rfl⟩ | ⟨rfl, rfl, rfl⟩
  · exact semi t ht
  · exact opens t ht
  · exact shuts
  · exact els
/-- Lines, with so many blocks around ahead of them and behind. -/
def Run : Nat → List (List UInt8) → Nat → Prop
  | d, [], e => d = e
  | d, L :: M, e => ∃ q b x y, L = ind q ++ b ∧ d = q + x ∧ Bd b x y ∧ Run (q + y) M e
theorem Run.nil (d : Nat) : Run d [] d := rfl
theorem Run.cons (q : Nat) (b : List UInt8) (x y e : Nat) (M : List (List UInt8)) (h : Bd b x y) (h' : Run (q + y) M e) : Run (q + x) ((ind q ++ b) :: M) e := ⟨q, b, x, y, rfl, rfl, h, h'⟩
theorem Run.app {e f : Nat} {L M : List (List UInt8)} : ∀ {d : Nat}, Run d L e → Run e M f → Run d (L ++ M) f := by
  induction L with
  | nil => intro d h h'; obtain rfl : d = e := h; exact h'
  | cons a L ih =>
    intro d h h'
    obtain ⟨q, b, x, y, h1, h2, h3, h4⟩ := h
    exact ⟨q, b, x, y, h1, h2, h3, ih h4 h'⟩
theorem Run.one {q : Nat} {b : List UInt8} {x y : Nat} (h : Bd b x y) : Run (q + x) [ind q ++ b] (q + y) := .cons q b x y _ _ h (.nil _)
theorem run_parts {q : Nat} (P : Parts) (h : ∀ p ∈ P, Run q p.2 q) : Run q (linesOf P) q := by
  induction P with
  | nil => exact .nil _
  | cons p P ih =>
    obtain ⟨a, L⟩ := p
    rw [linesOf_cons]
    exact (h _ List.mem_cons_self).app (ih fun p hp => h p (List.mem_cons_of_mem _ hp))
theorem St.run {q : Nat} {l : List Nd} {M : List (List UInt8)} (h : St q l M) : Run q M q := by
  have semi : ∀ (q : Nat) (b t : List UInt8), scan true t = true → b = t ++ [59] → Run q [ind q ++ b] q := by
    rintro q _ t ht rfl; exact Run.one (.semi t ht)
  induction h using St.indu with
  | var q n hd hf hk =>
    refine semi q _ ([118, 97, 114, 32] ++ n.name.toList) ?_ (by simp)
    exact hf.named (by rw [hk]; rfl)
  | array q n hd hf hk =>
    refine semi q _ ([97, 114, 114, 97, 121, 32] ++ (n.name.toList ++ 91 :: (Lib.itoa n.num ++ [93]))) ?_ (by simp)
    show scan true (n.name.toList ++ 91 :: (Lib.itoa n.num ++ [93])) = true
    rw [scan_app (hf.named (by rw [hk]; rfl)), scan_con (by decide), scan_app (scan_any (itoa_scan hf.oper.1) _)]; rfl
  | assign q n f lv t hd hf hk hx =>
    refine semi q _ (n.name.toList ++ ([32, 58, 61, 32] ++ brk 1 lv t)) ?_ (by simp)
    rw [scan_app (hf.named (by rw [hk]; rfl))]
    exact scan_brk hx.scan
  | store q n f g l1 l2 t u hd hf hk hx hy =>
    refine semi q _ (n.name.toList ++ 91 :: (brk 1 l1 t ++ ([93, 32, 58, 61, 32] ++ brk 1 l2 u))) ?_ (by simp)
    rw [scan_app (hf.named (by rw [hk]; rfl)), scan_con (by decide), scan_app (scan_any (scan_brk hx.scan) _)]
    exact scan_brk hy.scan
  | input q n hd hf hk =>
    refine semi q _ ([105, 110, 112, 117, 116, 32] ++ n.name.toList) ?_ (by simp)
    exact hf.named (by rw [hk]; rfl)
  | assert q n f lv t hd hf hk hx =>
    refine semi q _ ([97, 115, 115, 101, 114, 116, 32] ++ brk 1 lv t) ?_ (by simp)
    exact scan_brk hx.scan
  | skip q n hd hf hk => exact semi q _ [115, 107, 105, 112] (by decide) rfl
  | if1 q n c f lv t P hd hf hk hx hcd hcf hck hP ih =>
    rw [show ([105, 102, 32] ++ (brk 1 lv t ++ [32, 123])) = ([105, 102, 32] ++ brk 1 lv t) ++ [32, 123] by simp]
    refine .cons q _ 0 1 _ _ (.opens _ (scan_brk hx.scan)) ?_
    exact (run_parts P ih).app (.one .shuts)
  | if2 q n c d f lv t P Q hd hf hk hx hcd hcf hck hP hdd hdf hdk hQ ihP ihQ =>
    rw [show ([105, 102, 32] ++ (brk 1 lv t ++ [32, 123])) = ([105, 102, 32] ++ brk 1 lv t) ++ [32, 123] by simp]
    refine .cons q _ 0 1 _ _ (.opens _ (scan_brk hx.scan)) ?_
    refine (run_parts P ihP).app (.cons q _ 1 1 _ _ .els ?_)
    exact (run_parts Q ihQ).app (.one .shuts)
  | loop q n c f lv t P hd hf hk hx hcd hcf hck hP ih =>
    rw [show ([119, 104, 105, 108, 101, 32] ++ (brk 1 lv t ++ [32, 123])) = ([119, 104, 105, 108, 101, 32] ++ brk 1 lv t) ++ [32, 123] by simp]
    refine .cons q _ 0 1 _ _ (.opens _ (scan_brk hx.scan)) ?_
    exact (run_parts P ih).app (.one .shuts)
/-- What the law asks of each byte of a body. -/
def ByteOk (b : List UInt8) (i : Nat) (h : i < b.length) : Prop :=
  32 ≤ b[i].toNat ∧ b[i].toNat ≤ 126 ∧ b[i].toNat ≠ 35 ∧ (b[i].toNat = 32 → ∃ h1 : i + 1 < b.length, b[i + 1].toNat ≠ 32) ∧ (b[i].toNat = 123 ∨ b[i].toNat = 59 → i + 1 = b.length)
theorem okb_iff {c : UInt8} (h : okb c = true) : 33 ≤ c.toNat ∧ c.toNat ≤ 126 ∧ c.toNat ≠ 35 ∧ c.toNat ≠ 59 ∧ c.toNat ≠ 123 ∧ c.toNat ≠ 125 := by
  unfold okb at h
  simp only [Bool.and_eq_true, decide_eq_true_eq, Bool.not_eq_true', beq_eq_false_iff_ne] at h
  obtain ⟨⟨⟨⟨⟨a, b⟩, c1⟩, d⟩, e⟩, f⟩ := h
  have key : ∀ k : UInt8, c ≠ k → c.toNat ≠ k.toNat := fun k hk hh => hk (UInt8.toNat_inj.1 hh)
  exact ⟨a, b, key _ c1, key _ d, key _ e, key _ f⟩
theorem scan_bytes {t : List UInt8} : ∀ {p : Bool}, scan p t = true → ∀ i (h : i < t.length), (33 ≤ t[i].toNat ∧ t[i].toNat ≤ 126 ∧ t[i].toNat ≠ 35 ∧ t[i].toNat ≠ 59 ∧ t[i].toNat ≠ 123 ∧ t[i].toNat ≠ 125) ∨ ((p = true → 0 < i) ∧ t[i].toNat = 32 ∧ ∃ h1 : i + 1 < t.length, t[i + 1].toNat ≠ 32) := by
  induction t with
  | nil => intro p _ i h; simp at h
  | cons c t ih =>
    intro p hs i h
    simp only [scan] at hs
    split at hs
    · rename_i hc
      rw [Bool.and_eq_true] at hs
      cases i with
      | zero =>
        right
        refine ⟨by intro hp; rw [hp] at hs; simp at hs, by rw [List.getElem_cons_zero, hc]; rfl, ?_⟩
        cases t with
        | nil => simp [scan] at hs
        | cons d t =>
          refine ⟨by simp, ?_⟩
          rw [List.getElem_cons_succ, List.getElem_cons_zero]
          rcases ih hs.2 0 (by simp) with h9 | h9
          · rw [List.getElem_cons_zero] at h9; omega
          · exact absurd (h9.1 rfl) (by omega)
      | succ i =>
        rcases ih hs.2 i (by simpa using h) with h9 | ⟨h9, h8, h7, h6⟩
        · left; rw [List.getElem_cons_succ]; exact h9
        · right; exact ⟨by omega, by rw [List.getElem_cons_succ]; exact h8, by simpa using h7, by rw [List.getElem_cons_succ]; exact h6⟩
    · rename_i hc
      rw [Bool.and_eq_true] at hs
      cases i with
      | zero => left; rw [List.getElem_cons_zero]; exact okb_iff hs.1
      | succ i =>
        rcases ih hs.2 i (by simpa using h) with h9 | ⟨h9, h8, h7, h6⟩
        · left; rw [List.getElem_cons_succ]; exact h9
        · right; exact ⟨by omega, by rw [List.getElem_cons_succ]; exact h8, by simpa using h7, by rw [List.getElem_cons_succ]; exact h6⟩
theorem scan_pos {t : List UInt8} (h : scan true t = true) : 0 < t.length := by
  cases t with
  | nil => simp [scan] at h
  | cons c t => simp
theorem Bd.pos {b : List UInt8} {x y : Nat} (h : Bd b x y) : 0 < b.length := by
  cases h using Bd.cas <;> simp
theorem Bd.bytes {b : List UInt8} {x y : Nat} (h : Bd b x y) (i : Nat) (hi : i < b.length) : ByteOk b i hi := by
  unfold ByteOk
  cases h using Bd.cas with
  | semi t ht =>
    simp only [List.length_append, List.length_cons, List.length_nil] at hi ⊢
    by_cases hl : i < t.length
    · rw [List.getElem_append_left hl]
      rcases scan_bytes ht i hl with h9 | ⟨h9, h8, h7, h6⟩
      · exact ⟨by omega, by omega, by omega, by omega, by omega⟩
      · refine ⟨by omega, by omega, by omega, fun _ => ⟨by omega, ?_⟩, by omega⟩
        rw [List.getElem_append_left h7]; exact h6
    · have e : i = t.length := by omega
      subst e
      simp
  | opens t ht =>
    simp only [List.length_append, List.length_cons, List.length_nil] at hi ⊢
    by_cases hl : i < t.length
    · rw [List.getElem_append_left hl]
      rcases scan_bytes ht i hl with h9 | ⟨h9, h8, h7, h6⟩
      · exact ⟨by omega, by omega, by omega, by omega, by omega⟩
      · refine ⟨by omega, by omega, by omega, fun _ => ⟨by omega, ?_⟩, by omega⟩
        rw [List.getElem_append_left h7]; exact h6
    · by_cases e : i = t.length
      · subst e
        simp
      · have e : i = t.length + 1 := by omega
        subst e
        simp
  | shuts =>
    simp only [List.length_cons, List.length_nil] at hi
    have e : i = 0 := by omega
    subst e
    simp
  | els =>
    simp only [List.length_cons, List.length_nil] at hi
    rcases (by omega : i = 0 ∨ i = 1 ∨ i = 2 ∨ i = 3 ∨ i = 4 ∨ i = 5 ∨ i = 6 ∨ i = 7) with rfl | rfl | rfl | rfl | rfl | rfl | rfl | rfl <;> simp
theorem Bd.first {b : List UInt8} {x y : Nat} (h : Bd b x y) : (x = 0 ∧ b[0]'h.pos ≠ 32 ∧ b[0]'h.pos ≠ 125) ∨ (x = 1 ∧ b[0]'h.pos = 125) := by
  have key : ∀ (t u : List UInt8) (ht : scan true t = true) (hp : 0 < (t ++ u).length), (t ++ u)[0] ≠ 32 ∧ (t ++ u)[0] ≠ 125 := by
    intro t u ht hp
    have h0 := scan_pos ht
    rw [List.getElem_append_left h0]
    rcases scan_bytes ht 0 h0 with h9 | h9
    · constructor <;> (intro e; rw [e] at h9; simp at h9)
    · exact absurd (h9.1 rfl) (by omega)
  cases h using Bd.cas with
  | semi t ht => exact .inl ⟨rfl, key t _ ht _⟩
  | opens t ht => exact .inl ⟨rfl, key t _ ht _⟩
  | shuts => exact .inr ⟨rfl, rfl⟩
  | els => exact .inr ⟨rfl, rfl⟩
theorem Bd.last {b : List UInt8} {x y : Nat} (h : Bd b x y) : (y = 1 ∧ b[b.length - 1]'(by have := h.pos; omega) = 123) ∨ (y = 0 ∧ b[b.length - 1]'(by have := h.pos; omega) = 59) ∨ (y = 0 ∧ b = [125]) := by
  cases h using Bd.cas with
  | semi t ht => right; left; simp
  | opens t ht =>
    left
    refine ⟨rfl, ?_⟩
    simp
  | shuts => right; right; exact ⟨rfl, rfl⟩
  | els => left; exact ⟨rfl, rfl⟩
/-- A text is a line, its end, and the rest. -/
theorem line_bytes {q x y : Nat} {b : List UInt8} (h : Bd b x y) : ∀ c ∈ ind q ++ b, c ≠ 10 := by
  intro c hc
  rcases List.mem_append.1 hc with h1 | h1
  · unfold ind at h1
    rw [(List.mem_replicate.1 h1).2]; decide
  · obtain ⟨i, hi, rfl⟩ := List.getElem_of_mem h1
    have := (h.bytes i hi).1
    intro e
    rw [e] at this
    simp at this
theorem body_facts {b : List UInt8} {x y : Nat} (h : Bd b x y) (X : ByteArray) (hX : X = ⟨b.toArray⟩) : ∃ c, X.size = c + 1 ∧
    (∀ k (h : k < X.size), 32 ≤ X[k].toNat ∧ X[k].toNat ≤ 126 ∧ X[k].toNat ≠ 35 ∧ (X[k].toNat = 32 → ∃ h1 : k + 1 < X.size, X[k + 1].toNat ≠ 32) ∧ (X[k].toNat = 123 ∨ X[k].toNat = 59 → k = c)) ∧
    ((x = 0 ∧ y = 0 ∧ ∀ (h0 : 0 < X.size) (h1 : c < X.size), X[0].toNat ≠ 125 ∧ X[c].toNat = 59) ∨ (x = 0 ∧ y = 1 ∧ ∀ (h0 : 0 < X.size) (h1 : c < X.size), X[0].toNat ≠ 125 ∧ X[c].toNat = 123) ∨ (x = 1 ∧ y = 0 ∧ X = ⟨#[125]⟩) ∨ (x = 1 ∧ y = 1 ∧ X = ⟨#[125, 32, 101, 108, 115, 101, 32, 123]⟩)) := by
  have hp := h.pos
  subst hX
  have hs : (⟨b.toArray⟩ : ByteArray).size = b.length := by simp [ByteArray.size]
  refine ⟨b.length - 1, by omega, ?_, ?_⟩
  · intro k hk
    obtain ⟨h1, h2, h3, h4, h5⟩ := h.bytes k (by omega)
    refine ⟨h1, h2, h3, fun e => ?_, fun e => ?_⟩
    · obtain ⟨h6, h7⟩ := h4 e
      exact ⟨by rw [hs]; exact h6, h7⟩
    · have h9 := h5 e
      omega
  · have hf := h.first
    have hl := h.last
    cases h using Bd.cas with
    | semi t ht =>
      left
      refine ⟨rfl, rfl, fun h0 h1 => ⟨?_, ?_⟩⟩
      · rcases hf with ⟨_, _, hf⟩ | ⟨hf, _⟩
        · intro e; apply hf; apply UInt8.toNat_inj.1; exact e
        · cases hf
      · rcases hl with ⟨hl, _⟩ | ⟨_, hl⟩ | ⟨_, hl⟩
        · cases hl
        · exact congrArg UInt8.toNat hl
        · have := scan_pos ht
          have h9 := congrArg List.length hl
          simp only [List.length_append, List.length_cons, List.length_nil] at h9; omega
    | opens t ht =>
      right; left
      refine ⟨rfl, rfl, fun h0 h1 => ⟨?_, ?_⟩⟩
      · rcases hf with ⟨_, _, hf⟩ | ⟨hf, _⟩
        · intro e; apply hf; apply UInt8.toNat_inj.1; exact e
        · cases hf
      · rcases hl with ⟨_, hl⟩ | ⟨hl, _⟩ | ⟨hl, _⟩
        · exact congrArg UInt8.toNat hl
        · cases hl
        · cases hl
    | shuts => right; right; left; exact ⟨rfl, rfl, rfl⟩
    | els => right; right; right; exact ⟨rfl, rfl, rfl⟩
end Go.Proofs.YtjngjanheoeojaaDoor
