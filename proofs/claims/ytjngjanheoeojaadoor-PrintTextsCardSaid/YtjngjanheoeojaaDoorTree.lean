import Derived.Test.YtjngjanheoeojaaDoorTied
import Derived.Lib.ItoaLen
namespace Go.Proofs.YtjngjanheoeojaaDoor
set_option linter.unusedVariables false
set_option linter.unusedSimpArgs false
/-- An operator's sign, and its level. -/
def sgn (op : Nat) : List UInt8 := [[], [45], [33], [43], [45], [42], [47], [37], [60], [60, 61], [62], [62, 61], [61, 61], [33, 61], [38, 38], [124, 124]].getD op []
def lvl (op : Nat) : Nat := [7, 6, 6, 4, 4, 5, 5, 5, 3, 3, 3, 3, 3, 3, 2, 1].getD op 0
def leftW (l : Nat) : Nat := if l = 3 then 4 else l
def brk (want lev : Nat) (t : List UInt8) : List UInt8 := if lev < want then 40 :: (t ++ [41]) else t
def ind (q : Nat) : List UInt8 := List.replicate (2 * q) 32
structure Fine (n : Nd) : Prop where
  fit : fitN n = true
  deep : n.depth ≤ 24
/-- A list that is an expression, its level, its text without brackets around it. -/
def Ex (d : Nat) (l : List Nd) (lv : Nat) (t : List UInt8) : Prop :=
  ∀ R : Nat → List Nd → Nat → List UInt8 → Prop,
    (∀ (d : Nat) (n : Nd), n.depth = d → Fine n → n.kind = 10 → R d [n] 7 (Lib.itoa n.num)) →
    (∀ (d : Nat) (n : Nd), n.depth = d → Fine n → n.kind = 11 → R d [n] 7 (if n.num = 1 then [116, 114, 117, 101] else [102, 97, 108, 115, 101])) →
    (∀ (d : Nat) (n : Nd), n.depth = d → Fine n → n.kind = 12 → R d [n] 7 n.name.toList) →
    (∀ (d : Nat) (n : Nd) (e : List Nd) (lv : Nat) (t : List UInt8), n.depth = d → Fine n → n.kind = 13 → R (d + 1) e lv t → R d (n :: e) 7 (n.name.toList ++ 91 :: (brk 1 lv t ++ [93]))) →
    (∀ (d : Nat) (n : Nd) (e : List Nd) (lv : Nat) (t : List UInt8), n.depth = d → Fine n → n.kind = 14 → R (d + 1) e lv t → R d (n :: e) 6 (sgn n.op.toNat ++ brk 6 lv t)) →
    (∀ (d : Nat) (n : Nd) (e f : List Nd) (l1 l2 : Nat) (t u : List UInt8), n.depth = d → Fine n → n.kind = 15 → R (d + 1) e l1 t → R (d + 1) f l2 u → R d (n :: (e ++ f)) (lvl n.op.toNat) (brk (leftW (lvl n.op.toNat)) l1 t ++ 32 :: (sgn n.op.toNat ++ 32 :: brk (lvl n.op.toNat + 1) l2 u))) → R d l lv t
theorem Ex.num (d : Nat) (n : Nd) (h0 : n.depth = d) (h1 : Fine n) (h2 : n.kind = 10) : Ex d [n] 7 (Lib.itoa n.num) :=
  fun R k0 k1 k2 k3 k4 k5 => k0 d n h0 h1 h2
theorem Ex.bool (d : Nat) (n : Nd) (h0 : n.depth = d) (h1 : Fine n) (h2 : n.kind = 11) : Ex d [n] 7 (if n.num = 1 then [116, 114, 117, 101] else [102, 97, 108, 115, 101]) :=
  fun R k0 k1 k2 k3 k4 k5 => k1 d n h0 h1 h2
theorem Ex.read (d : Nat) (n : Nd) (h0 : n.depth = d) (h1 : Fine n) (h2 : n.kind = 12) : Ex d [n] 7 n.name.toList :=
  fun R k0 k1 k2 k3 k4 k5 => k2 d n h0 h1 h2
theorem Ex.load (d : Nat) (n : Nd) (e : List Nd) (lv : Nat) (t : List UInt8) (h0 : n.depth = d) (h1 : Fine n) (h2 : n.kind = 13) (h3 : Ex (d + 1) e lv t) : Ex d (n :: e) 7 (n.name.toList ++ 91 :: (brk 1 lv t ++ [93])) :=
  fun R k0 k1 k2 k3 k4 k5 => k3 d n e lv t h0 h1 h2 (h3 R k0 k1 k2 k3 k4 k5)
theorem Ex.unary (d : Nat) (n : Nd) (e : List Nd) (lv : Nat) (t : List UInt8) (h0 : n.depth = d) (h1 : Fine n) (h2 : n.kind = 14) (h3 : Ex (d + 1) e lv t) : Ex d (n :: e) 6 (sgn n.op.toNat ++ brk 6 lv t) :=
  fun R k0 k1 k2 k3 k4 k5 => k4 d n e lv t h0 h1 h2 (h3 R k0 k1 k2 k3 k4 k5)
theorem Ex.binary (d : Nat) (n : Nd) (e f : List Nd) (l1 l2 : Nat) (t u : List UInt8) (h0 : n.depth = d) (h1 : Fine n) (h2 : n.kind = 15) (h3 : Ex (d + 1) e l1 t) (h4 : Ex (d + 1) f l2 u) : Ex d (n :: (e ++ f)) (lvl n.op.toNat) (brk (leftW (lvl n.op.toNat)) l1 t ++ 32 :: (sgn n.op.toNat ++ 32 :: brk (lvl n.op.toNat + 1) l2 u)) :=
  fun R k0 k1 k2 k3 k4 k5 => k5 d n e f l1 l2 t u h0 h1 h2 (h3 R k0 k1 k2 k3 k4 k5) (h4 R k0 k1 k2 k3 k4 k5)
theorem Ex.indu {motive : ∀ (d : Nat) (l : List Nd) (lv : Nat) (t : List UInt8), Ex d l lv t → Prop}
    (num : ∀ (d : Nat) (n : Nd) (h0 : n.depth = d) (h1 : Fine n) (h2 : n.kind = 10), motive d [n] 7 (Lib.itoa n.num) (Ex.num d n h0 h1 h2))
    (bool : ∀ (d : Nat) (n : Nd) (h0 : n.depth = d) (h1 : Fine n) (h2 : n.kind = 11), motive d [n] 7 (if n.num = 1 then [116, 114, 117, 101] else [102, 97, 108, 115, 101]) (Ex.bool d n h0 h1 h2))
    (read : ∀ (d : Nat) (n : Nd) (h0 : n.depth = d) (h1 : Fine n) (h2 : n.kind = 12), motive d [n] 7 n.name.toList (Ex.read d n h0 h1 h2))
    (load : ∀ (d : Nat) (n : Nd) (e : List Nd) (lv : Nat) (t : List UInt8) (h0 : n.depth = d) (h1 : Fine n) (h2 : n.kind = 13) (h3 : Ex (d + 1) e lv t), (motive (d + 1) e lv t h3) → motive d (n :: e) 7 (n.name.toList ++ 91 :: (brk 1 lv t ++ [93])) (Ex.load d n e lv t h0 h1 h2 h3))
    (unary : ∀ (d : Nat) (n : Nd) (e : List Nd) (lv : Nat) (t : List UInt8) (h0 : n.depth = d) (h1 : Fine n) (h2 : n.kind = 14) (h3 : Ex (d + 1) e lv t), (motive (d + 1) e lv t h3) → motive d (n :: e) 6 (sgn n.op.toNat ++ brk 6 lv t) (Ex.unary d n e lv t h0 h1 h2 h3))
    (binary : ∀ (d : Nat) (n : Nd) (e f : List Nd) (l1 l2 : Nat) (t u : List UInt8) (h0 : n.depth = d) (h1 : Fine n) (h2 : n.kind = 15) (h3 : Ex (d + 1) e l1 t) (h4 : Ex (d + 1) f l2 u), (motive (d + 1) e l1 t h3) → (motive (d + 1) f l2 u h4) → motive d (n :: (e ++ f)) (lvl n.op.toNat) (brk (leftW (lvl n.op.toNat)) l1 t ++ 32 :: (sgn n.op.toNat ++ 32 :: brk (lvl n.op.toNat + 1) l2 u)) (Ex.binary d n e f l1 l2 t u h0 h1 h2 h3 h4))
    {d : Nat} {l : List Nd} {lv : Nat} {t : List UInt8} (h : Ex d l lv t) : motive d l lv t h :=
  (h (fun d l lv t => ∃ h, motive d l lv t h)
    (fun d n h0 h1 h2 => ⟨Ex.num d n h0 h1 h2, num d n h0 h1 h2 ⟩)
    (fun d n h0 h1 h2 => ⟨Ex.bool d n h0 h1 h2, bool d n h0 h1 h2 ⟩)
    (fun d n h0 h1 h2 => ⟨Ex.read d n h0 h1 h2, read d n h0 h1 h2 ⟩)
    (fun d n e lv t h0 h1 h2 h3 => ⟨Ex.load d n e lv t h0 h1 h2 (h3.elim fun h _ => h), load d n e lv t h0 h1 h2 (h3.elim fun h _ => h) (h3.elim fun _ m => m)⟩)
    (fun d n e lv t h0 h1 h2 h3 => ⟨Ex.unary d n e lv t h0 h1 h2 (h3.elim fun h _ => h), unary d n e lv t h0 h1 h2 (h3.elim fun h _ => h) (h3.elim fun _ m => m)⟩)
    (fun d n e f l1 l2 t u h0 h1 h2 h3 h4 => ⟨Ex.binary d n e f l1 l2 t u h0 h1 h2 (h3.elim fun h _ => h) (h4.elim fun h _ => h), binary d n e f l1 l2 t u h0 h1 h2 (h3.elim fun h _ => h) (h4.elim fun h _ => h) (h3.elim fun _ m => m) (h4.elim fun _ m => m)⟩)).elim fun _ m => m
theorem Ex.cas {motive : ∀ (d : Nat) (l : List Nd) (lv : Nat) (t : List UInt8), Ex d l lv t → Prop}
    (num : ∀ (d : Nat) (n : Nd) (h0 : n.depth = d) (h1 : Fine n) (h2 : n.kind = 10), motive d [n] 7 (Lib.itoa n.num) (Ex.num d n h0 h1 h2))
    (bool : ∀ (d : Nat) (n : Nd) (h0 : n.depth = d) (h1 : Fine n) (h2 : n.kind = 11), motive d [n] 7 (if n.num = 1 then [116, 114, 117, 101] else [102, 97, 108, 115, 101]) (Ex.bool d n h0 h1 h2))
    (read : ∀ (d : Nat) (n : Nd) (h0 : n.depth = d) (h1 : Fine n) (h2 : n.kind = 12), motive d [n] 7 n.name.toList (Ex.read d n h0 h1 h2))
    (load : ∀ (d : Nat) (n : Nd) (e : List Nd) (lv : Nat) (t : List UInt8) (h0 : n.depth = d) (h1 : Fine n) (h2 : n.kind = 13) (h3 : Ex (d + 1) e lv t), motive d (n :: e) 7 (n.name.toList ++ 91 :: (brk 1 lv t ++ [93])) (Ex.load d n e lv t h0 h1 h2 h3))
    (unary : ∀ (d : Nat) (n : Nd) (e : List Nd) (lv : Nat) (t : List UInt8) (h0 : n.depth = d) (h1 : Fine n) (h2 : n.kind = 14) (h3 : Ex (d + 1) e lv t), motive d (n :: e) 6 (sgn n.op.toNat ++ brk 6 lv t) (Ex.unary d n e lv t h0 h1 h2 h3))
    (binary : ∀ (d : Nat) (n : Nd) (e f : List Nd) (l1 l2 : Nat) (t u : List UInt8) (h0 : n.depth = d) (h1 : Fine n) (h2 : n.kind = 15) (h3 : Ex (d + 1) e l1 t) (h4 : Ex (d + 1) f l2 u), motive d (n :: (e ++ f)) (lvl n.op.toNat) (brk (leftW (lvl n.op.toNat)) l1 t ++ 32 :: (sgn n.op.toNat ++ 32 :: brk (lvl n.op.toNat + 1) l2 u)) (Ex.binary d n e f l1 l2 t u h0 h1 h2 h3 h4))
    {d : Nat} {l : List Nd} {lv : Nat} {t : List UInt8} (h : Ex d l lv t) : motive d l lv t h :=
  (h (fun d l lv t => ∃ h, motive d l lv t h)
    (fun d n h0 h1 h2 => ⟨Ex.num d n h0 h1 h2, num d n h0 h1 h2 ⟩)
    (fun d n h0 h1 h2 => ⟨Ex.bool d n h0 h1 h2, bool d n h0 h1 h2 ⟩)
    (fun d n h0 h1 h2 => ⟨Ex.read d n h0 h1 h2, read d n h0 h1 h2 ⟩)
    (fun d n e lv t h0 h1 h2 h3 => ⟨Ex.load d n e lv t h0 h1 h2 (h3.elim fun h _ => h), load d n e lv t h0 h1 h2 (h3.elim fun h _ => h) ⟩)
    (fun d n e lv t h0 h1 h2 h3 => ⟨Ex.unary d n e lv t h0 h1 h2 (h3.elim fun h _ => h), unary d n e lv t h0 h1 h2 (h3.elim fun h _ => h) ⟩)
    (fun d n e f l1 l2 t u h0 h1 h2 h3 h4 => ⟨Ex.binary d n e f l1 l2 t u h0 h1 h2 (h3.elim fun h _ => h) (h4.elim fun h _ => h), binary d n e f l1 l2 t u h0 h1 h2 (h3.elim fun h _ => h) (h4.elim fun h _ => h) ⟩)).elim fun _ m => m
abbrev Parts := List (List Nd × List (List UInt8))
def nodesOf (P : Parts) : List Nd := (P.map (·.1)).flatten
def linesOf (P : Parts) : List (List UInt8) := (P.map (·.2)).flatten
theorem nodesOf_cons (a : List Nd) (L : List (List UInt8)) (P : Parts) : nodesOf ((a, L) :: P) = a ++ nodesOf P := rfl
theorem linesOf_cons (a : List Nd) (L : List (List UInt8)) (P : Parts) : linesOf ((a, L) :: P) = L ++ linesOf P := rfl
/-- A list that is a statement (or a declaration) with q blocks around it, and its lines. -/
def St (q : Nat) (l : List Nd) (M : List (List UInt8)) : Prop :=
  ∀ R : Nat → List Nd → List (List UInt8) → Prop,
    (∀ (q : Nat) (n : Nd), n.depth = 2 * q + 1 → Fine n → n.kind = 0 → R q [n] [ind q ++ ([118, 97, 114, 32] ++ (n.name.toList ++ [59]))]) →
    (∀ (q : Nat) (n : Nd), n.depth = 2 * q + 1 → Fine n → n.kind = 1 → R q [n] [ind q ++ ([97, 114, 114, 97, 121, 32] ++ (n.name.toList ++ 91 :: (Lib.itoa n.num ++ [93, 59])))]) →
    (∀ (q : Nat) (n : Nd) (e : List Nd) (lv : Nat) (t : List UInt8), n.depth = 2 * q + 1 → Fine n → n.kind = 2 → Ex (2 * q + 2) e lv t → R q (n :: e) [ind q ++ (n.name.toList ++ ([32, 58, 61, 32] ++ (brk 1 lv t ++ [59])))]) →
    (∀ (q : Nat) (n : Nd) (e f : List Nd) (l1 l2 : Nat) (t u : List UInt8), n.depth = 2 * q + 1 → Fine n → n.kind = 3 → Ex (2 * q + 2) e l1 t → Ex (2 * q + 2) f l2 u → R q (n :: (e ++ f)) [ind q ++ (n.name.toList ++ 91 :: (brk 1 l1 t ++ ([93, 32, 58, 61, 32] ++ (brk 1 l2 u ++ [59]))))]) →
    (∀ (q : Nat) (n : Nd), n.depth = 2 * q + 1 → Fine n → n.kind = 4 → R q [n] [ind q ++ ([105, 110, 112, 117, 116, 32] ++ (n.name.toList ++ [59]))]) →
    (∀ (q : Nat) (n : Nd) (e : List Nd) (lv : Nat) (t : List UInt8), n.depth = 2 * q + 1 → Fine n → n.kind = 5 → Ex (2 * q + 2) e lv t → R q (n :: e) [ind q ++ ([97, 115, 115, 101, 114, 116, 32] ++ (brk 1 lv t ++ [59]))]) →
    (∀ (q : Nat) (n : Nd), n.depth = 2 * q + 1 → Fine n → n.kind = 6 → R q [n] [ind q ++ [115, 107, 105, 112, 59]]) →
    (∀ (q : Nat) (n b : Nd) (e : List Nd) (lv : Nat) (t : List UInt8) (P : Parts), n.depth = 2 * q + 1 → Fine n → n.kind = 7 → Ex (2 * q + 2) e lv t → b.depth = 2 * q + 2 → Fine b → b.kind = 9 → (∀ p ∈ P, R (q + 1) p.1 p.2) → R q (n :: (e ++ b :: nodesOf P)) ((ind q ++ ([105, 102, 32] ++ (brk 1 lv t ++ [32, 123]))) :: (linesOf P ++ [ind q ++ [125]]))) →
    (∀ (q : Nat) (n b c : Nd) (e : List Nd) (lv : Nat) (t : List UInt8) (P Q : Parts), n.depth = 2 * q + 1 → Fine n → n.kind = 7 → Ex (2 * q + 2) e lv t → b.depth = 2 * q + 2 → Fine b → b.kind = 9 → (∀ p ∈ P, R (q + 1) p.1 p.2) → c.depth = 2 * q + 2 → Fine c → c.kind = 9 → (∀ p ∈ Q, R (q + 1) p.1 p.2) → R q (n :: (e ++ b :: (nodesOf P ++ c :: nodesOf Q))) ((ind q ++ ([105, 102, 32] ++ (brk 1 lv t ++ [32, 123]))) :: (linesOf P ++ (ind q ++ [125, 32, 101, 108, 115, 101, 32, 123]) :: (linesOf Q ++ [ind q ++ [125]])))) →
    (∀ (q : Nat) (n b : Nd) (e : List Nd) (lv : Nat) (t : List UInt8) (P : Parts), n.depth = 2 * q + 1 → Fine n → n.kind = 8 → Ex (2 * q + 2) e lv t → b.depth = 2 * q + 2 → Fine b → b.kind = 9 → (∀ p ∈ P, R (q + 1) p.1 p.2) → R q (n :: (e ++ b :: nodesOf P)) ((ind q ++ ([119, 104, 105, 108, 101, 32] ++ (brk 1 lv t ++ [32, 123]))) :: (linesOf P ++ [ind q ++ [125]]))) → R q l M
theorem St.var (q : Nat) (n : Nd) (h0 : n.depth = 2 * q + 1) (h1 : Fine n) (h2 : n.kind = 0) : St q [n] [ind q ++ ([118, 97, 114, 32] ++ (n.name.toList ++ [59]))] :=
  fun R k0 k1 k2 k3 k4 k5 k6 k7 k8 k9 => k0 q n h0 h1 h2
theorem St.array (q : Nat) (n : Nd) (h0 : n.depth = 2 * q + 1) (h1 : Fine n) (h2 : n.kind = 1) : St q [n] [ind q ++ ([97, 114, 114, 97, 121, 32] ++ (n.name.toList ++ 91 :: (Lib.itoa n.num ++ [93, 59])))] :=
  fun R k0 k1 k2 k3 k4 k5 k6 k7 k8 k9 => k1 q n h0 h1 h2
theorem St.assign (q : Nat) (n : Nd) (e : List Nd) (lv : Nat) (t : List UInt8) (h0 : n.depth = 2 * q + 1) (h1 : Fine n) (h2 : n.kind = 2) (h3 : Ex (2 * q + 2) e lv t) : St q (n :: e) [ind q ++ (n.name.toList ++ ([32, 58, 61, 32] ++ (brk 1 lv t ++ [59])))] :=
  fun R k0 k1 k2 k3 k4 k5 k6 k7 k8 k9 => k2 q n e lv t h0 h1 h2 h3
theorem St.store (q : Nat) (n : Nd) (e f : List Nd) (l1 l2 : Nat) (t u : List UInt8) (h0 : n.depth = 2 * q + 1) (h1 : Fine n) (h2 : n.kind = 3) (h3 : Ex (2 * q + 2) e l1 t) (h4 : Ex (2 * q + 2) f l2 u) : St q (n :: (e ++ f)) [ind q ++ (n.name.toList ++ 91 :: (brk 1 l1 t ++ ([93, 32, 58, 61, 32] ++ (brk 1 l2 u ++ [59]))))] :=
  fun R k0 k1 k2 k3 k4 k5 k6 k7 k8 k9 => k3 q n e f l1 l2 t u h0 h1 h2 h3 h4
theorem St.input (q : Nat) (n : Nd) (h0 : n.depth = 2 * q + 1) (h1 : Fine n) (h2 : n.kind = 4) : St q [n] [ind q ++ ([105, 110, 112, 117, 116, 32] ++ (n.name.toList ++ [59]))] :=
  fun R k0 k1 k2 k3 k4 k5 k6 k7 k8 k9 => k4 q n h0 h1 h2
theorem St.assert (q : Nat) (n : Nd) (e : List Nd) (lv : Nat) (t : List UInt8) (h0 : n.depth = 2 * q + 1) (h1 : Fine n) (h2 : n.kind = 5) (h3 : Ex (2 * q + 2) e lv t) : St q (n :: e) [ind q ++ ([97, 115, 115, 101, 114, 116, 32] ++ (brk 1 lv t ++ [59]))] :=
  fun R k0 k1 k2 k3 k4 k5 k6 k7 k8 k9 => k5 q n e lv t h0 h1 h2 h3
theorem St.skip (q : Nat) (n : Nd) (h0 : n.depth = 2 * q + 1) (h1 : Fine n) (h2 : n.kind = 6) : St q [n] [ind q ++ [115, 107, 105, 112, 59]] :=
  fun R k0 k1 k2 k3 k4 k5 k6 k7 k8 k9 => k6 q n h0 h1 h2
theorem St.if1 (q : Nat) (n b : Nd) (e : List Nd) (lv : Nat) (t : List UInt8) (P : Parts) (h0 : n.depth = 2 * q + 1) (h1 : Fine n) (h2 : n.kind = 7) (h3 : Ex (2 * q + 2) e lv t) (h4 : b.depth = 2 * q + 2) (h5 : Fine b) (h6 : b.kind = 9) (h7 : (∀ p ∈ P, St (q + 1) p.1 p.2)) : St q (n :: (e ++ b :: nodesOf P)) ((ind q ++ ([105, 102, 32] ++ (brk 1 lv t ++ [32, 123]))) :: (linesOf P ++ [ind q ++ [125]])) :=
  fun R k0 k1 k2 k3 k4 k5 k6 k7 k8 k9 => k7 q n b e lv t P h0 h1 h2 h3 h4 h5 h6 (fun p hp => h7 p hp R k0 k1 k2 k3 k4 k5 k6 k7 k8 k9)
theorem St.if2 (q : Nat) (n b c : Nd) (e : List Nd) (lv : Nat) (t : List UInt8) (P Q : Parts) (h0 : n.depth = 2 * q + 1) (h1 : Fine n) (h2 : n.kind = 7) (h3 : Ex (2 * q + 2) e lv t) (h4 : b.depth = 2 * q + 2) (h5 : Fine b) (h6 : b.kind = 9) (h7 : (∀ p ∈ P, St (q + 1) p.1 p.2)) (h8 : c.depth = 2 * q + 2) (h9 : Fine c) (h10 : c.kind = 9) (h11 : (∀ p ∈ Q, St (q + 1) p.1 p.2)) : St q (n :: (e ++ b :: (nodesOf P ++ c :: nodesOf Q))) ((ind q ++ ([105, 102, 32] ++ (brk 1 lv t ++ [32, 123]))) :: (linesOf P ++ (ind q ++ [125, 32, 101, 108, 115, 101, 32, 123]) :: (linesOf Q ++ [ind q ++ [125]]))) :=
  fun R k0 k1 k2 k3 k4 k5 k6 k7 k8 k9 => k8 q n b c e lv t P Q h0 h1 h2 h3 h4 h5 h6 (fun p hp => h7 p hp R k0 k1 k2 k3 k4 k5 k6 k7 k8 k9) h8 h9 h10 (fun p hp => h11 p hp R k0 k1 k2 k3 k4 k5 k6 k7 k8 k9)
theorem St.loop (q : Nat) (n b : Nd) (e : List Nd) (lv : Nat) (t : List UInt8) (P : Parts) (h0 : n.depth = 2 * q + 1) (h1 : Fine n) (h2 : n.kind = 8) (h3 : Ex (2 * q + 2) e lv t) (h4 : b.depth = 2 * q + 2) (h5 : Fine b) (h6 : b.kind = 9) (h7 : (∀ p ∈ P, St (q + 1) p.1 p.2)) : St q (n :: (e ++ b :: nodesOf P)) ((ind q ++ ([119, 104, 105, 108, 101, 32] ++ (brk 1 lv t ++ [32, 123]))) :: (linesOf P ++ [ind q ++ [125]])) :=
  fun R k0 k1 k2 k3 k4 k5 k6 k7 k8 k9 => k9 q n b e lv t P h0 h1 h2 h3 h4 h5 h6 (fun p hp => h7 p hp R k0 k1 k2 k3 k4 k5 k6 k7 k8 k9)
theorem St.indu {motive : ∀ (q : Nat) (l : List Nd) (M : List (List UInt8)), St q l M → Prop}
    (var : ∀ (q : Nat) (n : Nd) (h0 : n.depth = 2 * q + 1) (h1 : Fine n) (h2 : n.kind = 0), motive q [n] [ind q ++ ([118, 97, 114, 32] ++ (n.name.toList ++ [59]))] (St.var q n h0 h1 h2))
    (array : ∀ (q : Nat) (n : Nd) (h0 : n.depth = 2 * q + 1) (h1 : Fine n) (h2 : n.kind = 1), motive q [n] [ind q ++ ([97, 114, 114, 97, 121, 32] ++ (n.name.toList ++ 91 :: (Lib.itoa n.num ++ [93, 59])))] (St.array q n h0 h1 h2))
    (assign : ∀ (q : Nat) (n : Nd) (e : List Nd) (lv : Nat) (t : List UInt8) (h0 : n.depth = 2 * q + 1) (h1 : Fine n) (h2 : n.kind = 2) (h3 : Ex (2 * q + 2) e lv t), motive q (n :: e) [ind q ++ (n.name.toList ++ ([32, 58, 61, 32] ++ (brk 1 lv t ++ [59])))] (St.assign q n e lv t h0 h1 h2 h3))
    (store : ∀ (q : Nat) (n : Nd) (e f : List Nd) (l1 l2 : Nat) (t u : List UInt8) (h0 : n.depth = 2 * q + 1) (h1 : Fine n) (h2 : n.kind = 3) (h3 : Ex (2 * q + 2) e l1 t) (h4 : Ex (2 * q + 2) f l2 u), motive q (n :: (e ++ f)) [ind q ++ (n.name.toList ++ 91 :: (brk 1 l1 t ++ ([93, 32, 58, 61, 32] ++ (brk 1 l2 u ++ [59]))))] (St.store q n e f l1 l2 t u h0 h1 h2 h3 h4))
    (input : ∀ (q : Nat) (n : Nd) (h0 : n.depth = 2 * q + 1) (h1 : Fine n) (h2 : n.kind = 4), motive q [n] [ind q ++ ([105, 110, 112, 117, 116, 32] ++ (n.name.toList ++ [59]))] (St.input q n h0 h1 h2))
    (assert : ∀ (q : Nat) (n : Nd) (e : List Nd) (lv : Nat) (t : List UInt8) (h0 : n.depth = 2 * q + 1) (h1 : Fine n) (h2 : n.kind = 5) (h3 : Ex (2 * q + 2) e lv t), motive q (n :: e) [ind q ++ ([97, 115, 115, 101, 114, 116, 32] ++ (brk 1 lv t ++ [59]))] (St.assert q n e lv t h0 h1 h2 h3))
    (skip : ∀ (q : Nat) (n : Nd) (h0 : n.depth = 2 * q + 1) (h1 : Fine n) (h2 : n.kind = 6), motive q [n] [ind q ++ [115, 107, 105, 112, 59]] (St.skip q n h0 h1 h2))
    (if1 : ∀ (q : Nat) (n b : Nd) (e : List Nd) (lv : Nat) (t : List UInt8) (P : Parts) (h0 : n.depth = 2 * q + 1) (h1 : Fine n) (h2 : n.kind = 7) (h3 : Ex (2 * q + 2) e lv t) (h4 : b.depth = 2 * q + 2) (h5 : Fine b) (h6 : b.kind = 9) (h7 : (∀ p ∈ P, St (q + 1) p.1 p.2)), (∀ p (hp : p ∈ P), motive (q + 1) p.1 p.2 (h7 p hp)) → motive q (n :: (e ++ b :: nodesOf P)) ((ind q ++ ([105, 102, 32] ++ (brk 1 lv t ++ [32, 123]))) :: (linesOf P ++ [ind q ++ [125]])) (St.if1 q n b e lv t P h0 h1 h2 h3 h4 h5 h6 h7))
    (if2 : ∀ (q : Nat) (n b c : Nd) (e : List Nd) (lv : Nat) (t : List UInt8) (P Q : Parts) (h0 : n.depth = 2 * q + 1) (h1 : Fine n) (h2 : n.kind = 7) (h3 : Ex (2 * q + 2) e lv t) (h4 : b.depth = 2 * q + 2) (h5 : Fine b) (h6 : b.kind = 9) (h7 : (∀ p ∈ P, St (q + 1) p.1 p.2)) (h8 : c.depth = 2 * q + 2) (h9 : Fine c) (h10 : c.kind = 9) (h11 : (∀ p ∈ Q, St (q + 1) p.1 p.2)), (∀ p (hp : p ∈ P), motive (q + 1) p.1 p.2 (h7 p hp)) → (∀ p (hp : p ∈ Q), motive (q + 1) p.1 p.2 (h11 p hp)) → motive q (n :: (e ++ b :: (nodesOf P ++ c :: nodesOf Q))) ((ind q ++ ([105, 102, 32] ++ (brk 1 lv t ++ [32, 123]))) :: (linesOf P ++ (ind q ++ [125, 32, 101, 108, 115, 101, 32, 123]) :: (linesOf Q ++ [ind q ++ [125]]))) (St.if2 q n b c e lv t P Q h0 h1 h2 h3 h4 h5 h6 h7 h8 h9 h10 h11))
    (loop : ∀ (q : Nat) (n b : Nd) (e : List Nd) (lv : Nat) (t : List UInt8) (P : Parts) (h0 : n.depth = 2 * q + 1) (h1 : Fine n) (h2 : n.kind = 8) (h3 : Ex (2 * q + 2) e lv t) (h4 : b.depth = 2 * q + 2) (h5 : Fine b) (h6 : b.kind = 9) (h7 : (∀ p ∈ P, St (q + 1) p.1 p.2)), (∀ p (hp : p ∈ P), motive (q + 1) p.1 p.2 (h7 p hp)) → motive q (n :: (e ++ b :: nodesOf P)) ((ind q ++ ([119, 104, 105, 108, 101, 32] ++ (brk 1 lv t ++ [32, 123]))) :: (linesOf P ++ [ind q ++ [125]])) (St.loop q n b e lv t P h0 h1 h2 h3 h4 h5 h6 h7))
    {q : Nat} {l : List Nd} {M : List (List UInt8)} (h : St q l M) : motive q l M h :=
  (h (fun q l M => ∃ h, motive q l M h)
    (fun q n h0 h1 h2 => ⟨St.var q n h0 h1 h2, var q n h0 h1 h2 ⟩)
    (fun q n h0 h1 h2 => ⟨St.array q n h0 h1 h2, array q n h0 h1 h2 ⟩)
    (fun q n e lv t h0 h1 h2 h3 => ⟨St.assign q n e lv t h0 h1 h2 h3, assign q n e lv t h0 h1 h2 h3 ⟩)
    (fun q n e f l1 l2 t u h0 h1 h2 h3 h4 => ⟨St.store q n e f l1 l2 t u h0 h1 h2 h3 h4, store q n e f l1 l2 t u h0 h1 h2 h3 h4 ⟩)
    (fun q n h0 h1 h2 => ⟨St.input q n h0 h1 h2, input q n h0 h1 h2 ⟩)
    (fun q n e lv t h0 h1 h2 h3 => ⟨St.assert q n e lv t h0 h1 h2 h3, assert q n e lv t h0 h1 h2 h3 ⟩)
    (fun q n h0 h1 h2 => ⟨St.skip q n h0 h1 h2, skip q n h0 h1 h2 ⟩)
    (fun q n b e lv t P h0 h1 h2 h3 h4 h5 h6 h7 => ⟨St.if1 q n b e lv t P h0 h1 h2 h3 h4 h5 h6 (fun p hp => (h7 p hp).elim fun h _ => h), if1 q n b e lv t P h0 h1 h2 h3 h4 h5 h6 (fun p hp => (h7 p hp).elim fun h _ => h) (fun p hp => (h7 p hp).elim fun _ m => m)⟩)
    (fun q n b c e lv t P Q h0 h1 h2 h3 h4 h5 h6 h7 h8 h9 h10 h11 => ⟨St.if2 q n b c e lv t P Q h0 h1 h2 h3 h4 h5 h6 (fun p hp => (h7 p hp).elim fun h _ => h) h8 h9 h10 (fun p hp => (h11 p hp).elim fun h _ => h), if2 q n b c e lv t P Q h0 h1 h2 h3 h4 h5 h6 (fun p hp => (h7 p hp).elim fun h _ => h) h8 h9 h10 (fun p hp => (h11 p hp).elim fun h _ => h) (fun p hp => (h7 p hp).elim fun _ m => m) (fun p hp => (h11 p hp).elim fun _ m => m)⟩)
    (fun q n b e lv t P h0 h1 h2 h3 h4 h5 h6 h7 => ⟨St.loop q n b e lv t P h0 h1 h2 h3 h4 h5 h6 (fun p hp => (h7 p hp).elim fun h _ => h), loop q n b e lv t P h0 h1 h2 h3 h4 h5 h6 (fun p hp => (h7 p hp).elim fun h _ => h) (fun p hp => (h7 p hp).elim fun _ m => m)⟩)).elim fun _ m => m
theorem St.cas {motive : ∀ (q : Nat) (l : List Nd) (M : List (List UInt8)), St q l M → Prop}
    (var : ∀ (q : Nat) (n : Nd) (h0 : n.depth = 2 * q + 1) (h1 : Fine n) (h2 : n.kind = 0), motive q [n] [ind q ++ ([118, 97, 114, 32] ++ (n.name.toList ++ [59]))] (St.var q n h0 h1 h2))
    (array : ∀ (q : Nat) (n : Nd) (h0 : n.depth = 2 * q + 1) (h1 : Fine n) (h2 : n.kind = 1), motive q [n] [ind q ++ ([97, 114, 114, 97, 121, 32] ++ (n.name.toList ++ 91 :: (Lib.itoa n.num ++ [93, 59])))] (St.array q n h0 h1 h2))
    (assign : ∀ (q : Nat) (n : Nd) (e : List Nd) (lv : Nat) (t : List UInt8) (h0 : n.depth = 2 * q + 1) (h1 : Fine n) (h2 : n.kind = 2) (h3 : Ex (2 * q + 2) e lv t), motive q (n :: e) [ind q ++ (n.name.toList ++ ([32, 58, 61, 32] ++ (brk 1 lv t ++ [59])))] (St.assign q n e lv t h0 h1 h2 h3))
    (store : ∀ (q : Nat) (n : Nd) (e f : List Nd) (l1 l2 : Nat) (t u : List UInt8) (h0 : n.depth = 2 * q + 1) (h1 : Fine n) (h2 : n.kind = 3) (h3 : Ex (2 * q + 2) e l1 t) (h4 : Ex (2 * q + 2) f l2 u), motive q (n :: (e ++ f)) [ind q ++ (n.name.toList ++ 91 :: (brk 1 l1 t ++ ([93, 32, 58, 61, 32] ++ (brk 1 l2 u ++ [59]))))] (St.store q n e f l1 l2 t u h0 h1 h2 h3 h4))
    (input : ∀ (q : Nat) (n : Nd) (h0 : n.depth = 2 * q + 1) (h1 : Fine n) (h2 : n.kind = 4), motive q [n] [ind q ++ ([105, 110, 112, 117, 116, 32] ++ (n.name.toList ++ [59]))] (St.input q n h0 h1 h2))
    (assert : ∀ (q : Nat) (n : Nd) (e : List Nd) (lv : Nat) (t : List UInt8) (h0 : n.depth = 2 * q + 1) (h1 : Fine n) (h2 : n.kind = 5) (h3 : Ex (2 * q + 2) e lv t), motive q (n :: e) [ind q ++ ([97, 115, 115, 101, 114, 116, 32] ++ (brk 1 lv t ++ [59]))] (St.assert q n e lv t h0 h1 h2 h3))
    (skip : ∀ (q : Nat) (n : Nd) (h0 : n.depth = 2 * q + 1) (h1 : Fine n) (h2 : n.kind = 6), motive q [n] [ind q ++ [115, 107, 105, 112, 59]] (St.skip q n h0 h1 h2))
    (if1 : ∀ (q : Nat) (n b : Nd) (e : List Nd) (lv : Nat) (t : List UInt8) (P : Parts) (h0 : n.depth = 2 * q + 1) (h1 : Fine n) (h2 : n.kind = 7) (h3 : Ex (2 * q + 2) e lv t) (h4 : b.depth = 2 * q + 2) (h5 : Fine b) (h6 : b.kind = 9) (h7 : (∀ p ∈ P, St (q + 1) p.1 p.2)), motive q (n :: (e ++ b :: nodesOf P)) ((ind q ++ ([105, 102, 32] ++ (brk 1 lv t ++ [32, 123]))) :: (linesOf P ++ [ind q ++ [125]])) (St.if1 q n b e lv t P h0 h1 h2 h3 h4 h5 h6 h7))
    (if2 : ∀ (q : Nat) (n b c : Nd) (e : List Nd) (lv : Nat) (t : List UInt8) (P Q : Parts) (h0 : n.depth = 2 * q + 1) (h1 : Fine n) (h2 : n.kind = 7) (h3 : Ex (2 * q + 2) e lv t) (h4 : b.depth = 2 * q + 2) (h5 : Fine b) (h6 : b.kind = 9) (h7 : (∀ p ∈ P, St (q + 1) p.1 p.2)) (h8 : c.depth = 2 * q + 2) (h9 : Fine c) (h10 : c.kind = 9) (h11 : (∀ p ∈ Q, St (q + 1) p.1 p.2)), motive q (n :: (e ++ b :: (nodesOf P ++ c :: nodesOf Q))) ((ind q ++ ([105, 102, 32] ++ (brk 1 lv t ++ [32, 123]))) :: (linesOf P ++ (ind q ++ [125, 32, 101, 108, 115, 101, 32, 123]) :: (linesOf Q ++ [ind q ++ [125]]))) (St.if2 q n b c e lv t P Q h0 h1 h2 h3 h4 h5 h6 h7 h8 h9 h10 h11))
    (loop : ∀ (q : Nat) (n b : Nd) (e : List Nd) (lv : Nat) (t : List UInt8) (P : Parts) (h0 : n.depth = 2 * q + 1) (h1 : Fine n) (h2 : n.kind = 8) (h3 : Ex (2 * q + 2) e lv t) (h4 : b.depth = 2 * q + 2) (h5 : Fine b) (h6 : b.kind = 9) (h7 : (∀ p ∈ P, St (q + 1) p.1 p.2)), motive q (n :: (e ++ b :: nodesOf P)) ((ind q ++ ([119, 104, 105, 108, 101, 32] ++ (brk 1 lv t ++ [32, 123]))) :: (linesOf P ++ [ind q ++ [125]])) (St.loop q n b e lv t P h0 h1 h2 h3 h4 h5 h6 h7))
    {q : Nat} {l : List Nd} {M : List (List UInt8)} (h : St q l M) : motive q l M h :=
  (h (fun q l M => ∃ h, motive q l M h)
    (fun q n h0 h1 h2 => ⟨St.var q n h0 h1 h2, var q n h0 h1 h2 ⟩)
    (fun q n h0 h1 h2 => ⟨St.array q n h0 h1 h2, array q n h0 h1 h2 ⟩)
    (fun q n e lv t h0 h1 h2 h3 => ⟨St.assign q n e lv t h0 h1 h2 h3, assign q n e lv t h0 h1 h2 h3 ⟩)
    (fun q n e f l1 l2 t u h0 h1 h2 h3 h4 => ⟨St.store q n e f l1 l2 t u h0 h1 h2 h3 h4, store q n e f l1 l2 t u h0 h1 h2 h3 h4 ⟩)
    (fun q n h0 h1 h2 => ⟨St.input q n h0 h1 h2, input q n h0 h1 h2 ⟩)
    (fun q n e lv t h0 h1 h2 h3 => ⟨St.assert q n e lv t h0 h1 h2 h3, assert q n e lv t h0 h1 h2 h3 ⟩)
    (fun q n h0 h1 h2 => ⟨St.skip q n h0 h1 h2, skip q n h0 h1 h2 ⟩)
    (fun q n b e lv t P h0 h1 h2 h3 h4 h5 h6 h7 => ⟨St.if1 q n b e lv t P h0 h1 h2 h3 h4 h5 h6 (fun p hp => (h7 p hp).elim fun h _ => h), if1 q n b e lv t P h0 h1 h2 h3 h4 h5 h6 (fun p hp => (h7 p hp).elim fun h _ => h) ⟩)
    (fun q n b c e lv t P Q h0 h1 h2 h3 h4 h5 h6 h7 h8 h9 h10 h11 => ⟨St.if2 q n b c e lv t P Q h0 h1 h2 h3 h4 h5 h6 (fun p hp => (h7 p hp).elim fun h _ => h) h8 h9 h10 (fun p hp => (h11 p hp).elim fun h _ => h), if2 q n b c e lv t P Q h0 h1 h2 h3 h4 h5 h6 (fun p hp => (h7 p hp).elim fun h _ => h) h8 h9 h10 (fun p hp => (h11 p hp).elim fun h _ => h) ⟩)
    (fun q n b e lv t P h0 h1 h2 h3 h4 h5 h6 h7 => ⟨St.loop q n b e lv t P h0 h1 h2 h3 h4 h5 h6 (fun p hp => (h7 p hp).elim fun h _ => h), loop q n b e lv t P h0 h1 h2 h3 h4 h5 h6 (fun p hp => (h7 p hp).elim fun h _ => h) ⟩)).elim fun _ m => m
/-- Lines as one text. -/
def flatL (L : List (List UInt8)) : List UInt8 := (L.map (· ++ [10])).flatten
theorem flat_app (L M : List (List UInt8)) : flatL (L ++ M) = flatL L ++ flatL M := by unfold flatL; rw [List.map_append, List.flatten_append]
theorem flat_con (a : List UInt8) (L : List (List UInt8)) : flatL (a :: L) = a ++ 10 :: flatL L := by unfold flatL; simp
theorem flatL_nil : flatL [] = [] := rfl
theorem pair_ne {a i : Int} (h : (a, i) = ((0 : Int), (0 : Int))) (ha : a ≠ 0) : False := ha (congrArg Prod.fst h)
theorem runD_ok {n : Nd} {l : List Nd} {i : Nat} {st : List Hold} {g : Bool} (h : runD (n :: l) i st g = (0, 0)) :
    Fine n ∧ putOk st g n.depth n.kind.toNat = true ∧ runD l (i + 1) (pathPut st (n.depth - 1).toNat n.kind.toNat) (begunD g n) = (0, 0) := by
  rw [runD] at h
  split at h
  · exact (pair_ne h (by decide)).elim
  rename_i h1
  split at h
  · exact (pair_ne h (by decide)).elim
  rename_i h2
  split at h
  · exact (pair_ne h (by decide)).elim
  rename_i h3
  exact ⟨⟨by simpa using h1, by omega⟩, by simpa using h2, h⟩
theorem runD_of {n : Nd} {l : List Nd} {i : Nat} {st : List Hold} {g : Bool} (hf : Fine n) (hp : putOk st g n.depth n.kind.toNat = true)
    (h : runD l (i + 1) (pathPut st (n.depth - 1).toNat n.kind.toNat) (begunD g n) = (0, 0)) : runD (n :: l) i st g = (0, 0) := by
  rw [runD, if_neg (by rw [hf.fit]; decide), if_neg (by rw [hp]; decide), if_neg (by have := hf.deep; omega)]
  exact h
theorem Fine.kind {n : Nd} (h : Fine n) : n.kind.toNat < 16 ∧ n.kind = (n.kind.toNat : Int) := by
  have := fitN_kind h.fit
  omega
theorem wants_app (A B : List Hold) : wantsB (A ++ B) = (wantsB A || wantsB B) := by unfold wantsB; rw [List.any_append]
theorem strip {r : List Nd} {i : Nat} {S J : List Hold} {g : Bool} (hw : wantsB J = false) (hj : (∀ n l, r = n :: l → n.depth ≤ S.length + 1) ∨ (∀ x ∈ J, nextD x.1 x.2 = 0))
    (h : runD r i (S ++ J) g = (0, 0)) : runD r i S g = (0, 0) := by
  cases r with
  | nil =>
    rw [runD, wants_app, hw, Bool.or_false] at h
    rw [runD]; exact h
  | cons n l =>
    obtain ⟨hf, hp, h⟩ := runD_ok h
    obtain ⟨⟨a, b⟩, c, d⟩ := put_split.1 hp
    have hm : (n.depth - 1).toNat ≤ S.length := by
      rcases hj with hj | hj
      · have := hj n l rfl
        omega
      · rcases Nat.lt_or_ge S.length (n.depth - 1).toNat with hlt | hge
        · exfalso
          unfold takesB at d
          rw [if_neg (by omega)] at d
          rw [List.length_append] at b
          have hx : (n.depth - 1).toNat - 1 - S.length < J.length := by omega
          have eg : (S ++ J).getD ((n.depth - 1).toNat - 1) (0, 0) = J[(n.depth - 1).toNat - 1 - S.length] := by
            rw [List.getD_eq_getElem?_getD, List.getElem?_append_right (by omega), List.getElem?_eq_getElem hx]; rfl
          rw [eg, hj _ (List.getElem_mem hx), beq_iff_eq] at d
          have := rSort_pos hf.kind.1
          omega
        · exact hge
    rw [List.drop_append_of_le_length hm, wants_app, Bool.or_eq_false_iff] at c
    have eg : (n.depth - 1).toNat ≠ 0 → (S ++ J).getD ((n.depth - 1).toNat - 1) (0, 0) = S.getD ((n.depth - 1).toNat - 1) (0, 0) := by
      intro h0
      rw [List.getD_eq_getElem?_getD, List.getD_eq_getElem?_getD, List.getElem?_append_left (by omega)]
    have et : takesB (S ++ J) g (n.depth - 1).toNat (rSort n.kind.toNat) = takesB S g (n.depth - 1).toNat (rSort n.kind.toNat) := by
      unfold takesB
      by_cases h0 : (n.depth - 1).toNat = 0
      · rw [if_pos h0, if_pos h0]
      · rw [if_neg h0, if_neg h0, eg h0]
    have ep : pathPut (S ++ J) (n.depth - 1).toNat n.kind.toNat = pathPut S (n.depth - 1).toNat n.kind.toNat := by
      unfold pathPut
      by_cases h0 : (n.depth - 1).toNat = 0
      · rw [if_pos h0, if_pos h0]
      · rw [if_neg h0, if_neg h0, eg h0, List.take_append_of_le_length (by omega)]
    refine runD_of hf (put_split.2 ⟨⟨a, by omega⟩, c.1, by rw [← et]; exact d⟩) ?_
    rw [← ep]; exact h
theorem getD_last (st : List Hold) (x : Hold) : (st ++ [x]).getD st.length (0, 0) = x := by simp [List.getD_eq_getElem?_getD]
theorem step_at {n : Nd} {l : List Nd} {i : Nat} {st : List Hold} {k c : Nat} {g : Bool} (hd : n.depth = st.length + 2) (h : runD (n :: l) i (st ++ [(k, c)]) g = (0, 0)) :
    Fine n ∧ nextD k c = rSort n.kind.toNat ∧ runD l (i + 1) (st ++ [(k, c + 1)] ++ [(n.kind.toNat, 0)]) g = (0, 0) := by
  obtain ⟨hf, hp, h⟩ := runD_ok h
  obtain ⟨⟨a, b⟩, w, d⟩ := put_split.1 hp
  have em : (n.depth - 1).toNat = st.length + 1 := by omega
  rw [em] at d h
  unfold takesB at d
  rw [if_neg (by omega), Nat.add_sub_cancel, getD_last, beq_iff_eq] at d
  refine ⟨hf, d, ?_⟩
  have eb : begunD g n = g := by unfold begunD; rw [if_neg (by omega)]
  rw [eb] at h
  unfold pathPut at h
  rw [if_neg (by omega), Nat.add_sub_cancel, getD_last, List.take_append_of_le_length (Nat.le_refl _), List.take_length] at h
  rw [List.append_assoc]
  exact h
theorem step_in {l : List Nd} {i : Nat} {st : List Hold} {k c : Nat} {g : Bool} (hc : (c : Int) < rWant k) (h : runD l i (st ++ [(k, c)]) g = (0, 0)) :
    ∃ n r, l = n :: r ∧ n.depth = st.length + 2 ∧ Fine n ∧ nextD k c = rSort n.kind.toNat ∧ runD r (i + 1) (st ++ [(k, c + 1)] ++ [(n.kind.toNat, 0)]) g = (0, 0) := by
  have hw : wantsB [(k, c)] = true := by unfold wantsB; simpa using hc
  cases l with
  | nil =>
    rw [runD, wants_app, hw, Bool.or_true, if_pos rfl] at h
    exact (pair_ne h (by decide)).elim
  | cons n r =>
    obtain ⟨hf, hp, _⟩ := runD_ok h
    obtain ⟨⟨a, b⟩, w, d⟩ := put_split.1 hp
    rw [List.length_append] at b
    simp only [List.length_cons, List.length_nil] at b
    have hd : n.depth = st.length + 2 := by
      rcases Nat.lt_or_ge st.length (n.depth - 1).toNat with hlt | hge
      · omega
      · exfalso
        rw [List.drop_append_of_le_length hge, wants_app, hw, Bool.or_true] at w
        cases w
    exact ⟨n, r, rfl, hd, step_at hd h⟩
theorem sort4 {k : Nat} (h : k < 16) (h4 : rSort k = 4) : k = 10 ∨ k = 11 ∨ k = 12 ∨ k = 13 ∨ k = 14 ∨ k = 15 := by
  have : ∀ j : Fin 16, rSort j = 4 → (j : Nat) = 10 ∨ (j : Nat) = 11 ∨ (j : Nat) = 12 ∨ (j : Nat) = 13 ∨ (j : Nat) = 14 ∨ (j : Nat) = 15 := by decide
  exact this ⟨k, h⟩ h4
theorem sort3 {k : Nat} (h : k < 16) (h4 : rSort k = 3) : k = 9 := by
  have : ∀ j : Fin 16, rSort j = 3 → (j : Nat) = 9 := by decide
  exact this ⟨k, h⟩ h4
theorem sort12 {k : Nat} (h : k < 16) (h4 : rSort k = 1 ∨ rSort k = 2) : k = 0 ∨ k = 1 ∨ k = 2 ∨ k = 3 ∨ k = 4 ∨ k = 5 ∨ k = 6 ∨ k = 7 ∨ k = 8 := by
  have : ∀ j : Fin 16, rSort j = 1 ∨ rSort j = 2 → (j : Nat) = 0 ∨ (j : Nat) = 1 ∨ (j : Nat) = 2 ∨ (j : Nat) = 3 ∨ (j : Nat) = 4 ∨ (j : Nat) = 5 ∨ (j : Nat) = 6 ∨ (j : Nat) = 7 ∨ (j : Nat) = 8 := by decide
  exact this ⟨k, h⟩ h4
theorem strip1 {r : List Nd} {i : Nat} {S : List Hold} {k c : Nat} {g : Bool} (hw : wantsB [(k, c)] = false) (hn : nextD k c = 0) (h : runD r i (S ++ [(k, c)]) g = (0, 0)) : runD r i S g = (0, 0) :=
  strip hw (.inr fun x hx => by simp at hx; subst hx; exact hn) h
theorem ex_of : ∀ (N : Nat) (l : List Nd), l.length = N → ∀ (i : Nat) (st : List Hold) (k c : Nat) (g : Bool), nextD k c = 4 → (c : Int) < rWant k → runD l i (st ++ [(k, c)]) g = (0, 0) →
    ∃ e r lv t, l = e ++ r ∧ Ex (st.length + 2) e lv t ∧ runD r (i + e.length) (st ++ [(k, c + 1)]) g = (0, 0) := by
  intro N
  induction N using Nat.strongRecOn with
  | _ N ih =>
    intro l hl i st k c g hn hc h
    obtain ⟨n, r, rfl, hd, hf, hs, h⟩ := step_in hc h
    rw [hn] at hs
    obtain ⟨k16, ek⟩ := hf.kind
    simp only [List.length_cons] at hl
    have hsl : (st ++ [(k, c + 1)]).length + 2 = st.length + 2 + 1 := by simp
    rcases sort4 k16 hs.symm with e | e | e | e | e | e
    · rw [e] at h
      exact ⟨[n], r, 7, _, rfl, .num _ n hd hf (by omega), strip1 (by decide) (by decide) h⟩
    · rw [e] at h
      exact ⟨[n], r, 7, _, rfl, .bool _ n hd hf (by omega), strip1 (by decide) (by decide) h⟩
    · rw [e] at h
      exact ⟨[n], r, 7, _, rfl, .read _ n hd hf (by omega), strip1 (by decide) (by decide) h⟩
    · rw [e] at h
      obtain ⟨e1, r1, lv, t, rfl, hx, h⟩ := ih r.length (by omega) r rfl _ _ _ _ _ (by decide) (by decide) h
      rw [hsl] at hx
      refine ⟨n :: e1, r1, 7, _, rfl, .load _ n e1 lv t hd hf (by omega) hx, strip1 (k := 13) (c := 1) (by decide) (by decide) ?_⟩
      rw [show i + (n :: e1).length = i + 1 + e1.length by simp; omega]
      exact h
    · rw [e] at h
      obtain ⟨e1, r1, lv, t, rfl, hx, h⟩ := ih r.length (by omega) r rfl _ _ _ _ _ (by decide) (by decide) h
      rw [hsl] at hx
      refine ⟨n :: e1, r1, 6, _, rfl, .unary _ n e1 lv t hd hf (by omega) hx, strip1 (k := 14) (c := 1) (by decide) (by decide) ?_⟩
      rw [show i + (n :: e1).length = i + 1 + e1.length by simp; omega]
      exact h
    · rw [e] at h
      obtain ⟨e1, r1, lv, t, rfl, hx, h⟩ := ih r.length (by omega) r rfl _ _ _ _ _ (by decide) (by decide) h
      rw [List.length_append] at hl
      obtain ⟨e2, r2, l2, u, rfl, hy, h⟩ := ih r1.length (by omega) r1 rfl _ _ _ _ _ (by decide) (by decide) h
      rw [hsl] at hx hy
      refine ⟨n :: (e1 ++ e2), r2, _, _, by simp, .binary _ n e1 e2 lv l2 t u hd hf (by omega) hx hy, strip1 (k := 15) (c := 2) (by decide) (by decide) ?_⟩
      rw [show i + (n :: (e1 ++ e2)).length = i + 1 + e1.length + e2.length by simp; omega]
      exact h
/-- What is left behind a node that begins a statement, and inside a block. -/
theorem sts_of : ∀ (N : Nat) (l : List Nd), l.length = N →
    (∀ (n : Nd) (i : Nat) (S : List Hold) (q : Nat) (g : Bool), Fine n → n.depth = 2 * q + 1 → S.length = 2 * q → (rSort n.kind.toNat = 1 ∨ rSort n.kind.toNat = 2) → runD l i (S ++ [(n.kind.toNat, 0)]) g = (0, 0) →
      ∃ e r L, l = e ++ r ∧ St q (n :: e) L ∧ runD r (i + e.length) S g = (0, 0)) ∧
    (∀ (i : Nat) (S : List Hold) (c q : Nat) (g : Bool), S.length + 1 = 2 * q → runD l i (S ++ [(9, c)]) g = (0, 0) →
      ∃ P r, l = nodesOf P ++ r ∧ (∀ p ∈ P, St q p.1 p.2) ∧ runD r (i + (nodesOf P).length) S g = (0, 0) ∧ (∀ n t, r = n :: t → n.depth ≤ S.length + 1)) := by
  intro N
  induction N using Nat.strongRecOn with
  | _ N ih =>
    intro l hl
    constructor
    · intro n i S q g hf hd hS hs h
      obtain ⟨k16, ek⟩ := hf.kind
      rcases sort12 k16 hs with e | e | e | e | e | e | e | e | e
      · rw [e] at h
        exact ⟨[], l, _, rfl, .var q n hd hf (by omega), strip1 (by decide) (by decide) h⟩
      · rw [e] at h
        exact ⟨[], l, _, rfl, .array q n hd hf (by omega), strip1 (by decide) (by decide) h⟩
      · rw [e] at h
        obtain ⟨e1, r1, lv, t, rfl, hx, h⟩ := ex_of _ l rfl _ _ _ _ _ (by decide) (by decide) h
        rw [hS] at hx
        exact ⟨e1, r1, _, rfl, .assign q n e1 lv t hd hf (by omega) hx, strip1 (by decide) (by decide) h⟩
      · rw [e] at h
        obtain ⟨e1, r1, lv, t, rfl, hx, h⟩ := ex_of _ l rfl _ _ _ _ _ (by decide) (by decide) h
        obtain ⟨e2, r2, l2, u, rfl, hy, h⟩ := ex_of _ r1 rfl _ _ _ _ _ (by decide) (by decide) h
        rw [hS] at hx hy
        refine ⟨e1 ++ e2, r2, _, by simp, .store q n e1 e2 lv l2 t u hd hf (by omega) hx hy, strip1 (k := 3) (c := 2) (by decide) (by decide) ?_⟩
        rw [List.length_append, ← Nat.add_assoc]; exact h
      · rw [e] at h
        exact ⟨[], l, _, rfl, .input q n hd hf (by omega), strip1 (by decide) (by decide) h⟩
      · rw [e] at h
        obtain ⟨e1, r1, lv, t, rfl, hx, h⟩ := ex_of _ l rfl _ _ _ _ _ (by decide) (by decide) h
        rw [hS] at hx
        exact ⟨e1, r1, _, rfl, .assert q n e1 lv t hd hf (by omega) hx, strip1 (by decide) (by decide) h⟩
      · rw [e] at h
        exact ⟨[], l, _, rfl, .skip q n hd hf (by omega), strip1 (by decide) (by decide) h⟩
      · rw [e] at h
        obtain ⟨e1, r1, lv, t, rfl, hx, h⟩ := ex_of _ l rfl _ _ _ _ _ (by decide) (by decide) h
        rw [hS] at hx
        obtain ⟨b, r2, rfl, hbd, hbf, hbs, h⟩ := step_in (by decide) h
        have hb9 := sort3 hbf.kind.1 (hbs.symm.trans (by decide))
        have hbk := hbf.kind.2
        rw [hb9] at h
        simp only [List.length_append, List.length_cons] at hl
        obtain ⟨P, r3, rfl, hL, h, hh⟩ := (ih r2.length (by omega) r2 rfl).2 _ _ _ (q + 1) _ (by simp; omega) h
        by_cases hend : ∀ n t, r3 = n :: t → n.depth ≤ S.length + 1
        · refine ⟨e1 ++ b :: nodesOf P, r3, _, by simp, .if1 q n b e1 lv t P hd hf (by omega) hx (by omega) hbf (by omega) hL, strip (J := [(7, 2)]) (by decide) (.inl hend) ?_⟩
          rw [show i + (e1 ++ b :: nodesOf P).length = i + e1.length + 1 + (nodesOf P).length by simp; omega]
          exact h
        · cases r3 with
          | nil => exact (hend (fun n t hnt => by cases hnt)).elim
          | cons c r4 =>
            have h1 := hh c r4 rfl
            have h2 : ¬ c.depth ≤ S.length + 1 := fun hle => hend (fun n t hnt => by injection hnt with a b; rw [← a]; exact hle)
            simp only [List.length_append, List.length_cons, List.length_nil] at h1
            have hcd : c.depth = S.length + 2 := by omega
            obtain ⟨hcf, hcs, h⟩ := step_at hcd h
            have hc9 := sort3 hcf.kind.1 (hcs.symm.trans (by decide))
            have hck := hcf.kind.2
            rw [hc9] at h
            simp only [List.length_append, List.length_cons] at hl
            obtain ⟨Q, r5, rfl, hM, h, hh2⟩ := (ih r4.length (by omega) r4 rfl).2 _ _ _ (q + 1) _ (by simp; omega) h
            refine ⟨e1 ++ b :: (nodesOf P ++ c :: nodesOf Q), r5, _, by simp, .if2 q n b c e1 lv t P Q hd hf (by omega) hx (by omega) hbf (by omega) hL (by omega) hcf (by omega) hM, strip1 (k := 7) (c := 3) (by decide) (by decide) ?_⟩
            rw [show i + (e1 ++ b :: (nodesOf P ++ c :: nodesOf Q)).length = i + e1.length + 1 + (nodesOf P).length + 1 + (nodesOf Q).length by simp; omega]
            exact h
      · rw [e] at h
        obtain ⟨e1, r1, lv, t, rfl, hx, h⟩ := ex_of _ l rfl _ _ _ _ _ (by decide) (by decide) h
        rw [hS] at hx
        obtain ⟨b, r2, rfl, hbd, hbf, hbs, h⟩ := step_in (by decide) h
        have hb9 := sort3 hbf.kind.1 (hbs.symm.trans (by decide))
        have hbk := hbf.kind.2
        rw [hb9] at h
        simp only [List.length_append, List.length_cons] at hl
        obtain ⟨P, r3, rfl, hL, h, hh⟩ := (ih r2.length (by omega) r2 rfl).2 _ _ _ (q + 1) _ (by simp; omega) h
        refine ⟨e1 ++ b :: nodesOf P, r3, _, by simp, .loop q n b e1 lv t P hd hf (by omega) hx (by omega) hbf (by omega) hL, strip1 (k := 8) (c := 2) (by decide) (by decide) ?_⟩
        rw [show i + (e1 ++ b :: nodesOf P).length = i + e1.length + 1 + (nodesOf P).length by simp; omega]
        exact h
    · intro i S c q g hS h
      by_cases hend : ∀ n t, l = n :: t → n.depth ≤ S.length + 1
      · exact ⟨[], l, rfl, fun p hp => (by cases hp), strip (J := [(9, c)]) (by unfold wantsB; simp [rWant]) (.inl hend) h, hend⟩
      · cases l with
        | nil => exact (hend (fun n t hnt => by cases hnt)).elim
        | cons n r =>
          have h2 : ¬ n.depth ≤ S.length + 1 := fun hle => hend (fun m t hnt => by injection hnt with a b; rw [← a]; exact hle)
          obtain ⟨hf, hp, _⟩ := runD_ok h
          obtain ⟨⟨a, b⟩, _, _⟩ := put_split.1 hp
          simp only [List.length_append, List.length_cons, List.length_nil] at b
          have hd : n.depth = S.length + 2 := by omega
          obtain ⟨_, hs, h⟩ := step_at hd h
          simp only [List.length_cons] at hl
          obtain ⟨e1, r1, L, rfl, hL, h⟩ := (ih r.length (by omega) r rfl).1 n _ _ q _ hf (by omega) (by simp; omega) (.inr (hs.symm.trans (by rfl))) h
          simp only [List.length_append] at hl
          obtain ⟨P, r2, rfl, hM, h, hh⟩ := (ih r1.length (by omega) r1 rfl).2 _ _ _ q _ hS h
          refine ⟨(n :: e1, L) :: P, r2, by rw [nodesOf_cons]; simp, List.forall_mem_cons.2 ⟨hL, hM⟩, ?_, hh⟩
          rw [nodesOf_cons, show i + (n :: e1 ++ nodesOf P).length = i + 1 + e1.length + (nodesOf P).length by simp; omega]
          exact h
theorem top_of : ∀ (N : Nat) (l : List Nd), l.length = N → ∀ (i : Nat) (g : Bool), runD l i [] g = (0, 0) → ∃ P, l = nodesOf P ∧ ∀ p ∈ P, St 0 p.1 p.2 := by
  intro N
  induction N using Nat.strongRecOn with
  | _ N ih =>
    intro l hl i g h
    cases l with
    | nil => exact ⟨[], rfl, fun p hp => (by cases hp)⟩
    | cons n r =>
      obtain ⟨hf, hp, h⟩ := runD_ok h
      obtain ⟨⟨a, b⟩, _, d⟩ := put_split.1 hp
      simp only [List.length_nil] at b
      have hm : (n.depth - 1).toNat = 0 := by omega
      rw [hm] at h d
      unfold takesB at d
      rw [if_pos rfl] at d
      have hs : rSort n.kind.toNat = 1 ∨ rSort n.kind.toNat = 2 := by
        simp only [Bool.or_eq_true, Bool.and_eq_true, beq_iff_eq] at d
        rcases d with d | d
        · exact .inr d
        · exact .inl d.1
      obtain ⟨e1, r1, L, rfl, hL, h⟩ := (sts_of r.length r rfl).1 n (i + 1) [] 0 _ hf (by omega) rfl hs h
      simp only [List.length_cons, List.length_append] at hl
      obtain ⟨P, rfl, hM⟩ := ih r1.length (by omega) r1 rfl _ _ h
      exact ⟨(n :: e1, L) :: P, rfl, List.forall_mem_cons.2 ⟨hL, hM⟩⟩
theorem tree_of {ns : List Nd} (h : (shapeD ns).1 = 0) : ns.length ≤ 300 ∧ ∃ P, ns = nodesOf P ∧ ∀ p ∈ P, St 0 p.1 p.2 := by
  unfold shapeD at h
  split at h
  · simp at h
  · rename_i h3
    refine ⟨by omega, top_of _ ns rfl 0 false ?_⟩
    have : ∀ (l : List Nd) (i : Nat) (st : List Hold) (g : Bool), (runD l i st g).1 = 0 → runD l i st g = (0, 0) := by
      intro l
      induction l with
      | nil =>
        intro i st g
        rw [runD]
        split
        · intro h; simp at h
        · intro _; rfl
      | cons n l ih =>
        intro i st g
        rw [runD]
        split
        · intro h; simp at h
        split
        · intro h; simp at h
        split
        · intro h; simp at h
        exact ih _ _ _
    exact this _ _ _ _ h
end Go.Proofs.YtjngjanheoeojaaDoor
