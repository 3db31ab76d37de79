import Derived.Test.YtklkpaekdpaloaaDoorKLm
set_option linter.unusedVariables false
set_option linter.unusedSimpArgs false
set_option linter.unnecessarySimpa false
namespace Go.Proofs.YtklkpaekdpaloaaDoor
open Go.RowKit
def ndS (n : Nd) (ls : List (List Nd)) : List Nd := { n with depth := 1 } :: (ls.map fun l => l.map deep).flatten
def numS (P : RP) (a : Nat) (bad : Int) : Bool := decide (bad < 0) && match P.ts[a]? with | none => false | some x => x.1 == 1
def nuS (P : RP) (a : Nat) : Int := match P.ts[a]? with | some x => x.2.2.1 | none => 0
def naT (P : RP) (a : Nat) (bad : Int) : ByteArray := if namS P a bad then ⟨(txS P a).toArray⟩ else ⟨#[]⟩
def naA (P : RP) (a : Nat) (bad : Int) : Nat := if namS P a bad then a + 1 else a
def naB (P : RP) (a : Nat) (bad : Int) : Int := if namS P a bad then bad else failS P a bad
def tkA (P : RP) (a : Nat) (bad : Int) (t : List UInt8) : Nat := if isS P a bad t then a + 1 else a
def tkB (P : RP) (a : Nat) (bad : Int) (t : List UInt8) : Int := if isS P a bad t then bad else failS P a bad
def loF (P : RP) (g : Nat → Int → List Nd × Nat × Int) (row : Nat) : Nat → List Nd → Nat → Int → List Nd × Nat × Int
 | 0, l, a, bad => (l, a, bad)
 | k + 1, l, a, bad =>
  if opS P a bad row = 0 then (l, a, bad)
  else if row = 2 then (ndS ⟨0, 15, ⟨#[]⟩, 0, opS P a bad row, (plS P a : Nat)⟩ [l, (g (a + 1) bad).1], (g (a + 1) bad).2.1, (g (a + 1) bad).2.2)
  else loF P g row k (ndS ⟨0, 15, ⟨#[]⟩, 0, opS P a bad row, (plS P a : Nat)⟩ [l, (g (a + 1) bad).1]) (g (a + 1) bad).2.1 (g (a + 1) bad).2.2
def atF (P : RP) (g : Nat → Int → List Nd × Nat × Int) (a : Nat) (bad : Int) : List Nd × Nat × Int :=
 if numS P a bad then (ndS ⟨0, 10, ⟨#[]⟩, nuS P a, 0, (plS P a : Nat)⟩ [], a + 1, bad)
 else if isS P a bad [116, 114, 117, 101] then (ndS ⟨0, 11, ⟨#[]⟩, 1, 0, (plS P a : Nat)⟩ [], a + 1, bad)
 else if isS P a bad [102, 97, 108, 115, 101] then (ndS ⟨0, 11, ⟨#[]⟩, 0, 0, (plS P a : Nat)⟩ [], a + 1, bad)
 else if isS P a bad [40] then ((g (a + 1) bad).1, tkA P (g (a + 1) bad).2.1 (g (a + 1) bad).2.2 [41], tkB P (g (a + 1) bad).2.1 (g (a + 1) bad).2.2 [41])
 else if namS P a bad then
  if isS P (a + 1) bad [91] then (ndS ⟨0, 13, naT P a bad, 0, 0, (plS P a : Nat)⟩ [(g (a + 2) bad).1], tkA P (g (a + 2) bad).2.1 (g (a + 2) bad).2.2 [93], tkB P (g (a + 2) bad).2.1 (g (a + 2) bad).2.2 [93])
  else (ndS ⟨0, 12, naT P a bad, 0, 0, (plS P a : Nat)⟩ [], a + 1, bad)
 else ([], a, failS P a bad)
def exF (P : RP) : Nat → Nat → Nat → Int → List Nd × Nat × Int
 | 0, _, a, bad => ([], a, bad)
 | f + 1, md, a, bad =>
  if md < 5 then loF P (exF P f (md + 1)) md f (exF P f (md + 1) a bad).1 (exF P f (md + 1) a bad).2.1 (exF P f (md + 1) a bad).2.2
  else if md = 5 then exF P f 6 a bad
  else if md = 6 then
   if isS P a bad [45] then (ndS ⟨0, 14, ⟨#[]⟩, 0, 1, (plS P a : Nat)⟩ [(exF P f 6 (a + 1) bad).1], (exF P f 6 (a + 1) bad).2.1, (exF P f 6 (a + 1) bad).2.2)
   else if isS P a bad [33] then (ndS ⟨0, 14, ⟨#[]⟩, 0, 2, (plS P a : Nat)⟩ [(exF P f 6 (a + 1) bad).1], (exF P f 6 (a + 1) bad).2.1, (exF P f 6 (a + 1) bad).2.2)
   else exF P f 7 a bad
  else atF P (exF P f 0) a bad
def ExS (P : RP) (md a : Nat) (bad : Int) (ns : List Nd) (a' : Nat) (bad' : Int) : Prop := ∀ f, (P.ts.length - a) * 10 + (9 - md) ≤ f → exF P f md a bad = (ns, a', bad')
def LoS (P : RP) (row a : Nat) (bad : Int) (l : List Nd) (a1 : Nat) (bad1 : Int) : Prop := ∀ f, (P.ts.length - a) * 10 + (8 - row) ≤ f → ∃ k, P.ts.length - a1 ≤ k ∧ exF P (f + 1) row a bad = loF P (exF P f (row + 1)) row k l a1 bad1
theorem fuel {n f : Nat} (h : n + 1 ≤ f) : ∃ g, f = g + 1 ∧ n ≤ g := ⟨f - 1, by omega, by omega⟩
theorem ExS.five {P : RP} {a : Nat} {bad : Int} {ns : List Nd} {a' : Nat} {bad' : Int} (h : ExS P 6 a bad ns a' bad') : ExS P 5 a bad ns a' bad' := by
 intro f hf
 obtain ⟨g, rfl, hg⟩ := fuel hf
 rw [exF, if_neg (by omega), if_pos rfl]
 exact h g (by omega)
theorem LoS.begin {P : RP} {row a : Nat} {bad : Int} {ns : List Nd} {a' : Nat} {bad' : Int} (hr : row < 5) (h : ExS P (row + 1) a bad ns a' bad') (hle : a ≤ a') : LoS P row a bad ns a' bad' := by
 intro f hf
 refine ⟨f, by omega, ?_⟩
 rw [exF, if_pos hr, h f (by omega)]
theorem LoS.fin {P : RP} {row a : Nat} {bad : Int} {ns : List Nd} {a' : Nat} {bad' : Int} (hr : row < 5) (h : LoS P row a bad ns a' bad') (h0 : opS P a' bad' row = 0) : ExS P row a bad ns a' bad' := by
 intro f hf
 obtain ⟨g, rfl, hg⟩ := fuel (n := (P.ts.length - a) * 10 + (8 - row)) (f := f) (by omega)
 obtain ⟨k, hk, e⟩ := h g hg
 rw [e]
 cases k with
 | zero => rfl
 | succ k => rw [loF, if_pos h0]
theorem LoS.next {P : RP} {row a : Nat} {bad : Int} {l ms : List Nd} {a1 a2 : Nat} {bad1 bad2 : Int} (hr : row < 5) (h2 : row ≠ 2) (h : LoS P row a bad l a1 bad1) (hle : a ≤ a1) (h0 : opS P a1 bad1 row ≠ 0) (hl : a1 < P.ts.length) (he : ExS P (row + 1) (a1 + 1) bad1 ms a2 bad2) (hle2 : a1 + 1 ≤ a2) : LoS P row a bad (ndS ⟨0, 15, ⟨#[]⟩, 0, opS P a1 bad1 row, (plS P a1 : Nat)⟩ [l, ms]) a2 bad2 := by
 intro f hf
 obtain ⟨k, hk, e⟩ := h f hf
 obtain ⟨k, rfl, _⟩ := fuel (n := 0) (f := k) (by omega)
 refine ⟨k, by omega, ?_⟩
 rw [e, loF, if_neg h0, if_neg h2, he f (by omega)]
theorem LoS.two {P : RP} {a : Nat} {bad : Int} {l ms : List Nd} {a1 a2 : Nat} {bad1 bad2 : Int} (h : LoS P 2 a bad l a1 bad1) (hle : a ≤ a1) (h0 : opS P a1 bad1 2 ≠ 0) (hl : a1 < P.ts.length) (he : ExS P 3 (a1 + 1) bad1 ms a2 bad2) : ExS P 2 a bad (ndS ⟨0, 15, ⟨#[]⟩, 0, opS P a1 bad1 2, (plS P a1 : Nat)⟩ [l, ms]) a2 bad2 := by
 intro f hf
 obtain ⟨g, rfl, hg⟩ := fuel (n := (P.ts.length - a) * 10 + (8 - 2)) (f := f) (by omega)
 obtain ⟨k, hk, e⟩ := h g hg
 obtain ⟨k, rfl, _⟩ := fuel (n := 0) (f := k) (by omega)
 rw [e, loF, if_neg h0, if_pos rfl, he g (by omega)]
theorem ExS.neg {P : RP} {a : Nat} {bad : Int} {ns : List Nd} {a' : Nat} {bad' : Int} (hi : isS P a bad [45] = true) (ha : a < P.ts.length) (h : ExS P 6 (a + 1) bad ns a' bad') : ExS P 6 a bad (ndS ⟨0, 14, ⟨#[]⟩, 0, 1, (plS P a : Nat)⟩ [ns]) a' bad' := by
 intro f hf
 obtain ⟨g, rfl, hg⟩ := fuel (n := (P.ts.length - a) * 10 + 2) (f := f) (by omega)
 rw [exF, if_neg (by omega), if_neg (by omega), if_pos rfl, if_pos hi, h g (by omega)]
theorem ExS.exc {P : RP} {a : Nat} {bad : Int} {ns : List Nd} {a' : Nat} {bad' : Int} (hj : isS P a bad [45] = false) (hi : isS P a bad [33] = true) (ha : a < P.ts.length) (h : ExS P 6 (a + 1) bad ns a' bad') : ExS P 6 a bad (ndS ⟨0, 14, ⟨#[]⟩, 0, 2, (plS P a : Nat)⟩ [ns]) a' bad' := by
 intro f hf
 obtain ⟨g, rfl, hg⟩ := fuel (n := (P.ts.length - a) * 10 + 2) (f := f) (by omega)
 rw [exF, if_neg (by omega), if_neg (by omega), if_pos rfl, hj, if_neg (by simp), if_pos hi, h g (by omega)]
theorem ExS.atom {P : RP} {a : Nat} {bad : Int} {ns : List Nd} {a' : Nat} {bad' : Int} (hj : isS P a bad [45] = false) (hi : isS P a bad [33] = false) (h : ExS P 7 a bad ns a' bad') : ExS P 6 a bad ns a' bad' := by
 intro f hf
 obtain ⟨g, rfl, hg⟩ := fuel (n := (P.ts.length - a) * 10 + 2) (f := f) (by omega)
 rw [exF, if_neg (by omega), if_neg (by omega), if_pos rfl, hj, hi, if_neg (by simp), if_neg (by simp)]
 exact h g (by omega)
theorem ExS.at {P : RP} {a : Nat} {bad : Int} {r : List Nd × Nat × Int} (h : ∀ g, (P.ts.length - a) * 10 + 1 ≤ g → atF P (exF P g 0) a bad = r) : ExS P 7 a bad r.1 r.2.1 r.2.2 := by
 intro f hf
 obtain ⟨g, rfl, hg⟩ := fuel (n := (P.ts.length - a) * 10 + 1) (f := f) (by omega)
 rw [exF, if_neg (by omega), if_neg (by omega), if_neg (by omega)]
 exact h g hg
theorem ExS.num {P : RP} {a : Nat} {bad : Int} {x : Tk} (hb : bad < 0) (hx : P.ts[a]? = some x) (hk : x.1 = 1) : ExS P 7 a bad (ndS ⟨0, 10, ⟨#[]⟩, x.2.2.1, 0, (plS P a : Nat)⟩ []) (a + 1) bad := by
 have h1 : numS P a bad = true := by unfold numS; rw [hx, decide_eq_true hb]; simp [hk]
 have h2 : nuS P a = x.2.2.1 := by unfold nuS; rw [hx]
 exact ExS.at (r := (_, _, _)) fun g _ => by rw [atF, if_pos h1, h2]; rfl
theorem numS_no {P : RP} {a : Nat} {bad : Int} {x : Tk} (hx : P.ts[a]? = some x) (hk : ¬ x.1 = 1) : numS P a bad = false := by
 unfold numS; rw [hx]; simp [hk]
theorem ExS.tru {P : RP} {a : Nat} {bad : Int} (h1 : numS P a bad = false) (h2 : isS P a bad [116, 114, 117, 101] = true) : ExS P 7 a bad (ndS ⟨0, 11, ⟨#[]⟩, 1, 0, (plS P a : Nat)⟩ []) (a + 1) bad :=
 ExS.at (r := (_, _, _)) fun g _ => by rw [atF, h1, h2]; rfl
theorem ExS.fls {P : RP} {a : Nat} {bad : Int} (h1 : numS P a bad = false) (h2 : isS P a bad [116, 114, 117, 101] = false) (h3 : isS P a bad [102, 97, 108, 115, 101] = true) : ExS P 7 a bad (ndS ⟨0, 11, ⟨#[]⟩, 0, 0, (plS P a : Nat)⟩ []) (a + 1) bad :=
 ExS.at (r := (_, _, _)) fun g _ => by rw [atF, h1, h2, h3]; rfl
theorem ExS.paren {P : RP} {a : Nat} {bad : Int} {ms : List Nd} {a2 : Nat} {bad2 : Int} {t : List UInt8} (ht : t = [41]) (ha : a < P.ts.length) (h1 : numS P a bad = false) (h2 : isS P a bad [116, 114, 117, 101] = false) (h3 : isS P a bad [102, 97, 108, 115, 101] = false) (h4 : isS P a bad [40] = true) (h : ExS P 0 (a + 1) bad ms a2 bad2) : ExS P 7 a bad ms (if isS P a2 bad2 t then a2 + 1 else a2) (if isS P a2 bad2 t then bad2 else failS P a2 bad2) :=
 ExS.at (r := (_, _, _)) fun g hg => by subst ht; rw [atF, h1, h2, h3, h4, h g (by omega)]; rfl
theorem ExS.nil {P : RP} {a : Nat} {bad : Int} (h1 : numS P a bad = false) (h2 : isS P a bad [116, 114, 117, 101] = false) (h3 : isS P a bad [102, 97, 108, 115, 101] = false) (h4 : isS P a bad [40] = false) (h5 : namS P a bad = false) : ExS P 7 a bad [] a (failS P a bad) :=
 ExS.at (r := (_, _, _)) fun g hg => by rw [atF, h1, h2, h3, h4, h5]; rfl
theorem ExS.read {P : RP} {a : Nat} {bad : Int} {s : ByteArray} (h1 : numS P a bad = false) (h2 : isS P a bad [116, 114, 117, 101] = false) (h3 : isS P a bad [102, 97, 108, 115, 101] = false) (h4 : isS P a bad [40] = false) (h5 : namS P a bad = true) (h6 : isS P (a + 1) bad [91] = false) (hs : s = naT P a bad) : ExS P 7 a bad (ndS ⟨0, 12, s, 0, 0, (plS P a : Nat)⟩ []) (a + 1) bad :=
 ExS.at (r := (_, _, _)) fun g hg => by rw [atF, h1, h2, h3, h4, h5, h6, hs]; rfl
theorem ExS.load {P : RP} {a : Nat} {bad : Int} {ms : List Nd} {a2 : Nat} {bad2 : Int} {s : ByteArray} {t : List UInt8} (ht : t = [93]) (ha : a < P.ts.length) (h1 : numS P a bad = false) (h2 : isS P a bad [116, 114, 117, 101] = false) (h3 : isS P a bad [102, 97, 108, 115, 101] = false) (h4 : isS P a bad [40] = false) (h5 : namS P a bad = true) (h6 : isS P (a + 1) bad [91] = true) (hs : s = naT P a bad) (h : ExS P 0 (a + 2) bad ms a2 bad2) : ExS P 7 a bad (ndS ⟨0, 13, s, 0, 0, (plS P a : Nat)⟩ [ms]) (if isS P a2 bad2 t then a2 + 1 else a2) (if isS P a2 bad2 t then bad2 else failS P a2 bad2) :=
 ExS.at (r := (_, _, _)) fun g hg => by subst ht; rw [atF, h1, h2, h3, h4, h5, h6, hs, h g (by omega)]; rfl
theorem naT_of {P : RP} {a : Nat} {bad : Int} {s : ByteArray} (h : s.toList = (if namS P a bad then txS P a else [])) : s = naT P a bad := by
 have e : s = ⟨s.toList.toArray⟩ := by rw [ByteArray.toList_eq]
 rw [e, h]; unfold naT
 cases namS P a bad <;> rfl
def exA (P : RP) (a : Nat) (bad : Int) : List Nd × Nat × Int := exF P (P.ts.length * 10 + 10) 0 a bad
theorem ExS.all {P : RP} {a : Nat} {bad : Int} {ns : List Nd} {a' : Nat} {bad' : Int} (h : ExS P 0 a bad ns a' bad') : exA P a bad = (ns, a', bad') := h _ (by omega)
def blF (P : RP) (g : Nat → Int → List Nd × Nat × Int) : Nat → List Nd → Nat → Int → List Nd × Nat × Int
 | 0, l, a, bad => (l, a, bad)
 | k + 1, l, a, bad => if decide (bad < 0) && !isS P a bad [125] then blF P g k (l ++ (g a bad).1) (g a bad).2.1 (g a bad).2.2 else (l, a, bad)
def blE (P : RP) (a : Nat) (r : List Nd × Nat × Int) : List Nd × Nat × Int := (ndS ⟨0, 9, ⟨#[]⟩, 0, 0, (plS P a : Nat)⟩ [r.1], tkA P r.2.1 r.2.2 [125], tkB P r.2.1 r.2.2 [125])
def nsF (P : RP) (a : Nat) (s : ByteArray) (a1 : Nat) (b1 : Int) : List Nd × Nat × Int :=
 if isS P a1 b1 [91] then
  let i := exA P (a1 + 1) b1
  let a2 := tkA P i.2.1 i.2.2 [93]
  let b2 := tkB P i.2.1 i.2.2 [93]
  let v := exA P (tkA P a2 b2 [58, 61]) (tkB P a2 b2 [58, 61])
  (ndS ⟨0, 3, s, 0, 0, (plS P a : Nat)⟩ [i.1, v.1], tkA P v.2.1 v.2.2 [59], tkB P v.2.1 v.2.2 [59])
 else
  let v := exA P (tkA P a1 b1 [58, 61]) (tkB P a1 b1 [58, 61])
  (ndS ⟨0, 2, s, 0, 0, (plS P a : Nat)⟩ [v.1], tkA P v.2.1 v.2.2 [59], tkB P v.2.1 v.2.2 [59])
def smF (P : RP) (g : Nat → Int → List Nd × Nat × Int) (a : Nat) (bad : Int) : List Nd × Nat × Int :=
 if isS P a bad [105, 110, 112, 117, 116] then (ndS ⟨0, 4, naT P (a + 1) bad, 0, 0, (plS P a : Nat)⟩ [], tkA P (naA P (a + 1) bad) (naB P (a + 1) bad) [59], tkB P (naA P (a + 1) bad) (naB P (a + 1) bad) [59])
 else if isS P a bad [97, 115, 115, 101, 114, 116] then
  (ndS ⟨0, 5, ⟨#[]⟩, 0, 0, (plS P a : Nat)⟩ [(exA P (a + 1) bad).1], tkA P (exA P (a + 1) bad).2.1 (exA P (a + 1) bad).2.2 [59], tkB P (exA P (a + 1) bad).2.1 (exA P (a + 1) bad).2.2 [59])
 else if isS P a bad [115, 107, 105, 112] then (ndS ⟨0, 6, ⟨#[]⟩, 0, 0, (plS P a : Nat)⟩ [], tkA P (a + 1) bad [59], tkB P (a + 1) bad [59])
 else if isS P a bad [119, 104, 105, 108, 101] then
  let l := exA P (a + 1) bad
  let b := g l.2.1 l.2.2
  (ndS ⟨0, 8, ⟨#[]⟩, 0, 0, (plS P a : Nat)⟩ [l.1, b.1], b.2.1, b.2.2)
 else if isS P a bad [105, 102] then
  let l := exA P (a + 1) bad
  let b := g l.2.1 l.2.2
  if isS P b.2.1 b.2.2 [101, 108, 115, 101] then
   let c := g (b.2.1 + 1) b.2.2
   (ndS ⟨0, 7, ⟨#[]⟩, 0, 0, (plS P a : Nat)⟩ [l.1, b.1, c.1], c.2.1, c.2.2)
  else (ndS ⟨0, 7, ⟨#[]⟩, 0, 0, (plS P a : Nat)⟩ [l.1, b.1], b.2.1, b.2.2)
 else nsF P a (naT P a bad) (naA P a bad) (naB P a bad)
def stF (P : RP) : Nat → Nat → Nat → Int → List Nd × Nat × Int
 | 0, _, a, bad => ([], a, bad)
 | f + 1, md, a, bad => if md = 0 then smF P (stF P f 1) a bad else blE P a (blF P (stF P f 0) f [] (tkA P a bad [123]) (tkB P a bad [123]))
def StS (P : RP) (a : Nat) (bad : Int) (ns : List Nd) (a' : Nat) (bad' : Int) : Prop := ∀ f, (P.ts.length - a) * 10 + 2 ≤ f → stF P f 0 a bad = (ns, a', bad')
def BkS (P : RP) (a : Nat) (bad : Int) (ns : List Nd) (a' : Nat) (bad' : Int) : Prop := ∀ f, (P.ts.length - a) * 10 + 5 ≤ f → stF P f 1 a bad = (ns, a', bad')
def BlS (P : RP) (a : Nat) (bad : Int) (l : List Nd) (a1 : Nat) (bad1 : Int) : Prop := ∀ f, (P.ts.length - a) * 10 + 4 ≤ f → ∃ k, (P.ts.length - a1) * 2 + (if bad1 < 0 then 1 else 0) ≤ k ∧ stF P (f + 1) 1 a bad = blE P a (blF P (stF P f 0) k l a1 bad1)
theorem BlS.begin {P : RP} {a : Nat} {bad : Int} (hi : isS P a bad [123] = true) (ha : a < P.ts.length) : BlS P a bad [] (a + 1) bad := by
 intro f hf
 refine ⟨f, by split <;> omega, ?_⟩
 have h1 : tkA P a bad [123] = a + 1 := by unfold tkA; rw [hi]; rfl
 have h2 : tkB P a bad [123] = bad := by unfold tkB; rw [hi]; rfl
 rw [stF, if_neg (by omega), h1, h2]
theorem BlS.next {P : RP} {a ac a2 : Nat} {bad badc bad2 : Int} {l ms : List Nd} (h : BlS P a bad l ac badc) (hle : a ≤ ac) (hb : badc < 0) (hi : isS P ac badc [125] = false) (hs : StS P ac badc ms a2 bad2) (hg : ac < a2 ∨ 0 ≤ bad2) (hle2 : ac ≤ a2) (hle3 : a2 ≤ P.ts.length) : BlS P a bad (l ++ ms) a2 bad2 := by
 intro f hf
 obtain ⟨k, hk, e⟩ := h f hf
 rw [if_pos hb] at hk
 obtain ⟨k, rfl, _⟩ := fuel (n := 0) (f := k) (by omega)
 refine ⟨k, ?_, ?_⟩
 ·split
  ·rcases hg with hg | hg <;> omega
  ·omega
 ·rw [e, blF, decide_eq_true hb, hi, if_pos (by rfl), hs f (by omega)]
theorem BlS.fin {P : RP} {a ac : Nat} {bad badc : Int} {l : List Nd} {t : List UInt8} (ht : t = [125]) (h : BlS P a bad l ac badc) (hb : ¬ badc < 0 ∨ isS P ac badc [125] = true) : BkS P a bad (ndS ⟨0, 9, ⟨#[]⟩, 0, 0, (plS P a : Nat)⟩ [l]) (if isS P ac badc t then ac + 1 else ac) (if isS P ac badc t then badc else failS P ac badc) := by
 intro f hf
 obtain ⟨g, rfl, hg⟩ := fuel (n := (P.ts.length - a) * 10 + 4) (f := f) (by omega)
 obtain ⟨k, hk, e⟩ := h g hg
 subst ht
 rw [e]
 have hc : (decide (badc < 0) && !isS P ac badc [125]) = false := by
  rcases hb with hb | hb
  ·rw [decide_eq_false hb]; rfl
  ·rw [hb]; simp
 cases k with
 | zero => rfl
 | succ k => rw [blF, hc]; rfl
theorem BkS.bad {P : RP} {a : Nat} {bad b0 : Int} (hi : isS P a bad [123] = false) (h0 : b0 = failS P a bad) (hp : 0 ≤ b0) : BkS P a bad (ndS ⟨0, 9, ⟨#[]⟩, 0, 0, (plS P a : Nat)⟩ [[]]) a b0 := by
 intro f hf
 obtain ⟨g, rfl, hg⟩ := fuel (n := (P.ts.length - a) * 10 + 4) (f := f) (by omega)
 have h1 : tkA P a bad [123] = a := by unfold tkA; rw [hi]; rfl
 have h2 : tkB P a bad [123] = b0 := by unfold tkB; rw [hi, h0]; rfl
 have h3 : isS P a b0 [125] = false := by unfold isS; rw [decide_eq_false (by omega)]; rfl
 have h4 : failS P a b0 = b0 := by unfold failS; rw [if_neg (by omega)]
 rw [stF, if_neg (by omega), h1, h2]
 obtain ⟨g, rfl, _⟩ := fuel (n := 0) (f := g) (by omega)
 rw [blF, decide_eq_false (by omega)]
 unfold blE tkA tkB
 simp only [h3, h4, Bool.false_and, Bool.false_eq_true, if_false]
theorem StS.of {P : RP} {a : Nat} {bad : Int} {r : List Nd × Nat × Int} (h : ∀ g, (P.ts.length - a) * 10 + 1 ≤ g → smF P (stF P g 1) a bad = r) : StS P a bad r.1 r.2.1 r.2.2 := by
 intro f hf
 obtain ⟨g, rfl, hg⟩ := fuel (n := (P.ts.length - a) * 10 + 1) (f := f) (by omega)
 rw [stF, if_pos rfl]
 exact h g hg
theorem StS.input {P : RP} {a : Nat} {bad : Int} {s : ByteArray} {t : List UInt8} (ht : t = [59]) (h2 : isS P a bad [105, 110, 112, 117, 116] = true) (hs : s = naT P (a + 1) bad) : StS P a bad (ndS ⟨0, 4, s, 0, 0, (plS P a : Nat)⟩ []) (tkA P (naA P (a + 1) bad) (naB P (a + 1) bad) t) (tkB P (naA P (a + 1) bad) (naB P (a + 1) bad) t) :=
 StS.of (r := (_, _, _)) fun g _ => by rw [smF, h2, hs, ht]; rfl
theorem StS.assert {P : RP} {a : Nat} {bad : Int} {ms : List Nd} {a6 : Nat} {b6 : Int} {t : List UInt8} (ht : t = [59]) (h2 : isS P a bad [105, 110, 112, 117, 116] = false) (h3 : isS P a bad [97, 115, 115, 101, 114, 116] = true) (he : ExS P 0 (a + 1) bad ms a6 b6) : StS P a bad (ndS ⟨0, 5, ⟨#[]⟩, 0, 0, (plS P a : Nat)⟩ [ms]) (tkA P a6 b6 t) (tkB P a6 b6 t) :=
 StS.of (r := (_, _, _)) fun g _ => by rw [smF, h2, h3, he.all, ht]; rfl
theorem StS.skip {P : RP} {a : Nat} {bad : Int} {t : List UInt8} (ht : t = [59]) (h2 : isS P a bad [105, 110, 112, 117, 116] = false) (h3 : isS P a bad [97, 115, 115, 101, 114, 116] = false) (h4 : isS P a bad [115, 107, 105, 112] = true) : StS P a bad (ndS ⟨0, 6, ⟨#[]⟩, 0, 0, (plS P a : Nat)⟩ []) (tkA P (a + 1) bad t) (tkB P (a + 1) bad t) :=
 StS.of (r := (_, _, _)) fun g _ => by rw [smF, h2, h3, h4, ht]; rfl
theorem StS.while {P : RP} {a : Nat} {bad : Int} {ms ks : List Nd} {a6 a7 : Nat} {b6 b7 : Int} (ha : a < P.ts.length) (h2 : isS P a bad [105, 110, 112, 117, 116] = false) (h3 : isS P a bad [97, 115, 115, 101, 114, 116] = false) (h4 : isS P a bad [115, 107, 105, 112] = false) (h5 : isS P a bad [119, 104, 105, 108, 101] = true) (he : ExS P 0 (a + 1) bad ms a6 b6) (hle : a + 1 ≤ a6) (hb : BkS P a6 b6 ks a7 b7) : StS P a bad (ndS ⟨0, 8, ⟨#[]⟩, 0, 0, (plS P a : Nat)⟩ [ms, ks]) a7 b7 :=
 StS.of (r := (_, _, _)) fun g hg => by rw [smF, h2, h3, h4, h5, he.all]; simp only [Bool.false_eq_true, if_false, if_true]; rw [hb g (by omega)]; rfl
theorem StS.ifs {P : RP} {a : Nat} {bad : Int} {ms ks : List Nd} {a6 a7 : Nat} {b6 b7 : Int} (ha : a < P.ts.length) (h2 : isS P a bad [105, 110, 112, 117, 116] = false) (h3 : isS P a bad [97, 115, 115, 101, 114, 116] = false) (h4 : isS P a bad [115, 107, 105, 112] = false) (h5 : isS P a bad [119, 104, 105, 108, 101] = false) (h6 : isS P a bad [105, 102] = true) (he : ExS P 0 (a + 1) bad ms a6 b6) (hle : a + 1 ≤ a6) (hb : BkS P a6 b6 ks a7 b7) (h7 : isS P a7 b7 [101, 108, 115, 101] = false) : StS P a bad (ndS ⟨0, 7, ⟨#[]⟩, 0, 0, (plS P a : Nat)⟩ [ms, ks]) a7 b7 :=
 StS.of (r := (_, _, _)) fun g hg => by rw [smF, h2, h3, h4, h5, h6, he.all]; simp only [Bool.false_eq_true, if_false, if_true]; rw [hb g (by omega)]; simp only [h7, Bool.false_eq_true, if_false]; rfl
theorem StS.ifelse {P : RP} {a : Nat} {bad : Int} {ms ks js : List Nd} {a6 a7 a8 : Nat} {b6 b7 b8 : Int} (ha : a < P.ts.length) (h2 : isS P a bad [105, 110, 112, 117, 116] = false) (h3 : isS P a bad [97, 115, 115, 101, 114, 116] = false) (h4 : isS P a bad [115, 107, 105, 112] = false) (h5 : isS P a bad [119, 104, 105, 108, 101] = false) (h6 : isS P a bad [105, 102] = true) (he : ExS P 0 (a + 1) bad ms a6 b6) (hle : a + 1 ≤ a6) (hb : BkS P a6 b6 ks a7 b7) (hle7 : a6 ≤ a7) (h7 : isS P a7 b7 [101, 108, 115, 101] = true) (hc : BkS P (a7 + 1) b7 js a8 b8) : StS P a bad (ndS ⟨0, 7, ⟨#[]⟩, 0, 0, (plS P a : Nat)⟩ [ms, ks, js]) a8 b8 :=
 StS.of (r := (_, _, _)) fun g hg => by rw [smF, h2, h3, h4, h5, h6, he.all]; simp only [Bool.false_eq_true, if_false, if_true]; rw [hb g (by omega)]; simp only [h7, if_true]; rw [hc g (by omega)]; rfl
def noWd (P : RP) (a : Nat) (bad : Int) : Prop := isS P a bad [105, 110, 112, 117, 116] = false ∧ isS P a bad [97, 115, 115, 101, 114, 116] = false ∧ isS P a bad [115, 107, 105, 112] = false ∧ isS P a bad [119, 104, 105, 108, 101] = false ∧ isS P a bad [105, 102] = false
theorem StS.named {P : RP} {a : Nat} {bad : Int} {r : List Nd × Nat × Int} (h : noWd P a bad) (hr : nsF P a (naT P a bad) (naA P a bad) (naB P a bad) = r) : StS P a bad r.1 r.2.1 r.2.2 :=
 StS.of fun g hg => by rw [smF, h.1, h.2.1, h.2.2.1, h.2.2.2.1, h.2.2.2.2]; exact hr
theorem StS.input2 {P : RP} {a : Nat} {bad : Int} {s : ByteArray} {a6 : Nat} {b6 : Int} {t : List UInt8} (ht : t = [59]) (h2 : isS P a bad [105, 110, 112, 117, 116] = true) (hs : s = naT P (a + 1) bad) (h6 : a6 = naA P (a + 1) bad ∧ b6 = naB P (a + 1) bad) : StS P a bad (ndS ⟨0, 4, s, 0, 0, (plS P a : Nat)⟩ []) (tkA P a6 b6 t) (tkB P a6 b6 t) := by
 rw [h6.1, h6.2]; exact StS.input ht h2 hs
theorem StS.assign {P : RP} {a a3 a4 a5 : Nat} {bad b3 b4 b5 : Int} {s : ByteArray} {ms : List Nd} (h : noWd P a bad) (hn : namS P a bad = true) (h8 : isS P (a + 1) bad [91] = false) (hs : s = naT P a bad) (h3 : a3 = tkA P (a + 1) bad [58, 61] ∧ b3 = tkB P (a + 1) bad [58, 61]) (he : exA P a3 b3 = (ms, a4, b4)) (h5 : a5 = tkA P a4 b4 [59] ∧ b5 = tkB P a4 b4 [59]) : StS P a bad (ndS ⟨0, 2, s, 0, 0, (plS P a : Nat)⟩ [ms]) a5 b5 := by
 refine StS.named (r := (_, _, _)) h ?_
 have e1 : naA P a bad = a + 1 := by unfold naA; rw [hn]; rfl
 have e2 : naB P a bad = bad := by unfold naB; rw [hn]; rfl
 rw [nsF, e1, e2, h8, ← h3.1, ← h3.2, he, ← hs, h5.1, h5.2]; rfl
theorem StS.store {P : RP} {a a4 a5 a6 a7 a8 : Nat} {bad b4 b5 b6 b7 b8 : Int} {s : ByteArray} {ms ks : List Nd} (h : noWd P a bad) (hn : namS P a bad = true) (h8 : isS P (a + 1) bad [91] = true) (hs : s = naT P a bad) (he : exA P (a + 2) bad = (ms, a4, b4)) (h5 : a5 = tkA P a4 b4 [93] ∧ b5 = tkB P a4 b4 [93]) (h6 : a6 = tkA P a5 b5 [58, 61] ∧ b6 = tkB P a5 b5 [58, 61]) (he2 : exA P a6 b6 = (ks, a7, b7)) (h9 : a8 = tkA P a7 b7 [59] ∧ b8 = tkB P a7 b7 [59]) : StS P a bad (ndS ⟨0, 3, s, 0, 0, (plS P a : Nat)⟩ [ms, ks]) a8 b8 := by
 refine StS.named (r := (_, _, _)) h ?_
 have e1 : naA P a bad = a + 1 := by unfold naA; rw [hn]; rfl
 have e2 : naB P a bad = bad := by unfold naB; rw [hn]; rfl
 rw [nsF, e1, e2, h8, he]
 simp only [if_true]
 rw [← h5.1, ← h5.2, ← h6.1, ← h6.2, he2, ← hs, h9.1, h9.2]; rfl
theorem StS.noname {P : RP} {a : Nat} {bad b0 : Int} {s : ByteArray} (h : noWd P a bad) (hn : namS P a bad = false) (hs : s = naT P a bad) (hb : b0 = failS P a bad) (hp : 0 ≤ b0) (he : exA P a b0 = ([], a, b0)) : StS P a bad (ndS ⟨0, 2, s, 0, 0, (plS P a : Nat)⟩ [[]]) a b0 := by
 refine StS.named (r := (_, _, _)) h ?_
 have e1 : naA P a bad = a := by unfold naA; rw [hn]; rfl
 have e2 : naB P a bad = b0 := by unfold naB; rw [hn, hb]; rfl
 have e3 : ∀ t, isS P a b0 t = false := fun t => by unfold isS; rw [decide_eq_false (by omega)]; rfl
 have e4 : failS P a b0 = b0 := by unfold failS; rw [if_neg (by omega)]
 have e5 : ∀ t, tkA P a b0 t = a := fun t => by unfold tkA; rw [e3]; rfl
 have e6 : ∀ t, tkB P a b0 t = b0 := fun t => by unfold tkB; rw [e3, e4]; rfl
 rw [nsF, e1, e2, e3]
 simp only [Bool.false_eq_true, if_false]
 rw [e5, e6, he, ← hs]
 simp only [e5, e6]; rfl
end Go.Proofs.YtklkpaekdpaloaaDoor
