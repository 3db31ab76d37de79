import Derived.Test.YtnjmjnmhldhaoaaGreatRows
import Derived.WalkSpells
import Derived.WalkSmall
import Derived.BigQuiet
import Derived.Deep.RegionHeld3
set_option linter.all false
namespace Go.Proofs.YtnjmjnmhldhaoaaGreat
section
open Go.RowKit
abbrev In64 (a:Int):Prop := -9223372036854775808<=a/\a<=9223372036854775807
theorem u64w (n:Int):IntKind.u64.wrap n=n%18446744073709551616:=IntKind.wrap_u64 n
theorem wmod (n:Int):wrap64 (n%18446744073709551616)=wrap64 n:=by unfold wrap64;omega
theorem wrap64_in (n:Int):In64 (wrap64 n):=by unfold In64 wrap64;omega
theorem wrap64_id {n:Int} (h:In64 n):wrap64 n=n:=by unfold In64 at h;unfold wrap64;omega
def Mem (l h v:Int):Prop:=l<=v/\v<=h
def Hull (S:Int->Prop) (l h:Int):Prop:=(l=1/\h=0/\∀ v,¬S v)\/(S l/\S h/\∀ v,S v->l<=v/\v<=h)
theorem Hull.uniq {S:Int->Prop} {l h m k:Int} (a:Hull S l h) (b:Hull S m k):l=m/\h=k:=by
 rcases a with ⟨a1,a2,a3⟩ | ⟨a1,a2,a3⟩<;>rcases b with ⟨b1,b2,b3⟩ | ⟨b1,b2,b3⟩
 ·omega
 ·exact absurd b1 (a3 _)
 ·exact absurd a1 (b3 _)
 ·have h1:=a3 _ b1;have h2:=a3 _ b2;have h3:=b3 _ a1;have h4:=b3 _ a2;omega
theorem Hull.congr {S T:Int->Prop} {l h:Int} (a:Hull S l h) (e:∀ v,S v↔T v):Hull T l h:=by
 rcases a with ⟨a1,a2,a3⟩ | ⟨a1,a2,a3⟩
 ·exact Or.inl ⟨a1,a2,fun v hv=>a3 v ((e v).2 hv)⟩
 ·exact Or.inr ⟨(e _).1 a1,(e _).1 a2,fun v hv=>a3 v ((e v).2 hv)⟩
theorem Hull.mem {S:Int->Prop} {l h v:Int} (a:Hull S l h) (hv:S v):l<=v/\v<=h:=by
 rcases a with ⟨a1,a2,a3⟩ | ⟨a1,a2,a3⟩
 ·exact absurd hv (a3 _)
 ·exact a3 v hv
def normI (l h:Int):Int×Int:=if h<l then (1,0) else (l,h)
def joinI (al ah bl bh:Int):Int×Int:=if ah<al then normI bl bh else if bh<bl then (al,ah) else (min al bl,max ah bh)
def meetI (al ah bl bh:Int):Int×Int:=normI (max al bl) (min ah bh)
def hasI (al ah v:Int):Bool:=decide (al<=v)&&decide (v<=ah)
def leqI (al ah bl bh:Int):Bool:=decide (ah<al)||(decide (bl<=al)&&decide (ah<=bh))
theorem joinI_mem {al ah bl bh v:Int} (h:Mem al ah v\/Mem bl bh v):Mem (joinI al ah bl bh).1 (joinI al ah bl bh).2 v:=by
 unfold joinI normI Mem at *
 split<;>split<;>simp only<;>omega
theorem meetI_mem (al ah bl bh v:Int):Mem (meetI al ah bl bh).1 (meetI al ah bl bh).2 v↔Mem al ah v/\Mem bl bh v:=by
 unfold meetI normI Mem
 split<;>simp only<;>omega
def SpanS (lo hi v:Int):Prop:=∃ z,lo<=z/\z<=hi/\v=wrap64 z
def spanI (lo hi:Int):Int×Int×Bool :=
 if In64 lo/\In64 hi then (lo,hi,true)
 else if 18446744073709551615<=hi-lo\/wrap64 hi<wrap64 lo then (-9223372036854775808,9223372036854775807,false)
 else (wrap64 lo,wrap64 hi,false)
theorem span_hull {lo hi:Int} (h:lo<=hi):Hull (SpanS lo hi) (spanI lo hi).1 (spanI lo hi).2.1:=by
 unfold spanI
 split
 ·rename_i hh
  right
  refine ⟨⟨lo,by omega,by omega,(wrap64_id hh.1).symm⟩,⟨hi,by omega,by omega,(wrap64_id hh.2).symm⟩,?_⟩
  rintro v ⟨z,h1,h2,rfl⟩
  have:In64 z:=by unfold In64 at *;omega
  rw [wrap64_id this]
  exact ⟨h1,h2⟩
 ·rename_i hn
  split
  ·rename_i hw
   right
   refine ⟨⟨hi-(hi+9223372036854775808)%18446744073709551616,?_,?_,?_⟩,⟨hi-(hi-9223372036854775807)%18446744073709551616,?_,?_,?_⟩,?_⟩
   ·unfold wrap64 at hw;unfold In64 at hn;omega
   ·omega
   ·unfold wrap64;simp only;omega
   ·unfold wrap64 at hw;unfold In64 at hn;omega
   ·omega
   ·unfold wrap64;simp only;omega
   ·rintro v ⟨z,h1,h2,rfl⟩
    exact wrap64_in z
  ·rename_i hw
   right
   refine ⟨⟨lo,by omega,by omega,rfl⟩,⟨hi,by omega,by omega,rfl⟩,?_⟩
   rintro v ⟨z,h1,h2,rfl⟩
   unfold wrap64 at *
   simp only
   omega
theorem span_exact {lo hi:Int} (h:lo<=hi):(spanI lo hi).2.2=true↔∀ z,lo<=z->z<=hi->In64 z:=by
 unfold spanI
 split
 ·rename_i hh
  simp only [true_iff]
  intro z h1 h2
  unfold In64 at *
  omega
 ·rename_i hn
  have:¬ ∀ z,lo<=z->z<=hi->In64 z:=fun hz=>hn ⟨hz lo (by omega) h,hz hi h (by omega)⟩
  split<;>simp [this]
def NegS (al ah v:Int):Prop:=∃ x,Mem al ah x/\v=wrap64 (-x)
def AddS (al ah bl bh v:Int):Prop:=∃ x y,Mem al ah x/\Mem bl bh y/\v=wrap64 (x+y)
def SubS (al ah bl bh v:Int):Prop:=∃ x y,Mem al ah x/\Mem bl bh y/\v=wrap64 (x-y)
def MulS (al ah bl bh v:Int):Prop:=∃ x y,Mem al ah x/\Mem bl bh y/\v=wrap64 (x*y)
def DivS (al ah bl bh v:Int):Prop:=∃ x y,Mem al ah x/\Mem bl bh y/\y≠0/\v=wrap64 (x.tdiv y)
def negI (al ah:Int):Int×Int×Bool:=if ah<al then (1,0,true) else spanI (-ah) (-al)
def addI (al ah bl bh:Int):Int×Int×Bool:=if ah<al\/bh<bl then (1,0,true) else spanI (al+bl) (ah+bh)
def subI (al ah bl bh:Int):Int×Int×Bool:=if ah<al\/bh<bl then (1,0,true) else spanI (al-bh) (ah-bl)
theorem neg_hull (al ah:Int):Hull (NegS al ah) (negI al ah).1 (negI al ah).2.1:=by
 unfold negI
 split
 ·left;refine ⟨rfl,rfl,?_⟩
  rintro v ⟨x,hx,_⟩;unfold Mem at hx;omega
 ·refine (span_hull (by omega)).congr fun v=>?_
  unfold SpanS NegS Mem
  constructor
  ·rintro ⟨z,h1,h2,rfl⟩;exact ⟨-z,by omega,by rw [Int.neg_neg]⟩
  ·rintro ⟨x,hx,rfl⟩;exact ⟨-x,by omega,by omega,rfl⟩
theorem neg_exact (al ah:Int):(negI al ah).2.2=true↔∀ x,Mem al ah x->In64 (-x):=by
 unfold negI
 split
 ·simp only [true_iff];intro x hx;unfold Mem at hx;omega
 ·rw [span_exact (by omega)]
  unfold Mem
  constructor
  ·intro h x hx;exact h _ (by omega) (by omega)
  ·intro h z h1 h2;have:=h (-z) (by omega);rwa [Int.neg_neg] at this
theorem add_split {al ah bl bh z:Int} (ha:al<=ah) (hb:bl<=bh) (h1:al+bl<=z) (h2:z<=ah+bh):∃ x y,(al<=x/\x<=ah)/\(bl<=y/\y<=bh)/\z=x+y:=by
 by_cases h:z<=al+bh
 ·exact ⟨al,z-al,by omega,by omega,by omega⟩
 ·exact ⟨z-bh,bh,by omega,by omega,by omega⟩
theorem add_hull (al ah bl bh:Int):Hull (AddS al ah bl bh) (addI al ah bl bh).1 (addI al ah bl bh).2.1:=by
 unfold addI
 split
 ·left;refine ⟨rfl,rfl,?_⟩
  rintro v ⟨x,y,hx,hy,_⟩;unfold Mem at hx hy;omega
 ·refine (span_hull (by omega)).congr fun v=>?_
  unfold SpanS AddS Mem
  constructor
  ·rintro ⟨z,h1,h2,rfl⟩
   obtain ⟨x,y,hx,hy,rfl⟩:=add_split (by omega) (by omega) h1 h2
   exact ⟨x,y,hx,hy,rfl⟩
  ·rintro ⟨x,y,hx,hy,rfl⟩;exact ⟨x+y,by omega,by omega,rfl⟩
theorem add_exact (al ah bl bh:Int):(addI al ah bl bh).2.2=true↔∀ x y,Mem al ah x->Mem bl bh y->In64 (x+y):=by
 unfold addI
 split
 ·simp only [true_iff];intro x y hx hy;unfold Mem at hx hy;omega
 ·rw [span_exact (by omega)]
  unfold Mem
  constructor
  ·intro h x y hx hy;exact h _ (by omega) (by omega)
  ·intro h z h1 h2
   obtain ⟨x,y,hx,hy,rfl⟩:=add_split (by omega) (by omega) h1 h2
   exact h x y hx hy
theorem sub_hull (al ah bl bh:Int):Hull (SubS al ah bl bh) (subI al ah bl bh).1 (subI al ah bl bh).2.1:=by
 unfold subI
 split
 ·left;refine ⟨rfl,rfl,?_⟩
  rintro v ⟨x,y,hx,hy,_⟩;unfold Mem at hx hy;omega
 ·refine (span_hull (by omega)).congr fun v=>?_
  unfold SpanS SubS Mem
  constructor
  ·rintro ⟨z,h1,h2,rfl⟩
   obtain ⟨x,y,hx,hy,rfl⟩:=add_split (al:=al) (ah:=ah) (bl := -bh) (bh := -bl) (by omega) (by omega) (by omega) (by omega:z<=ah + -bl)
   exact ⟨x,-y,hx,by omega,by rw [Int.sub_neg]⟩
  ·rintro ⟨x,y,hx,hy,rfl⟩;exact ⟨x-y,by omega,by omega,rfl⟩
theorem sub_exact (al ah bl bh:Int):(subI al ah bl bh).2.2=true↔∀ x y,Mem al ah x->Mem bl bh y->In64 (x-y):=by
 unfold subI
 split
 ·simp only [true_iff];intro x y hx hy;unfold Mem at hx hy;omega
 ·rw [span_exact (by omega)]
  unfold Mem
  constructor
  ·intro h x y hx hy;exact h _ (by omega) (by omega)
  ·intro h z h1 h2
   obtain ⟨x,y,hx,hy,rfl⟩:=add_split (al:=al) (ah:=ah) (bl := -bh) (bh := -bl) (by omega) (by omega) (by omega) (by omega:z<=ah + -bl)
   have:=h x (-y) hx (by omega)
   rwa [Int.sub_neg] at this
end
section
open Go.RowKit
def hiB (n:Nat):Int:=((n/18446744073709551616:Nat):Int)
def loB (n:Nat):Int:=((n%18446744073709551616:Nat):Int)
def Big (n:Nat):Prop:=n<340282366920938463463374607431768211456
theorem big_small {n:Nat} (h:n<18446744073709551616):hiB n=0/\loB n=n:=by unfold hiB loB;omega
theorem big_lt {a b:Nat}:(decide (hiB a<hiB b)||(hiB a==hiB b&&decide (loB a<loB b)))=decide (a<b):=by
 have:(a<b)↔(hiB a<hiB b\/(hiB a=hiB b/\loB a<loB b)):=by unfold hiB loB;omega
 by_cases h:a<b
 ·rw [decide_eq_true h]
  rcases this.1 h with h1 | ⟨h1,h2⟩
  ·simp [h1]
  ·simp [h1,h2]
 ·rw [decide_eq_false h]
  have h3:=mt this.2 h
  simp only [not_or,not_and] at h3
  by_cases h1:hiB a=hiB b
  ·simp [h1,h3.2 h1]
  ·simp [h1];exact Int.not_lt.1 h3.1
theorem part_step {A m b:Nat} (hm:0<m) (hb:b<2) :
  (m<=2*(A%m)+b->(2*A+b)/m=2*(A/m)+1/\(2*A+b)%m=2*(A%m)+b-m) /\
  (¬m<=2*(A%m)+b->(2*A+b)/m=2*(A/m)/\(2*A+b)%m=2*(A%m)+b):=by
 have e:A=m*(A/m)+A%m:=(Nat.div_add_mod A m).symm
 have hr:A%m<m:=Nat.mod_lt _ hm
 generalize hq:A/m=q at *
 generalize hrr:A%m=r at *
 have e1:2*A+b=m*(2*q)+(2*r+b):=by rw [e,Nat.mul_left_comm m 2 q];omega
 constructor
 ·intro h
  have e2:2*A+b=(2*r+b-m)+m*(2*q+1):=by rw [e1,Nat.mul_add,Nat.mul_one];omega
  rw [e2,Nat.add_mul_div_left _ _ hm,Nat.add_mul_mod_self_left,Nat.div_eq_of_lt (by omega),Nat.mod_eq_of_lt (by omega)]
  omega
 ·intro h
  have e2:2*A+b=(2*r+b)+m*(2*q):=by rw [e1];omega
  rw [e2,Nat.add_mul_div_left _ _ hm,Nat.add_mul_mod_self_left,Nat.div_eq_of_lt (by omega),Nat.mod_eq_of_lt (by omega)]
  omega
theorem bit_step (a i:Nat):a/2 ^ i=2*(a/2 ^ (i+1))+a/2 ^ i%2:=by
 rw [Nat.pow_succ,<-Nat.div_div_eq_div_mul];omega
theorem even_or {k b:Nat} (hb:b<2):(2*k) ||| b=2*k+b:=by
 have:=Nat.two_pow_add_eq_or_of_lt (i:=1) (by simpa using hb) k
 simpa using this.symm
end
section
open Go.RowKit
def U64 (a:Nat):Prop:=a<18446744073709551616
def sval (f:Nat) (s:Bool):Int:=if s=true then -(f:Int) else f
def rF (M R:Nat):Nat:=if M=0 then (wrap64 (R:Int)).natAbs else R%M
def rS (M R:Nat):Bool:=if M=0 then decide (wrap64 (R:Int)<0) else false
def rI (M R:Nat):Int:=if M=0 then wrap64 (R:Int) else ((R%M:Nat):Int)
theorem r_val (M R:Nat):sval (rF M R) (rS M R)=rI M R:=by
 unfold sval rF rS rI
 by_cases h:M=0
 ·rw [if_pos h,if_pos h,if_pos h]
  by_cases c:wrap64 (R:Int)<0
  ·rw [decide_eq_true c,if_pos rfl];omega
  ·rw [decide_eq_false c,if_neg (by simp)];omega
 ·rw [if_neg h,if_neg h,if_neg h,if_neg (by simp)]
theorem rF_rng {M R:Nat} (hM:U64 M) (hR:U64 R):rF M R<18446744073709551616:=by
 unfold rF;unfold U64 at *
 by_cases h:M=0
 ·rw [if_pos h];have:=wrap64_in (R:Int);unfold In64 at this;omega
 ·rw [if_neg h];have:=Nat.mod_le R M;omega
def restN (f:Nat) (s:Bool) (m:Nat):Nat:=if s=true/\f%m≠0 then m-f%m else f%m
theorem restN_lt {f:Nat} {s:Bool} {m:Nat} (hm:0<m):restN f s m<m:=by
 unfold restN;have:=Nat.mod_lt f hm;split<;>omega
theorem restN_val {f:Nat} {s:Bool} {m:Nat} (hm:0<m):(restN f s m:Int)=sval f s%(m:Int):=by
 have hl:=Nat.mod_lt f hm
 have e:(f:Int)=(m:Int)*((f/m:Nat):Int)+((f%m:Nat):Int):=by
  have:=(Nat.div_add_mod f m).symm
  exact_mod_cast this
 unfold restN sval
 cases s with
 | false=>simp
 | true =>
  simp only [if_true,true_and]
  by_cases h0:f%m=0
  ·rw [if_neg (by simp [h0]),h0]
   rw [h0] at e
   have e2 : -(f:Int)=(m:Int)*(-((f/m:Nat):Int)):=by rw [e];simp [Int.mul_neg]
   rw [e2,Int.mul_emod_right];rfl
  ·rw [if_pos h0]
   have e2 : -(f:Int)=((m-f%m:Nat):Int)+(m:Int)*(-((f/m:Nat):Int)-1):=by
    rw [Int.ofNat_sub (by omega),Int.mul_sub,Int.mul_one,Int.mul_neg]
    omega
   rw [e2,Int.add_mul_emod_self_left,Int.emod_eq_of_lt (by omega) (by omega)]
end
section
open Go.RowKit
def Ok (w0 w:World):Prop:=Below w0.heap.size w0 w
theorem Ok.refl (w:World):Ok w w:=Below.refl _ _
theorem Ok.step {w0 w w1:World} (h:Ok w0 w) (hb:Below w.heap.size w w1):Ok w0 w1:=Below.trans h (hb.mono (Below.size h))
theorem Ok.alloc {w0 w:World} (h:Ok w0 w) (o:Obj):Ok w0 (w.alloc o):=Below.alloc h (Below.size h) o
theorem Ok.draws {w0 w:World} (h:Ok w0 w) (n:Nat):Ok w0 (w.drewN n):=below_drewN h n
theorem Ok.set {w0 w:World} (h:Ok w0 w) {p:Addr} (hp:w0.heap.size<=p.block) (u:Value):Ok w0 (w.setCell p u):=Below.setCell h hp u
theorem Ok.le {w0 w:World} (h:Ok w0 w):w0.heap.size<=w.heap.size:=Below.size h
theorem retb {a b:Bool} (h:a=b):Ending.returned (.bool a)=.returned (.bool b):=by rw [h]
theorem reti {l h:Int} {p:Int×Int} (e:p=(l,h)):Ending.returned (.agg #[.int .i64 l,.int .i64 h])=.returned (.agg #[.int .i64 p.1,.int .i64 p.2]):=by rw [e]
theorem retib {l h:Int} {b:Bool} {p:Int×Int×Bool} (e:p=(l,h,b)):Ending.returned (.tuple #[.agg #[.int .i64 l,.int .i64 h],.bool b])=.returned (.tuple #[.agg #[.int .i64 p.1,.int .i64 p.2.1],.bool p.2.2]):=by rw [e]
theorem heap_new0 (w:World) (o:Obj):(w.alloc o).heap[w.heap.size]?=some o:=by
 show (w.heap.push o)[w.heap.size]?=some o
 simp
theorem heap_at (w:World) (a:Obj) (g:Nat) (h:g=w.heap.size):(w.alloc a).heap[g]?=some a:=by subst h;exact heap_new0 _ _
theorem heap_past (w:World) (a:Obj) (g:Nat) {x:Option Obj} (h:g<w.heap.size) (e:w.heap[g]?=x):(w.alloc a).heap[g]?=x:=by rw [Below.heap_alloc _ _ _ h];exact e
theorem jj {p:Prop} (h:p:=by repeat (first | (refine heap_at _ _ _ ?hx; case hx => (first | (simp; done) | (simp; omega))) | (refine heap_past _ _ _ ?hy ?_; case hy => (first | (simp; done) | (simp; omega))) | fail)):p:=h
theorem Ok.row {w0 w:World} (h:Ok w0 w) {g:Nat} {x:Option Obj} (hg:g<w0.heap.size) (e:w0.heap[g]?=x):w.heap[g]?=x:=by rw [Below.block h g hg];exact e
theorem row_set2 {w:World} {g:Nat} {u v:Value} {t:TypeId} (hg:w.heap[g]?=some (.cells #[u,v] t (0,0))) (x y:Value):((w.setCell ⟨g,0,none⟩ x).setCell ⟨g,1,none⟩ y).heap[g]?=some (.cells #[x,y] t (0,0)):=by
 have h1:=heap_setCell_same w g 0 _ t x hg
 have h2:=heap_setCell_same _ g 1 _ t y h1
 simpa using h2
theorem Ok.row' {w0 w:World} (h:Ok w0 w) {g:Nat} {o:Obj} (e:w0.heap[g]?=some o):w.heap[g]?=some o :=
 Ok.row h ((Array.getElem?_eq_some_iff.1 e).1) e
theorem lt_row {w:World} {g:Nat} {o:Obj} (e:w.heap[g]?=some o):g<w.heap.size:=(Array.getElem?_eq_some_iff.1 e).1
theorem row_facts {w:World} {g:Nat} {u v:Value} {t:TypeId} (h:w.heap[g]?=some (.cells #[u,v] t (0,0))) :
  w.cell? ⟨g,0,none⟩=some u/\w.cell? ⟨g,1,none⟩=some v/\w.frozen? ⟨g,0,none⟩=false/\w.frozen? ⟨g,1,none⟩=false:=by
 refine ⟨?_,?_,frozen_of_row _ _ _ _ _ h,frozen_of_row _ _ _ _ _ h⟩
 ·exact (cell_of_row _ _ 0 _ _ _ h).trans (by simp)
 ·exact (cell_of_row _ _ 1 _ _ _ h).trans (by simp)
theorem Ok.cell {w0 w:World} (h:Ok w0 w) {p:Addr} {v:Value} (hp:p.block<w0.heap.size) (e:w0.cell? p=some v):w.cell? p=some v:=by rw [Below.cell h hp];exact e
theorem results_iv {P:Program} {fn:Func} {p u:Tmp} {ty:TypeId} (h:fn.results=#[.cell p ty,.tmp u]) (tmps:Array Value) (w:World) (g:Nat) (t:TypeId) (cs:Array Value) (fr:Nat×Nat) (d:TypeDesc)
  (hp:tmps.getD p undef=.pointer (some ⟨g,0,none⟩)) (hg:w.heap[g]?=some (.cells cs t fr))
  (hu:P.underlying ty=some d) (hd:(match d with | .struct _ | .array _ _=>true | _=>false)=true) (hi:(P.info? ty).map (·.size)=some cs.size) :
  (results fn tmps).run P w=.ok (.tuple #[.agg cs,tmps.getD u undef]) w:=by
 have hp':tmps[p]?.getD undef=.pointer (some ⟨g,0,none⟩):=by simpa using hp
 rw [results_cell_tmp h]
 simp [hp',asAddr,run_loadVar_row w g t ty cs fr d hg hu hd hi,Result.andThen]
theorem results_2c {P:Program} {fn:Func} {p q:Tmp} {ty:TypeId} (h:fn.results=#[.cell p ty,.cell q ty]) (tmps:Array Value) (w:World) (g k:Nat) (t:TypeId) (cs ds:Array Value) (fr:Nat×Nat) (d:TypeDesc)
  (hp:tmps.getD p undef=.pointer (some ⟨g,0,none⟩)) (hq:tmps.getD q undef=.pointer (some ⟨k,0,none⟩)) (hg:w.heap[g]?=some (.cells cs t fr)) (hk:w.heap[k]?=some (.cells ds t fr))
  (hu:P.underlying ty=some d) (hd:(match d with | .struct _ | .array _ _=>true | _=>false)=true) (hi:(P.info? ty).map (·.size)=some cs.size) (hi2:(P.info? ty).map (·.size)=some ds.size) :
  (results fn tmps).run P w=.ok (.tuple #[.agg cs,.agg ds]) w:=by
 have hp':tmps[p]?.getD undef=.pointer (some ⟨g,0,none⟩):=by simpa using hp
 have hq':tmps[q]?.getD undef=.pointer (some ⟨k,0,none⟩):=by simpa using hq
 simp only [results,h]
 simp [Sem.run_bind,Result.andThen,hp',hq',asAddr,run_loadVar_row w g t ty cs fr d hg hu hd hi,run_loadVar_row w k t ty ds fr d hk hu hd hi2]
end
end Go.Proofs.YtnjmjnmhldhaoaaGreat
