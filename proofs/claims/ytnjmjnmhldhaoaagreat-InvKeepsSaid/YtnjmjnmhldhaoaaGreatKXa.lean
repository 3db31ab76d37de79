import Derived.Deep.Cut
import Derived.Deep.CutRange
import Derived.Test.YtnjmjnmhldhaoaaGreatKNm
import Derived.Test.YtnjmjnmhldhaoaaGreatKNpn
import Derived.Test.YtnjmjnmhldhaoaaGreatKNu
import Derived.Test.YtnjmjnmhldhaoaaGreatKRn
import Derived.Test.YtnjmjnmhldhaoaaGreatKVg
set_option linter.all false
namespace Go.Proofs.YtnjmjnmhldhaoaaGreat
section
open Go.RowKit
theorem norm_const {x:Int} (hx:In64 x):normN (constN x)=constN x:=normN_id (const_raw hx) (const_norm hx)
def apN (op:Int) (a b:Int×Int×Nat×Nat×Bool):Int×Int×Nat×Nat×Bool :=
 if op=1 then ap2 neg2N (normN a) (normN a) else if op=3 then ap2 addN (normN a) (normN b) else if op=4 then ap2 subN (normN a) (normN b) else if op=5 then ap2 mulN (normN a) (normN b) else if op=6 then ap2 divN (normN a) (nonZeroN b) else ap2 remN (normN a) (nonZeroN b)
def doneV (op x y:Int):Int:=if op=1 then wrap64 (-x) else if op=3 then wrap64 (x+y) else if op=4 then wrap64 (x-y) else if op=5 then wrap64 (x*y) else if y=0 then 0 else if op=6 then (if y = -1 then wrap64 (-x) else x.tdiv y) else if y = -1 then 0 else x.tmod y
def doneB (op y:Int):Bool:=if op=1\/op=3\/op=4\/op=5 then true else !(decide (y=0))
def Op6 (op:Int):Prop:=op=1\/op=3\/op=4\/op=5\/op=6\/op=7
theorem apN_raw {op:Int} (ho:Op6 op) {a b:Int×Int×Nat×Nat×Bool} (ha:RawN a) (hb:RawN b):RawN (apN op a b):=by
 have p:=normN_raw ha
 have q:=normN_raw hb
 have z:=nonZeroN_raw hb
 rcases ho with rfl | rfl | rfl | rfl | rfl | rfl
 ·exact ap2_raw (negN_raw p)
 ·exact ap2_raw (addN_raw p q)
 ·exact ap2_raw (subN_raw p q)
 ·exact ap2_raw (mulN_raw p q)
 ·exact ap2_raw (divN_raw p z)
 ·exact ap2_raw (remN_raw p z)
theorem nz_mem {b:Int×Int×Nat×Nat×Bool} (hb:RawN b) {y:Int} (h:MemN (normN b) y) (h0:y≠0):MemN (nonZeroN b) y:=by
 unfold nonZeroN
 exact (nzRaw_mem (normN_raw hb) (mem_in (normN_raw hb) h)).2 ⟨h,fun c=>absurd c h0⟩
theorem tmod_m1 (x:Int):x.tmod (-1)=0:=by rw [Int.tmod_neg,Int.tmod_one]
theorem apN_mem {op:Int} (ho:Op6 op) {a b:Int×Int×Nat×Nat×Bool} (ha:RawN a) (hb:RawN b) {x y:Int} (hx:MemN (normN a) x) (hy:MemN (normN b) y) (h:doneB op y=true):MemN (apN op a b) (doneV op x y):=by
 have p:=normN_raw ha
 have q:=normN_raw hb
 have z:=nonZeroN_raw hb
 have ix:=mem_in p hx
 rcases ho with rfl | rfl | rfl | rfl | rfl | rfl
 ·show MemN (ap2 neg2N (normN a) (normN a)) (wrap64 (-x));rw [ap2_some hx.1 hx.1];exact negN_mem ix hx
 ·show MemN (ap2 addN (normN a) (normN b)) (wrap64 (x+y));rw [ap2_some hx.1 hy.1];exact addN_mem hx hy
 ·show MemN (ap2 subN (normN a) (normN b)) (wrap64 (x-y));rw [ap2_some hx.1 hy.1];exact subN_mem hx hy
 ·show MemN (ap2 mulN (normN a) (normN b)) (wrap64 (x*y));rw [ap2_some hx.1 hy.1];exact mulN_mem p q hx hy
 ·have h0:y≠0:=by intro c;rw [c] at h;exact absurd h (by decide)
  have m:=nz_mem hb hy h0
  show MemN (ap2 divN (normN a) (nonZeroN b)) (if y=0 then 0 else (if y = -1 then wrap64 (-x) else x.tdiv y))
  rw [ap2_some hx.1 m.1,if_neg h0,<-quo_minus ix]
  exact divN_mem p z hx m h0
 ·have h0:y≠0:=by intro c;rw [c] at h;exact absurd h (by decide)
  have m:=nz_mem hb hy h0
  show MemN (ap2 remN (normN a) (nonZeroN b)) (if y=0 then 0 else (if y = -1 then 0 else x.tmod y))
  rw [ap2_some hx.1 m.1,if_neg h0]
  have k:=remN_mem p z hx m h0
  split
  ·rename_i c;rw [c,tmod_m1] at k;exact k
  ·exact k
theorem doneV_in {op:Int} (ho:Op6 op) {x y:Int} (hx:In64 x):In64 (doneV op x y):=by
 rcases ho with rfl | rfl | rfl | rfl | rfl | rfl
 ·exact wrap64_in _
 ·exact wrap64_in _
 ·exact wrap64_in _
 ·exact wrap64_in _
 ·show In64 (if y=0 then 0 else (if y = -1 then wrap64 (-x) else x.tdiv y))
  split
  ·exact in_zero
  ·split
   ·exact wrap64_in _
   ·rename_i c;exact tdiv_in64 hx c
 ·show In64 (if y=0 then 0 else (if y = -1 then 0 else x.tmod y))
  split
  ·exact in_zero
  ·split
   ·exact in_zero
   ·rename_i h0 _;exact tmod_in hx h0
end
section
open Go.RowKit
theorem clip_mem (a b:Int) {v:Int} (hv:In64 v):MemN (clipN a b) v↔a<=v/\v<=b:=by
 unfold clipN
 have hv':=hv
 unfold In64 at hv'
 by_cases h:9223372036854775807<a\/b < -9223372036854775808
 ·rw [if_pos h]
  exact ⟨fun k=>absurd k (memN_bot v),fun k=>by omega⟩
 ·rw [if_neg h,make_mem (by unfold In64;split<;>omega) (by unfold In64;split<;>omega) hv]
  constructor
  ·intro k;have k1:=k.1;have k2:=k.2.1;split at k1<;>split at k2<;>omega
  ·intro k;exact ⟨by split<;>omega,by split<;>omega,all_mem v⟩
end
section
open Go.RowKit
def stepV (v w:Int):Int:=wrap64 (w*wrap64 (2-wrap64 (v*w)))
def invV (v:Int):Int:=stepV v (stepV v (stepV v (stepV v (stepV v v))))
theorem w64_ex (n:Int):∃ k:Int,wrap64 n=n+k*18446744073709551616:=⟨-((n+9223372036854775808)/18446744073709551616),by unfold wrap64;omega⟩
theorem w64_eq {x u:Int} (hu:In64 u) (h:∃ k:Int,x=u+k*18446744073709551616):wrap64 x=u:=by
 obtain ⟨k,rfl⟩:=h
 unfold In64 at hu
 unfold wrap64
 omega
theorem step_dvd {v w K L:Int} (h:K ∣ v*w-1) (hL:L ∣ K*K) (h64:L ∣ 18446744073709551616):L ∣ v*stepV v w-1:=by
 obtain ⟨c,hc⟩:=h
 obtain ⟨a,ha⟩:=w64_ex (v*w)
 obtain ⟨b,hb⟩:=w64_ex (2-wrap64 (v*w))
 obtain ⟨d,hd⟩:=w64_ex (w*wrap64 (2-wrap64 (v*w)))
 obtain ⟨t,ht⟩:∃ t,t=v*w:=⟨_,rfl⟩
 have e1:stepV v w=w*(2-t)+w*((b-a)*18446744073709551616)+d*18446744073709551616:=by
  unfold stepV
  rw [hd,hb,ha,<-ht,<-Int.mul_add]
  congr 2
  rw [Int.sub_mul]
  omega
 have e2:v*stepV v w-1 = -((t-1)*(t-1))+(t*(b-a)+v*d)*18446744073709551616:=by
  rw [e1,Int.mul_add,Int.mul_add,<-Int.mul_assoc v w,<-Int.mul_assoc v w,<-ht,Int.add_mul,Int.mul_assoc t,Int.mul_assoc v d,Int.mul_sub t 2 t,Int.sub_mul t 1 (t-1),Int.mul_sub t t 1]
  omega
 rw [e2]
 refine Int.dvd_add (Int.dvd_neg.2 ?_) (Int.dvd_trans h64 (Int.dvd_mul_left _ _))
 rw [ht,hc]
 refine Int.dvd_trans hL ⟨c*c,?_⟩
 rw [Int.mul_assoc,Int.mul_left_comm c K c,<-Int.mul_assoc]
theorem odd_sq {v:Int} (h:v%2=1):(8:Int) ∣ v*v-1:=by
 obtain ⟨q,r,hv,hr⟩:∃ q r:Int,v=8*q+r/\(r=1\/r=3\/r=5\/r=7):=⟨v/8,v%8,by omega,by omega⟩
 have e:v*v=8*(q*v)+r*v:=by
  have:v*v=(8*q+r)*v:=by rw [<-hv]
  rw [this,Int.add_mul,Int.mul_assoc]
 have e2:r*v=8*(r*q)+r*r:=by rw [hv,Int.mul_add,Int.mul_left_comm]
 rw [e,e2]
 rcases hr with rfl | rfl | rfl | rfl<;>omega
theorem inv_dvd {v:Int} (h:v%2=1):(18446744073709551616:Int) ∣ v*invV v-1:=by
 have s0:=odd_sq h
 have s1:=step_dvd (L:=64) s0 (by decide) (by decide)
 have s2:=step_dvd (L:=4096) s1 (by decide) (by decide)
 have s3:=step_dvd (L:=16777216) s2 (by decide) (by decide)
 have s4:=step_dvd (L:=281474976710656) s3 (by decide) (by decide)
 exact step_dvd (L:=18446744073709551616) s4 (by decide) (by decide)
theorem inv_in (v:Int):In64 (invV v):=wrap64_in _
theorem mul_inv {u v:Int} (hu:In64 u) (h:v%2=1):wrap64 (wrap64 (u*v)*invV v)=u:=by
 obtain ⟨c,hc⟩:=inv_dvd h
 obtain ⟨a,ha⟩:=w64_ex (u*v)
 refine w64_eq hu ⟨u*c+a*invV v,?_⟩
 rw [ha,Int.add_mul,Int.mul_assoc u v,show v*invV v=1+18446744073709551616*c by omega,Int.mul_add,Int.mul_one,Int.add_mul (u*c),Int.mul_right_comm a,Int.mul_left_comm u,Int.mul_comm (u*c)]
 omega
theorem tmod2 {v:Int}:v.tmod 2≠0↔v%2=1:=by
 rw [Int.tmod_eq_emod]
 split<;>omega
theorem mul_btw {l h u v:Int} (h1:l<=u) (h2:u<=h):(l*v<=u*v/\u*v<=h*v)\/(h*v<=u*v/\u*v<=l*v):=by
 rcases Int.le_total 0 v with c | c
 ·exact Or.inl ⟨Int.mul_le_mul_of_nonneg_right h1 c,Int.mul_le_mul_of_nonneg_right h2 c⟩
 ·exact Or.inr ⟨Int.mul_le_mul_of_nonpos_right h2 c,Int.mul_le_mul_of_nonpos_right h1 c⟩
def lowP (a b c d:Int):Int:=min (min (a*c) (a*d)) (min (b*c) (b*d))
def highP (a b c d:Int):Int:=max (max (a*c) (a*d)) (max (b*c) (b*d))
theorem mulP_btw {al ah bl bh u v:Int} (h1:al<=u) (h2:u<=ah) (h3:bl<=v) (h4:v<=bh):lowP al ah bl bh<=u*v/\u*v<=highP al ah bl bh:=by
 have e:=mul_btw (v:=v) h1 h2
 have f:=mul_btw (v:=al) h3 h4
 have g:=mul_btw (v:=ah) h3 h4
 rw [Int.mul_comm bl al,Int.mul_comm v al,Int.mul_comm bh al] at f
 rw [Int.mul_comm bl ah,Int.mul_comm v ah,Int.mul_comm bh ah] at g
 unfold lowP highP
 omega
def wrapsP (a b:Int×Int×Nat×Nat×Bool):Bool:=decide (¬(In64 (a.1*b.1)/\In64 (a.1*b.2.1)/\In64 (a.2.1*b.1)/\In64 (a.2.1*b.2.1)))
theorem wraps_not {a b:Int×Int×Nat×Nat×Bool} {u v:Int} (mu:MemN a u) (mv:MemN b v) (h:wrapsP a b=false):In64 (u*v):=by
 unfold wrapsP at h
 have h':=of_decide_eq_false h
 have h2:=Decidable.not_not.1 h'
 have c:=mulP_btw mu.2.1 mu.2.2.1 mv.2.1 mv.2.2.1
 unfold lowP highP at c
 unfold In64 at h2 ⊢
 omega
def facA (a o c:Int×Int×Nat×Nat×Bool):Int×Int×Nat×Nat×Bool:=if oneN o=true/\o.1.tmod 2≠0 then meetN a (apN 5 c (constN (invV o.1))) else a
def facN (a o c:Int×Int×Nat×Nat×Bool) (wr:Bool):Int×Int×Nat×Nat×Bool:=if wr=false/\insN o 0=false then meetN (facA a o c) (apN 6 c o) else facA a o c
theorem op5:Op6 5:=Or.inr (Or.inr (Or.inr (Or.inl rfl)))
theorem op6':Op6 6:=Or.inr (Or.inr (Or.inr (Or.inr (Or.inl rfl))))
theorem facA_raw {a o c:Int×Int×Nat×Nat×Bool} (ha:RawN a) (ho:RawN o) (hc:RawN c):RawN (facA a o c):=by
 unfold facA
 split
 ·exact meetN_raw ha (apN_raw op5 hc (const_raw (inv_in _)))
 ·exact ha
theorem facN_raw {a o c:Int×Int×Nat×Nat×Bool} (ha:RawN a) (ho:RawN o) (hc:RawN c) (wr:Bool):RawN (facN a o c wr):=by
 unfold facN
 split
 ·exact meetN_raw (facA_raw ha ho hc) (apN_raw op6' hc ho)
 ·exact facA_raw ha ho hc
theorem facA_sub {a o c:Int×Int×Nat×Nat×Bool} (ha:RawN a) (ho:RawN o) (hc:RawN c) {u:Int} (hu:In64 u) (m:MemN (facA a o c) u):MemN a u:=by
 unfold facA at m
 split at m
 ·exact ((meetN_mem ha (apN_raw op5 hc (const_raw (inv_in _))) hu).1 m).1
 ·exact m
theorem facN_sub {a o c:Int×Int×Nat×Nat×Bool} (ha:RawN a) (ho:RawN o) (hc:RawN c) {wr:Bool} {u:Int} (hu:In64 u) (m:MemN (facN a o c wr) u):MemN a u:=by
 unfold facN at m
 split at m
 ·exact facA_sub ha ho hc hu ((meetN_mem (facA_raw ha ho hc) (apN_raw op6' hc ho) hu).1 m).1
 ·exact facA_sub ha ho hc hu m
theorem one_mem {o:Int×Int×Nat×Nat×Bool} (h:oneN o=true) {v:Int} (m:MemN o v):v=o.1:=by
 unfold oneN at h
 rw [Bool.and_eq_true,decide_eq_true_eq] at h
 have a:=m.2.1;have b:=m.2.2.1;have c:=h.2
 omega
theorem facN_keep {a o c:Int×Int×Nat×Nat×Bool} (ha:RawN a) (ho:RawN o) (no:NormN o) (hc:RawN c) (nc:NormN c) {wr:Bool} {u v:Int} (hu:In64 u) (hv:In64 v) (mu:MemN a u) (mv:MemN o v) (mc:MemN c (wrap64 (u*v))) (hw:wr=false->In64 (u*v)):MemN (facN a o c wr) u:=by
 have nco:=normN_id hc nc
 have noo:=normN_id ho no
 have mA:MemN (facA a o c) u:=by
  unfold facA
  split
  ·rename_i k
   have e:=one_mem k.1 mv
   have ri:=const_raw (inv_in o.1)
   refine (meetN_mem ha (apN_raw op5 hc ri) hu).2 ⟨mu,?_⟩
   have m:=apN_mem op5 hc ri (x:=wrap64 (u*v)) (y:=invV o.1) (by rw [nco];exact mc) (by rw [norm_const (inv_in _)];exact (const_mem (inv_in _)).2 rfl) rfl
   have d:doneV 5 (wrap64 (u*v)) (invV o.1)=wrap64 (wrap64 (u*v)*invV o.1):=rfl
   rw [d,<-e,mul_inv hu (tmod2.1 (by rw [e];exact k.2))] at m
   rw [<-e];exact m
  ·exact mu
 unfold facN
 split
 ·rename_i k
  have v0:v≠0:=by
   rintro rfl
   have:=(insN_iff ho in_zero).2 mv
   rw [k.2] at this;cases this
  have i:=hw k.1
  refine (meetN_mem (facA_raw ha ho hc) (apN_raw op6' hc ho) hu).2 ⟨mA,?_⟩
  rw [wrap64_id i] at mc
  have m:=apN_mem op6' hc ho (x:=u*v) (y:=v) (by rw [nco];exact mc) (by rw [noo];exact mv) (by show (!(decide (v=0)))=true;simpa using v0)
  have d:doneV 6 (u*v) v=u:=by
   show (if v=0 then 0 else if v = -1 then wrap64 (-(u*v)) else (u*v).tdiv v)=u
   rw [if_neg v0]
   split
   ·rename_i e;rw [e,show -(u * -1)=u by omega];exact wrap64_id hu
   ·exact Int.mul_tdiv_cancel _ v0
  rw [d] at m;exact m
 ·exact mA
def facsN (a b c:Int×Int×Nat×Nat×Bool):(Int×Int×Nat×Nat×Bool)×(Int×Int×Nat×Nat×Bool):=if a.2.2.2.2=true\/b.2.2.2.2=true then (a,b) else (facN a b c (wrapsP a b),facN b a c (wrapsP a b))
def factsN (a b c:Int×Int×Nat×Nat×Bool):(Int×Int×Nat×Nat×Bool)×(Int×Int×Nat×Nat×Bool):=if insN c 0=true then facsN a b c else facsN (nonZeroN a) (nonZeroN b) c
theorem facsN_raw {a b c:Int×Int×Nat×Nat×Bool} (ha:RawN a) (hb:RawN b) (hc:RawN c):RawN (facsN a b c).1/\RawN (facsN a b c).2:=by
 unfold facsN;split
 ·exact ⟨ha,hb⟩
 ·exact ⟨facN_raw ha hb hc _,facN_raw hb ha hc _⟩
theorem facsN_sub {a b c:Int×Int×Nat×Nat×Bool} (ha:RawN a) (hb:RawN b) (hc:RawN c) {u:Int} (hu:In64 u):(MemN (facsN a b c).1 u->MemN a u)/\(MemN (facsN a b c).2 u->MemN b u):=by
 unfold facsN;split
 ·exact ⟨fun h=>h,fun h=>h⟩
 ·exact ⟨facN_sub ha hb hc hu,facN_sub hb ha hc hu⟩
theorem facsN_keep {a b c:Int×Int×Nat×Nat×Bool} (ha:RawN a) (na:NormN a) (hb:RawN b) (nb:NormN b) (hc:RawN c) (nc:NormN c) {u v:Int} (hu:In64 u) (hv:In64 v) (mu:MemN a u) (mv:MemN b v) (mc:MemN c (wrap64 (u*v))):MemN (facsN a b c).1 u/\MemN (facsN a b c).2 v:=by
 unfold facsN
 rw [if_neg (by rintro (k | k);(· rw [mu.1] at k;cases k);(· rw [mv.1] at k;cases k))]
 refine ⟨facN_keep ha hb nb hc nc hu hv mu mv mc (wraps_not mu mv),facN_keep hb ha na hc nc hv hu mv mu (by rw [Int.mul_comm];exact mc) (fun h=>by rw [Int.mul_comm];exact wraps_not mu mv h)⟩
theorem nzv {c:Int×Int×Nat×Nat×Bool} (hc:RawN c) (h:¬insN c 0=true) {z:Int} (m:MemN c z):z≠0:=by
 rintro rfl
 exact h ((insN_iff hc in_zero).2 m)
theorem factsN_keep {a b c:Int×Int×Nat×Nat×Bool} (ha:RawN a) (na:NormN a) (hb:RawN b) (nb:NormN b) (hc:RawN c) (nc:NormN c) {u v:Int} (hu:In64 u) (hv:In64 v) (mu:MemN a u) (mv:MemN b v) (mc:MemN c (wrap64 (u*v))):MemN (factsN a b c).1 u/\MemN (factsN a b c).2 v:=by
 unfold factsN
 split
 ·exact facsN_keep ha na hb nb hc nc hu hv mu mv mc
 ·rename_i k
  have z:=nzv hc k mc
  have u0:u≠0:=by rintro rfl;apply z;rw [Int.zero_mul];exact wrap64_id in_zero
  have v0:v≠0:=by rintro rfl;apply z;rw [Int.mul_zero];exact wrap64_id in_zero
  exact facsN_keep (nonZeroN_raw ha) (nonZeroN_norm ha) (nonZeroN_raw hb) (nonZeroN_norm hb) hc nc hu hv (nz_mem ha (by rw [normN_id ha na];exact mu) u0) (nz_mem hb (by rw [normN_id hb nb];exact mv) v0) mc
theorem nz_sub {a:Int×Int×Nat×Nat×Bool} (ha:RawN a) {u:Int} (hu:In64 u) (m:MemN (nonZeroN a) u):MemN a u:=by
 unfold nonZeroN at m
 exact (normN_mem ha hu).1 ((nzRaw_mem (normN_raw ha) hu).1 m).1
theorem factsN_sub {a b c:Int×Int×Nat×Nat×Bool} (ha:RawN a) (hb:RawN b) (hc:RawN c) {u:Int} (hu:In64 u):(MemN (factsN a b c).1 u->MemN a u)/\(MemN (factsN a b c).2 u->MemN b u):=by
 unfold factsN
 split
 ·exact facsN_sub ha hb hc hu
 ·have s:=facsN_sub (nonZeroN_raw ha) (nonZeroN_raw hb) hc hu
  exact ⟨fun h=>nz_sub ha hu (s.1 h),fun h=>nz_sub hb hu (s.2 h)⟩
theorem factsN_raw {a b c:Int×Int×Nat×Nat×Bool} (ha:RawN a) (hb:RawN b) (hc:RawN c):RawN (factsN a b c).1/\RawN (factsN a b c).2:=by
 unfold factsN
 split
 ·exact facsN_raw ha hb hc
 ·exact facsN_raw (nonZeroN_raw ha) (nonZeroN_raw hb) hc
end
end Go.Proofs.YtnjmjnmhldhaoaaGreat
