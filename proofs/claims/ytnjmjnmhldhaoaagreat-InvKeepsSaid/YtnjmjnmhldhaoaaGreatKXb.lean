import Derived.Deep.RegionHeld3
import Derived.Test.YtnjmjnmhldhaoaaGreatKJm
import Derived.Test.YtnjmjnmhldhaoaaGreatKKa
import Derived.Test.YtnjmjnmhldhaoaaGreatKNd
import Derived.Test.YtnjmjnmhldhaoaaGreatKRn
import Derived.Test.YtnjmjnmhldhaoaaGreatKVb
import Derived.Test.YtnjmjnmhldhaoaaGreatKVg
import Derived.Test.YtnjmjnmhldhaoaaGreatKXa
set_option maxHeartbeats 8000000
set_option linter.all false
namespace Go.Proofs.YtnjmjnmhldhaoaaGreat
section
open Go.RowKit
def absI (v:Int):Int:=if v<0 then -v else v
theorem abs_max (v:Int):absI v=max v (-v):=by unfold absI;split<;>omega
theorem abs_btw {l h v:Int} (h1:l<=v) (h2:v<=h):absI v<=max (absI l) (absI h):=by simp only [abs_max];omega
def divdN (a b c:Int×Int×Nat×Nat×Bool):(Int×Int×Nat×Nat×Bool)×(Int×Int×Nat×Nat×Bool) :=
 if b.2.2.2.2=true\/(insN a (-9223372036854775808)=true/\insN b (-1)=true/\insN c (-9223372036854775808)=true) then (a,b)
 else (meetN a (clipN (lowP c.1 c.2.1 b.1 b.2.1-(max (absI b.1) (absI b.2.1)-1)) (highP c.1 c.2.1 b.1 b.2.1+(max (absI b.1) (absI b.2.1)-1))),b)
theorem divdN_raw {a b c:Int×Int×Nat×Nat×Bool} (ha:RawN a) (hb:RawN b):RawN (divdN a b c).1/\RawN (divdN a b c).2:=by
 unfold divdN;split
 ·exact ⟨ha,hb⟩
 ·exact ⟨meetN_raw ha (clip_raw _ _),hb⟩
theorem divdN_sub {a b c:Int×Int×Nat×Nat×Bool} (ha:RawN a) {u:Int} (hu:In64 u):(MemN (divdN a b c).1 u->MemN a u)/\(MemN (divdN a b c).2 u->MemN b u):=by
 unfold divdN;split
 ·exact ⟨fun h=>h,fun h=>h⟩
 ·exact ⟨fun h=>((meetN_mem ha (clip_raw _ _) hu).1 h).1,fun h=>h⟩
theorem tdiv_rest (u v:Int) (h0:v≠0):∃ r:Int,u=u.tdiv v*v+r /\ -(absI v-1)<=r/\r<=absI v-1:=by
 have h:=Int.mul_tdiv_add_tmod u v
 rw [Int.mul_comm] at h
 have b:(u.tmod v).natAbs<v.natAbs:=by rw [Int.natAbs_tmod];exact Nat.mod_lt _ (by omega)
 refine ⟨u.tmod v,h.symm,?_,?_⟩<;>(rw [abs_max];omega)
theorem divdN_keep {a b c:Int×Int×Nat×Nat×Bool} (ha:RawN a) (hb:RawN b) (hc:RawN c) {u v:Int} (hu:In64 u) (hv:In64 v) (mu:MemN a u) (mv:MemN b v) (h0:v≠0) (mc:MemN c (doneV 6 u v)):MemN (divdN a b c).1 u/\MemN (divdN a b c).2 v:=by
 unfold divdN
 split
 ·exact ⟨mu,mv⟩
 ·rename_i k
  refine ⟨(meetN_mem ha (clip_raw _ _) hu).2 ⟨mu,(clip_mem _ _ hu).2 ?_⟩,mv⟩
  have d:doneV 6 u v=u.tdiv v:=by
   show (if v=0 then 0 else if v = -1 then wrap64 (-u) else u.tdiv v)=u.tdiv v
   rw [if_neg h0]
   split
   ·rename_i e
    subst e
    have nu:u ≠ -9223372036854775808:=by
     rintro rfl
     apply k
     refine Or.inr ⟨(insN_iff ha min_in).2 mu,(insN_iff hb hv).2 mv,(insN_iff hc min_in).2 ?_⟩
     have e2:doneV 6 (-9223372036854775808) (-1) = -9223372036854775808:=by
      show (if (-1:Int)=0 then (0:Int) else if (-1:Int) = -1 then wrap64 (-(-9223372036854775808)) else (-9223372036854775808:Int).tdiv (-1)) = -9223372036854775808
      rw [if_neg (by omega),if_pos rfl];unfold wrap64;omega
     rw [e2] at mc;exact mc
    rw [Int.tdiv_neg,Int.tdiv_one]
    exact wrap64_id (by unfold In64 at hu ⊢;omega)
   ·rfl
  rw [d] at mc
  obtain ⟨r,e,r1,r2⟩:=tdiv_rest u v h0
  have c1:=mulP_btw mc.2.1 mc.2.2.1 mv.2.1 mv.2.2.1
  have c2:=abs_btw mv.2.1 mv.2.2.1
  omega
def beyN (b:Int×Int×Nat×Nat×Bool) (k:Int):Int×Int×Nat×Nat×Bool :=
 if 0<b.1 then meetN b (clipN (k+1) 9223372036854775807) else if b.2.1<0 then meetN b (clipN (-9223372036854775808) (-k-1)) else b
theorem beyN_raw {b:Int×Int×Nat×Nat×Bool} (hb:RawN b) (k:Int):RawN (beyN b k):=by
 unfold beyN;split
 ·exact meetN_raw hb (clip_raw _ _)
 ·split
  ·exact meetN_raw hb (clip_raw _ _)
  ·exact hb
theorem beyN_sub {b:Int×Int×Nat×Nat×Bool} (hb:RawN b) {k v:Int} (hv:In64 v) (m:MemN (beyN b k) v):MemN b v:=by
 unfold beyN at m;split at m
 ·exact ((meetN_mem hb (clip_raw _ _) hv).1 m).1
 ·split at m
  ·exact ((meetN_mem hb (clip_raw _ _) hv).1 m).1
  ·exact m
theorem beyN_keep {b:Int×Int×Nat×Nat×Bool} (hb:RawN b) {k v:Int} (hv:In64 v) (m:MemN b v) (h:k<absI v):MemN (beyN b k) v:=by
 have m1:=m.2.1;have m2:=m.2.2.1
 have hv':=hv
 unfold In64 at hv'
 rw [abs_max] at h
 unfold beyN;split
 ·refine (meetN_mem hb (clip_raw _ _) hv).2 ⟨m,(clip_mem _ _ hv).2 ⟨by omega,by omega⟩⟩
 ·split
  ·exact (meetN_mem hb (clip_raw _ _) hv).2 ⟨m,(clip_mem _ _ hv).2 ⟨by omega,by omega⟩⟩
  ·exact m
def gcdS (v:Int) (M:Nat):Nat:=Nat.gcd v.natAbs M
def clsN (a b c:Int×Int×Nat×Nat×Bool):Int×Int×Nat×Nat×Bool :=
 if oneN b=true then meetN a (makeN (-9223372036854775808) 9223372036854775807 (gcdS b.1 c.2.2.1) (c.1%(gcdS b.1 c.2.2.1:Int)).toNat) else a
def leavP (a b c:Int×Int×Nat×Nat×Bool):(Int×Int×Nat×Nat×Bool)×(Int×Int×Nat×Nat×Bool) :=
 if 0<c.1 then (meetN a (clipN c.1 9223372036854775807),beyN b (absI c.1)) else if c.2.1<0 then (meetN a (clipN (-9223372036854775808) c.2.1),beyN b (absI c.2.1)) else (a,b)
def leavN (a b c:Int×Int×Nat×Nat×Bool):(Int×Int×Nat×Nat×Bool)×(Int×Int×Nat×Nat×Bool) :=
 if b.2.2.2.2=true then (a,b) else (clsN (leavP a b c).1 (leavP a b c).2 c,(leavP a b c).2)
theorem leavP_raw {a b c:Int×Int×Nat×Nat×Bool} (ha:RawN a) (hb:RawN b):RawN (leavP a b c).1/\RawN (leavP a b c).2:=by
 unfold leavP;split
 ·exact ⟨meetN_raw ha (clip_raw _ _),beyN_raw hb _⟩
 ·split
  ·exact ⟨meetN_raw ha (clip_raw _ _),beyN_raw hb _⟩
  ·exact ⟨ha,hb⟩
theorem leavP_sub {a b c:Int×Int×Nat×Nat×Bool} (ha:RawN a) (hb:RawN b) {u:Int} (hu:In64 u):(MemN (leavP a b c).1 u->MemN a u)/\(MemN (leavP a b c).2 u->MemN b u):=by
 unfold leavP;split
 ·exact ⟨fun h=>((meetN_mem ha (clip_raw _ _) hu).1 h).1,beyN_sub hb hu⟩
 ·split
  ·exact ⟨fun h=>((meetN_mem ha (clip_raw _ _) hu).1 h).1,beyN_sub hb hu⟩
  ·exact ⟨fun h=>h,fun h=>h⟩
theorem tmod_abs {u v:Int} (h0:v≠0):absI (u.tmod v)<absI v/\absI (u.tmod v)<=absI u/\(0<u.tmod v->0<u)/\(u.tmod v<0->u<0):=by
 have b:(u.tmod v).natAbs<v.natAbs:=by rw [Int.natAbs_tmod];exact Nat.mod_lt _ (by omega)
 have c:(u.tmod v).natAbs<=u.natAbs:=by rw [Int.natAbs_tmod];exact Nat.mod_le _ _
 have s1:0<=u->0<=u.tmod v:=fun h=>Int.tmod_nonneg v h
 have s2:u<=0->u.tmod v<=0:=fun h=>by
  have k:=Int.tmod_nonneg v (show 0 <= -u by omega)
  rw [Int.neg_tmod] at k;omega
 refine ⟨?_,?_,?_,?_⟩
 ·simp only [abs_max];omega
 ·simp only [abs_max];omega
 ·intro h;rcases Int.le_total 0 u with k | k
  ·rcases Int.lt_or_eq_of_le k with k | k
   ·exact k
   ·rw [<-k,Int.zero_tmod] at h;omega
  ·have:=s2 k;omega
 ·intro h;rcases Int.le_total 0 u with k | k
  ·have:=s1 k;omega
  ·rcases Int.lt_or_eq_of_le k with k | k
   ·exact k
   ·rw [k,Int.zero_tmod] at h;omega
theorem leavP_keep {a b c:Int×Int×Nat×Nat×Bool} (ha:RawN a) (hb:RawN b) {u v:Int} (hu:In64 u) (hv:In64 v) (mu:MemN a u) (mv:MemN b v) (h0:v≠0) (mc:MemN c (u.tmod v)):MemN (leavP a b c).1 u/\MemN (leavP a b c).2 v:=by
 obtain ⟨t1,t2,t3,t4⟩:=tmod_abs (u:=u) h0
 have c1:=mc.2.1;have c2:=mc.2.2.1
 have hu':=hu
 unfold In64 at hu'
 unfold leavP;split
 ·rename_i k
  have p:=t3 (by omega)
  refine ⟨(meetN_mem ha (clip_raw _ _) hu).2 ⟨mu,(clip_mem _ _ hu).2 ⟨?_,by omega⟩⟩,beyN_keep hb hv mv ?_⟩
  ·simp only [abs_max] at t2;omega
  ·simp only [abs_max] at t1 ⊢;omega
 ·split
  ·rename_i k0 k
   have p:=t4 (by omega)
   refine ⟨(meetN_mem ha (clip_raw _ _) hu).2 ⟨mu,(clip_mem _ _ hu).2 ⟨by omega,?_⟩⟩,beyN_keep hb hv mv ?_⟩
   ·simp only [abs_max] at t2;omega
   ·simp only [abs_max] at t1 ⊢;omega
  ·exact ⟨mu,mv⟩
theorem gcdS_u64 {v:Int} (hv:In64 v) {M:Nat} (hM:U64 M):U64 (gcdS v M):=by
 unfold gcdS U64 at *
 unfold In64 at hv
 by_cases h:v=0
 ·subst h;simpa using hM
 ·have:=Nat.le_of_dvd (show 0<v.natAbs by omega) (Nat.gcd_dvd_left v.natAbs M)
  omega
theorem cls_rest_u64 {x v:Int} (hv:In64 v) {M:Nat} (hM:U64 M) (hx:In64 x):U64 (x%(gcdS v M:Int)).toNat:=by
 have g:=gcdS_u64 hv hM
 unfold U64 at *
 unfold In64 at hx
 rcases Nat.eq_zero_or_pos (gcdS v M) with h | h
 ·have e:gcdS v M=0:=h
  rw [e]
  have:x%((0:Nat):Int)=x:=Int.emod_zero x
  rw [this];omega
 ·have h1:=Int.emod_lt_of_pos x (show (0:Int)<(gcdS v M:Int) by omega)
  omega
theorem clsN_raw {a b c:Int×Int×Nat×Nat×Bool} (ha:RawN a) (hb:RawN b) (hc:RawN c):RawN (clsN a b c):=by
 unfold clsN;split
 ·exact meetN_raw ha (make_raw min_in max_in (gcdS_u64 hb.1 hc.2.2.1) (cls_rest_u64 hb.1 hc.2.2.1 hc.1))
 ·exact ha
theorem clsN_sub {a b c:Int×Int×Nat×Nat×Bool} (ha:RawN a) (hb:RawN b) (hc:RawN c) {u:Int} (hu:In64 u) (m:MemN (clsN a b c) u):MemN a u:=by
 unfold clsN at m;split at m
 ·exact ((meetN_mem ha (make_raw min_in max_in (gcdS_u64 hb.1 hc.2.2.1) (cls_rest_u64 hb.1 hc.2.2.1 hc.1)) hu).1 m).1
 ·exact m
theorem memC_gap {M R:Nat} {x y:Int} (h1:MemC M R x) (h2:MemC M R y):(M:Int) ∣ x-y:=by
 unfold MemC at h1 h2
 split at h1
 ·rename_i h
  rw [if_pos h] at h2
  rw [h1,h2,Int.sub_self];exact Int.dvd_zero _
 ·rename_i h
  rw [if_neg h] at h2
  exact Int.dvd_of_emod_eq_zero (by rw [Int.sub_emod,h1,h2,Int.sub_self];exact Int.zero_emod _)
theorem clsN_keep {a b c:Int×Int×Nat×Nat×Bool} (ha:RawN a) (hb:RawN b) (hc:RawN c) (nc:NormN c) {u v:Int} (hu:In64 u) (mu:MemN a u) (mv:MemN b v) (h0:v≠0) (mc:MemN c (u.tmod v)):MemN (clsN a b c) u:=by
 unfold clsN;split
 ·rename_i k
  have e:=one_mem k mv
  have g0:0<gcdS b.1 c.2.2.1:=by unfold gcdS;exact Nat.gcd_pos_of_pos_left _ (by omega)
  have rr:=make_raw min_in max_in (gcdS_u64 hb.1 hc.2.2.1) (cls_rest_u64 hb.1 hc.2.2.1 hc.1)
  have hu':=hu
  unfold In64 at hu'
  refine (meetN_mem ha rr hu).2 ⟨mu,(make_mem min_in max_in hu).2 ⟨by omega,by omega,?_⟩⟩
  obtain ⟨G,hG⟩:∃ G,G=gcdS b.1 c.2.2.1:=⟨_,rfl⟩
  rw [<-hG] at g0 ⊢
  have mcl:MemC c.2.2.1 c.2.2.2.1 c.1:=by
   rcases nc with rfl | n
   ·exact absurd mc (memN_bot _)
   ·exact n.2.2.2.2.1
  have d1:(G:Int) ∣ u.tmod v-c.1:=Int.dvd_trans (by rw [hG];unfold gcdS;exact Int.ofNat_dvd.2 (Nat.gcd_dvd_right _ _)) (memC_gap mc.2.2.2 mcl)
  have d2:(G:Int) ∣ v:=by
   rw [hG,e];unfold gcdS
   exact Int.dvd_trans (Int.ofNat_dvd.2 (Nat.gcd_dvd_left _ _)) (Int.natAbs_dvd.2 (Int.dvd_refl _))
  have d3:(G:Int) ∣ u-c.1:=by
   have h:=Int.mul_tdiv_add_tmod u v
   have:u-c.1=v*u.tdiv v+(u.tmod v-c.1):=by omega
   rw [this]
   exact Int.dvd_add (Int.dvd_trans d2 (Int.dvd_mul_right _ _)) d1
  have n0:=Int.emod_nonneg c.1 (show (G:Int)≠0 by omega)
  have n1:=Int.emod_lt_of_pos c.1 (show (0:Int)<(G:Int) by omega)
  unfold MemC
  rw [if_neg (by omega)]
  have e3:u%(G:Int)=c.1%(G:Int):=Int.emod_eq_emod_iff_emod_sub_eq_zero.2 (Int.emod_eq_zero_of_dvd d3)
  rw [e3,Nat.mod_eq_of_lt (by omega)]
  omega
 ·exact mu
theorem leavN_raw {a b c:Int×Int×Nat×Nat×Bool} (ha:RawN a) (hb:RawN b) (hc:RawN c):RawN (leavN a b c).1/\RawN (leavN a b c).2:=by
 have p:=leavP_raw (c:=c) ha hb
 unfold leavN;split
 ·exact ⟨ha,hb⟩
 ·exact ⟨clsN_raw p.1 p.2 hc,p.2⟩
theorem leavN_sub {a b c:Int×Int×Nat×Nat×Bool} (ha:RawN a) (hb:RawN b) (hc:RawN c) {u:Int} (hu:In64 u):(MemN (leavN a b c).1 u->MemN a u)/\(MemN (leavN a b c).2 u->MemN b u):=by
 have p:=leavP_raw (c:=c) ha hb
 have s:=leavP_sub (c:=c) ha hb hu
 unfold leavN;split
 ·exact ⟨fun h=>h,fun h=>h⟩
 ·exact ⟨fun h=>s.1 (clsN_sub p.1 p.2 hc hu h),s.2⟩
theorem leavN_keep {a b c:Int×Int×Nat×Nat×Bool} (ha:RawN a) (hb:RawN b) (hc:RawN c) (nc:NormN c) {u v:Int} (hu:In64 u) (hv:In64 v) (mu:MemN a u) (mv:MemN b v) (h0:v≠0) (mc:MemN c (u.tmod v)):MemN (leavN a b c).1 u/\MemN (leavN a b c).2 v:=by
 have p:=leavP_raw (c:=c) ha hb
 have k:=leavP_keep (c:=c) ha hb hu hv mu mv h0 mc
 unfold leavN
 rw [if_neg (by rw [mv.1];simp)]
 exact ⟨clsN_keep p.1 p.2 hc nc hu k.1 k.2 h0 mc,k.2⟩
end
section
open Go.RowKit
def solN (op:Int) (x y z:Int×Int×Nat×Nat×Bool):(Int×Int×Nat×Nat×Bool)×(Int×Int×Nat×Nat×Bool) :=
 if op=1 then (meetN x (apN 1 z z),topN) else if op=3 then (meetN x (apN 4 z y),meetN y (apN 4 z x)) else if op=4 then (meetN x (apN 3 z y),meetN y (apN 4 x z))
 else if op=5 then factsN x y z else if op=6 then divdN x (nonZeroN y) z else leavN x (nonZeroN y) z
def solA (op:Int) (x y z:Int×Int×Nat×Nat×Bool):(Int×Int×Nat×Nat×Bool)×(Int×Int×Nat×Nat×Bool) :=
 if x.2.2.2.2=true\/z.2.2.2.2=true\/(y.2.2.2.2=true/\op≠1) then (botN,botN) else ansN (solN op x y z).1 (solN op x y z).2
theorem op1:Op6 1:=Or.inl rfl
theorem op3:Op6 3:=Or.inr (Or.inl rfl)
theorem op4:Op6 4:=Or.inr (Or.inr (Or.inl rfl))
theorem solN_raw {op:Int} {x y z:Int×Int×Nat×Nat×Bool} (hx:RawN x) (hy:RawN y) (hz:RawN z):RawN (solN op x y z).1/\RawN (solN op x y z).2:=by
 unfold solN
 split
 ·exact ⟨meetN_raw hx (apN_raw op1 hz hz),top_raw⟩
 ·split
  ·exact ⟨meetN_raw hx (apN_raw op4 hz hy),meetN_raw hy (apN_raw op4 hz hx)⟩
  ·split
   ·exact ⟨meetN_raw hx (apN_raw op3 hz hy),meetN_raw hy (apN_raw op4 hx hz)⟩
   ·split
    ·exact factsN_raw hx hy hz
    ·split
     ·exact divdN_raw hx (nonZeroN_raw hy)
     ·exact leavN_raw hx (nonZeroN_raw hy) hz
theorem solN_sub {op:Int} {x y z:Int×Int×Nat×Nat×Bool} (hx:RawN x) (hy:RawN y) (hz:RawN z) {u:Int} (hu:In64 u):(MemN (solN op x y z).1 u->MemN x u)/\(op≠1->MemN (solN op x y z).2 u->MemN y u):=by
 unfold solN
 split
 ·rename_i h
  exact ⟨fun m=>((meetN_mem hx (apN_raw op1 hz hz) hu).1 m).1,fun k=>absurd h k⟩
 ·split
  ·exact ⟨fun m=>((meetN_mem hx (apN_raw op4 hz hy) hu).1 m).1,fun _ m=>((meetN_mem hy (apN_raw op4 hz hx) hu).1 m).1⟩
  ·split
   ·exact ⟨fun m=>((meetN_mem hx (apN_raw op3 hz hy) hu).1 m).1,fun _ m=>((meetN_mem hy (apN_raw op4 hx hz) hu).1 m).1⟩
   ·split
    ·exact ⟨(factsN_sub hx hy hz hu).1,fun _=>(factsN_sub hx hy hz hu).2⟩
    ·split
     ·exact ⟨(divdN_sub hx hu).1,fun _ m=>nz_sub hy hu ((divdN_sub (b:=nonZeroN y) (c:=z) hx hu).2 m)⟩
     ·exact ⟨(leavN_sub hx (nonZeroN_raw hy) hz hu).1,fun _ m=>nz_sub hy hu ((leavN_sub hx (nonZeroN_raw hy) hz hu).2 m)⟩
theorem back1 {u:Int} (hu:In64 u):wrap64 (-wrap64 (-u))=u:=by unfold wrap64;unfold In64 at hu;omega
theorem back3 {u v:Int} (hu:In64 u):wrap64 (wrap64 (u+v)-v)=u:=by unfold wrap64;unfold In64 at hu;omega
theorem back3' {u v:Int} (hv:In64 v):wrap64 (wrap64 (u+v)-u)=v:=by unfold wrap64;unfold In64 at hv;omega
theorem back4 {u v:Int} (hu:In64 u):wrap64 (wrap64 (u-v)+v)=u:=by unfold wrap64;unfold In64 at hu;omega
theorem back4' {u v:Int} (hv:In64 v):wrap64 (u-wrap64 (u-v))=v:=by unfold wrap64;unfold In64 at hv;omega
theorem done_rem {u v:Int} (h0:v≠0):doneV 7 u v=u.tmod v:=by
 show (if v=0 then 0 else (if v = -1 then 0 else u.tmod v))=u.tmod v
 rw [if_neg h0]
 split
 ·rename_i c;rw [c,tmod_m1]
 ·rfl
theorem solN_keep {op:Int} (ho:Op6 op) {x y z:Int×Int×Nat×Nat×Bool} (hx:RawN x) (nx:NormN x) (hy:RawN y) (ny:NormN y) (hz:RawN z) (nz:NormN z) {u v:Int} (hu:In64 u) (hv:In64 v) (mx:MemN x u) (my:op≠1->MemN y v) (hd:doneB op v=true) (mz:MemN z (doneV op u v)):MemN (solN op x y z).1 u/\(op≠1->MemN (solN op x y z).2 v):=by
 have ex:=normN_id hx nx
 have ey:=normN_id hy ny
 have ez:=normN_id hz nz
 rcases ho with rfl | rfl | rfl | rfl | rfl | rfl
 ·refine ⟨?_,fun k=>absurd rfl k⟩
  have m:=apN_mem op1 hz hz (by rw [ez];exact mz) (by rw [ez];exact mz) (x:=doneV 1 u v) (y:=doneV 1 u v) rfl
  have d:doneV 1 (doneV 1 u v) (doneV 1 u v)=u:=back1 hu
  rw [d] at m
  exact (meetN_mem hx (apN_raw op1 hz hz) hu).2 ⟨mx,m⟩
 ·have my:=my (by decide)
  have m1:=apN_mem op4 hz hy (x:=doneV 3 u v) (y:=v) (by rw [ez];exact mz) (by rw [ey];exact my) rfl
  have m2:=apN_mem op4 hz hx (x:=doneV 3 u v) (y:=u) (by rw [ez];exact mz) (by rw [ex];exact mx) rfl
  have d1:doneV 4 (doneV 3 u v) v=u:=back3 hu
  have d2:doneV 4 (doneV 3 u v) u=v:=back3' hv
  rw [d1] at m1
  rw [d2] at m2
  exact ⟨(meetN_mem hx (apN_raw op4 hz hy) hu).2 ⟨mx,m1⟩,fun _=>(meetN_mem hy (apN_raw op4 hz hx) hv).2 ⟨my,m2⟩⟩
 ·have my:=my (by decide)
  have m1:=apN_mem op3 hz hy (x:=doneV 4 u v) (y:=v) (by rw [ez];exact mz) (by rw [ey];exact my) rfl
  have m2:=apN_mem op4 hx hz (x:=u) (y:=doneV 4 u v) (by rw [ex];exact mx) (by rw [ez];exact mz) rfl
  have d1:doneV 3 (doneV 4 u v) v=u:=back4 hu
  have d2:doneV 4 u (doneV 4 u v)=v:=back4' hv
  rw [d1] at m1
  rw [d2] at m2
  exact ⟨(meetN_mem hx (apN_raw op3 hz hy) hu).2 ⟨mx,m1⟩,fun _=>(meetN_mem hy (apN_raw op4 hx hz) hv).2 ⟨my,m2⟩⟩
 ·have k:=factsN_keep hx nx hy ny hz nz hu hv mx (my (by decide)) (show MemN z (wrap64 (u*v)) from mz)
  exact ⟨k.1,fun _=>k.2⟩
 ·have h0:v≠0:=by intro c;rw [c] at hd;exact absurd hd (by decide)
  have k:=divdN_keep hx (nonZeroN_raw hy) hz hu hv mx (nz_mem hy (by rw [ey];exact my (by decide)) h0) h0 mz
  exact ⟨k.1,fun _=>k.2⟩
 ·have h0:v≠0:=by intro c;rw [c] at hd;exact absurd hd (by decide)
  rw [done_rem h0] at mz
  have k:=leavN_keep hx (nonZeroN_raw hy) hz nz hu hv mx (nz_mem hy (by rw [ey];exact my (by decide)) h0) h0 mz
  exact ⟨k.1,fun _=>k.2⟩
theorem solA_raw {op:Int} {x y z:Int×Int×Nat×Nat×Bool} (hx:RawN x) (hy:RawN y) (hz:RawN z):RawN (solA op x y z).1/\RawN (solA op x y z).2:=by
 have c:=solN_raw (op:=op) hx hy hz
 unfold solA
 split
 ·exact ⟨bot_raw,bot_raw⟩
 ·unfold ansN
  split
  ·exact ⟨bot_raw,bot_raw⟩
  ·exact c
theorem top_some:topN.2.2.2.2=false:=by kernel_rfl
theorem solA_leq {op:Int} {a b c:Int×Int×Nat×Nat×Bool} (ha:RawN a) (hb:RawN b) (hc:RawN c):lqN (solA op (normN a) (normN b) (normN c)).1 a=true/\(op≠1->lqN (solA op (normN a) (normN b) (normN c)).2 b=true):=by
 have p:=normN_raw ha;have q:=normN_raw hb;have r:=normN_raw hc
 have w:=solA_raw (op:=op) p q r
 have s:∀ u,In64 u->(MemN (solA op (normN a) (normN b) (normN c)).1 u->MemN (normN a) u)/\(op≠1->MemN (solA op (normN a) (normN b) (normN c)).2 u->MemN (normN b) u):=by
  intro u hu
  unfold solA
  split
  ·exact ⟨fun h=>absurd h (memN_bot u),fun _ h=>absurd h (memN_bot u)⟩
  ·unfold ansN
   split
   ·exact ⟨fun h=>absurd h (memN_bot u),fun _ h=>absurd h (memN_bot u)⟩
   ·exact solN_sub p q r hu
 exact ⟨(lqN_iff w.1 ha).2 fun u hu m=>(normN_mem ha hu).1 ((s u hu).1 m),fun k=>(lqN_iff w.2 hb).2 fun u hu m=>(normN_mem hb hu).1 ((s u hu).2 k m)⟩
theorem solA_has {op:Int} (ho:Op6 op) {a b c:Int×Int×Nat×Nat×Bool} (ha:RawN a) (hb:RawN b) (hc:RawN c) {u v:Int} (hu:In64 u) (hv:In64 v) (mx:insN a u=true) (my:op≠1->insN b v=true) (hd:doneB op v=true) (mz:insN c (doneV op u v)=true):insN (solA op (normN a) (normN b) (normN c)).1 u=true/\(op≠1->insN (solA op (normN a) (normN b) (normN c)).2 v=true):=by
 have p:=normN_raw ha;have q:=normN_raw hb;have r:=normN_raw hc
 have w:=solA_raw (op:=op) p q r
 have iz:=doneV_in ho (y:=v) hu
 have m1:=(normN_mem ha hu).2 ((insN_iff ha hu).1 mx)
 have m2:op≠1->MemN (normN b) v:=fun k=>(normN_mem hb hv).2 ((insN_iff hb hv).1 (my k))
 have m3:=(normN_mem hc iz).2 ((insN_iff hc iz).1 mz)
 have k:=solN_keep ho p (normN_norm ha) q (normN_norm hb) r (normN_norm hc) hu hv m1 m2 hd m3
 have e:solA op (normN a) (normN b) (normN c)=ansN (solN op (normN a) (normN b) (normN c)).1 (solN op (normN a) (normN b) (normN c)).2:=by
  unfold solA
  rw [if_neg]
  rintro (h | h | h)
  ·rw [m1.1] at h;cases h
  ·rw [m3.1] at h;cases h
  ·rw [(m2 h.2).1] at h;cases h.1
 rw [e] at w ⊢
 by_cases o1:op=1
 ·subst o1
  have t:(solN 1 (normN a) (normN b) (normN c)).2=topN:=rfl
  unfold ansN at w ⊢
  rw [t] at w ⊢
  rw [if_neg (by rintro (h | h);(· rw [k.1.1] at h;cases h);(· rw [top_some] at h;cases h))] at w ⊢
  exact ⟨(insN_iff w.1 hu).2 k.1,fun h=>absurd rfl h⟩
 ·have k2:=k.2 o1
  unfold ansN at w ⊢
  rw [if_neg (by rintro (h | h);(· rw [k.1.1] at h;cases h);(· rw [k2.1] at h;cases h))] at w ⊢
  exact ⟨(insN_iff w.1 hu).2 k.1,fun _=>(insN_iff w.2 hv).2 k2⟩
end
section
open Go.RowKit Go.Shelf
def itV (v:Int):Nat->Int
 | 0=>v
 | k+1=>stepV v (itV v k)
theorem vinverse_any (v:Int) (w0 w:World) (hok:Ok w0 w) :
  Calls Tryz.prog 162 #[.int .i64 v] w fun e w'=>e=.returned (.int .i64 (invV v))/\Ok w0 w':=by
 have HK0:Hid (Ok w0 w):=hok
 clear hok
 go_enter Tryz.func162,Tryz.ntmps162
 go_wp2_with fail
 go_loopw [3,5] (fun x i wr=>∃ k:Nat,k<=5/\i=.int .i64 (k:Int)/\x=.int .i64 (itV v k)/\Hid (Ok w0 wr)) (fun _ i _=>(5-intOf i).toNat)
 case atStart=>exact ⟨0,by omega,rfl,rfl,HK0⟩
 case round =>
  obtain ⟨k,hk,rfl,rfl,HK⟩:=hrel
  clear HK0
  obtain ⟨x,hx⟩:∃ x,x=itV v k:=⟨_,rfl⟩
  have HX:Hid (itV v (k+1)=stepV v x/\(k=5->x=invV v)):=by rw [hx];exact ⟨rfl,fun h=>by subst h;rfl⟩
  rw [<-hx]
  clear hx
  by_cases k5:k<5
  ·have k5i:(k:Int)<5:=by omega
   go_wp2_with fail
   refine (wmul_any v x w0 wr HK.out).mono ?_
   rintro e w1 ⟨rfl,hb⟩
   have H1:Hid (Ok w0 w1):=hb
   clear hb
   go_wp2_with fail
   refine (wsub_any 2 (wrap64 (v*x)) w0 w1 H1.out).mono ?_
   rintro e w2 ⟨rfl,hb⟩
   have H2:Hid (Ok w0 w2):=hb
   clear hb
   obtain ⟨y,hy⟩:∃ y,y=wrap64 (2-wrap64 (v*x)):=⟨_,rfl⟩
   have HY:Hid (itV v (k+1)=wrap64 (x*y)):=by unfold Hid;rw [HX.out.1,hy];rfl
   rw [<-hy]
   clear hy
   go_wp2_with fail
   refine (wmul_any x y w0 w2 H2.out).mono ?_
   rintro e w3 ⟨rfl,hb⟩
   have H3:Hid (Ok w0 w3):=hb
   clear hb
   rw [<-HY.out]
   go_wp2_with fail
   go_roundw
   case rel=>exact ⟨k+1,by omega,by simp,rfl,H3⟩
   case measure=>simp [intOf];omega
  ·have k5e:k=5:=by omega
   have HE:Hid (x=invV v):=HX.out.2 k5e
   subst k5e
   go_wp2_with fail
   go_ret
   exact ⟨by first | rfl | (rw [HE.out];rfl),HK.out⟩
theorem vproduct_any (x y:Int) (hx:In64 x) (hy:In64 y) (w0 w:World) (hok:Ok w0 w) :
  Calls Tryz.prog 161 #[.int .i64 x,.int .i64 y] w fun e w'=>e=.returned (wvv (x*y))/\Ok w0 w':=by
 have HU:Hid (In64 x/\In64 y):=⟨hx,hy⟩
 clear hx hy
 obtain ⟨z,hz⟩:∃ z,z=x*y:=⟨_,rfl⟩
 have HZ:Hid _:=hz
 rw [<-hz]
 clear hz
 go_enter Tryz.func161,Tryz.ntmps161
 go_wp2_with fail
 refine (pwide_any x y HU.out.1 HU.out.2 _).mono ?_
 rintro e w' ⟨rfl,rfl⟩
 rw [<-HZ.out]
 go_wp2_with fail
 (try simp only [Exit.inBlock, Exit.then]); refine bodyPost_ret (results_cell_row rfl _ _ (w.heap.size) 104 #[_, _] (0, 0) _ rfl jj Tryz.underlying104 rfl infoV) rfl ?_
 exact ⟨rfl,hok.alloc _⟩
end
section
open Go.RowKit Go.Shelf
theorem fits_is (z:Int):(hiW z==hiW (wrap64 (loW z))&&loW z==loW (wrap64 (loW z)))=decide (In64 z):=by
 have e:(hiW z=hiW (wrap64 (loW z))/\loW z=loW (wrap64 (loW z)))↔In64 z:=by
  unfold hiW loW wrap64 In64
  omega
 rw [Bool.eq_iff_iff,Bool.and_eq_true,beq_iff_eq,beq_iff_eq,decide_eq_true_eq]
 exact e
set_option maxRecDepth 100000 in
theorem vfits_any (z:Int) (w0 w:World) (hok:Ok w0 w) :
  Calls Tryz.prog 91 #[wvv z] w fun e w'=>e=.returned (.bool (decide (In64 z)))/\Ok w0 w':=by
 have hle:=hok.le
 obtain ⟨v,hv⟩:∃ v,v=wrap64 (loW z):=⟨_,rfl⟩
 have IV:Hid (In64 v):=by rw [hv];exact wrap64_in _
 have HV:Hid _:=hv
 have HD:Hid ((hiW z==hiW v&&loW z==loW v)=decide (In64 z)):=by rw [hv];exact fits_is z
 have HC:IntKind.i64.wrap (loW z)=v:=by rw [hv,IntKind.wrap_i64];unfold wrap64;omega
 obtain ⟨ans,hans⟩:∃ t,t=decide (In64 z):=⟨_,rfl⟩
 rw [<-hans] at HD ⊢
 clear hv hans
 obtain ⟨p,hp⟩:∃ p,p=hiW z:=⟨_,rfl⟩
 obtain ⟨q,hq⟩:∃ q,q=loW z:=⟨_,rfl⟩
 rw [<-hp,<-hq] at HD
 rw [<-hq] at HC
 unfold wvv
 rw [<-hp,<-hq]
 clear hp hq
 go_enter Tryz.func91,Tryz.ntmps91
 go_wp2_with fail
 obtain ⟨W,hW⟩:∃ W,W=(w).alloc (.cells #[.int .i64 p,.int .u64 q] 104):=⟨_,rfl⟩
 have ra:Hid (W.heap[w.heap.size]?=some (.cells #[.int .i64 p,.int .u64 q] 104)):=by unfold Hid;rw [hW];exact jj
 have HW:Hid (Ok w0 W):=by unfold Hid;rw [hW];exact (by repeat (first | exact hok | refine Ok.alloc ?_ _ | refine Ok.draws ?_ _ | fail))
 rw [<-hW]
 clear hW
 obtain ⟨ga,ega⟩:∃ g,g=w.heap.size:=⟨_,rfl⟩
 rw [<-ega] at ra ⊢
 have lga:w0.heap.size<=ga:=by omega
 clear ega
 obtain ⟨a0,a1,a2,a3⟩:=row_facts ra.out
 have za:=lt_row ra.out
 have bz:Ok W W:=Ok.refl _
 have HD2:Hid ((decide (p=hiW v)&&decide (q=loW v))=ans):=by unfold Hid;rw [<-HD.out];rfl
 clear HD
 rcases Classical.em (p=hiW v) with h1 | h1
 all_goals rcases Classical.em (q=loW v) with h2 | h2
 all_goals try (have HC3:=HC;rw [h2] at HC3)
 all_goals as_aux_lemma =>
  go_region_held3 (fun w'=>w'.cell? ⟨ga,0,none⟩=some (.int .i64 p)/\w'.cell? ⟨ga,1,none⟩=some (.int .u64 q)) (go_keep)
   (first
   | (go_at_call 100;refine (vnumber_any v IV.out W _ (by repeat (first | assumption | refine Ok.alloc ?_ _ | refine Below.drew ?_))).mono ?_;rintro e w' ⟨rfl,hb⟩;unfold wvv;have q0:=Ok.cell hb za a0;have q1:=Ok.cell hb za a1)
   | fail)
  go_wp2_with fail
  go_ret
  exact ⟨by rw [<-HD2.out];simp [h1,h2],HW.out.step hb⟩
set_option maxRecDepth 100000 in
theorem vfac1_any (z:Int) (w0 w:World) (hok:Ok w0 w) :
  Calls Tryz.prog 90 #[wvv z] w fun e w'=>e=.returned (.bool (!decide (In64 z)))/\Ok w0 w':=by
 have hle:=hok.le
 obtain ⟨ans,hans⟩:∃ t,t=decide (In64 z):=⟨_,rfl⟩
 have HA:Hid _:=hans
 rw [<-hans]
 clear hans
 obtain ⟨p,hp⟩:∃ p,p=hiW z:=⟨_,rfl⟩
 obtain ⟨q,hq⟩:∃ q,q=loW z:=⟨_,rfl⟩
 have HF:Hid (wvv z=.agg #[.int .i64 p,.int .u64 q]):=by rw [hp,hq];rfl
 rw [HF.out]
 clear hp hq
 go_enter Tryz.func90,Tryz.ntmps90
 go_wp2_with fail
 rw [<-HF.out]
 refine (vfits_any z _ _ (Ok.refl _)).mono ?_
 rintro e w1 ⟨rfl,hb⟩
 rw [<-HA.out]
 have H1:Hid (Ok w0 w1):=(hok.alloc _).step hb
 clear hb
 go_wp2_with fail
 go_ret
 exact ⟨rfl,H1.out⟩
def wRow (z0 z1 z2 z3:Int):Obj:=.cells #[.int .i64 (hiW z0),.int .u64 (loW z0),.int .i64 (hiW z1),.int .u64 (loW z1),.int .i64 (hiW z2),.int .u64 (loW z2),.int .i64 (hiW z3),.int .u64 (loW z3)] 104 (0,0)
def PdIs (w0 w':World) (z0 z1 z2 z3:Int) (e:Ending):Prop:=∃ g,e=.returned (.slice (some ⟨g,0,none⟩) 4 4)/\w'.heap[g]?=some (wRow z0 z1 z2 z3)/\Ok w0 w'/\w0.heap.size<=g
set_option maxRecDepth 100000 in
theorem vproducts_any (a b:Int×Int×Nat×Nat×Bool) (ha:RawN a) (hb:RawN b) (w0 w:World) (hok:Ok w0 w) :
  Calls Tryz.prog 89 #[nv a,nv b] w fun e w'=>PdIs w0 w' (a.1*b.1) (a.1*b.2.1) (a.2.1*b.1) (a.2.1*b.2.1) e:=by
 have hle:=hok.le
 have HU:Hid (RawN a/\RawN b):=⟨ha,hb⟩
 clear ha hb
 obtain ⟨z0,hz0⟩:∃ z,z=a.1*b.1:=⟨_,rfl⟩
 have HZ0:Hid _:=hz0
 rw [<-hz0]
 clear hz0
 obtain ⟨z1,hz1⟩:∃ z,z=a.1*b.2.1:=⟨_,rfl⟩
 have HZ1:Hid _:=hz1
 rw [<-hz1]
 clear hz1
 obtain ⟨z2,hz2⟩:∃ z,z=a.2.1*b.1:=⟨_,rfl⟩
 have HZ2:Hid _:=hz2
 rw [<-hz2]
 clear hz2
 obtain ⟨z3,hz3⟩:∃ z,z=a.2.1*b.2.1:=⟨_,rfl⟩
 have HZ3:Hid _:=hz3
 rw [<-hz3]
 clear hz3
 unfold nv
 go_enter Tryz.func89,Tryz.ntmps89
 go_wp2_with fail
 obtain ⟨W,hW⟩:∃ W,W=((w).alloc (.cells #[.bool a.2.2.2.2,.int .i64 a.1,.int .i64 a.2.1,.int .u64 (a.2.2.1:Int),.int .u64 (a.2.2.2.1:Int)] 29)).alloc (.cells #[.bool b.2.2.2.2,.int .i64 b.1,.int .i64 b.2.1,.int .u64 (b.2.2.1:Int),.int .u64 (b.2.2.2.1:Int)] 29):=⟨_,rfl⟩
 have ra:Hid (W.heap[w.heap.size]?=some (.cells #[.bool a.2.2.2.2,.int .i64 a.1,.int .i64 a.2.1,.int .u64 (a.2.2.1:Int),.int .u64 (a.2.2.2.1:Int)] 29)):=by unfold Hid;rw [hW];exact jj
 have rb:Hid (W.heap[w.heap.size+1]?=some (.cells #[.bool b.2.2.2.2,.int .i64 b.1,.int .i64 b.2.1,.int .u64 (b.2.2.1:Int),.int .u64 (b.2.2.2.1:Int)] 29)):=by unfold Hid;rw [hW];exact jj
 have HW:Hid (Ok w0 W):=by unfold Hid;rw [hW];exact (by repeat (first | exact hok | refine Ok.alloc ?_ _ | refine Ok.draws ?_ _ | fail))
 rw [<-hW]
 clear hW
 obtain ⟨gb,egb⟩:∃ g,g=w.heap.size+1:=⟨_,rfl⟩
 rw [<-egb] at rb ⊢
 obtain ⟨ga,ega⟩:∃ g,g=w.heap.size:=⟨_,rfl⟩
 rw [<-ega] at ra ⊢
 have lga:w0.heap.size<=ga:=by omega
 have ngagb:¬ga=gb:=by omega
 have lgb:w0.heap.size<=gb:=by omega
 have ngbga:¬gb=ga:=by omega
 clear ega egb
 obtain ⟨a0,a1,a2,a3,a4,a5,a6,a7,a8,a9⟩:=row5_facts ra.out
 obtain ⟨b0,b1,b2,b3,b4,b5,b6,b7,b8,b9⟩:=row5_facts rb.out
 have za:=lt_row ra.out
 have zb:=lt_row rb.out
 have bz:Ok W W:=Ok.refl _
 go_region_held3 (fun w'=>w'.cell? ⟨ga,1,none⟩=some (.int .i64 a.1)/\w'.cell? ⟨ga,2,none⟩=some (.int .i64 a.2.1)/\w'.cell? ⟨gb,1,none⟩=some (.int .i64 b.1)/\w'.cell? ⟨gb,2,none⟩=some (.int .i64 b.2.1)) (go_keep)
  (first
  | (go_at_call_of 161 (a.1);go_at_call_of 161 (b.1);refine (vproduct_any (a.1) (b.1) HU.out.1.1 HU.out.2.1 W _ (by repeat (first | assumption | refine Ok.alloc ?_ _ | refine Below.drew ?_))).mono ?_;rintro e w' ⟨rfl,hb⟩;rw [<-HZ0.out];unfold wvv;have q0:=Ok.cell hb za a1;have q1:=Ok.cell hb za a2;have q2:=Ok.cell hb zb b1;have q3:=Ok.cell hb zb b2)
  | (go_at_call_of 161 (a.1);go_at_call_of 161 (b.2.1);refine (vproduct_any (a.1) (b.2.1) HU.out.1.1 HU.out.2.2.1 W _ (by repeat (first | assumption | refine Ok.alloc ?_ _ | refine Below.drew ?_))).mono ?_;rintro e w' ⟨rfl,hb⟩;rw [<-HZ1.out];unfold wvv;have q0:=Ok.cell hb za a1;have q1:=Ok.cell hb za a2;have q2:=Ok.cell hb zb b1;have q3:=Ok.cell hb zb b2)
  | (go_at_call_of 161 (a.2.1);go_at_call_of 161 (b.1);refine (vproduct_any (a.2.1) (b.1) HU.out.1.2.1 HU.out.2.1 W _ (by repeat (first | assumption | refine Ok.alloc ?_ _ | refine Below.drew ?_))).mono ?_;rintro e w' ⟨rfl,hb⟩;rw [<-HZ2.out];unfold wvv;have q0:=Ok.cell hb za a1;have q1:=Ok.cell hb za a2;have q2:=Ok.cell hb zb b1;have q3:=Ok.cell hb zb b2)
  | (go_at_call_of 161 (a.2.1);go_at_call_of 161 (b.2.1);refine (vproduct_any (a.2.1) (b.2.1) HU.out.1.2.1 HU.out.2.2.1 W _ (by repeat (first | assumption | refine Ok.alloc ?_ _ | refine Below.drew ?_))).mono ?_;rintro e w' ⟨rfl,hb⟩;rw [<-HZ3.out];unfold wvv;have q0:=Ok.cell hb za a1;have q1:=Ok.cell hb za a2;have q2:=Ok.cell hb zb b1;have q3:=Ok.cell hb zb b2)
  | fail)
 go_wp2_with fail
 go_ret
 exact ⟨w'.heap.size,rfl,heap_new0 _ _,HW.out.step (hb.alloc _),Nat.le_trans HW.out.le hb.le⟩
end
end Go.Proofs.YtnjmjnmhldhaoaaGreat
