import Derived.Test.YtnjmjnmhldhaoaaGreatKCset
set_option linter.all false
namespace Go.Proofs.YtnjmjnmhldhaoaaGreat
section
open Go.RowKit
set_option maxRecDepth 100000 in
set_option maxHeartbeats 2000000 in
theorem chas_any (M R:Nat) (v:Int) (h1:U64 M) (h2:U64 R) (w0 w:World) (hok:Ok w0 w) :
  Calls Tryz.prog 30 #[cv M R,.int .i64 v] w fun e w'=>e=.returned (.bool (hasC M R v))/\Ok w0 w':=by
 have hle:=hok.le
 have HU:Hid _:=And.intro h1 h2
 clear h1 h2
 unfold cv
 go_enter Tryz.func30,Tryz.ntmps30
 go_wp2_with fail
 obtain ⟨W,hW⟩:∃ W,W=w.alloc (.cells #[.int .u64 (M:Int),.int .u64 (R:Int)] 27):=⟨_,rfl⟩
 have ra:W.heap[w.heap.size]?=some (.cells #[.int .u64 (M:Int),.int .u64 (R:Int)] 27):=by rw [hW];exact jj
 have HW:Hid (Ok w0 W):=by rw [hW];exact (by repeat (first | exact hok | refine Ok.alloc ?_ _ | refine Ok.draws ?_ _ | fail))
 rw [<-hW]
 clear hW hok
 obtain ⟨g0,g1,_,_⟩:=row_facts ra
 have z0:=lt_row ra
 clear ra
 have bz:Ok W W:=Ok.refl _
 go_region_held3 (fun w'=>w'.cell? ⟨w.heap.size,0,none⟩=some (.int .u64 (M:Int))/\w'.cell? ⟨w.heap.size,1,none⟩=some (.int .u64 (R:Int))) (go_keep)
  (first
  | (go_at_call 55;refine (cconst_any v W _ (by repeat (first | assumption | refine Ok.alloc ?_ _ | refine Below.drew ?_))).mono ?_;rintro e w' ⟨rfl,hb⟩;have q0:=Ok.cell hb z0 g0;have q1:=Ok.cell hb z0 g1)
  | (go_at_call 22;refine (cleq_any 0 (bitsN v) M R (by unfold U64;omega) (bitsN_u64 v) HU.out.1 HU.out.2 W _ (by repeat (first | assumption | refine Ok.alloc ?_ _ | refine Below.drew ?_))).mono ?_;rintro e w' ⟨rfl,hb⟩;have q0:=Ok.cell hb z0 g0;have q1:=Ok.cell hb z0 g1)
  | fail)
 go_wp2_with fail
 go_ret
 exact ⟨rfl,by repeat (first | exact HW.out.step hb | refine Ok.draws ?_ _)⟩
end
section
open Go.RowKit
def byG (g:Nat) (exact:Bool):Nat:=if exact=true/\g<18446744073709551616 then g else twoN g
theorem twoN_pos (g:Nat):0<twoN g:=by
 unfold twoN;split
 ·exact Nat.pow_pos (by omega)
 ·omega
theorem twoN_u64 (g:Nat):U64 (twoN g):=by
 unfold twoN U64
 split
 ·rename_i i h
  have h2:=List.mem_of_find?_eq_some h
  have h3:i<63:=by simpa using h2
  have:(2:Nat) ^ i<2 ^ 64:=Nat.pow_lt_pow_right (by omega) (by omega)
  exact this
 ·omega
end
section
open Go.RowKit
def negC (M R:Nat) (e:Bool):Nat×Nat :=
 if M=0 then (0,bitsN (wrap64 (-(wrap64 (R:Int))))) else (byG M e,restN (rF M R) true (byG M e))
end
section
open Go.RowKit
def sumF (f1:Nat) (s1:Bool) (f2:Nat) (s2:Bool):Nat:=if s1=s2 then f1+f2 else if f1<f2 then f2-f1 else f1-f2
def sumS (f1:Nat) (s1:Bool) (f2:Nat) (s2:Bool):Bool:=if s1=s2 then s1 else if f1<f2 then !s1 else s1
theorem sum_val (f1:Nat) (s1:Bool) (f2:Nat) (s2:Bool):sval (sumF f1 s1 f2 s2) (sumS f1 s1 f2 s2)=sval f1 s1+sval f2 s2:=by
 unfold sumF sumS sval
 by_cases h:f1<f2
 ·cases s1<;>cases s2<;>simp [h]<;>omega
 ·cases s1<;>cases s2<;>simp [h]<;>omega
end
section
open Go.RowKit
def addC (cM cR dM dR:Nat) (e:Bool):Nat×Nat :=
 if cM=0/\dM=0 then (0,bitsN (wrap64 (wrap64 (cR:Int)+wrap64 (dR:Int))))
 else (byG (Nat.gcd cM dM) e,restN (sumF (rF cM cR) (rS cM cR) (rF dM dR) (rS dM dR)) (sumS (rF cM cR) (rS cM cR) (rF dM dR) (rS dM dR)) (byG (Nat.gcd cM dM) e))
end
section
open Go.RowKit
def subC (cM cR dM dR:Nat) (e:Bool):Nat×Nat :=
 if cM=0/\dM=0 then (0,bitsN (wrap64 (wrap64 (cR:Int)-wrap64 (dR:Int))))
 else (byG (Nat.gcd cM dM) e,restN (sumF (rF cM cR) (rS cM cR) (rF dM dR) (!rS dM dR)) (sumS (rF cM cR) (rS cM cR) (rF dM dR) (!rS dM dR)) (byG (Nat.gcd cM dM) e))
end
section
open Go.RowKit
theorem bits_dvd {g:Nat}:∀ {i:Nat},(∀ j,j<i->g/2 ^ j%2=0)->2 ^ i ∣ g:=by
 intro i
 induction i with
 | zero=>intro _;simp
 | succ i ih =>
  intro h
  obtain ⟨q,hq⟩:=ih (fun j hj=>h j (by omega))
  have h1:=h i (by omega)
  rw [hq,Nat.mul_div_cancel_left _ (Nat.pow_pos (by omega))] at h1
  exact ⟨q/2,by rw [hq,Nat.pow_succ,Nat.mul_assoc];congr 1;omega⟩
theorem twoN_dvd (g:Nat):twoN g ∣ g/\twoN g ∣ 18446744073709551616:=by
 unfold twoN
 split
 ·rename_i i h
  have h2:=List.find?_range_eq_some.1 h
  have hi:i<63:=by simpa using h2.2.1
  refine ⟨bits_dvd (fun j hj=>?_),?_⟩
  ·have:=h2.2.2 j hj
   have h3:¬g/2 ^ j%2=1:=by simpa using this
   omega
  ·rw [show (18446744073709551616:Nat)=2 ^ 64 from rfl]
   exact Nat.pow_dvd_pow 2 (by omega)
 ·rename_i h
  have h2:=List.find?_eq_none.1 h
  refine ⟨?_,⟨2,rfl⟩⟩
  rw [show (9223372036854775808:Nat)=2 ^ 63 from rfl]
  refine bits_dvd (fun j hj=>?_)
  have:=h2 j (by simpa using hj)
  have h3:¬g/2 ^ j%2=1:=by simpa using this
  omega
theorem byG_dvd (g:Nat) (e:Bool):byG g e ∣ g:=by
 unfold byG;split
 ·exact Nat.dvd_refl _
 ·exact (twoN_dvd g).1
theorem byG_pos {g:Nat} (h:0<g) (e:Bool):0<byG g e:=by
 unfold byG;split
 ·exact h
 ·exact twoN_pos g
theorem byG_false (g:Nat):byG g false ∣ 18446744073709551616:=by
 unfold byG;rw [if_neg (by simp)];exact (twoN_dvd g).2
theorem cls_mem {f:Nat} {s:Bool} {m:Nat} (hm:0<m) (v:Int):MemC m (restN f s m) v↔(m:Int) ∣ v-sval f s:=by
 rw [memC_pos hm,Nat.mod_eq_of_lt (restN_lt hm),restN_val hm,Int.emod_eq_emod_iff_emod_sub_eq_zero]
 exact ⟨Int.dvd_of_emod_eq_zero,Int.emod_eq_zero_of_dvd⟩
theorem wrap_dvd (z:Int):(18446744073709551616:Int) ∣ wrap64 z-z:=by
 unfold wrap64;exact ⟨-((z+9223372036854775808)/18446744073709551616),by omega⟩
theorem by_mem {g:Nat} {e:Bool} {z t v:Int} (hd:(g:Int) ∣ z-t) (hv:v=z\/(e=false/\v=wrap64 z)):(byG g e:Int) ∣ v-t:=by
 have h1:(byG g e:Int) ∣ z-t:=Int.dvd_trans (Int.natCast_dvd_natCast.2 (byG_dvd g e)) hd
 rcases hv with rfl | ⟨rfl,rfl⟩
 ·exact h1
 ·have h0:(byG g false:Int) ∣ (18446744073709551616:Int):=Int.natCast_dvd_natCast.2 (byG_false g)
  have h2:(byG g false:Int) ∣ wrap64 z-z:=Int.dvd_trans h0 (wrap_dvd z)
  have:=Int.dvd_add h2 h1
  rwa [show wrap64 z-z+(z-t)=wrap64 z-t by omega] at this
theorem bits_mem {v:Int} (hv:In64 v):MemC 0 (bitsN v) v:=memC_zero.2 (wrap_bits hv).symm
theorem neg_memC {M R:Nat} {e:Bool} {x v:Int} (hx:MemC M R x) (hxi:In64 x) (hv:v = -x/\In64 v\/(e=false/\v=wrap64 (-x))):MemC (negC M R e).1 (negC M R e).2 v:=by
 unfold negC
 by_cases h:M=0
 ·rw [if_pos h]
  subst h
  rw [memC_zero] at hx
  have e1:v=wrap64 (-x):=by
   rcases hv with ⟨rfl,h⟩ | ⟨_,h⟩
   ·exact (wrap64_id h).symm
   ·exact h
  rw [<-hx,<-e1]
  refine bits_mem ?_
  rw [e1];exact wrap64_in _
 ·rw [if_neg h]
  have hM:0<M:=by omega
  rw [cls_mem (byG_pos hM e)]
  rw [memC_dvd] at hx
  refine by_mem (z := -x) ?_ (hv.imp And.left id)
  have e2:sval (rF M R) true = -(rI M R):=by
   unfold sval rF rI;rw [if_neg h,if_neg h];simp
  rw [e2,show -x - -(rI M R) = -(x-rI M R) by omega]
  exact (Int.dvd_neg).2 hx
theorem add_memC {cM cR dM dR:Nat} {e:Bool} {x y v:Int} (hx:MemC cM cR x) (hy:MemC dM dR y) (hv:v=x+y/\In64 v\/(e=false/\v=wrap64 (x+y))):MemC (addC cM cR dM dR e).1 (addC cM cR dM dR e).2 v:=by
 unfold addC
 by_cases h:cM=0/\dM=0
 ·rw [if_pos h]
  obtain ⟨rfl,rfl⟩:=h
  rw [memC_zero] at hx hy
  have e1:v=wrap64 (x+y):=by
   rcases hv with ⟨rfl,h⟩ | ⟨_,h⟩
   ·exact (wrap64_id h).symm
   ·exact h
  rw [<-hx,<-hy,<-e1]
  refine bits_mem ?_
  rw [e1];exact wrap64_in _
 ·rw [if_neg h]
  have hg:0<Nat.gcd cM dM:=Nat.pos_of_ne_zero fun c=>h (Nat.gcd_eq_zero_iff.1 c)
  rw [cls_mem (byG_pos hg e),sum_val,r_val,r_val]
  rw [memC_dvd] at hx hy
  refine by_mem (z:=x+y) ?_ (hv.imp And.left id)
  rw [show x+y-(rI cM cR+rI dM dR)=(x-rI cM cR)+(y-rI dM dR) by omega]
  exact Int.dvd_add (Int.dvd_trans (Int.natCast_dvd_natCast.2 (Nat.gcd_dvd_left _ _)) hx) (Int.dvd_trans (Int.natCast_dvd_natCast.2 (Nat.gcd_dvd_right _ _)) hy)
theorem sval_not (f:Nat) (s:Bool):sval f (!s) = -(sval f s):=by unfold sval;cases s<;>simp
theorem sub_memC {cM cR dM dR:Nat} {e:Bool} {x y v:Int} (hx:MemC cM cR x) (hy:MemC dM dR y) (hv:v=x-y/\In64 v\/(e=false/\v=wrap64 (x-y))):MemC (subC cM cR dM dR e).1 (subC cM cR dM dR e).2 v:=by
 unfold subC
 by_cases h:cM=0/\dM=0
 ·rw [if_pos h]
  obtain ⟨rfl,rfl⟩:=h
  rw [memC_zero] at hx hy
  have e1:v=wrap64 (x-y):=by
   rcases hv with ⟨rfl,h⟩ | ⟨_,h⟩
   ·exact (wrap64_id h).symm
   ·exact h
  rw [<-hx,<-hy,<-e1]
  refine bits_mem ?_
  rw [e1];exact wrap64_in _
 ·rw [if_neg h]
  have hg:0<Nat.gcd cM dM:=Nat.pos_of_ne_zero fun c=>h (Nat.gcd_eq_zero_iff.1 c)
  rw [cls_mem (byG_pos hg e),sum_val,sval_not,r_val,r_val]
  rw [memC_dvd] at hx hy
  refine by_mem (z:=x-y) ?_ (hv.imp And.left id)
  rw [show x-y-(rI cM cR + -(rI dM dR))=(x-rI cM cR)-(y-rI dM dR) by omega]
  exact Int.dvd_sub (Int.dvd_trans (Int.natCast_dvd_natCast.2 (Nat.gcd_dvd_left _ _)) hx) (Int.dvd_trans (Int.natCast_dvd_natCast.2 (Nat.gcd_dvd_right _ _)) hy)
end
section
open Go.RowKit
def mulG (cM cR dM dR:Nat):Nat:=Nat.gcd (cM*dM) (Nat.gcd (rF cM cR*dM) (rF dM dR*cM))
def mulC (cM cR dM dR:Nat) (e:Bool):Nat×Nat :=
 if cM=0/\dM=0 then (0,bitsN (wrap64 (wrap64 (cR:Int)*wrap64 (dR:Int))))
 else if (cM=0/\cR=0)\/(dM=0/\dR=0) then (0,0)
 else (byG (mulG cM cR dM dR) e,restN (rF cM cR*rF dM dR) (rS cM cR != rS dM dR) (byG (mulG cM cR dM dR) e))
theorem sval_mul (f1 f2:Nat) (s1 s2:Bool):sval (f1*f2) (s1 != s2)=sval f1 s1*sval f2 s2:=by
 unfold sval;cases s1<;>cases s2<;>simp [Int.natCast_mul,Int.neg_mul,Int.mul_neg]
theorem rF_abs (M R:Nat):rF M R=(rI M R).natAbs:=by
 unfold rF rI;by_cases h:M=0
 ·rw [if_pos h,if_pos h]
 ·rw [if_neg h,if_neg h];rfl
theorem rF_ne {M R:Nat} (hR:U64 R) (h:¬(M=0/\R=0)) (hM:M=0):0<rF M R:=by
 subst hM
 unfold rF;rw [if_pos rfl]
 have:R≠0:=fun c=>h ⟨rfl,c⟩
 unfold U64 at hR;unfold wrap64;omega
theorem mulG_pos {cM cR dM dR:Nat} (hc:U64 cR) (hd:U64 dR) (h0:¬(cM=0/\dM=0)) (h1:¬(cM=0/\cR=0)) (h2:¬(dM=0/\dR=0)):0<mulG cM cR dM dR:=by
 apply Nat.pos_of_ne_zero
 intro h
 unfold mulG at h
 have a:=Nat.gcd_eq_zero_iff.1 h
 have b:=Nat.gcd_eq_zero_iff.1 a.2
 have c:=Nat.mul_eq_zero.1 a.1
 by_cases z:cM=0
 ·have p:=rF_ne hc h1 z
  rcases Nat.mul_eq_zero.1 b.1 with q | q
  ·omega
  ·exact h0 ⟨z,q⟩
 ·have z2:dM=0:=by omega
  have p:=rF_ne hd h2 z2
  rcases Nat.mul_eq_zero.1 b.2 with q | q<;>omega
theorem mul_memC {cM cR dM dR:Nat} {e:Bool} {x y v:Int} (hc:U64 cR) (hd:U64 dR) (hx:MemC cM cR x) (hy:MemC dM dR y) (hv:v=x*y/\In64 v\/(e=false/\v=wrap64 (x*y))):MemC (mulC cM cR dM dR e).1 (mulC cM cR dM dR e).2 v:=by
 unfold mulC
 by_cases h:cM=0/\dM=0
 ·rw [if_pos h]
  obtain ⟨rfl,rfl⟩:=h
  rw [memC_zero] at hx hy
  have e1:v=wrap64 (x*y):=by
   rcases hv with ⟨rfl,h⟩ | ⟨_,h⟩
   ·exact (wrap64_id h).symm
   ·exact h
  rw [<-hx,<-hy,<-e1]
  refine bits_mem ?_
  rw [e1];exact wrap64_in _
 ·rw [if_neg h]
  by_cases h2:(cM=0/\cR=0)\/(dM=0/\dR=0)
  ·rw [if_pos h2]
   have e0:x*y=0:=by
    rcases h2 with ⟨rfl,rfl⟩ | ⟨rfl,rfl⟩
    ·rw [memC_zero] at hx;rw [hx];simp [wrap64]
    ·rw [memC_zero] at hy;rw [hy];simp [wrap64]
   rw [e0] at hv
   have e1:v=0:=by
    rcases hv with ⟨h,_⟩ | ⟨_,h⟩
    ·exact h
    ·rw [h];unfold wrap64;omega
   rw [e1,memC_zero];simp [wrap64]
  ·rw [if_neg h2]
   have hg:=mulG_pos hc hd h (fun c=>h2 (Or.inl c)) (fun c=>h2 (Or.inr c))
   rw [cls_mem (byG_pos hg e),sval_mul,r_val,r_val]
   refine by_mem (z:=x*y) ?_ (hv.imp And.left id)
   rw [memC_dvd] at hx hy
   have g1:((mulG cM cR dM dR:Nat):Int) ∣ (cM:Int)*dM:=by
    rw [<-Int.natCast_mul];exact Int.natCast_dvd_natCast.2 (Nat.gcd_dvd_left _ _)
   have g2:((mulG cM cR dM dR:Nat):Int) ∣ rI cM cR*dM:=by
    have:=Nat.dvd_trans (Nat.gcd_dvd_right (cM*dM) _) (Nat.gcd_dvd_left (rF cM cR*dM) (rF dM dR*cM))
    rw [Int.ofNat_dvd_left,Int.natAbs_mul,<-rF_abs];exact this
   have g3:((mulG cM cR dM dR:Nat):Int) ∣ rI dM dR*cM:=by
    have:=Nat.dvd_trans (Nat.gcd_dvd_right (cM*dM) _) (Nat.gcd_dvd_right (rF cM cR*dM) (rF dM dR*cM))
    rw [Int.ofNat_dvd_left,Int.natAbs_mul,<-rF_abs];exact this
   obtain ⟨a,ha⟩:=hx
   obtain ⟨b,hb⟩:=hy
   have ex:x=rI cM cR+cM*a:=by omega
   have ey:y=rI dM dR+dM*b:=by omega
   have e:x*y-rI cM cR*rI dM dR=rI cM cR*dM*b+rI dM dR*cM*a+cM*dM*(a*b):=by
    rw [ex,ey,Int.add_mul,Int.mul_add,Int.mul_add]
    have p1:rI cM cR*(↑dM*b)=rI cM cR * ↑dM*b:=(Int.mul_assoc _ _ _).symm
    have p2 : ↑cM*a*rI dM dR=rI dM dR * ↑cM*a:=by rw [Int.mul_comm (↑cM*a),Int.mul_assoc]
    have p3 : ↑cM*a*(↑dM*b) = ↑cM * ↑dM*(a*b):=by
     rw [Int.mul_assoc,Int.mul_assoc,Int.mul_left_comm a]
    rw [p1,p2,p3];omega
   rw [e]
   exact Int.dvd_add (Int.dvd_add (Int.dvd_trans g2 (Int.dvd_mul_right _ _)) (Int.dvd_trans g3 (Int.dvd_mul_right _ _))) (Int.dvd_trans g1 (Int.dvd_mul_right _ _))
def remG (cM dM dR:Nat):Nat:=Nat.gcd (Nat.gcd cM dM) (rF dM dR)
def remC (cM cR dM dR:Nat):Nat×Nat :=
 if dM=0/\dR=0 then (1,0)
 else if cM=0/\dM=0 then (0,bitsN (if wrap64 (dR:Int) = -1 then 0 else (wrap64 (cR:Int)).tmod (wrap64 (dR:Int))))
 else (remG cM dM dR,restN (rF cM cR) (rS cM cR) (remG cM dM dR))
theorem rem_memC {cM cR dM dR:Nat} {x y:Int} (hx:MemC cM cR x) (hy:MemC dM dR y) (hxi:In64 x) (hyi:In64 y) (h0:y≠0):MemC (remC cM cR dM dR).1 (remC cM cR dM dR).2 (x.tmod y):=by
 unfold remC
 by_cases h:dM=0/\dR=0
 ·obtain ⟨rfl,rfl⟩:=h
  rw [memC_zero] at hy
  exact absurd (by rw [hy];simp [wrap64]) h0
 ·rw [if_neg h]
  by_cases h2:cM=0/\dM=0
  ·rw [if_pos h2]
   obtain ⟨rfl,rfl⟩:=h2
   rw [memC_zero] at hx hy
   rw [<-hx,<-hy]
   have e:(if y = -1 then 0 else x.tmod y)=x.tmod y:=by
    split
    ·rename_i c;rw [c,Int.tmod_neg,Int.tmod_one]
    ·rfl
   rw [e]
   refine bits_mem ?_
   have b1:=Int.tmod_add_mul_tdiv x y
   have b2:x.tmod y=x-y*x.tdiv y:=by omega
   have b3:(x.tmod y).natAbs<=x.natAbs:=by
    rw [Int.natAbs_tmod];exact Nat.mod_le _ _
   have b4:0<=x->0<=x.tmod y:=fun h=>Int.tmod_nonneg _ h
   have b5:x<=0->x.tmod y<=0:=fun h=>by
    have:=Int.tmod_nonneg y (show 0 <= -x by omega)
    rw [Int.neg_tmod] at this;omega
   unfold In64 at *;omega
  ·rw [if_neg h2]
   have hg:0<remG cM dM dR:=by
    apply Nat.pos_of_ne_zero
    intro c
    have a:=Nat.gcd_eq_zero_iff.1 c
    exact h2 (Nat.gcd_eq_zero_iff.1 a.1)
   rw [cls_mem hg,r_val]
   rw [memC_dvd] at hx hy
   have d0:(remG cM dM dR:Int) ∣ cM:=Int.natCast_dvd_natCast.2 (Nat.dvd_trans (Nat.gcd_dvd_left _ _) (Nat.gcd_dvd_left _ _))
   have d1:(remG cM dM dR:Int) ∣ dM:=Int.natCast_dvd_natCast.2 (Nat.dvd_trans (Nat.gcd_dvd_left _ _) (Nat.gcd_dvd_right _ _))
   have d2:(remG cM dM dR:Int) ∣ rI dM dR:=by
    rw [Int.ofNat_dvd_left,<-rF_abs];exact Nat.gcd_dvd_right _ _
   have d3:(remG cM dM dR:Int) ∣ y:=by
    have:=Int.dvd_add (Int.dvd_trans d1 hy) d2
    rwa [show y-rI dM dR+rI dM dR=y by omega] at this
   have d4:(remG cM dM dR:Int) ∣ y*x.tdiv y:=Int.dvd_trans d3 (Int.dvd_mul_right _ _)
   have d5:=Int.dvd_sub (Int.dvd_trans d0 hx) d4
   have b1:=Int.tmod_add_mul_tdiv x y
   rwa [show x-rI cM cR-y*x.tdiv y=x.tmod y-rI cM cR by omega] at d5
end
section
open Go.RowKit
def divC (cM cR dM dR:Nat):Nat×Nat :=
 if 0<dM\/wrap64 (dR:Int)=0 then (1,0)
 else if cM=0 then (0,bitsN (if wrap64 (dR:Int) = -1 then wrap64 (-(wrap64 (cR:Int))) else (wrap64 (cR:Int)).tdiv (wrap64 (dR:Int))))
 else if wrap64 (dR:Int) = -1\/cM%(wrap64 (dR:Int)).natAbs≠0\/cR%cM%(wrap64 (dR:Int)).natAbs≠0 then (1,0)
 else (cM/(wrap64 (dR:Int)).natAbs,restN (cR%cM/(wrap64 (dR:Int)).natAbs) (decide (wrap64 (dR:Int)<0)) (cM/(wrap64 (dR:Int)).natAbs))
theorem all_mem (v:Int):MemC 1 0 v:=by rw [memC_pos (by omega)];simp
theorem tdiv_in64 {x y:Int} (hx:In64 x) (h1:y ≠ -1):In64 (x.tdiv y):=by
 have a:(x.tdiv y).natAbs=x.natAbs/y.natAbs:=Int.natAbs_tdiv x y
 by_cases h0:y.natAbs<2
 ·have:y=0\/y=1:=by omega
  rcases this with rfl | rfl
  ·rw [Int.tdiv_zero];unfold In64;omega
  ·rw [Int.tdiv_one];exact hx
 ·have b:x.natAbs/y.natAbs<=x.natAbs/2:=Nat.div_le_div_left (by omega) (by omega)
  unfold In64 at *;omega
theorem div_memC {cM cR dM dR:Nat} {x y v:Int} (hx:MemC cM cR x) (hy:MemC dM dR y) (hxi:In64 x) (h0:y≠0) (hv:v=if y = -1 then wrap64 (-x) else x.tdiv y):MemC (divC cM cR dM dR).1 (divC cM cR dM dR).2 v:=by
 unfold divC
 by_cases h:0<dM\/wrap64 (dR:Int)=0
 ·rw [if_pos h];exact all_mem v
 ·rw [if_neg h]
  have hd:dM=0:=by omega
  subst hd
  rw [memC_zero] at hy
  rw [<-hy]
  by_cases hc:cM=0
  ·rw [if_pos hc]
   subst hc
   rw [memC_zero] at hx
   rw [<-hx,<-hv]
   refine bits_mem ?_
   rw [hv]
   split
   ·exact wrap64_in _
   ·rename_i c;exact tdiv_in64 hxi c
  ·rw [if_neg hc]
   by_cases h2:y = -1\/cM%y.natAbs≠0\/cR%cM%y.natAbs≠0
   ·rw [if_pos h2];exact all_mem v
   ·rw [if_neg h2]
    have k1:y ≠ -1:=fun c=>h2 (Or.inl c)
    have k2:cM%y.natAbs=0:=Classical.byContradiction fun c=>h2 (Or.inr (Or.inl c))
    have k3:cR%cM%y.natAbs=0:=Classical.byContradiction fun c=>h2 (Or.inr (Or.inr c))
    rw [if_neg k1] at hv
    have hn:0<y.natAbs:=by omega
    obtain ⟨p,hp⟩:=Nat.dvd_of_mod_eq_zero k2
    obtain ⟨q,hq⟩:=Nat.dvd_of_mod_eq_zero k3
    have e1:cM/y.natAbs=p:=by rw [hp,Nat.mul_div_cancel_left _ hn]
    have e2:cR%cM/y.natAbs=q:=by rw [hq,Nat.mul_div_cancel_left _ hn]
    have hp0:0<p:=by
     apply Nat.pos_of_ne_zero;intro c;rw [c,Nat.mul_zero] at hp;exact hc hp
    rw [e1,e2,cls_mem hp0]
    rw [memC_dvd,rI_pos (by omega),hq,hp] at hx
    obtain ⟨a,ha⟩:=hx
    rw [Int.natCast_mul,Int.natCast_mul] at ha
    have ex:x=(y.natAbs:Int)*(q+p*a):=by
     rw [Int.mul_add,<-Int.mul_assoc];omega
    have ev:v=(if y<0 then -1 else 1)*((q:Int)+p*a):=by
     rw [hv,ex]
     by_cases s:y<0
     ·rw [if_pos s]
      have:(y.natAbs:Int) = -y:=by omega
      rw [this,Int.neg_mul,Int.neg_tdiv,Int.mul_tdiv_cancel_left _ h0,Int.neg_mul,Int.one_mul]
     ·rw [if_neg s]
      have:(y.natAbs:Int)=y:=by omega
      rw [this,Int.mul_tdiv_cancel_left _ h0,Int.one_mul]
    rw [ev]
    unfold sval
    by_cases s:y<0
    ·rw [if_pos s,decide_eq_true s,if_pos rfl]
     exact ⟨-a,by rw [Int.mul_neg];omega⟩
    ·rw [if_neg s,decide_eq_false s,if_neg (by simp)]
     exact ⟨a,by omega⟩
end
end Go.Proofs.YtnjmjnmhldhaoaaGreat
