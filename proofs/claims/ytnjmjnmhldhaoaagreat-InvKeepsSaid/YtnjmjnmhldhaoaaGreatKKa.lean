import Derived.Test.YtnjmjnmhldhaoaaGreatKCdvm
import Derived.Test.YtnjmjnmhldhaoaaGreatKCst
set_option maxHeartbeats 8000000
set_option linter.all false
namespace Go.Proofs.YtnjmjnmhldhaoaaGreat
open Go.RowKit
theorem ret1 {k:IntKind} {a b:Int} (h:a=b):Ending.returned (.int k a)=.returned (.int k b):=by rw [h]
theorem wadd_eq (a b:Int):wrap64 (IntKind.u64.wrap (IntKind.u64.wrap a+IntKind.u64.wrap b))=wrap64 (a+b):=by simp only [u64w];unfold wrap64;omega
theorem wsub_eq (a b:Int):wrap64 (IntKind.u64.wrap (IntKind.u64.wrap a-IntKind.u64.wrap b))=wrap64 (a-b):=by simp only [u64w];unfold wrap64;omega
theorem wneg_eq (a:Int):wrap64 (IntKind.u64.wrap (0-IntKind.u64.wrap a))=wrap64 (-a):=by simp only [u64w];unfold wrap64;omega
theorem wmul_eq (a b:Int):wrap64 (IntKind.u64.wrap (IntKind.u64.wrap a*IntKind.u64.wrap b))=wrap64 (a*b):=by
 rw [u64w,wmod,u64w,u64w]
 have h:(a%18446744073709551616*(b%18446744073709551616))%18446744073709551616=(a*b)%18446744073709551616:=(Int.mul_emod a b _).symm
 rw [<-wmod,h,wmod]
theorem wadd_any (a b:Int) (w0 w:World) (hok:Ok w0 w) :
  Calls Tryz.prog 120 #[.int .i64 a,.int .i64 b] w fun e w'=>e=.returned (.int .i64 (wrap64 (a+b)))/\Ok w0 w':=by
 go_enter Tryz.func120,Tryz.ntmps120
 go_wp2
 go_ret
 exact ⟨ret1 (wadd_eq a b),hok.alloc _⟩
theorem wsub_any (a b:Int) (w0 w:World) (hok:Ok w0 w) :
  Calls Tryz.prog 122 #[.int .i64 a,.int .i64 b] w fun e w'=>e=.returned (.int .i64 (wrap64 (a-b)))/\Ok w0 w':=by
 go_enter Tryz.func122,Tryz.ntmps122
 go_wp2
 go_ret
 exact ⟨ret1 (wsub_eq a b),hok.alloc _⟩
theorem wmul_any (a b:Int) (w0 w:World) (hok:Ok w0 w) :
  Calls Tryz.prog 213 #[.int .i64 a,.int .i64 b] w fun e w'=>e=.returned (.int .i64 (wrap64 (a*b)))/\Ok w0 w':=by
 go_enter Tryz.func213,Tryz.ntmps213
 go_wp2
 go_ret
 exact ⟨ret1 (wmul_eq a b),hok.alloc _⟩
theorem wneg_any (a:Int) (w0 w:World) (hok:Ok w0 w) :
  Calls Tryz.prog 198 #[.int .i64 a] w fun e w'=>e=.returned (.int .i64 (wrap64 (-a)))/\Ok w0 w':=by
 go_enter Tryz.func198,Tryz.ntmps198
 go_wp2
 go_ret
 exact ⟨ret1 (by first | exact wneg_eq a | (simp only [u64w];unfold wrap64;omega)),hok.alloc _⟩
theorem wdiv_any (a b:Int) (hb:b≠0) (w:World) :
  Calls Tryz.prog 256 #[.int .i64 a,.int .i64 b] w fun e w'=>e=.returned (.tuple #[.int .i64 (wrap64 (a.tdiv b)),.bool true])/\w'=w:=by
 have hb':(b==0)=false:=by simpa using hb
 go_enter Tryz.func256,Tryz.ntmps256
 go_wp2
 go_ret2
 exact ⟨rfl,rfl⟩
theorem wrem_any (a b:Int) (hb:b≠0) (w:World) :
  Calls Tryz.prog 246 #[.int .i64 a,.int .i64 b] w fun e w'=>e=.returned (.tuple #[.int .i64 (a.tmod b),.bool true])/\w'=w:=by
 have hb':(b==0)=false:=by simpa using hb
 go_enter Tryz.func246,Tryz.ntmps246
 go_wp2
 go_ret2
 exact ⟨rfl,rfl⟩
theorem wgcd_next {p q:Nat} {r:Nat} (h:Nat.gcd p q=r) (w0 w1:World) (hok:Ok w0 w1) (hq:q<18446744073709551616) (h0:¬q=0) :
  (∃ p1 q1:Nat,p1<18446744073709551616/\q1<18446744073709551616/\Value.int .u64 (q:Int)=.int .u64 p1/\Value.int .u64 ((p:Int)%(q:Int))=.int .u64 q1/\Nat.gcd p1 q1=r/\Ok w0 w1)/\(intOf (Value.int .u64 ((p:Int)%(q:Int)))).toNat<(intOf (Value.int .u64 (q:Int))).toNat:=by
 have hm:p%q<q:=Nat.mod_lt _ (by omega)
 refine ⟨⟨q,p%q,hq,by omega,rfl,by rw [Int.natCast_emod],?_,hok⟩,?_⟩
 ·rw [<-h,Nat.gcd_comm p q,Nat.gcd_rec q p,Nat.gcd_comm]
 ·simp only [intOf]
  rw [<-Int.natCast_emod]
  omega
theorem wgcd_any (a b:Nat) (ha:a<18446744073709551616) (hb:b<18446744073709551616) (w0 w:World) (hok:Ok w0 w) :
  Calls Tryz.prog 104 #[.int .u64 a,.int .u64 b] w fun e w'=>e=.returned (.int .u64 (Nat.gcd a b))/\Ok w0 w':=by
 go_enter Tryz.func104,Tryz.ntmps104
 go_wp2
 go_loopw [0,1] (fun x y wr=>∃ p q:Nat,p<18446744073709551616/\q<18446744073709551616/\x=.int .u64 p/\y=.int .u64 q/\Nat.gcd p q=Nat.gcd a b/\Ok w0 wr) (fun _ y _=>(intOf y).toNat)
 case atStart=>exact ⟨a,b,ha,hb,rfl,rfl,rfl,hok⟩
 case round =>
  obtain ⟨p,q,hp,hq,rfl,rfl,hg,hk⟩:=hrel
  have HG:Hid _:=hg
  clear hg
  by_cases h0:q=0
  ·subst h0
   go_wp2
   go_ret
   exact ⟨ret1 (by rw [<-HG.out,Nat.gcd_zero_right]),hk⟩
  ·have hq0:(q:Int)≠0:=by omega
   have hq1:((q:Int) != 0)=true:=by simpa using h0
   go_wp2
   go_quiet (fail)
   go_wp2
   exact wgcd_next HG.out _ _ (hk.draws _) hq h0
theorem weven_raw (m:Int) (w:World) :
  Calls Tryz.prog 216 #[.int .u64 m] w fun e w'=>e=.returned (.int .u64 (bits .and .u64 m (IntKind.u64.wrap (-m))))/\w'=w:=by
 go_enter Tryz.func216,Tryz.ntmps216
 go_wp2
 go_ret
 exact ⟨rfl,rfl⟩
def modL (v:Int) (m:Nat):Nat:=if m=0 then bitsN v else (v%(m:Int)).toNat
theorem modL_up {v:Int} {m:Nat} (hv:In64 v) (h0:0<=v) (hm:m≠0):(IntKind.u64.wrap v).tmod (m:Int)=(modL v m:Int):=by
 unfold modL;rw [if_neg hm,Int.tmod_eq_emod_of_nonneg (by rw [u64w];omega),u64w]
 have e:v%18446744073709551616=v:=by unfold In64 at hv;omega
 rw [e]
 have:=Int.emod_nonneg v (show (m:Int)≠0 by omega)
 omega
theorem modL_down {v:Int} {m:Nat} (hv:In64 v) (h0:v<0) (hm:m≠0) :
  ((IntKind.u64.wrap (-IntKind.u64.wrap v)).tmod (m:Int)=0->modL v m=0)/\((IntKind.u64.wrap (-IntKind.u64.wrap v)).tmod (m:Int)≠0->(m:Int)-(IntKind.u64.wrap (-IntKind.u64.wrap v)).tmod (m:Int)=modL v m/\modL v m<m):=by
 unfold modL;rw [if_neg hm]
 have e:IntKind.u64.wrap (-IntKind.u64.wrap v) = -v:=by simp only [u64w];unfold In64 at hv;omega
 rw [e,Int.tmod_eq_emod_of_nonneg (by omega)]
 have hm0:(0:Int)<(m:Int):=by omega
 have a:=Int.emod_nonneg (-v) (show (m:Int)≠0 by omega)
 have b:=Int.emod_lt_of_pos (-v) hm0
 have c:=Int.emod_nonneg v (show (m:Int)≠0 by omega)
 have d:=Int.emod_lt_of_pos v hm0
 have e1:=Int.emod_add_mul_ediv (-v) (m:Int)
 constructor
 ·intro h
  rw [h] at e1
  have:v%(m:Int)=0:=by
   apply Int.emod_eq_zero_of_dvd
   exact ⟨-(-v/(m:Int)),by rw [Int.mul_neg];omega⟩
  omega
 ·intro h
  have:v%(m:Int)=m - -v%(m:Int):=by
   have e2:v=(m - -v%(m:Int))+(m:Int)*(-(-v/(m:Int))-1):=by
    rw [Int.mul_sub,Int.mul_neg,Int.mul_one];omega
   conv=>lhs;rw [e2]
   rw [Int.add_mul_emod_self_left]
   exact Int.emod_eq_of_lt (by omega) (by omega)
  omega
theorem wmod_any (v:Int) (m:Nat) (hv:In64 v) (hm:m<18446744073709551616) (w:World) :
  Calls Tryz.prog 105 #[.int .i64 v,.int .u64 (m:Int)] w fun e w'=>e=.returned (.int .u64 (modL v m:Int))/\w'=w:=by
 by_cases h0:m=0
 ·have E:Hid ((modL v m:Int)=IntKind.u64.wrap v):=by unfold Hid modL bitsN;rw [if_pos h0,u64w];omega
  subst h0
  clear hv hm
  go_enter Tryz.func105,Tryz.ntmps105
  go_wp2
  go_ret
  exact ⟨ret1 E.out.symm,rfl⟩
 ·have m0:(m:Int)≠0:=by omega
  have m1:((m:Int)==0)=false:=by simpa using h0
  by_cases h1:0<=v
  ·have E:Hid _:=modL_up hv h1 h0
   clear hv h0 hm
   go_enter Tryz.func105,Tryz.ntmps105
   go_wp2
   go_ret
   exact ⟨ret1 E.out,rfl⟩
  ·have E:=modL_down hv (by omega) h0
   have h1':¬0<=v:=h1
   by_cases h2:(IntKind.u64.wrap (-IntKind.u64.wrap v)).tmod (m:Int)=0
   ·have E1:Hid _:=E.1 h2
    have h3:((IntKind.u64.wrap (-IntKind.u64.wrap v)).tmod (m:Int)==0)=true:=by simpa using h2
    clear hv h0 hm E
    go_enter Tryz.func105,Tryz.ntmps105
    go_wp2
    go_ret
    exact ⟨ret1 (by rw [E1.out];rfl),rfl⟩
   ·have E1:Hid _:=E.2 h2
    have h3:((IntKind.u64.wrap (-IntKind.u64.wrap v)).tmod (m:Int)==0)=false:=by simpa using h2
    have HM:Hid _:=hm
    clear hv h0 hm E h2
    go_enter Tryz.func105,Tryz.ntmps105
    go_wp2
    go_ret
    refine ⟨ret1 ?_,rfl⟩
    have:=HM.out
    rw [E1.out.1,u64w]
    have:=E1.out.2
    omega
end Go.Proofs.YtnjmjnmhldhaoaaGreat
namespace Go.Proofs.YtnjmjnmhldhaoaaGreat
open Go.RowKit
theorem bits_wrap (z:Int):(bitsN (wrap64 z):Int)=z%18446744073709551616:=by unfold bitsN wrap64;omega
theorem wrap_zero:wrap64 ((0:Nat):Int)=0:=by unfold wrap64;omega
theorem sub_ones (a b:Nat) (e:Bool):subC 0 a 0 b e=(0,bitsN (wrap64 (wrap64 (a:Int)-wrap64 (b:Int)))):=by unfold subC;rw [if_pos ⟨rfl,rfl⟩]
theorem add_ones (a b:Nat) (e:Bool):addC 0 a 0 b e=(0,bitsN (wrap64 (wrap64 (a:Int)+wrap64 (b:Int)))):=by unfold addC;rw [if_pos ⟨rfl,rfl⟩]
theorem pair_eq {a b x y:Nat} (h1:a=b) (h2:(x:Int)=y):(a,x)=(b,y):=by rw [h1,Int.ofNat_inj.1 h2]
def md (m:Nat):Nat:=if m=0 then 18446744073709551616 else m
theorem md_pos (m:Nat):0<md m:=by unfold md;split<;>omega
theorem md_of {m:Nat} (h:0<m):md m=m:=by unfold md;rw [if_neg (by omega)]
theorem md_zero:md 0=18446744073709551616:=rfl
theorem md_le {m:Nat} (h:U64 m):md m<=18446744073709551616:=by unfold U64 at h;unfold md;split<;>omega
def restL (M R m:Nat):Nat:=if M=0 then (if m=0 then R else ((wrap64 (R:Int))%(m:Int)).toNat) else R%M%m
theorem restL_val {M R m:Nat} (hR:U64 R) (h:M=0\/0<m):(restL M R m:Int)=rI M R%(md m:Int):=by
 unfold restL
 by_cases h0:M=0
 ·rw [if_pos h0];subst h0;rw [rI_zero]
  by_cases h1:m=0
  ·rw [if_pos h1];subst h1;rw [md_zero];unfold U64 at hR;unfold wrap64;omega
  ·rw [if_neg h1,md_of (by omega)]
   have:=Int.emod_nonneg (wrap64 (R:Int)) (show (m:Int)≠0 by omega)
   omega
 ·rw [if_neg h0,rI_pos (by omega),md_of (by omega),Int.natCast_emod]
theorem restL_lt {M R m:Nat} (hR:U64 R) (h:M=0\/0<m):restL M R m<md m:=by
 have a:=restL_val hR h
 have b:=Int.emod_lt_of_pos (rI M R) (show (0:Int)<(md m:Int) by have:=md_pos m;omega)
 omega
theorem restL_u64 {M R m:Nat} (hR:U64 R) (hm:U64 m) (h:M=0\/0<m):U64 (restL M R m):=by
 have a:=restL_lt hR h
 have b:=md_le hm
 unfold U64;omega
theorem restL_restN {M R m:Nat} (hR:U64 R) (h:0<m):restL M R m=restN (rF M R) (rS M R) m:=by
 have a:=restL_val (M:=M) hR (Or.inr h)
 rw [md_of h,<-rest_mod h] at a
 omega
theorem restL_own {M R:Nat} (h:0<M):restL M R M=R%M:=by unfold restL;rw [if_neg (by omega),Nat.mod_mod]
theorem norm_is (M R:Nat):normC M R=(M,restL M R M):=by
 unfold normC
 by_cases h:0<M
 ·rw [if_pos h,restL_own h]
 ·have:M=0:=by omega
  subst this;rfl
theorem leq_is {cM cR dM dR:Nat} (hc:U64 cR) (hd:U64 dR) (h:0<dM):leqC cM cR dM dR=(decide (cM%dM=0)&&decide (restL cM cR dM=restL dM dR dM)):=by
 unfold leqC
 rw [if_neg (by omega),restL_restN hc h,restL_restN hd h]
def minusL (x y m:Nat):Nat:=if x<y then x+md m-y else x-y
theorem minusL_val {x y m:Nat} (hx:x<md m) (hy:y<md m):(minusL x y m:Int)=((x:Int)-y)%(md m:Int):=by
 unfold minusL
 split
 ·rw [show (x:Int)-y=((x+md m-y:Nat):Int)+(md m:Int)*(-1) by omega,Int.add_mul_emod_self_left,Int.emod_eq_of_lt (by omega) (by omega)]
 ·rw [Int.emod_eq_of_lt (by omega) (by omega)];omega
theorem minusL_lt {x y m:Nat} (hx:x<md m) (hy:y<md m):minusL x y m<md m:=by unfold minusL;split<;>omega
def plusL (x y m:Nat):Nat:=minusL x (minusL 0 y m) m
theorem plusL_val {x y m:Nat} (hx:x<md m) (hy:y<md m):(plusL x y m:Int)=((x:Int)+y)%(md m:Int):=by
 unfold plusL
 rw [minusL_val hx (minusL_lt (md_pos m) hy),minusL_val (md_pos m) hy,Int.sub_emod_emod]
 congr 1;omega
def evL (g:Nat) (e:Bool):Nat:=if e=true then g else if g=0 then 0 else twoN g
theorem evL_pos {g:Nat} (h:0<g) (e:Bool) (hg:U64 g):evL g e=byG g e/\0<evL g e:=by
 unfold evL byG;unfold U64 at hg
 cases e with
 | true=>rw [if_pos rfl,if_pos ⟨rfl,hg⟩];exact ⟨rfl,h⟩
 | false=>rw [if_neg (by simp),if_neg (by omega),if_neg (by simp)];exact ⟨rfl,twoN_pos g⟩
theorem evL_zero (e:Bool):evL 0 e=0:=by unfold evL;cases e<;>rfl
theorem evL_u64 {g:Nat} (hg:U64 g) (e:Bool):U64 (evL g e):=by
 unfold evL;split
 ·exact hg
 ·split
  ·unfold U64;omega
  ·exact twoN_u64 g
theorem gcd_u64 {a b:Nat} (ha:U64 a) (hb:U64 b):U64 (Nat.gcd a b):=by
 unfold U64 at *
 by_cases hc:a=0
 ·rw [hc,Nat.gcd_zero_left];exact hb
 ·have:=Nat.le_of_dvd (by omega) (Nat.gcd_dvd_left a b);omega
theorem rests_may {cM dM:Nat} (e:Bool) (hc:U64 cM) (hd:U64 dM):(cM=0\/0<evL (Nat.gcd cM dM) e)/\(dM=0\/0<evL (Nat.gcd cM dM) e):=by
 by_cases h:Nat.gcd cM dM=0
 ·have:=Nat.gcd_eq_zero_iff.1 h;exact ⟨Or.inl this.1,Or.inl this.2⟩
 ·have:=(evL_pos (Nat.pos_of_ne_zero h) e (gcd_u64 hc hd)).2;exact ⟨Or.inr this,Or.inr this⟩
theorem sub_is {cM cR dM dR:Nat} (e:Bool) (h1:U64 cM) (h2:U64 cR) (h3:U64 dM) (h4:U64 dR) :
  subC cM cR dM dR e=(evL (Nat.gcd cM dM) e,minusL (restL cM cR (evL (Nat.gcd cM dM) e)) (restL dM dR (evL (Nat.gcd cM dM) e)) (evL (Nat.gcd cM dM) e)):=by
 have hr:=rests_may e h1 h3
 have a1:=restL_val h2 hr.1
 have a2:=restL_val h4 hr.2
 have b1:=restL_lt h2 hr.1
 have b2:=restL_lt h4 hr.2
 have v:=minusL_val b1 b2
 rw [a1,a2,<-Int.sub_emod] at v
 by_cases h:cM=0/\dM=0
 ·obtain ⟨rfl,rfl⟩:=h
  rw [sub_ones]
  simp only [Nat.gcd_zero_left,evL_zero,md_zero,rI_zero] at v ⊢
  refine pair_eq rfl ?_
  rw [v,bits_wrap,show ((18446744073709551616:Nat):Int)=18446744073709551616 from rfl]
 ·unfold subC
  rw [if_neg h]
  have hg:0<Nat.gcd cM dM:=Nat.pos_of_ne_zero fun c=>h (Nat.gcd_eq_zero_iff.1 c)
  obtain ⟨p,q⟩:=evL_pos hg e (gcd_u64 h1 h3)
  rw [p] at v ⊢
  rw [p] at q
  refine pair_eq rfl ?_
  rw [v,md_of q,restN_val q,sum_val,sval_not,r_val,r_val];rfl
theorem add_is {cM cR dM dR:Nat} (e:Bool) (h1:U64 cM) (h2:U64 cR) (h3:U64 dM) (h4:U64 dR) :
  addC cM cR dM dR e=(evL (Nat.gcd cM dM) e,plusL (restL cM cR (evL (Nat.gcd cM dM) e)) (restL dM dR (evL (Nat.gcd cM dM) e)) (evL (Nat.gcd cM dM) e)):=by
 have hr:=rests_may e h1 h3
 have a1:=restL_val h2 hr.1
 have a2:=restL_val h4 hr.2
 have b1:=restL_lt h2 hr.1
 have b2:=restL_lt h4 hr.2
 have v:=plusL_val b1 b2
 rw [a1,a2,<-Int.add_emod] at v
 by_cases h:cM=0/\dM=0
 ·obtain ⟨rfl,rfl⟩:=h
  rw [add_ones]
  simp only [Nat.gcd_zero_left,evL_zero,md_zero,rI_zero] at v ⊢
  refine pair_eq rfl ?_
  rw [v,bits_wrap,show ((18446744073709551616:Nat):Int)=18446744073709551616 from rfl]
 ·unfold addC
  rw [if_neg h]
  have hg:0<Nat.gcd cM dM:=Nat.pos_of_ne_zero fun c=>h (Nat.gcd_eq_zero_iff.1 c)
  obtain ⟨p,q⟩:=evL_pos hg e (gcd_u64 h1 h3)
  rw [p] at v ⊢
  rw [p] at q
  refine pair_eq rfl ?_
  rw [v,md_of q,restN_val q,sum_val,r_val,r_val]
theorem neg_is (M R:Nat) (e:Bool) (hR:U64 R):subC 0 0 M R e=negC M R e:=by
 unfold negC
 by_cases h:M=0
 ·subst h
  rw [sub_ones,if_pos rfl,wrap_zero,Int.zero_sub]
 ·unfold subC
  rw [if_neg (by omega),if_neg h,Nat.gcd_zero_left]
  have hp:=byG_pos (show 0<M by omega) e
  refine pair_eq rfl ?_
  rw [restN_val hp,restN_val hp,sum_val,sval_not,r_val,r_val,rI_zero,wrap_zero]
  congr 1
  unfold sval rF rI
  rw [if_neg h,if_neg h,if_pos rfl]
  omega
theorem mulG_parts {cM dM x y:Nat}:Nat.gcd (cM*dM) (Nat.gcd (x*dM) (y*cM))=Nat.gcd cM x*Nat.gcd dM y*Nat.gcd (cM/Nat.gcd cM x) (dM/Nat.gcd dM y):=by
 by_cases ha:Nat.gcd cM x=0
 ·have:=Nat.gcd_eq_zero_iff.1 ha
  rw [this.1,this.2];simp
 by_cases hb:Nat.gcd dM y=0
 ·have:=Nat.gcd_eq_zero_iff.1 hb
  rw [this.1,this.2];simp
 have ha':0<Nat.gcd cM x:=by omega
 have hb':0<Nat.gcd dM y:=by omega
 obtain ⟨c1,hc1⟩:=Nat.gcd_dvd_left cM x
 obtain ⟨x1,hx1⟩:=Nat.gcd_dvd_right cM x
 obtain ⟨d1,hd1⟩:=Nat.gcd_dvd_left dM y
 obtain ⟨y1,hy1⟩:=Nat.gcd_dvd_right dM y
 have co1:Nat.gcd c1 x1=1:=by
  have:=Nat.gcd_mul_left (Nat.gcd cM x) c1 x1
  rw [<-hc1,<-hx1] at this
  exact Nat.eq_of_mul_eq_mul_left ha' (by rw [Nat.mul_one];exact this.symm)
 have co2:Nat.gcd d1 y1=1:=by
  have:=Nat.gcd_mul_left (Nat.gcd dM y) d1 y1
  rw [<-hd1,<-hy1] at this
  exact Nat.eq_of_mul_eq_mul_left hb' (by rw [Nat.mul_one];exact this.symm)
 generalize Nat.gcd cM x=a at *
 generalize Nat.gcd dM y=b at *
 subst hc1 hx1 hd1 hy1
 rw [Nat.mul_div_cancel_left _ ha',Nat.mul_div_cancel_left _ hb']
 have e1:a*c1*(b*d1)=(a*b)*(c1*d1):=by rw [Nat.mul_assoc,Nat.mul_left_comm c1,<-Nat.mul_assoc a b]
 have e2:a*x1*(b*d1)=(a*b)*(x1*d1):=by rw [Nat.mul_assoc,Nat.mul_left_comm x1,<-Nat.mul_assoc a b]
 have e3:b*y1*(a*c1)=(a*b)*(y1*c1):=by rw [Nat.mul_assoc,Nat.mul_left_comm y1,<-Nat.mul_assoc b a,Nat.mul_comm b a]
 rw [e1,e2,e3,Nat.gcd_mul_left,Nat.gcd_mul_left]
 congr 1
 rw [<-Nat.gcd_assoc,Nat.gcd_mul_right,co1,Nat.one_mul,Nat.mul_comm y1 c1]
 rw [Nat.Coprime.gcd_mul_right_cancel_right c1 (show Nat.Coprime y1 d1 from (Nat.gcd_comm y1 d1).trans co2),Nat.gcd_comm]
theorem mul_is {cM cR dM dR:Nat} (e:Bool) (hc:U64 cR) (hd:U64 dR) (h0:¬(cM=0/\dM=0)) (h1:¬(cM=0/\cR=0)) (h2:¬(dM=0/\dR=0)) :
  mulC cM cR dM dR e=(byG (mulG cM cR dM dR) e,restL cM cR (byG (mulG cM cR dM dR) e)*restL dM dR (byG (mulG cM cR dM dR) e)%byG (mulG cM cR dM dR) e):=by
 unfold mulC
 rw [if_neg h0,if_neg (by omega)]
 have hp:=byG_pos (mulG_pos hc hd h0 h1 h2) e
 refine Prod.ext rfl ?_
 simp only
 apply Int.ofNat_inj.1
 have a1:=restL_val (M:=cM) hc (Or.inr hp)
 have a2:=restL_val (M:=dM) hd (Or.inr hp)
 rw [md_of hp] at a1 a2
 rw [restN_val hp,sval_mul,r_val,r_val,Int.natCast_emod,Int.natCast_mul,a1,a2,<-Int.mul_emod]
theorem div_pos {f m:Nat} (h:f<m):restN f false m=f:=by unfold restN;rw [if_neg (by simp),Nat.mod_eq_of_lt h]
theorem div_neg {f m:Nat} (h:f<m) (hm:U64 m):negC m f true=(m,restN f true m):=by
 unfold negC
 have:byG m true=m:=by unfold byG;rw [if_pos ⟨rfl,hm⟩]
 rw [if_neg (by omega),this]
 unfold rF
 rw [if_neg (by omega),Nat.mod_eq_of_lt h]
theorem quo_lt {r M k:Nat} (hr:r<M) (hk:0<k) (h1:M%k=0):r/k<M/k:=by
 have h:=Nat.div_add_mod M k
 rw [Nat.div_lt_iff_lt_mul hk,Nat.mul_comm]
 omega
theorem rem_gcd {cM cR dM dR:Nat} (hd:U64 dR) (h0:¬(dM=0/\dR=0)):0<Nat.gcd (Nat.gcd cM dM) (rF dM dR):=by
 apply Nat.pos_of_ne_zero
 intro h
 have a:=Nat.gcd_eq_zero_iff.1 h
 have b:=Nat.gcd_eq_zero_iff.1 a.1
 have:=rF_ne hd h0 b.2
 omega
theorem up_way {M R:Nat} {v:Int} (h1:U64 M) (h2:U64 R) (hv:In64 v) :
  upC M R v=if 9223372036854775807-v<((subC M R 0 (bitsN v) true).2:Int) then (0,false) else (wrap64 (v+wrap64 ((subC M R 0 (bitsN v) true).2:Int)),true):=by
 unfold upC
 by_cases h:M=0
 ·rw [if_pos h];subst h
  rw [sub_ones,wrap_bits hv]
  have a:=wrap64_in (R:Int)
  generalize wrap64 (R:Int)=n at *
  unfold In64 at *
  have e:=bits_wrap (n-v)
  simp only [e]
  by_cases c:n<v
  ·rw [if_pos c,if_pos (by omega)]
  ·rw [if_neg c,if_neg (by omega)]
   refine Prod.ext ?_ rfl
   simp only;unfold wrap64;omega
 ·rw [if_neg h]
  have hM:0<M:=by omega
  have e:(subC M R 0 (bitsN v) true).2=upN M R v:=by
   apply Int.ofNat_inj.1
   unfold subC
   rw [if_neg (by omega),Nat.gcd_zero_right]
   have:byG M true=M:=by unfold byG;rw [if_pos ⟨rfl,h1⟩]
   simp only [this]
   rw [restN_val hM,sum_val,sval_not,r_val,r_val,rI_zero,wrap_bits hv,upN_val hM hv];rfl
  rw [e]
  have n0:=Int.emod_nonneg (rI M R-v) (show (M:Int)≠0 by omega)
  rw [<-upN_val hM hv] at n0
  unfold In64 at hv
  by_cases c:9223372036854775807-v<(upN M R v:Int)
  ·rw [if_pos c,if_pos c]
  ·rw [if_neg c,if_neg c]
   refine Prod.ext ?_ rfl
   simp only;unfold wrap64;omega
theorem down_way {M R:Nat} {v:Int} (h1:U64 M) (h2:U64 R) (hv:In64 v) :
  downC M R v=if v+9223372036854775808<((subC 0 (bitsN v) M R true).2:Int) then (0,false) else (wrap64 (v-wrap64 ((subC 0 (bitsN v) M R true).2:Int)),true):=by
 unfold downC
 by_cases h:M=0
 ·rw [if_pos h];subst h
  rw [sub_ones,wrap_bits hv]
  have a:=wrap64_in (R:Int)
  generalize wrap64 (R:Int)=n at *
  unfold In64 at *
  have e:=bits_wrap (v-n)
  simp only [e]
  by_cases c:v<n
  ·rw [if_pos c,if_pos (by omega)]
  ·rw [if_neg c,if_neg (by omega)]
   refine Prod.ext ?_ rfl
   simp only;unfold wrap64;omega
 ·rw [if_neg h]
  have hM:0<M:=by omega
  have e:(subC 0 (bitsN v) M R true).2=downN M R v:=by
   apply Int.ofNat_inj.1
   unfold subC
   rw [if_neg (by omega),Nat.gcd_zero_left]
   have:byG M true=M:=by unfold byG;rw [if_pos ⟨rfl,h1⟩]
   simp only [this]
   rw [restN_val hM,sum_val,sval_not,r_val,r_val,rI_zero,wrap_bits hv,downN_val hM hv];rfl
  rw [e]
  have n0:=Int.emod_nonneg (v-rI M R) (show (M:Int)≠0 by omega)
  rw [<-downN_val hM hv] at n0
  unfold In64 at hv
  by_cases c:v+9223372036854775808<(downN M R v:Int)
  ·rw [if_pos c,if_pos c]
  ·rw [if_neg c,if_neg c]
   refine Prod.ext ?_ rfl
   simp only;unfold wrap64;omega
theorem end_up {v:Int} (hv:In64 v):((subC 0 (bitsN 9223372036854775807) 0 (bitsN v) true).2:Int)=9223372036854775807-v:=by
 rw [sub_ones,wrap_bits hv,wrap_bits (by unfold In64;omega)]
 simp only [bits_wrap]
 unfold In64 at hv;omega
theorem end_down {v:Int} (hv:In64 v):((subC 0 (bitsN v) 0 (bitsN (-9223372036854775808)) true).2:Int)=v+9223372036854775808:=by
 rw [sub_ones,wrap_bits hv,wrap_bits (by unfold In64;omega)]
 simp only [bits_wrap]
 unfold In64 at hv;omega
end Go.Proofs.YtnjmjnmhldhaoaaGreat
namespace Go.Proofs.YtnjmjnmhldhaoaaGreat
open Go.RowKit
theorem bits_val (v:Int):(bitsN v:Int)=IntKind.u64.wrap v:=by unfold bitsN;rw [u64w];omega
theorem pconst_ex (v:Int) (w:World) :
  Calls Tryz.prog 123 #[.int .i64 v] w fun e w'=>e=.returned (cv 0 (bitsN v))/\w'=w.alloc (.cells #[.int .u64 0,.int .u64 (IntKind.u64.wrap v)] 27):=by
 have E:Hid ((bitsN v:Int)=IntKind.u64.wrap v):=bits_val v
 unfold cv
 go_enter Tryz.func123,Tryz.ntmps123
 go_wp2
 (try simp only [Exit.inBlock, Exit.then]); refine bodyPost_ret (results_cell_row rfl _ _ (w.heap.size) 27 #[_, _] (0, 0) _ rfl jj Tryz.underlying27 rfl infoCg) rfl ?_
 rw [E.out]
 exact ⟨rfl,rfl⟩
theorem pconst_any (v:Int)  (w0 w:World) (hok:Ok w0 w) :
  Calls Tryz.prog 123 #[.int .i64 v] w fun e w'=>e=.returned (cv 0 (bitsN v))/\Ok w0 w':=by
 refine (pconst_ex v w).mono ?_
 rintro e w' ⟨rfl,rfl⟩
 exact ⟨rfl,hok.alloc _⟩
theorem pall_ex (w:World) :
  Calls Tryz.prog 257 #[] w fun e w'=>e=.returned (cv 1 0)/\w'=w.alloc (.cells #[.int .u64 1,.int .u64 0] 27):=by
 unfold cv
 go_enter Tryz.func257,Tryz.ntmps257
 go_wp2
 (try simp only [Exit.inBlock, Exit.then]); refine bodyPost_ret (results_cell_row rfl _ _ (w.heap.size) 27 #[_, _] (0, 0) _ rfl jj Tryz.underlying27 rfl infoCg) rfl ?_
 exact ⟨rfl,rfl⟩
theorem pisone_ex (M R:Nat) (w:World) :
  Calls Tryz.prog 149 #[cv M R] w fun e w'=>e=.returned (.bool (decide (M=0)))/\w'=w.alloc (.cells #[.int .u64 (M:Int),.int .u64 (R:Int)] 27):=by
 have E:Hid (((M:Int)==0)=decide (M=0)):=by unfold Hid;by_cases h:M=0<;>simp [h]
 unfold cv
 go_enter Tryz.func149,Tryz.ntmps149
 go_wp2
 go_ret
 exact ⟨retb E.out,rfl⟩
theorem pnumber_ex (M R:Nat) (w:World) :
  Calls Tryz.prog 218 #[cv M R] w fun e w'=>e=.returned (.int .i64 (wrap64 (R:Int)))/\w'=w.alloc (.cells #[.int .u64 (M:Int),.int .u64 (R:Int)] 27):=by
 unfold cv
 go_enter Tryz.func218,Tryz.ntmps218
 go_wp2
 go_ret
 exact ⟨ret1 rfl,rfl⟩
theorem restL_one {R m:Nat} (hR:U64 R):restL 0 R m=modL (wrap64 (R:Int)) m:=by
 unfold restL modL
 rw [if_pos rfl]
 by_cases h:m=0
 ·rw [if_pos h,if_pos h];unfold U64 at hR;unfold bitsN wrap64;omega
 ·rw [if_neg h,if_neg h]
theorem prest_any (M R m:Nat) (h1:U64 M) (h2:U64 R) (hm:U64 m) (h:M=0\/0<m) (w0 w:World) (hok:Ok w0 w) :
  Calls Tryz.prog 175 #[cv M R,.int .u64 (m:Int)] w fun e w'=>e=.returned (.int .u64 (restL M R m:Int))/\Ok w0 w':=by
 by_cases h0:M=0
 ·subst h0
  have E:Hid (restL 0 R m=modL (wrap64 (R:Int)) m):=restL_one h2
  have HM:Hid _:=hm
  have HI:Hid _:=wrap64_in (R:Int)
  have d:decide ((0:Nat)=0)=true:=rfl
  clear h h1 h2 hm
  unfold cv
  go_enter Tryz.func175,Tryz.ntmps175
  go_wp2_with (first | (go_at_call 149;refine (pisone_ex 0 R _).mono ?_;rintro e w' ⟨rfl,rfl⟩) | (go_at_call 218;refine (pnumber_ex 0 R _).mono ?_;rintro e w' ⟨rfl,rfl⟩) | (go_at_call 105;refine (wmod_any _ m HI.out HM.out _).mono ?_;rintro e w' ⟨rfl,rfl⟩) | fail)
  go_ret
  exact ⟨ret1 (by rw [E.out]),(by repeat (first | exact hok | refine Ok.alloc ?_ _ | refine Ok.draws ?_ _ | fail))⟩
 ·have hm0:0<m:=by omega
  have E:Hid ((restL M R m:Int)=(R:Int)%(M:Int)%(m:Int)):=by unfold Hid restL;rw [if_neg h0,Int.natCast_emod,Int.natCast_emod]
  have d:decide (M=0)=false:=decide_eq_false h0
  have e1:¬(M:Int)=0:=by omega
  have e2:((M:Int)==0)=false:=by simpa using h0
  have e3:¬(m:Int)=0:=by omega
  have e4:((m:Int)==0)=false:=by simp;omega
  have e5:(0:Int)<=(R:Int)%(M:Int):=Int.emod_nonneg _ e1
  have e6:((R:Int)%(M:Int)).tmod (m:Int)=(R:Int)%(M:Int)%(m:Int):=Int.tmod_eq_emod_of_nonneg e5
  clear h h1 h2 hm hm0
  unfold cv
  go_enter Tryz.func175,Tryz.ntmps175
  go_wp2_with (first | (go_at_call 149;refine (pisone_ex M R _).mono ?_;rintro e w' ⟨rfl,rfl⟩) | fail)
  go_ret
  exact ⟨ret1 (by rw [E.out]),(by repeat (first | exact hok | refine Ok.alloc ?_ _ | refine Ok.draws ?_ _ | fail))⟩
theorem pclass_any (M R m:Nat) (h1:U64 M) (h2:U64 R) (hm:U64 m) (h:M=0\/0<m) (w0 w:World) (hok:Ok w0 w) :
  Calls Tryz.prog 124 #[cv M R,.int .u64 (m:Int)] w fun e w'=>e=.returned (cv m (restL M R m))/\Ok w0 w':=by
 have hle:=hok.le
 have HU:Hid _:=And.intro h1 (And.intro h2 (And.intro hm h))
 clear h1 h2 hm h
 unfold cv
 go_enter Tryz.func124,Tryz.ntmps124
 go_wp2_with fail
 refine (prest_any M R m HU.out.1 HU.out.2.1 HU.out.2.2.1 HU.out.2.2.2 _ _ (Ok.refl _)).mono ?_
 rintro e w' ⟨rfl,hb⟩
 have hr : Hid _ := Ok.row' (g := w.heap.size+1) (o := .cells #[.int .u64 0, .int .u64 0] 27) hb jj; obtain ⟨k0, k1, k2, k3⟩ := row_facts hr.out
 go_wp2_with fail
 (try simp only [Exit.inBlock, Exit.then]); refine bodyPost_ret (results_cell_row rfl _ _ (w.heap.size+1) 27 #[_, _] (0, 0) _ rfl (row_set2 hr.out _ _) Tryz.underlying27 rfl infoCg) rfl ?_
 exact ⟨rfl,((Ok.step (by repeat (first | exact hok | refine Ok.alloc ?_ _ | refine Ok.draws ?_ _ | fail)) hb).set (show w0.heap.size ≤ w.heap.size+1 by omega) _).set (show w0.heap.size ≤ w.heap.size+1 by omega) _⟩
theorem pnorm_u (M R:Nat) (h1:U64 M) (h2:U64 R) (w0 w:World) (hok:Ok w0 w) :
  Calls Tryz.prog 60 #[cv M R] w fun e w'=>e=.returned (cv (normC M R).1 (normC M R).2)/\Ok w0 w':=by
 have hle:=hok.le
 have E:Hid (normC M R=(M,restL M R M)):=norm_is M R
 rw [E.out]
 have HU:Hid _:=And.intro h1 h2
 have HM:Hid (M=0\/0<M):=by unfold Hid;omega
 clear h1 h2
 unfold cv
 go_enter Tryz.func60,Tryz.ntmps60
 go_wp2_with fail
 refine (pclass_any M R M HU.out.1 HU.out.2 HU.out.1 HM.out _ _ (Ok.refl _)).mono ?_
 rintro e w' ⟨rfl,hb⟩
 have hr : Hid _ := Ok.row' (g := w.heap.size+1) (o := .cells #[.int .u64 0, .int .u64 0] 27) hb jj; obtain ⟨k0, k1, k2, k3⟩ := row_facts hr.out
 unfold cv
 go_wp2_with fail
 (try simp only [Exit.inBlock, Exit.then]); refine bodyPost_ret (results_cell_row rfl _ _ (w.heap.size+1) 27 #[_, _] (0, 0) _ rfl (row_set2 hr.out _ _) Tryz.underlying27 rfl infoCg) rfl ?_
 exact ⟨rfl,((Ok.step (by repeat (first | exact hok | refine Ok.alloc ?_ _ | refine Ok.draws ?_ _ | fail)) hb).set (show w0.heap.size ≤ w.heap.size+1 by omega) _).set (show w0.heap.size ≤ w.heap.size+1 by omega) _⟩
theorem eqC (a b c d:Nat):((a:Int)==(c:Int)&&(b:Int)==(d:Int))=(decide (a=c)&&decide (b=d)):=by
 have h:∀ x y:Nat,((x:Int)==(y:Int))=decide (x=y):=fun x y=>by
  by_cases e:x=y
  ·subst e;simp
  ·rw [decide_eq_false e];simp;omega
 rw [h,h]
theorem pleq_any (cM cR dM dR:Nat) (h1:U64 cM) (h2:U64 cR) (h3:U64 dM) (h4:U64 dR) (w0 w:World) (hok:Ok w0 w) :
  Calls Tryz.prog 151 #[cv cM cR,cv dM dR] w fun e w'=>e=.returned (.bool (leqC cM cR dM dR))/\Ok w0 w':=by
 have hle:=hok.le
 by_cases hd:dM=0
 ·have E:Hid (leqC cM cR dM dR=(decide (cM=dM)&&decide (cR=dR))):=by unfold Hid leqC;rw [if_pos hd,hd]
  have d:decide (dM=0)=true:=decide_eq_true hd
  have E2:Hid _:=eqC cM cR dM dR
  clear h1 h2 h3 h4 hd
  unfold cv
  go_enter Tryz.func151,Tryz.ntmps151
  go_wp2_with (first | (go_at_call 149;refine (pisone_ex dM dR _).mono ?_;rintro e w' ⟨rfl,rfl⟩) | fail)
  ·rename_i q1 q2
   have q:Hid ((cM:Int)=dM/\(cR:Int)=dR):=⟨q1,q2⟩
   go_ret
   refine ⟨retb ?_,(by repeat (first | exact hok | refine Ok.alloc ?_ _ | refine Ok.draws ?_ _ | fail))⟩
   have q':=q.out
   rw [E.out,decide_eq_true (show cM=dM by omega),decide_eq_true (show cR=dR by omega)];rfl
  ·rename_i q1 q2
   have q:Hid (¬(cR:Int)=dR):=q2
   go_ret
   refine ⟨retb ?_,(by repeat (first | exact hok | refine Ok.alloc ?_ _ | refine Ok.draws ?_ _ | fail))⟩
   have q':=q.out
   rw [E.out,decide_eq_false (show ¬cR=dR by omega),Bool.and_false]
  ·rename_i q2
   have q:Hid (¬(cM:Int)=dM):=q2
   go_ret
   refine ⟨retb ?_,(by repeat (first | exact hok | refine Ok.alloc ?_ _ | refine Ok.draws ?_ _ | fail))⟩
   have q':=q.out
   rw [E.out,decide_eq_false (show ¬cM=dM by omega),Bool.false_and]
 ·have E:Hid _:=leq_is (cM:=cM) h2 h4 (show 0<dM by omega)
  have d:decide (dM=0)=false:=decide_eq_false hd
  have hd1:((dM:Int)==0)=false:=by simp;omega
  have hd2:¬(dM:Int)=0:=by omega
  have hd3:¬dM=0:=hd
  have hd4:(dM==0)=false:=by simp [hd]
  have hd5:(0:Int)<=(dM:Int):=by omega
  have hd6:(0:Int)<=(cM:Int):=by omega
  have hd7:(cM:Int).tmod (dM:Int)=(cM:Int)%(dM:Int):=Int.tmod_eq_emod_of_nonneg (by omega)
  have HP:Hid (0<dM):=by unfold Hid;omega
  have HU:Hid _:=And.intro h1 (And.intro h2 (And.intro h3 h4))
  clear h1 h2 h3 h4
  by_cases hc:cM%dM=0
  ·have hc1:((cM:Int)%(dM:Int)==0)=true:=by rw [<-Int.natCast_emod,hc];rfl
   have hc2:(cM:Int)%(dM:Int)=0:=by omega
   have E2:Hid (leqC cM cR dM dR=decide (restL cM cR dM=restL dM dR dM)):=by unfold Hid;rw [E.out,decide_eq_true hc,Bool.true_and]
   obtain ⟨t1,ht1⟩:∃ t,t=restL cM cR dM:=⟨_,rfl⟩
   obtain ⟨t2,ht2⟩:∃ t,t=restL dM dR dM:=⟨_,rfl⟩
   rw [<-ht1,<-ht2] at E2
   have HT:Hid _:=And.intro ht1 ht2
   have HN:Hid (normC dM dR=(dM,restL dM dR dM)):=norm_is dM dR
   clear hc E ht1 ht2
   by_cases et:t1=t2
   ·rw [decide_eq_true et] at E2
    have et1:(t1:Int)=t2:=by omega
    have et2:((t1:Int)==(t2:Int))=true:=by simp [et]
    clear et
    unfold cv
    go_enter Tryz.func151,Tryz.ntmps151
    go_wp2_with (first | (go_at_call 149;refine (pisone_ex dM dR _).mono ?_;rintro e w' ⟨rfl,rfl⟩) | fail)
    obtain ⟨W,hW⟩:∃ W,W=((w.alloc (.cells #[.int .u64 (cM:Int),.int .u64 (cR:Int)] 27)).alloc (.cells #[.int .u64 (dM:Int),.int .u64 (dR:Int)] 27)).alloc (.cells #[.int .u64 (dM:Int),.int .u64 (dR:Int)] 27):=⟨_,rfl⟩
    have ra:W.heap[w.heap.size]?=some (.cells #[.int .u64 (cM:Int),.int .u64 (cR:Int)] 27):=by rw [hW];exact jj
    have rr:W.heap[w.heap.size+1]?=some (.cells #[.int .u64 (dM:Int),.int .u64 (dR:Int)] 27):=by rw [hW];exact jj
    have HW:Hid (Ok w0 W):=by rw [hW];exact (by repeat (first | exact hok | refine Ok.alloc ?_ _ | refine Ok.draws ?_ _ | fail))
    rw [<-hW]
    clear hW hok
    obtain ⟨g0,g1,_,_⟩:=row_facts ra
    obtain ⟨g2,g3,_,_⟩:=row_facts rr
    have z0:=lt_row ra
    have z1:=lt_row rr
    clear ra rr
    have bz:Ok W W:=Ok.refl _
    go_region_held3 (fun w'=>w'.cell? ⟨w.heap.size,0,none⟩=some (.int .u64 (cM:Int))/\w'.cell? ⟨w.heap.size,1,none⟩=some (.int .u64 (cR:Int))/\w'.cell? ⟨w.heap.size+1,0,none⟩=some (.int .u64 (dM:Int))/\w'.cell? ⟨w.heap.size+1,1,none⟩=some (.int .u64 (dR:Int))) (go_keep)
     (first
     | (go_at_call 124;refine (pclass_any cM cR dM HU.out.1 HU.out.2.1 HU.out.2.2.1 (Or.inr HP.out) W _ (by repeat (first | assumption | refine Ok.alloc ?_ _ | refine Below.drew ?_))).mono ?_;rintro e w' ⟨rfl,hb⟩;rw [<-HT.out.1];unfold cv;have q0:=Ok.cell hb z0 g0;have q1:=Ok.cell hb z0 g1;have q2:=Ok.cell hb z1 g2;have q3:=Ok.cell hb z1 g3)
     | (go_at_call 60;refine (pnorm_u dM dR HU.out.2.2.1 HU.out.2.2.2 W _ (by repeat (first | assumption | refine Ok.alloc ?_ _ | refine Below.drew ?_))).mono ?_;rintro e w' ⟨rfl,hb⟩;rw [HN.out,<-HT.out.2];unfold cv;have q0:=Ok.cell hb z0 g0;have q1:=Ok.cell hb z0 g1;have q2:=Ok.cell hb z1 g2;have q3:=Ok.cell hb z1 g3)
     | fail)
    go_wp2_with fail
    go_ret
    exact ⟨retb E2.out.symm,by repeat (first | exact HW.out.step hb | refine Ok.draws ?_ _)⟩
   ·rw [decide_eq_false et] at E2
    have et1:¬(t1:Int)=t2:=by omega
    have et2:((t1:Int)==(t2:Int))=false:=by simp;omega
    clear et
    unfold cv
    go_enter Tryz.func151,Tryz.ntmps151
    go_wp2_with (first | (go_at_call 149;refine (pisone_ex dM dR _).mono ?_;rintro e w' ⟨rfl,rfl⟩) | fail)
    obtain ⟨W,hW⟩:∃ W,W=((w.alloc (.cells #[.int .u64 (cM:Int),.int .u64 (cR:Int)] 27)).alloc (.cells #[.int .u64 (dM:Int),.int .u64 (dR:Int)] 27)).alloc (.cells #[.int .u64 (dM:Int),.int .u64 (dR:Int)] 27):=⟨_,rfl⟩
    have ra:W.heap[w.heap.size]?=some (.cells #[.int .u64 (cM:Int),.int .u64 (cR:Int)] 27):=by rw [hW];exact jj
    have rr:W.heap[w.heap.size+1]?=some (.cells #[.int .u64 (dM:Int),.int .u64 (dR:Int)] 27):=by rw [hW];exact jj
    have HW:Hid (Ok w0 W):=by rw [hW];exact (by repeat (first | exact hok | refine Ok.alloc ?_ _ | refine Ok.draws ?_ _ | fail))
    rw [<-hW]
    clear hW hok
    obtain ⟨g0,g1,_,_⟩:=row_facts ra
    obtain ⟨g2,g3,_,_⟩:=row_facts rr
    have z0:=lt_row ra
    have z1:=lt_row rr
    clear ra rr
    have bz:Ok W W:=Ok.refl _
    go_region_held3 (fun w'=>w'.cell? ⟨w.heap.size,0,none⟩=some (.int .u64 (cM:Int))/\w'.cell? ⟨w.heap.size,1,none⟩=some (.int .u64 (cR:Int))/\w'.cell? ⟨w.heap.size+1,0,none⟩=some (.int .u64 (dM:Int))/\w'.cell? ⟨w.heap.size+1,1,none⟩=some (.int .u64 (dR:Int))) (go_keep)
     (first
     | (go_at_call 124;refine (pclass_any cM cR dM HU.out.1 HU.out.2.1 HU.out.2.2.1 (Or.inr HP.out) W _ (by repeat (first | assumption | refine Ok.alloc ?_ _ | refine Below.drew ?_))).mono ?_;rintro e w' ⟨rfl,hb⟩;rw [<-HT.out.1];unfold cv;have q0:=Ok.cell hb z0 g0;have q1:=Ok.cell hb z0 g1;have q2:=Ok.cell hb z1 g2;have q3:=Ok.cell hb z1 g3)
     | (go_at_call 60;refine (pnorm_u dM dR HU.out.2.2.1 HU.out.2.2.2 W _ (by repeat (first | assumption | refine Ok.alloc ?_ _ | refine Below.drew ?_))).mono ?_;rintro e w' ⟨rfl,hb⟩;rw [HN.out,<-HT.out.2];unfold cv;have q0:=Ok.cell hb z0 g0;have q1:=Ok.cell hb z0 g1;have q2:=Ok.cell hb z1 g2;have q3:=Ok.cell hb z1 g3)
     | fail)
    go_wp2_with fail
    go_ret
    exact ⟨retb E2.out.symm,by repeat (first | exact HW.out.step hb | refine Ok.draws ?_ _)⟩
  ·have hc1:((cM:Int)%(dM:Int)==0)=false:=by rw [<-Int.natCast_emod];simp;omega
   have hc2:¬(cM:Int)%(dM:Int)=0:=by rw [<-Int.natCast_emod];omega
   have E2:Hid (leqC cM cR dM dR=false):=by unfold Hid;rw [E.out,decide_eq_false hc,Bool.false_and]
   clear hc E
   unfold cv
   go_enter Tryz.func151,Tryz.ntmps151
   go_wp2_with (first | (go_at_call 149;refine (pisone_ex dM dR _).mono ?_;rintro e w' ⟨rfl,rfl⟩) | fail)
   go_quiet (fail)
   go_wp2_with fail
   go_ret
   exact ⟨retb E2.out.symm,by repeat (first | exact hok | refine Ok.draws ?_ _ | refine Ok.alloc ?_ _)⟩
end Go.Proofs.YtnjmjnmhldhaoaaGreat
namespace Go.Proofs.YtnjmjnmhldhaoaaGreat
open Go.RowKit
theorem phas_any (M R:Nat) (v:Int) (h1:U64 M) (h2:U64 R) (w0 w:World) (hok:Ok w0 w) :
  Calls Tryz.prog 159 #[cv M R,.int .i64 v] w fun e w'=>e=.returned (.bool (hasC M R v))/\Ok w0 w':=by
 have hle:=hok.le
 have HU:Hid _:=And.intro h1 h2
 clear h1 h2
 unfold hasC
 obtain ⟨B,hB⟩:∃ B,B=bitsN v:=⟨_,rfl⟩
 have HB:Hid (U64 B):=by rw [hB];exact bitsN_u64 v
 have HE:Hid _:=hB
 rw [<-hB]
 clear hB
 unfold cv
 go_enter Tryz.func159,Tryz.ntmps159
 go_wp2_with fail
 obtain ⟨W,hW⟩:∃ W,W=(w.alloc (.cells #[.int .u64 (M:Int),.int .u64 (R:Int)] 27)):=⟨_,rfl⟩
 have ra0:W.heap[w.heap.size]?=some (.cells #[.int .u64 (M:Int),.int .u64 (R:Int)] 27):=by rw [hW];exact jj
 have HW:Hid (Ok w0 W):=by rw [hW];exact (by repeat (first | exact hok | refine Ok.alloc ?_ _ | refine Ok.draws ?_ _ | fail))
 rw [<-hW]
 clear hW hok
 have z0:=lt_row ra0
 have HR0:Hid _:=ra0
 obtain ⟨g00,g01,f00,f01⟩:=row_facts ra0
 clear ra0
 have bz:Ok W W:=Ok.refl _
 go_region_held3 (fun w'=>w'.cell? ⟨w.heap.size,0,none⟩=some (.int .u64 (M:Int))/\w'.cell? ⟨w.heap.size,1,none⟩=some (.int .u64 (R:Int))) (go_keep)
  (first
  | (go_at_call 123;refine (pconst_any v W _ (by repeat (first | assumption | refine Ok.alloc ?_ _ | refine Below.drew ?_))).mono ?_;rintro e w' ⟨rfl,hb⟩;rw [<-HE.out];unfold cv;have q00:=Ok.cell hb z0 g00;have q01:=Ok.cell hb z0 g01)
  | (go_at_call 151;refine (pleq_any 0 B M R (by unfold U64;omega) HB.out HU.out.1 HU.out.2 W _ (by repeat (first | assumption | refine Ok.alloc ?_ _ | refine Below.drew ?_))).mono ?_;rintro e w' ⟨rfl,hb⟩;have q00:=Ok.cell hb z0 g00;have q01:=Ok.cell hb z0 g01)
  | fail)
 go_wp2_with fail
 go_ret
 exact ⟨rfl,by repeat (first | exact HW.out.step hb | refine Ok.draws ?_ _)⟩
theorem pdist_any (v z:Int) (hv:In64 v) (hz:In64 z) (w:World) :
  Calls Tryz.prog 261 #[.int .i64 v,.int .i64 z] w fun e w'=>e=.returned (.int .u64 ((v-z).natAbs:Int))/\w'=w:=by
 have HV:Hid _:=And.intro hv hz
 clear hv hz
 go_enter Tryz.func261,Tryz.ntmps261
 go_wp2_with fail
 all_goals go_ret
 all_goals (refine ⟨ret1 ?_,rfl⟩;have HV2:=HV.out;unfold In64 at HV2;simp only [u64w];omega)
theorem size_val {M R:Nat} (hM:M=0):(rF M R:Int)=((wrap64 (R:Int)).natAbs:Int):=by unfold rF;rw [if_pos hM]
theorem psize_any (M R:Nat) (h1:U64 M) (h2:U64 R) (w0 w:World) (hok:Ok w0 w) :
  Calls Tryz.prog 255 #[cv M R] w fun e w'=>e=.returned (.int .u64 (rF M R:Int))/\Ok w0 w':=by
 have hle:=hok.le
 by_cases h0:M=0
 ·have E:Hid _:=size_val (R:=R) h0
  have HI:Hid _:=wrap64_in (R:Int)
  have d:decide (M=0)=true:=decide_eq_true h0
  clear h0 h1 h2
  unfold cv
  go_enter Tryz.func255,Tryz.ntmps255
  go_wp2_with (first | (go_at_call 149;refine (pisone_ex M R _).mono ?_;rintro e w' ⟨rfl,rfl⟩) | (go_at_call 218;refine (pnumber_ex M R _).mono ?_;rintro e w' ⟨rfl,rfl⟩) | (go_at_call 261;refine (pdist_any _ 0 HI.out (by omega) _).mono ?_;rintro e w' ⟨rfl,rfl⟩) | fail)
  go_ret
  exact ⟨ret1 E.out.symm,(by repeat (first | exact hok | refine Ok.alloc ?_ _ | refine Ok.draws ?_ _ | fail))⟩
 ·have E:Hid (rF M R=restL M R M):=by unfold Hid;rw [restL_own (by omega)];unfold rF;rw [if_neg h0]
  have HU:Hid _:=And.intro h1 h2
  have HP:Hid (0<M):=by unfold Hid;omega
  have d:decide (M=0)=false:=decide_eq_false h0
  clear h1 h2 h0
  unfold cv
  go_enter Tryz.func255,Tryz.ntmps255
  go_wp2_with (first | (go_at_call 149;refine (pisone_ex M R _).mono ?_;rintro e w' ⟨rfl,rfl⟩) | (go_at_call 175;refine (prest_any M R M HU.out.1 HU.out.2 HU.out.1 (Or.inr HP.out) w0 _ (by repeat (first | exact hok | refine Ok.alloc ?_ _ | refine Ok.draws ?_ _ | fail))).mono ?_;rintro e w' ⟨rfl,hb⟩) | fail)
  go_ret
  exact ⟨ret1 (by rw [E.out]),hb⟩
theorem minus_less {x y m:Nat} (hx:x<md m) (hy:y<md m) (hm:U64 m) (h:x<y):IntKind.u64.wrap (IntKind.u64.wrap ((x:Int)-y)+m)=(minusL x y m:Int):=by
 unfold minusL;rw [if_pos h]
 simp only [u64w]
 unfold md at *;unfold U64 at hm
 split at hx
 ·rename_i e;rw [if_pos e] at hy ⊢;omega
 ·rename_i e;rw [if_neg e] at hy ⊢;omega
theorem minus_more {x y m:Nat} (hx:x<md m) (hm:U64 m) (h:¬x<y):IntKind.u64.wrap ((x:Int)-y)=(minusL x y m:Int):=by
 unfold minusL;rw [if_neg h]
 rw [u64w]
 have:=md_le hm
 omega
theorem pminus_any (x y m:Nat) (hx:x<md m) (hy:y<md m) (hm:U64 m) (w:World) :
  Calls Tryz.prog 170 #[.int .u64 (x:Int),.int .u64 (y:Int),.int .u64 (m:Int)] w fun e w'=>e=.returned (.int .u64 (minusL x y m:Int))/\w'=w:=by
 by_cases h:x<y
 ·have E:Hid _:=minus_less hx hy hm h
  have h1:(x:Int)<y:=by omega
  clear hx hy hm h
  go_enter Tryz.func170,Tryz.ntmps170
  go_wp2_with fail
  go_ret
  exact ⟨ret1 E.out,rfl⟩
 ·have E:Hid _:=minus_more hx hm h
  have h1:¬(x:Int)<y:=by omega
  clear hx hy hm h
  go_enter Tryz.func170,Tryz.ntmps170
  go_wp2_with fail
  go_ret
  exact ⟨ret1 E.out,rfl⟩
theorem pplus_any (x y m:Nat) (hx:x<md m) (hy:y<md m) (hm:U64 m) (w:World) :
  Calls Tryz.prog 227 #[.int .u64 (x:Int),.int .u64 (y:Int),.int .u64 (m:Int)] w fun e w'=>e=.returned (.int .u64 (plusL x y m:Int))/\w'=w:=by
 have H1:Hid _:=And.intro hx (And.intro hy hm)
 have H2:Hid _:=minusL_lt (md_pos m) hy
 have H3:Hid _:=md_pos m
 have E:Hid (plusL x y m=minusL x (minusL 0 y m) m):=rfl
 clear hx hy hm
 go_enter Tryz.func227,Tryz.ntmps227
 go_wp2_with fail
 refine (pminus_any 0 y m H3.out H1.out.2.1 H1.out.2.2 _).mono ?_
 rintro e w' ⟨rfl,rfl⟩
 go_wp2_with fail
 refine (pminus_any x _ m H1.out.1 H2.out H1.out.2.2 _).mono ?_
 rintro e w' ⟨rfl,rfl⟩
 go_wp2_with fail
 go_ret
 exact ⟨ret1 (by rw [E.out]),rfl⟩
end Go.Proofs.YtnjmjnmhldhaoaaGreat
namespace Go.Proofs.YtnjmjnmhldhaoaaGreat
open Go.RowKit
def foldG (f:Nat->Nat):Nat->Nat
 | 0=>0
 | k+1=>Nat.gcd (foldG f k) (f k)
theorem foldG_u64 {f:Nat->Nat}:∀ {k:Nat},(∀ j,j<k->U64 (f j))->U64 (foldG f k)
 | 0,_=>by unfold U64 foldG;omega
 | k+1,h=>gcd_u64 (foldG_u64 fun j hj=>h j (by omega)) (h k (by omega))
set_option maxRecDepth 100000 in
theorem pgcd_all (f:Nat->Nat) (n g:Nat) (hn:n<=1000) (w0 w:World) (hok:Ok w0 w) (hg:g<w.heap.size) (hf:∀ k,k<n->U64 (f k))
  (hc:∀ k,k<n->w.cell? ⟨g,k,none⟩=some (.int .u64 (f k:Int))) :
  Calls Tryz.prog 152 #[.slice (some ⟨g,0,none⟩) n n] w fun e w'=>e=.returned (.int .u64 (foldG f n:Int))/\Ok w0 w':=by
 have HC:Hid _:=hc
 have HF:Hid _:=hf
 have HO:Hid _:=hok
 clear hc hf hok
 go_enter Tryz.func152,Tryz.ntmps152
 go_wp2_with fail
 go_loopw [3,8] (fun a i wr=>∃ k:Nat,k<=n/\i=.int .i64 k/\a=.int .u64 (foldG f k:Int)/\Hid (Ok w wr)) (fun _ i _=>(n-intOf i).toNat)
 case atStart=>exact ⟨0,by omega,rfl,rfl,Ok.refl _⟩
 case round =>
  obtain ⟨k,hk,rfl,rfl,HI⟩:=hrel
  by_cases hk1:k<n
  ·have hk2:(k:Int)<n:=by omega
   have c0:=Ok.cell HI.out (p:=⟨g,k,none⟩) hg (HC.out k hk1)
   have HG:Hid _:=And.intro (foldG_u64 (f:=f) (k:=k) fun j hj=>HF.out j (by omega)) (HF.out k hk1)
   go_wp2_with fail
   refine (wgcd_any _ _ HG.out.1 HG.out.2 w _ HI.out).mono ?_
   rintro e w' ⟨rfl,hb⟩
   go_wp2_with fail
   exact ⟨⟨k+1,by omega,by simp,rfl,hb⟩,by simp only [intOf];omega⟩
  ·have hk3:k=n:=by omega
   subst hk3
   go_wp2_with fail
   go_ret
   exact ⟨rfl,Ok.step HO.out HI.out⟩
theorem row2_cells {w:World} {g:Nat} {x y:Nat} {t:TypeId} (h:w.heap[g]?=some (.cells #[.int .u64 (x:Int),.int .u64 (y:Int)] t (0,0))) :
  ∀ k,k<2->w.cell? ⟨g,k,none⟩=some (.int .u64 (((fun k=>if k=0 then x else y) k:Nat):Int)):=by
 intro k hk
 obtain ⟨a,b,_,_⟩:=row_facts h
 rcases (show k=0\/k=1 by omega) with rfl | rfl
 ·exact a
 ·exact b
theorem pgcd2_any (x y g:Nat) (w0 w:World) (hok:Ok w0 w) (hx:U64 x) (hy:U64 y) (hr:w.heap[g]?=some (.cells #[.int .u64 (x:Int),.int .u64 (y:Int)] 25)) :
  Calls Tryz.prog 152 #[.slice (some ⟨g,0,none⟩) 2 2] w fun e w'=>e=.returned (.int .u64 (Nat.gcd x y:Int))/\Ok w0 w':=by
 have h:=pgcd_all (fun k=>if k=0 then x else y) 2 g (by omega) w0 w hok (lt_row hr) (by
  intro k hk
  rcases (show k=0\/k=1 by omega) with rfl | rfl
  ·exact hx
  ·exact hy) (row2_cells hr)
 have e:foldG (fun k=>if k=0 then x else y) 2=Nat.gcd x y:=by
  simp only [foldG,if_true]
  rw [Nat.gcd_zero_left,if_neg (by omega)]
 rw [e] at h
 exact h
theorem pgcd3_any (x y z g:Nat) (w0 w:World) (hok:Ok w0 w) (hx:U64 x) (hy:U64 y) (hz:U64 z) (hr:w.heap[g]?=some (.cells #[.int .u64 (x:Int),.int .u64 (y:Int),.int .u64 (z:Int)] 25)) :
  Calls Tryz.prog 152 #[.slice (some ⟨g,0,none⟩) 3 3] w fun e w'=>e=.returned (.int .u64 (Nat.gcd (Nat.gcd x y) z:Int))/\Ok w0 w':=by
 obtain ⟨a,b,c,_⟩:=row3_facts hr
 have h:=pgcd_all (fun k=>if k=0 then x else if k=1 then y else z) 3 g (by omega) w0 w hok (lt_row hr) (by
  intro k hk
  rcases (show k=0\/k=1\/k=2 by omega) with rfl | rfl | rfl
  ·exact hx
  ·exact hy
  ·exact hz) (by
  intro k hk
  rcases (show k=0\/k=1\/k=2 by omega) with rfl | rfl | rfl
  ·exact a
  ·exact b
  ·exact c)
 have e:foldG (fun k=>if k=0 then x else if k=1 then y else z) 3=Nat.gcd (Nat.gcd x y) z:=by
  simp only [foldG,if_true]
  rw [Nat.gcd_zero_left,if_neg (by omega),if_neg (by omega),if_neg (by omega)]
 rw [e] at h
 exact h
end Go.Proofs.YtnjmjnmhldhaoaaGreat
namespace Go.Proofs.YtnjmjnmhldhaoaaGreat
open Go.RowKit
theorem weven_zero (w:World) :
  Calls Tryz.prog 216 #[.int .u64 0] w fun e w'=>e=.returned (.int .u64 0)/\w'=w:=by
 refine (weven_raw 0 w).mono ?_
 rintro e w' ⟨rfl,rfl⟩
 refine ⟨ret1 ?_,rfl⟩
 kernel_rfl
theorem and_compl (f j:Nat) (h:j<2 ^ f):j &&& (2 ^ f-(j+1))=0:=by
 apply Nat.eq_of_testBit_eq
 intro i
 rw [Nat.testBit_and,Nat.testBit_two_pow_sub_succ h,Nat.zero_testBit]
 cases j.testBit i<;>simp
theorem and_split (a b:Nat):a &&& b=2*(a/2 &&& b/2)+(a%2 &&& b%2):=by
 have h1:(a &&& b)/2=a/2 &&& b/2:=Nat.and_div_two
 have h2:(a &&& b)%2=a%2 &&& b%2:=by
  have:=Nat.and_mod_two_pow (a:=a) (b:=b) (n:=1)
  simpa using this
 omega
theorem low_bit:∀ (f m:Nat),0<m->m<2 ^ f->∃ i,i<f/\m &&& (2 ^ f-m)=2 ^ i/\m/2 ^ i%2=1/\∀ j,j<i->m/2 ^ j%2=0
 | 0,m,h0,h=>by simp at h;omega
 | f+1,m,h0,h=>by
  have hp:2 ^ (f+1)=2*2 ^ f:=by rw [Nat.pow_succ,Nat.mul_comm]
  by_cases ho:m%2=1
  ·refine ⟨0,by omega,?_,by simpa using ho,fun j hj=>by omega⟩
   rw [hp] at h ⊢
   have e1:(2*2 ^ f-m)/2=2 ^ f-(m/2+1):=by omega
   have e2:(2*2 ^ f-m)%2=1:=by omega
   rw [and_split,e1,e2,ho,and_compl f (m/2) (by omega)]
   rfl
  ·obtain ⟨i,hi,h1,h2,h3⟩:=low_bit f (m/2) (by omega) (by rw [hp] at h;omega)
   refine ⟨i+1,by omega,?_,?_,?_⟩
   ·rw [hp] at h ⊢
    have e0:m%2=0:=by omega
    have e1:(2*2 ^ f-m)/2=2 ^ f-m/2:=by omega
    rw [and_split,e1,e0,h1,Nat.pow_succ]
    simp only [Nat.zero_and]
    omega
   ·rw [Nat.pow_succ,Nat.mul_comm,<-Nat.div_div_eq_div_mul];exact h2
   ·intro j hj
    rcases j with _ | j
    ·simp;omega
    ·rw [Nat.pow_succ,Nat.mul_comm,<-Nat.div_div_eq_div_mul];exact h3 j (by omega)
theorem even_two {m:Nat} (h0:0<m) (h:m<18446744073709551616):bits .and .u64 (m:Int) (IntKind.u64.wrap (-(m:Int)))=(twoN m:Int):=by
 have e:IntKind.u64.wrap (-(m:Int))=((18446744073709551616-m:Nat):Int):=by rw [u64w];omega
 rw [e,bits_and_u64_nat _ _ h (by omega)]
 obtain ⟨i,hi,h1,h2,h3⟩:=low_bit 64 m h0 h
 rw [show (18446744073709551616:Nat)=2 ^ 64 from rfl,h1]
 by_cases c:i<63
 ·rw [twoN_at c h2 h3]
 ·have:i=63:=by omega
  subst this
  rw [twoN_none h3]
theorem weven_any (m:Nat) (h0:0<m) (h:m<18446744073709551616) (w:World) :
  Calls Tryz.prog 216 #[.int .u64 (m:Int)] w fun e w'=>e=.returned (.int .u64 (twoN m:Int))/\w'=w:=by
 refine (weven_raw m w).mono ?_
 rintro e w' ⟨rfl,rfl⟩
 exact ⟨ret1 (even_two h0 h),rfl⟩
theorem weven_ev (m:Nat) (h:U64 m) (w:World) :
  Calls Tryz.prog 216 #[.int .u64 (m:Int)] w fun e w'=>e=.returned (.int .u64 (evL m false:Int))/\w'=w:=by
 by_cases h0:m=0
 ·subst h0
  exact weven_zero w
 ·have e:evL m false=twoN m:=by unfold evL;rw [if_neg (by simp),if_neg h0]
  rw [e]
  exact weven_any m (by omega) h w
end Go.Proofs.YtnjmjnmhldhaoaaGreat
