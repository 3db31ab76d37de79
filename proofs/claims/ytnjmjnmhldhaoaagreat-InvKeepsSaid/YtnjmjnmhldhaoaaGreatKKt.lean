import Derived.Test.YtnjmjnmhldhaoaaGreatKKs
set_option maxHeartbeats 8000000
set_option linter.all false
namespace Go.Proofs.YtnjmjnmhldhaoaaGreat
open Go.RowKit
structure InvL (a m x y:Nat) (t n:Int):Prop where
 hx:x<=m
 hy:y<=m
 g:Nat.gcd x y=1
 dt:(m:Int) ∣ t*a-x
 dn:(m:Int) ∣ n*a-y
 f:∃ p q:Nat,((n=p/\t = -(q:Int))\/(n = -(p:Int)/\t=q))/\p*x+q*y=m
 it:In64 t
 iw:In64 n
 z:y=0->m=1
theorem inv_first {a m:Nat} (ha:a<m) (hg:Nat.gcd m a=1):InvL a m m a 0 1 :=
 ⟨Nat.le_refl _,by omega,hg,⟨-1,by omega⟩,⟨0,by omega⟩,⟨1,0,Or.inl ⟨rfl,rfl⟩,by omega⟩,by omega,by omega,fun h=>by rw [h,Nat.gcd_zero_right] at hg;exact hg⟩
theorem wrap_mix (t b n:Int):wrap64 (t-wrap64 (wrap64 b*n))=wrap64 (t-b*n):=by
 have h1:wrap64 b=b-18446744073709551616*((b+9223372036854775808)/18446744073709551616):=by unfold wrap64;omega
 have h2:wrap64 b*n=b*n-18446744073709551616*((b+9223372036854775808)/18446744073709551616*n):=by rw [h1,Int.sub_mul,Int.mul_assoc]
 rw [h2]
 generalize (b+9223372036854775808)/18446744073709551616*n=k
 generalize b*n=z
 unfold wrap64
 omega
theorem inv_next {a m x y:Nat} {t n:Int} (hm:m<18446744073709551616) (h:InvL a m x y t n) (hy:1<y) :
  InvL a m y (x%y) n (t-((x/y:Nat):Int)*n)/\x%y<y:=by
 have hl:=Nat.mod_lt x (show 0<y by omega)
 have hd:=Nat.div_add_mod x y
 obtain ⟨p,q,hs,hp⟩:=h.f
 have hp2:(q+x/y*p)*y+p*(x%y)=m:=by
  have e:p*x=p*(y*(x/y))+p*(x%y):=by rw [<-Nat.mul_add,hd]
  rw [e] at hp
  rw [Nat.add_mul,Nat.mul_right_comm,Nat.mul_comm (x/y*y) p,Nat.mul_comm (x/y) y]
  omega
 have hb:q+x/y*p<9223372036854775808:=by
  have h2:(q+x/y*p)*2<=(q+x/y*p)*y:=Nat.mul_le_mul_left _ hy
  omega
 have hg:Nat.gcd y (x%y)=1:=by rw [Nat.gcd_comm,<-Nat.gcd_rec,Nat.gcd_comm];exact h.g
 have hc:((x/y*p:Nat):Int)=((x/y:Nat):Int)*(p:Int):=Int.natCast_mul _ _
 have hdt:(m:Int) ∣ (t-((x/y:Nat):Int)*n)*a-((x%y:Nat):Int):=by
  have e:=Int.dvd_sub h.dt (Int.dvd_trans h.dn (Int.dvd_mul_left ((x/y:Nat):Int) (n*(a:Int)-y)))
  have e2:t*(a:Int)-x-((x/y:Nat):Int)*(n*a-y)=(t-((x/y:Nat):Int)*n)*a-((x%y:Nat):Int):=by
   have hx:(x:Int)=(y:Int)*((x/y:Nat):Int)+((x%y:Nat):Int):=by
    rw [<-Int.natCast_mul,<-Int.natCast_add,hd]
   rw [Int.sub_mul,Int.mul_sub,Int.mul_assoc,hx,Int.mul_comm (y:Int)]
   omega
  rwa [e2] at e
 have hsgn:((t-((x/y:Nat):Int)*n=((q+x/y*p:Nat):Int)/\n = -(p:Int))\/(t-((x/y:Nat):Int)*n = -((q+x/y*p:Nat):Int)/\n=(p:Int))):=by
  rcases hs with ⟨h1,h2⟩ | ⟨h1,h2⟩
  ·right
   refine ⟨?_,h1⟩
   rw [h1,h2,Int.natCast_add,hc];omega
  ·left
   refine ⟨?_,h1⟩
   rw [h1,h2,Int.natCast_add,hc,Int.mul_neg];omega
 refine ⟨⟨h.hy,by have:=h.hy;omega,hg,h.dn,hdt,⟨q+x/y*p,p,hsgn,hp2⟩,h.iw,?_,?_⟩,hl⟩
 ·generalize t-((x/y:Nat):Int)*n=z at *
  omega
 ·intro h0
  rw [h0,Nat.gcd_zero_right] at hg
  omega
theorem inv_end {a m x y:Nat} {t n:Int} (hm:0<m) (h:InvL a m x y t n) (hy:y<=1):(m:Int) ∣ (modL n m:Int)*a-1/\modL n m<m:=by
 have h0:=Int.emod_nonneg n (show (m:Int)≠0 by omega)
 have h1:=Int.emod_lt_of_pos n (show (0:Int)<(m:Int) by omega)
 have e:(modL n m:Int)=n%(m:Int):=by unfold modL;rw [if_neg (by omega)];omega
 refine ⟨?_,by omega⟩
 rw [e]
 by_cases hz:y=0
 ·have:=h.z hz
  rw [this]
  exact ⟨_,(Int.one_mul _).symm⟩
 ·have hy1:y=1:=by omega
  have d:=h.dn
  rw [hy1] at d
  have d2:(m:Int) ∣ (n-n%(m:Int))*a:=Int.dvd_mul_of_dvd_left (by
   have:=Int.emod_add_mul_ediv n (m:Int)
   exact ⟨n/(m:Int),by omega⟩)
  have d3:=Int.dvd_sub d d2
  rw [Int.sub_mul] at d3
  have e3:n*(a:Int)-((1:Nat):Int)-(n*(a:Int)-n%(m:Int)*a)=n%(m:Int)*a-1:=by omega
  rwa [e3] at d3
set_option maxRecDepth 100000 in
theorem pinverse_any (a m:Nat) (ha:a<m) (hm:U64 m) (hg:Nat.gcd m a=1) (w0 w:World) (hok:Ok w0 w) :
  Calls Tryz.prog 194 #[.int .u64 (a:Int),.int .u64 (m:Int)] w fun e w'=>(∃ i:Nat,e=.returned (.int .u64 (i:Int))/\i<m/\(m:Int) ∣ (i:Int)*a-1)/\Ok w0 w':=by
 have HI:Hid _:=inv_first ha hg
 have HM:Hid _:=And.intro hm (show 0<m by omega)
 clear ha hm hg
 go_enter Tryz.func194,Tryz.ntmps194
 go_wp2_with fail
 go_loopw [5,6,7,8] (fun b c t n wr=>∃ (x y:Nat) (u v:Int),b=.int .u64 (x:Int)/\c=.int .u64 (y:Int)/\t=.int .i64 u/\n=.int .i64 v/\Hid (InvL a m x y u v)/\Hid (Ok w0 wr)) (fun _ c _ _ _=>(intOf c).toNat)
 case atStart=>exact ⟨m,a,0,1,rfl,rfl,rfl,rfl,HI.out,hok⟩
 case round =>
  obtain ⟨x,y,u,v,rfl,rfl,rfl,rfl,HL,HO⟩:=hrel
  by_cases h1:1<y
  ·have N:=inv_next HM.out.1 HL.out h1
   have HN:Hid _:=N
   have hy0:¬(y:Int)=0:=by omega
   have hy1:((y:Int)==0)=false:=by simp;omega
   have hy2:¬y=0:=by omega
   have hy3:(1:Int)<(y:Int):=by omega
   have hq1:(x:Int)/(y:Int)=((x/y:Nat):Int):=(Int.natCast_ediv _ _).symm
   have hq2:(x:Int).tdiv (y:Int)=((x/y:Nat):Int):=by rw [Int.tdiv_eq_ediv_of_nonneg (by omega)];exact hq1
   have hq3:IntKind.u64.wrap ((x/y:Nat):Int)=((x/y:Nat):Int):=by
    have a1:=Nat.div_le_self x y
    have a2:=HL.out.hx
    have a3:=HM.out.1
    unfold U64 at a3
    rw [u64w]
    generalize x/y=z at *
    omega
   have hr1:(x:Int)%(y:Int)=((x%y:Nat):Int):=(Int.natCast_emod _ _).symm
   have hr2:(x:Int).tmod (y:Int)=((x%y:Nat):Int):=by rw [Int.tmod_eq_emod_of_nonneg (by omega)];exact hr1
   obtain ⟨k,hk⟩:∃ k,k=x/y:=⟨_,rfl⟩
   obtain ⟨r,hr⟩:∃ r,r=x%y:=⟨_,rfl⟩
   have hw:=(wrap_mix u ((x/y:Nat):Int) v).trans (wrap64_id N.1.iw)
   rw [<-hk] at hq1 hq2 hq3 hw
   rw [<-hr] at hr1 hr2
   obtain ⟨f,hf⟩:∃ f,f=u-(k:Int)*v:=⟨_,rfl⟩
   rw [<-hf] at hw
   have HF:Hid (InvL a m y r v f/\r<y):=by rw [hf,hk,hr];exact N
   have HWW:Hid _:=hw
   clear N HN hk hr hf h1 hw
   go_wp2_with fail
   go_quiet (fail)
   go_wp2_with fail
   exact ⟨⟨y,r,v,f,rfl,rfl,rfl,by rw [HWW.out],HF.out.1,by repeat (first | exact HO.out | refine Ok.draws ?_ _ | refine Below.drew ?_)⟩,by simp only [intOf];have:=HF.out.2;omega⟩
  ·have E:Hid _:=inv_end HM.out.2 HL.out (by omega)
   have HV:Hid _:=HL.out.iw
   have hy3:¬(1:Int)<(y:Int):=by omega
   go_wp2_with fail
   refine (wmod_any v m HV.out HM.out.1 _).mono ?_
   rintro e w' ⟨rfl,hw⟩
   replace hw:=hw.symm
   subst hw
   go_wp2_with fail
   go_ret
   exact ⟨⟨_,rfl,E.out.2,E.out.1⟩,HO.out⟩
end Go.Proofs.YtnjmjnmhldhaoaaGreat
namespace Go.Proofs.YtnjmjnmhldhaoaaGreat
open Go.RowKit
theorem ponly_yes (M R:Nat) (w0 w:World) (hok:Ok w0 w) :
  Calls Tryz.prog 150 #[cv M R,.bool true] w fun e w'=>e=.returned (.tuple #[cv M R,.bool true])/\Ok w0 w':=by
 have hle:=hok.le
 unfold cv
 go_enter Tryz.func150,Tryz.ntmps150
 go_wp2_with fail
 (try simp only [Exit.inBlock, Exit.then]); refine bodyPost_ret (results_iv rfl _ _ (w.heap.size+1) 27 #[_, _] (0, 0) _ rfl jj Tryz.underlying27 rfl infoCg) rfl ?_
 exact ⟨rfl,(by repeat (first | exact hok | refine Ok.alloc ?_ _ | refine Ok.draws ?_ _ | fail))⟩
theorem ponly_no (M R:Nat) (w0 w:World) (hok:Ok w0 w) :
  Calls Tryz.prog 150 #[cv M R,.bool false] w fun e w'=>e=.returned (.tuple #[cv 0 0,.bool false])/\Ok w0 w':=by
 have hle:=hok.le
 unfold cv
 go_enter Tryz.func150,Tryz.ntmps150
 go_wp2_with fail
 (try simp only [Exit.inBlock, Exit.then]); refine bodyPost_ret (results_iv rfl _ _ (w.heap.size+1) 27 #[_, _] (0, 0) _ rfl jj Tryz.underlying27 rfl infoCg) rfl ?_
 exact ⟨rfl,(by repeat (first | exact hok | refine Ok.alloc ?_ _ | refine Ok.draws ?_ _ | fail))⟩
structure ComL (cM cR dM dR g n k a d p:Nat):Prop where
 c0:cR<cM
 d0:dR<dM
 cu:U64 cM
 du:U64 dM
 hg:g=Nat.gcd cM dM
 g0:0<g
 gu:U64 g
 hn:n=dM/g
 n0:0<n
 nu:U64 n
 hk:k=cM/g
 ku:U64 k
 ha:a=k%n
 co:Nat.gcd n a=1
 hd:d=minusL (restL dM dR dM) (restL cM cR dM) dM
 hp:p=d/g
 pu:U64 p
 gp:(dM:Int) ∣ (p:Int)*g-((dR:Int)-cR)
theorem comL {cM cR dM dR:Nat} (c0:cR<cM) (d0:dR<dM) (cu:U64 cM) (du:U64 dM) (h:cR%Nat.gcd cM dM=dR%Nat.gcd cM dM) :
  ∃ g n k a d p,ComL cM cR dM dR g n k a d p:=by
 have g0:0<Nat.gcd cM dM:=Nat.gcd_pos_of_pos_left _ (by omega)
 have gu:=gcd_u64 cu du
 have gl:=Nat.gcd_dvd_right cM dM
 have gc:=Nat.gcd_dvd_left cM dM
 have n0:0<dM/Nat.gcd cM dM:=Nat.div_pos (Nat.le_of_dvd (by omega) gl) g0
 have nl:=Nat.div_le_self dM (Nat.gcd cM dM)
 have kl:=Nat.div_le_self cM (Nat.gcd cM dM)
 have co:Nat.gcd (dM/Nat.gcd cM dM) (cM/Nat.gcd cM dM%(dM/Nat.gcd cM dM))=1:=by
  rw [Nat.gcd_comm,<-Nat.gcd_rec,Nat.gcd_comm]
  exact Nat.coprime_div_gcd_div_gcd g0
 have e1:restL dM dR dM=dR:=by rw [restL_own (by omega),Nat.mod_eq_of_lt d0]
 have e2:restL cM cR dM=cR%dM:=by unfold restL;rw [if_neg (by omega),Nat.mod_eq_of_lt c0]
 have hml:=Nat.mod_lt cR (show 0<dM by omega)
 have hv:=minusL_val (x:=dR) (y:=cR%dM) (m:=dM) (by rw [md_of (by omega)];exact d0) (by rw [md_of (by omega)];exact hml)
 have hlt:=minusL_lt (x:=dR) (y:=cR%dM) (m:=dM) (by rw [md_of (by omega)];exact d0) (by rw [md_of (by omega)];exact hml)
 rw [md_of (by omega)] at hv hlt
 have hdv:(dM:Int) ∣ (minusL dR (cR%dM) dM:Int)-((dR:Int)-cR):=by
  have a1:=Int.emod_add_mul_ediv ((dR:Int)-((cR%dM:Nat):Int)) (dM:Int)
  have a2:=Nat.div_add_mod cR dM
  have a3:(cR:Int)=(dM:Int)*((cR/dM:Nat):Int)+((cR%dM:Nat):Int):=by rw [<-Int.natCast_mul,<-Int.natCast_add,a2]
  rw [hv]
  refine ⟨((cR/dM:Nat):Int)-((dR:Int)-((cR%dM:Nat):Int))/(dM:Int),?_⟩
  rw [Int.mul_sub]
  omega
 have hgd:Nat.gcd cM dM ∣ minusL dR (cR%dM) dM:=by
  apply Int.natCast_dvd_natCast.1
  have b1:((Nat.gcd cM dM:Nat):Int) ∣ (dR:Int)-cR:=by
   have b2:(cR:Int)%((Nat.gcd cM dM:Nat):Int)=(dR:Int)%((Nat.gcd cM dM:Nat):Int):=by
    rw [<-Int.natCast_emod,<-Int.natCast_emod,h]
   have b3:=Int.emod_eq_emod_iff_emod_sub_eq_zero.1 b2.symm
   exact Int.dvd_of_emod_eq_zero b3
  have b4:=Int.dvd_add (Int.dvd_trans (Int.natCast_dvd_natCast.2 gl) hdv) b1
  rwa [show (minusL dR (cR%dM) dM:Int)-((dR:Int)-cR)+((dR:Int)-cR)=(minusL dR (cR%dM) dM:Int) by omega] at b4
 have pl:=Nat.div_le_self (minusL dR (cR%dM) dM) (Nat.gcd cM dM)
 refine ⟨_,_,_,_,_,_,c0,d0,cu,du,rfl,g0,gu,rfl,n0,by unfold U64 at *;omega,rfl,by unfold U64 at *;omega,rfl,co,rfl,rfl,?_,?_⟩
 ·rw [e1,e2];unfold U64 at *;omega
 ·rw [e1,e2,<-Int.natCast_mul,Nat.div_mul_cancel hgd]
  exact hdv
theorem com_meet {cM cR dM dR g n k a d p i:Nat} (C:ComL cM cR dM dR g n k a d p) (hi:(n:Int) ∣ (i:Int)*a-1) :
  meetC cM cR dM dR=finC (cM*n) (cM*(p*i%n)+cR):=by
 have c0:=C.c0
 have d0:=C.d0
 have e1:(cM:Int)=(g:Int)*(k:Int):=by
  rw [C.hk,C.hg,<-Int.natCast_mul,Nat.mul_div_cancel' (Nat.gcd_dvd_left cM dM)]
 have e2:(dM:Int)=(g:Int)*(n:Int):=by
  rw [C.hn,C.hg,<-Int.natCast_mul,Nat.mul_div_cancel' (Nat.gcd_dvd_right cM dM)]
 have hik:(n:Int) ∣ (i:Int)*k-1:=by
  have a1:(k:Int)=(n:Int)*((k/n:Nat):Int)+(a:Int):=by rw [C.ha,<-Int.natCast_mul,<-Int.natCast_add,Nat.div_add_mod]
  rw [a1,Int.mul_add]
  have a2:(n:Int) ∣ (i:Int)*((n:Int)*((k/n:Nat):Int)):=⟨(i:Int)*((k/n:Nat):Int),by rw [Int.mul_left_comm]⟩
  have:=Int.dvd_add a2 hi
  rwa [show (i:Int)*((n:Int)*((k/n:Nat):Int))+((i:Int)*a-1)=(i:Int)*((n:Int)*((k/n:Nat):Int))+(i:Int)*a-1 by omega] at this
 have h:=meet_at (cM:=cM) (cR:=cR) (dM:=dM) (dR:=dR) (t:=p*i%n) (m:=n) (by omega) (by omega) (by rw [<-C.hg];exact C.hn) (Nat.mod_lt _ C.n0) ?_
 ·rw [Nat.mod_eq_of_lt c0] at h
  exact h
 ·rw [Nat.mod_eq_of_lt c0,Nat.mod_eq_of_lt d0]
  obtain ⟨z,hz⟩:=C.gp
  refine common_at (k:=(k:Int)) (i:=(i:Int)) C.g0 e1 e2 hik ((p:Int)-(n:Int)*z) ?_ ?_
  ·rw [e2,Int.mul_assoc] at hz
   rw [Int.mul_sub,Int.mul_comm (g:Int) (p:Int)]
   omega
  ·have a1:((p*i%n:Nat):Int)=(p:Int)*i-(n:Int)*((p*i/n:Nat):Int):=by
    have:=Nat.div_add_mod (p*i) n
    rw [<-Int.natCast_mul,<-Int.natCast_mul];omega
   rw [a1]
   refine ⟨z*i-((p*i/n:Nat):Int),?_⟩
   rw [Int.sub_mul,Int.mul_sub,Int.mul_assoc]
   omega
end Go.Proofs.YtnjmjnmhldhaoaaGreat
namespace Go.Proofs.YtnjmjnmhldhaoaaGreat
open Go.RowKit
theorem retcb {a b:Int} {M R:Nat} {t:Bool} (e1:(M:Int)=a) (e2:(R:Int)=b):Ending.returned (.tuple #[.agg #[.int .u64 a,.int .u64 b],.bool t])=.returned (.tuple #[cv M R,.bool t]):=by unfold cv;rw [e1,e2]
theorem pwminus_at (a b:Nat) (h1 l1 h2 l2:Int) (ha:Big a) (hb:Big b) (hs:b<=a) (e1:h1=hiB a) (e2:l1=loB a) (e3:h2=hiB b) (e4:l2=loB b) (w0 w:World) (hok:Ok w0 w) :
  Calls Tryz.prog 197 #[.agg #[.int .u64 h1,.int .u64 l1],.agg #[.int .u64 h2,.int .u64 l2]] w fun e w'=>e=.returned (bv (a-b))/\Ok w0 w':=by
 have h:=pwminus_any a b ha hb hs w0 w hok
 rw [e1,e2,e3,e4]
 exact h
theorem com_lt {cM cR dM dR g n k a d p t:Nat} (C:ComL cM cR dM dR g n k a d p) (ht:t<n):cM*t+cR<cM*n/\Big (cM*n):=by
 have c0:=C.c0;have cu:=C.cu;have nu:=C.nu
 have h1:cM*(t+1)<=cM*n:=Nat.mul_le_mul_left _ ht
 rw [Nat.mul_add,Nat.mul_one] at h1
 unfold U64 at *
 have h3:cM*n<=18446744073709551615*18446744073709551615:=Nat.mul_le_mul (by omega) (by omega)
 unfold Big
 omega
theorem fin_small {L X:Nat} (h:L<18446744073709551616):finC L X=(L,X,true):=by unfold finC;rw [if_pos h]
theorem fin_here {L X:Nat} (h:¬L<18446744073709551616) (hx:X<9223372036854775808):finC L X=(0,X,true):=by unfold finC;rw [if_neg h,if_pos hx]
theorem fin_below {L X:Nat} (h:¬L<18446744073709551616) (hx:¬X<9223372036854775808) (hd:L-X<=9223372036854775808):finC L X=(0,bitsN (-((L-X:Nat):Int)),true):=by unfold finC;rw [if_neg h,if_neg hx,if_pos hd]
theorem fin_no {L X:Nat} (h:¬L<18446744073709551616) (hx:¬X<9223372036854775808) (hd:¬L-X<=9223372036854775808):finC L X=(0,0,false):=by unfold finC;rw [if_neg h,if_neg hx,if_neg hd]
theorem neg_bits (n:Nat):bitsN (wrap64 (-(wrap64 (n:Int))))=bitsN (-(n:Int)):=by unfold bitsN wrap64;omega
theorem com_big {cM cR dM dR g n k a d p t P:Nat} (C:ComL cM cR dM dR g n k a d p) (ht:t<n) (hP:P=cM*t):Big P/\Big cR/\Big (cR+P):=by
 have c0:=C.c0;have cu:=C.cu;have nu:=C.nu
 have h1:cM*(t+1)<=cM*n:=Nat.mul_le_mul_left _ ht
 have h2:cM*n<=18446744073709551616*18446744073709551616:=Nat.mul_le_mul (by unfold U64 at cu;omega) (by unfold U64 at nu;omega)
 rw [Nat.mul_add,Nat.mul_one,<-hP] at h1
 unfold Big
 unfold U64 at *
 have h3:cM*n<340282366920938463463374607431768211456:=by
  have:cM*n<=18446744073709551615*18446744073709551615:=Nat.mul_le_mul (by omega) (by omega)
  omega
 omega
theorem pproduct_ok (x y:Nat) (hx:U64 x) (hy:U64 y) (w0 w:World) (hok:Ok w0 w) :
  Calls Tryz.prog 196 #[.int .u64 (x:Int),.int .u64 (y:Int)] w fun e w'=>e=.returned (bv (x*y))/\Ok w0 w':=by
 refine (pproduct_ex x y hx hy w).mono ?_
 rintro e w' ⟨rfl,rfl⟩
 exact ⟨rfl,hok.alloc _⟩
theorem pwplus_at (a b:Nat) (ha:Big a) (hb:Big b) (hs:Big (a+b)) (e1:hiB a=0) (e2:loB a=(a:Int)) (w0 w:World) (hok:Ok w0 w) :
  Calls Tryz.prog 195 #[.agg #[.int .u64 0,.int .u64 (a:Int)],bv b] w fun e w'=>e=.returned (bv (a+b))/\Ok w0 w':=by
 have h:=pwplus_any a b ha hb hs w0 w hok
 unfold bv at h
 rw [e1,e2] at h
 exact h
set_option maxRecDepth 100000 in
theorem pcommon_any (cM cR dM dR g n k a d p:Nat) (C:ComL cM cR dM dR g n k a d p) (w0 w:World) (hok:Ok w0 w) :
  Calls Tryz.prog 153 #[cv cM cR,cv dM dR,.int .u64 (g:Int)] w fun e w'=>e=.returned (.tuple #[cv (meetC cM cR dM dR).1 (meetC cM cR dM dR).2.1,.bool (meetC cM cR dM dR).2.2])/\Ok w0 w':=by
 have hle:=hok.le
 have HC:Hid _:=C
 have cr:U64 cR:=by have:=C.c0;have:=C.cu;unfold U64 at *;omega
 have dr:U64 dR:=by have:=C.d0;have:=C.du;unfold U64 at *;omega
 have HU:Hid _:=And.intro cr dr
 have HD:Hid (0<dM):=by have:=C.d0;unfold Hid;omega
 have e1:(dM:Int)/(g:Int)=(n:Int):=by rw [C.hn];exact (Int.natCast_ediv _ _).symm
 have e2:¬(g:Int)=0:=by have:=C.g0;omega
 have e3:((g:Int)==0)=false:=by simp;have:=C.g0;omega
 have e4:¬g=0:=by have:=C.g0;omega
 have e5:(g==0)=false:=by simp;exact e4
 have e6:(dM:Int).tdiv (g:Int)=(n:Int):=by rw [Int.tdiv_eq_ediv_of_nonneg (by omega)];exact e1
 have e7:IntKind.u64.wrap (n:Int)=(n:Int):=by have:=C.nu;unfold U64 at this;rw [u64w];omega
 have e8:(cM:Int)/(g:Int)=(k:Int):=by rw [C.hk];exact (Int.natCast_ediv _ _).symm
 have e9:(cM:Int).tdiv (g:Int)=(k:Int):=by rw [Int.tdiv_eq_ediv_of_nonneg (by omega)];exact e8
 have e10:IntKind.u64.wrap (k:Int)=(k:Int):=by have:=C.ku;unfold U64 at this;rw [u64w];omega
 have e11:(k:Int)%(n:Int)=(a:Int):=by rw [C.ha,Int.natCast_emod]
 have e12:(k:Int).tmod (n:Int)=(a:Int):=by rw [Int.tmod_eq_emod_of_nonneg (by omega)];exact e11
 have e13:¬(n:Int)=0:=by have:=C.n0;omega
 have e14:((n:Int)==0)=false:=by simp;have:=C.n0;omega
 have e15:¬n=0:=by have:=C.n0;omega
 have e16:(n==0)=false:=by simp;exact e15
 have e17:(d:Int)/(g:Int)=(p:Int):=by rw [C.hp];exact (Int.natCast_ediv _ _).symm
 have e18:(d:Int).tdiv (g:Int)=(p:Int):=by rw [Int.tdiv_eq_ediv_of_nonneg (by omega)];exact e17
 have e19:IntKind.u64.wrap (p:Int)=(p:Int):=by have:=C.pu;unfold U64 at this;rw [u64w];omega
 obtain ⟨x,hx⟩:∃ x,x=restL dM dR dM:=⟨_,rfl⟩
 obtain ⟨y,hy⟩:∃ y,y=restL cM cR dM:=⟨_,rfl⟩
 have hd:=C.hd
 rw [<-hx,<-hy] at hd
 have HX:Hid (x<md dM/\y<md dM):=by rw [hx,hy];exact ⟨restL_lt dr (Or.inr HD.out),restL_lt cr (Or.inr HD.out)⟩
 have HE:Hid _:=And.intro hx (And.intro hy hd)
 clear C cr dr hx hy hd
 unfold cv
 go_enter Tryz.func153,Tryz.ntmps153
 go_wp2_with fail
 obtain ⟨W,hW⟩:∃ W,W=(((w.alloc (.cells #[.int .u64 (cM:Int),.int .u64 (cR:Int)] 27)).alloc (.cells #[.int .u64 (dM:Int),.int .u64 (dR:Int)] 27)).alloc (.cells #[.int .u64 0,.int .u64 0] 27)):=⟨_,rfl⟩
 have ra0:W.heap[w.heap.size]?=some (.cells #[.int .u64 (cM:Int),.int .u64 (cR:Int)] 27):=by rw [hW];exact jj
 have ra1:W.heap[w.heap.size+1]?=some (.cells #[.int .u64 (dM:Int),.int .u64 (dR:Int)] 27):=by rw [hW];exact jj
 have ra2:W.heap[w.heap.size+2]?=some (.cells #[.int .u64 0,.int .u64 0] 27):=by rw [hW];exact jj
 have HW:Hid (Ok w0 W):=by rw [hW];exact (by repeat (first | exact hok | refine Ok.alloc ?_ _ | refine Ok.draws ?_ _ | fail))
 rw [<-hW]
 clear hW hok
 have z0:=lt_row ra0
 have HR0:Hid _:=ra0
 obtain ⟨g00,g01,f00,f01⟩:=row_facts ra0
 have z1:=lt_row ra1
 have HR1:Hid _:=ra1
 obtain ⟨g10,g11,f10,f11⟩:=row_facts ra1
 have z2:=lt_row ra2
 have HR2:Hid _:=ra2
 obtain ⟨g20,g21,f20,f21⟩:=row_facts ra2
 clear ra0 ra1 ra2
 have bz:Ok W W:=Ok.refl _
 go_region_held3 (fun w'=>w'.cell? ⟨w.heap.size,0,none⟩=some (.int .u64 (cM:Int))/\w'.cell? ⟨w.heap.size,1,none⟩=some (.int .u64 (cR:Int))/\w'.cell? ⟨w.heap.size+1,0,none⟩=some (.int .u64 (dM:Int))/\w'.cell? ⟨w.heap.size+1,1,none⟩=some (.int .u64 (dR:Int))) (go_keep)
  (first
  | (go_at_call 175;refine (prest_any _ _ dM (by first | exact HC.out.cu | exact HC.out.du) (by first | exact HU.out.1 | exact HU.out.2) HC.out.du (Or.inr HD.out) W _ (by repeat (first | assumption | refine Ok.alloc ?_ _ | refine Below.drew ?_))).mono ?_;rintro e w' ⟨rfl,hb⟩;(first | rw [<-HE.out.1] | rw [<-HE.out.2.1]);have q00:=Ok.cell hb z0 g00;have q01:=Ok.cell hb z0 g01;have q10:=Ok.cell hb z1 g10;have q11:=Ok.cell hb z1 g11)
  | (go_at_call 170;refine (pminus_ok x y dM HX.out.1 HX.out.2 HC.out.du W _ (by repeat (first | assumption | refine Ok.alloc ?_ _ | refine Below.drew ?_))).mono ?_;rintro e w' ⟨rfl,hb⟩;rw [<-HE.out.2.2];have q00:=Ok.cell hb z0 g00;have q01:=Ok.cell hb z0 g01;have q10:=Ok.cell hb z1 g10;have q11:=Ok.cell hb z1 g11)
  | fail)
 go_wp2_with fail
 have HAN:Hid (a<n):=by have:=HC.out.ha;have:=HC.out.n0;unfold Hid;rw [HC.out.ha];exact Nat.mod_lt _ HC.out.n0
 refine (pinverse_any a n HAN.out HC.out.nu HC.out.co W _ hb).mono ?_
 rintro e w' ⟨⟨i,rfl,hi1,hi2⟩,hb⟩
 have HI:Hid (i<n/\(n:Int) ∣ (i:Int)*a-1):=⟨hi1,hi2⟩
 have HIU:Hid (U64 i):=by have:=HC.out.nu;unfold Hid U64 at *;omega
 clear hi1 hi2
 have q00:=Ok.cell hb z0 g00;have q01:=Ok.cell hb z0 g01;have q10:=Ok.cell hb z1 g10;have q11:=Ok.cell hb z1 g11
 go_wp2_with fail
 refine (ptimes_any p i n HC.out.pu HIU.out HC.out.n0 HC.out.nu W _ hb).mono ?_
 rintro e w' ⟨rfl,hb⟩
 have q00:=Ok.cell hb z0 g00;have q01:=Ok.cell hb z0 g01;have q10:=Ok.cell hb z1 g10;have q11:=Ok.cell hb z1 g11
 obtain ⟨t,ht⟩:∃ t,t=p*i%n:=⟨_,rfl⟩
 have M:=com_meet HC.out HI.out.2
 rw [<-ht] at M ⊢
 have HM:Hid _:=M
 have HT:Hid (t<n):=by rw [ht];exact Nat.mod_lt _ HC.out.n0
 clear M ht HI
 have HP1:Hid (U64 t):=by have:=HT.out;have:=HC.out.nu;unfold Hid U64 at *;omega
 obtain ⟨P,hP⟩:∃ P,P=cM*t:=⟨_,rfl⟩
 have HPB:Hid (Big P/\Big cR/\Big (cR+P)):=com_big HC.out HT.out hP
 have HP:Hid _:=hP
 obtain ⟨X,hX⟩:∃ X,X=cR+P:=⟨_,rfl⟩
 obtain ⟨L,hL⟩:∃ L,L=cM*n:=⟨_,rfl⟩
 have HXL:Hid (X<L/\Big L/\Big X/\meetC cM cR dM dR=finC L X):=by
  have q:=com_lt HC.out HT.out
  refine ⟨?_,?_,?_,?_⟩
  ·rw [hX,hP,hL];omega
  ·rw [hL];exact q.2
  ·rw [hX];exact HPB.out.2.2
  ·rw [HM.out,hX,hP,hL,Nat.add_comm]
 have HLL:Hid _:=And.intro hX hL
 clear hP hX hL
 have HR:Hid (hiB cR=0/\loB cR=(cR:Int)):=big_small HU.out.1
 go_wp2_with fail
 rename_i Kk aK
 have tail:∀ (gy:Nat) (Y:World),Y.heap[gy]?=some (.cells #[.int .u64 (hiB X),.int .u64 (loB X)] 173)->Ok W Y->Kk { tmps:=#[Value.agg #[Value.int IntKind.u64 ↑cM,Value.int IntKind.u64 ↑cR],Value.agg #[Value.int IntKind.u64 ↑dM,Value.int IntKind.u64 ↑dR],Value.int IntKind.u64 ↑g,Value.pointer (some { block:=w.heap.size,off:=0 }),Value.pointer (some { block:=w.heap.size+1,off:=0 }),undef,Value.pointer (some { block:=w.heap.size+1+1,off:=0 }),Value.bool false,Value.int IntKind.u64 ↑n,Value.int IntKind.u64 ↑p,Value.int IntKind.u64 ↑t,Value.pointer (some { block:=gy,off:=0 }),undef,undef,Value.pointer (some { block:=w.heap.size+1,off:=0 }),Value.int IntKind.u64 ↑dM,Value.int IntKind.u64 ↑g,Value.int IntKind.u64 ↑n,Value.agg #[Value.int IntKind.u64 ↑dM,Value.int IntKind.u64 ↑dR],Value.pointer (some { block:=w.heap.size+1,off:=0 }),Value.int IntKind.u64 ↑dM,Value.int IntKind.u64 ↑x,Value.agg #[Value.int IntKind.u64 ↑cM,Value.int IntKind.u64 ↑cR],Value.pointer (some { block:=w.heap.size+1,off:=0 }),Value.int IntKind.u64 ↑dM,Value.int IntKind.u64 ↑y,Value.pointer (some { block:=w.heap.size+1,off:=0 }),Value.int IntKind.u64 ↑dM,Value.int IntKind.u64 ↑d,Value.int IntKind.u64 ↑g,Value.int IntKind.u64 ↑p,Value.int IntKind.u64 ↑p,Value.pointer (some { block:=w.heap.size,off:=0 }),Value.int IntKind.u64 ↑cM,Value.int IntKind.u64 ↑g,Value.int IntKind.u64 ↑k,Value.int IntKind.u64 ↑n,Value.int IntKind.u64 ↑a,Value.int IntKind.u64 ↑n,Value.int IntKind.u64 ↑i,Value.int IntKind.u64 ↑n,Value.int IntKind.u64 ↑t,Value.pointer (some { block:=w.heap.size,off:=1 }),Value.int IntKind.u64 ↑cR,Value.agg #[Value.int IntKind.u64 0,Value.int IntKind.u64 ↑cR],Value.pointer (some { block:=w.heap.size,off:=0 }),Value.int IntKind.u64 ↑cM,Value.int IntKind.u64 ↑t,Value.agg #[Value.int IntKind.u64 (hiB P),Value.int IntKind.u64 (loB P)],Value.agg #[Value.int IntKind.u64 (hiB (X)),Value.int IntKind.u64 (loB (X))],undef,undef,undef,undef,undef,undef,undef,undef,undef,undef,undef,undef,undef,undef,undef,undef,undef,undef,undef,undef,undef,undef,undef,undef,undef,undef,undef,undef,undef,undef,undef,undef,undef,undef,undef,undef,undef,undef,undef,undef,undef,undef,undef],defers:=[] } Y:=by
  intro gy Y hrow hokY
  have HYr:Hid _:=hrow
  have HYo:Hid (Ok W Y):=hokY
  clear hrow hokY
  refine aK _ _ ?_
  clear aK
  obtain ⟨hx,ehx⟩:∃ z:Int,z=hiB X:=⟨_,rfl⟩
  obtain ⟨lx,elx⟩:∃ z:Int,z=loB X:=⟨_,rfl⟩
  rw [<-ehx,<-elx] at HYr ⊢
  obtain ⟨hl,ehl⟩:∃ z:Int,z=hiB L:=⟨_,rfl⟩
  obtain ⟨ll,ell⟩:∃ z:Int,z=loB L:=⟨_,rfl⟩
  have EX:Hid _:=And.intro ehx (And.intro elx (And.intro ehl ell))
  obtain ⟨l0,l1,_,_⟩:=row_facts HYr.out
  obtain ⟨y0,y1,_,_⟩:=row_facts (Ok.row' HYo.out HR0.out)
  go_wp2_with fail
  refine (pproduct_ok cM n HC.out.cu HC.out.nu Y _ (Ok.refl _)).mono ?_
  rintro e u ⟨rfl,hu⟩
  rw [<-HLL.out.2]
  unfold bv
  rw [<-ehl,<-ell]
  clear ehx elx ehl ell l0 l1 y0 y1
  have okV:Ok Y (u.alloc (.cells #[.int .u64 hl,.int .u64 ll] 173)):=hu.alloc _
  have rV:=heap_new0 u (.cells #[.int .u64 hl,.int .u64 ll] 173)
  obtain ⟨V,hV⟩:∃ V,V=u.alloc (.cells #[.int .u64 hl,.int .u64 ll] 173):=⟨_,rfl⟩
  obtain ⟨v0,v1,_,_⟩:=row_facts (Ok.row' okV HYr.out)
  obtain ⟨v2,v3,v4,v5⟩:=row_facts (Ok.row' okV (Ok.row' HYo.out HR2.out))
  have hr:Hid _:=Ok.row' okV (Ok.row' HYo.out HR2.out)
  have HOV:Hid (Ok Y (u.alloc (.cells #[.int .u64 hl,.int .u64 ll] 173))):=okV
  have HOW:Hid (Ok w0 (u.alloc (.cells #[.int .u64 hl,.int .u64 ll] 173))):=(HW.out.step HYo.out).step okV
  by_cases hL:L<18446744073709551616
  ·have ez:hl=0:=EX.out.2.2.1.trans (big_small hL).1
   have HL2:Hid _:=hL
   subst ez
   have HF:Hid (Ok w0 (u.alloc (.cells #[.int .u64 0,.int .u64 ll] 173))):=HOW.out
   clear hV
   go_wp2_with fail
   (try simp only [Exit.inBlock, Exit.then]); refine bodyPost_ret (results_iv rfl _ _ (w.heap.size+2) 27 #[_, _] (0, 0) _ rfl (row_set2 hr.out _ _) Tryz.underlying27 rfl infoCg) rfl ?_
   have hx2:=HXL.out.1
   rw [HXL.out.2.2.2,fin_small HL2.out]
   exact ⟨retcb (EX.out.2.2.2.trans (big_small HL2.out).2).symm (EX.out.2.1.trans (big_small (by have:=HL2.out;omega)).2).symm,(HF.out.set (show w0.heap.size<=w.heap.size+2 by omega) _).set (show w0.heap.size<=w.heap.size+2 by omega) _⟩
  ·have hz0:¬hl=0:=fun c=>hL (by have:=EX.out.2.2.1;rw [c,hiB_nat] at this;omega)
   have hz1:(hl==0)=false:=by simp;exact hz0
   have HNL:Hid _:=hL
   by_cases hX:X<9223372036854775808
   ·have ez:hx=0:=EX.out.1.trans (big_small (show X<18446744073709551616 by omega)).1
    have ex1:lx=(X:Int):=EX.out.2.1.trans (big_small (show X<18446744073709551616 by omega)).2
    have hx3:lx<=9223372036854775807:=by omega
    have EX1:Hid (lx=(X:Int)/\X<9223372036854775808):=⟨ex1,hX⟩
    subst ez
    clear ex1 hX hL hV
    go_wp2_with fail
    refine (pconst_any (wrap64 lx) _ _ (Ok.refl _)).mono ?_
    rintro e z ⟨rfl,hz⟩
    have hr:Hid _:=Ok.row' hz hr.out
    have HF:Hid (Ok w0 z):=HOW.out.step hz
    obtain ⟨k0,k1,k2,k3⟩:=row_facts hr.out
    unfold cv
    go_wp2_with fail
    (try simp only [Exit.inBlock, Exit.then]); refine bodyPost_ret (results_iv rfl _ _ (w.heap.size+2) 27 #[_, _] (0, 0) _ rfl (row_set2 hr.out _ _) Tryz.underlying27 rfl infoCg) rfl ?_
    rw [HXL.out.2.2.2,fin_here HNL.out EX1.out.2]
    exact ⟨retcb rfl (show (X:Int)=_ by rw [EX1.out.1,bits_wrap];have:=EX1.out.2;omega),(HF.out.set (show w0.heap.size<=w.heap.size+2 by omega) _).set (show w0.heap.size<=w.heap.size+2 by omega) _⟩
   ·have HXX:Hid _:=hX
    by_cases hq:hx=0
    ·have hq2:¬lx<=9223372036854775807:=by
      have a1:=EX.out.1;have a2:=EX.out.2.1
      rw [hiB_nat] at a1;rw [loB_nat] at a2
      omega
     clear hX hL
     subst hq
     obtain ⟨D,hD⟩:∃ D,D=L-X:=⟨_,rfl⟩
     obtain ⟨hd,ehd⟩:∃ z:Int,z=hiB D:=⟨_,rfl⟩
     obtain ⟨ld,eld⟩:∃ z:Int,z=loB D:=⟨_,rfl⟩
     have ED:Hid _:=And.intro hD (And.intro ehd eld)
     clear hD ehd eld hV
     go_wp2_with fail
     refine (pwminus_at L X hl ll 0 lx HXL.out.2.1 HXL.out.2.2.1 (by have:=HXL.out.1;omega) EX.out.2.2.1 EX.out.2.2.2 EX.out.1 EX.out.2.1 _ _ (Ok.refl _)).mono ?_
     rintro e z ⟨rfl,hz⟩
     rw [<-ED.out.1]
     unfold bv
     rw [<-ED.out.2.1,<-ED.out.2.2]
     have okZ:Ok Y (z.alloc (.cells #[.int .u64 hd,.int .u64 ld] 173)):=(Ok.step HOV.out hz).alloc _
     obtain ⟨Z,hZ⟩:∃ Z,Z=z.alloc (.cells #[.int .u64 hd,.int .u64 ld] 173):=⟨_,rfl⟩
     obtain ⟨gz,hgz⟩:∃ g,g=z.heap.size:=⟨_,rfl⟩
     have rZ:Z.heap[gz]?=some (.cells #[.int .u64 hd,.int .u64 ld] 173):=by rw [hZ,hgz];exact heap_new0 _ _
     rw [<-hZ] at okZ
     have zr:Z.heap[w.heap.size+2]?=some (.cells #[.int .u64 0,.int .u64 0] 27):=Ok.row' okZ (Ok.row' HYo.out HR2.out)
     have HRZ:Hid _:=zr
     have HRG:Hid _:=rZ
     obtain ⟨d0,d1,_,_⟩:=row_facts rZ
     have zl:=lt_row rZ
     have HF:Hid (Ok w0 Z):=(HW.out.step HYo.out).step okZ
     have nn:¬w.heap.size+1+1=gz:=by
      intro h
      have h1:=zr
      rw [show w.heap.size+2=gz from h,rZ] at h1
      injection h1 with h1
      injection h1 with _ h2 _
      cases h2
     clear zr rZ okZ
     go_wp2_with fail
     rw [<-hZ,<-hgz]
     clear hZ hgz
     have bz2:Ok Z Z:=Ok.refl _
     by_cases hk:hd=0
     ·by_cases hm:ld<=9223372036854775808
      ·have a3:Hid (L-X<=9223372036854775808/\ld=((L-X:Nat):Int)):=by
        have b1:=ED.out.1;have b2:=ED.out.2.1;have b3:=ED.out.2.2
        rw [hiB_nat] at b2;rw [loB_nat] at b3
        unfold Hid;omega
       subst hk
       go_region_held3 (fun w'=>w'.cell? ⟨gz,0,none⟩=some (.int .u64 0)/\w'.cell? ⟨gz,1,none⟩=some (.int .u64 ld)) (go_keep)
        (first
        | (go_at_call 198;refine (wneg_any (IntKind.i64.wrap ld) Z _ (by repeat (first | assumption | refine Ok.alloc ?_ _ | refine Below.drew ?_))).mono ?_;rintro e w' ⟨rfl,hb⟩;have q1:=Ok.cell hb zl d0;have q2:=Ok.cell hb zl d1;obtain ⟨k0,k1,k2,k3⟩:=row_facts (Ok.row' hb HRZ.out))
        | (go_at_call 123;refine (pconst_any (wrap64 (-(IntKind.i64.wrap ld))) Z _ (by repeat (first | assumption | refine Ok.alloc ?_ _ | refine Below.drew ?_))).mono ?_;rintro e w' ⟨rfl,hb⟩;unfold cv;have q1:=Ok.cell hb zl d0;have q2:=Ok.cell hb zl d1;obtain ⟨k0,k1,k2,k3⟩:=row_facts (Ok.row' hb HRZ.out))
        | (go_at_call 150;refine (ponly_yes 0 (bitsN (wrap64 (-(IntKind.i64.wrap ld)))) Z _ (by repeat (first | assumption | refine Ok.alloc ?_ _ | refine Below.drew ?_))).mono ?_;rintro e w' ⟨rfl,hb⟩;unfold cv;have q1:=Ok.cell hb zl d0;have q2:=Ok.cell hb zl d1;obtain ⟨k0,k1,k2,k3⟩:=row_facts (Ok.row' hb HRZ.out))
        | fail)
       have hr:Hid _:=Ok.row' hb HRZ.out
       have HF2:Hid (Ok w0 w'):=HF.out.step hb
       go_wp2_with fail
       (try simp only [Exit.inBlock, Exit.then]); refine bodyPost_ret (results_iv rfl _ _ (w.heap.size+2) 27 #[_, _] (0, 0) _ rfl (row_set2 hr.out _ _) Tryz.underlying27 rfl infoCg) rfl ?_
       rw [HXL.out.2.2.2,fin_below HNL.out HXX.out a3.out.1]
       exact ⟨retcb rfl (by rw [<-neg_bits,a3.out.2,show IntKind.i64.wrap ((L-X:Nat):Int)=wrap64 ((L-X:Nat):Int) by rw [IntKind.wrap_i64];unfold wrap64;omega]),(HF2.out.set (show w0.heap.size<=w.heap.size+2 by omega) _).set (show w0.heap.size<=w.heap.size+2 by omega) _⟩
      ·have a3:Hid (¬L-X<=9223372036854775808):=by
        have b1:=ED.out.1;have b2:=ED.out.2.1;have b3:=ED.out.2.2
        rw [hiB_nat] at b2;rw [loB_nat] at b3
        unfold Hid;omega
       subst hk
       have hm2:decide (ld<=9223372036854775808)=false:=decide_eq_false hm
       go_region_held3 (fun w'=>w'.cell? ⟨gz,0,none⟩=some (.int .u64 0)/\w'.cell? ⟨gz,1,none⟩=some (.int .u64 ld)) (go_keep)
        (first
        | (go_at_call 198;refine (wneg_any (IntKind.i64.wrap ld) Z _ (by repeat (first | assumption | refine Ok.alloc ?_ _ | refine Below.drew ?_))).mono ?_;rintro e w' ⟨rfl,hb⟩;have q1:=Ok.cell hb zl d0;have q2:=Ok.cell hb zl d1;obtain ⟨k0,k1,k2,k3⟩:=row_facts (Ok.row' hb HRZ.out))
        | (go_at_call 123;refine (pconst_any (wrap64 (-(IntKind.i64.wrap ld))) Z _ (by repeat (first | assumption | refine Ok.alloc ?_ _ | refine Below.drew ?_))).mono ?_;rintro e w' ⟨rfl,hb⟩;unfold cv;have q1:=Ok.cell hb zl d0;have q2:=Ok.cell hb zl d1;obtain ⟨k0,k1,k2,k3⟩:=row_facts (Ok.row' hb HRZ.out))
        | (go_at_call 150;refine (ponly_no 0 (bitsN (wrap64 (-(IntKind.i64.wrap ld)))) Z _ (by repeat (first | assumption | refine Ok.alloc ?_ _ | refine Below.drew ?_))).mono ?_;rintro e w' ⟨rfl,hb⟩;unfold cv;have q1:=Ok.cell hb zl d0;have q2:=Ok.cell hb zl d1;obtain ⟨k0,k1,k2,k3⟩:=row_facts (Ok.row' hb HRZ.out))
        | fail)
       have hr:Hid _:=Ok.row' hb HRZ.out
       have HF2:Hid (Ok w0 w'):=HF.out.step hb
       go_wp2_with fail
       (try simp only [Exit.inBlock, Exit.then]); refine bodyPost_ret (results_iv rfl _ _ (w.heap.size+2) 27 #[_, _] (0, 0) _ rfl (row_set2 hr.out _ _) Tryz.underlying27 rfl infoCg) rfl ?_
       rw [HXL.out.2.2.2,fin_no HNL.out HXX.out a3.out]
       exact ⟨retcb rfl rfl,(HF2.out.set (show w0.heap.size<=w.heap.size+2 by omega) _).set (show w0.heap.size<=w.heap.size+2 by omega) _⟩
     ·have a3:Hid (¬L-X<=9223372036854775808):=by
       have b1:=ED.out.1;have b2:=ED.out.2.1;have b3:=ED.out.2.2
       rw [hiB_nat] at b2;rw [loB_nat] at b3
       unfold Hid;omega
      have hk1:(hd==0)=false:=by simp;exact hk
      refine wp_region_held_drew (S:=(fun w'=>w'.cell? ⟨gz,0,none⟩=some (.int .u64 hd)/\w'.cell? ⟨gz,1,none⟩=some (.int .u64 ld))) (by kernel_rfl) (by (try dsimp only);go_keep) (fun hHeld=>?_)
      refine wpAnyH_take (i:=0) (v:=?_) rfl (by kernel_rfl) (by kernel_rfl) (by kernel_rfl) (fun _ _ _ h=>h) (Or.inl ⟨by rfl,?_⟩) (by assumption) ?_
      rotate_left
      ·intro w hSw;(try dsimp only at hSw);first | (go_simp;done) | (go_simp;with_reducible rfl)
      (try simp only [Act.put,List.getElem_toArray,List.getElem_cons_succ,List.getElem_cons_zero,List.setIfInBounds_toArray,List.set_cons_zero,List.set_cons_succ])
      refine wpAnyH_take (i:=1) (v:=?_) rfl (by kernel_rfl) (by kernel_rfl) (by kernel_rfl) (fun _ _ _ h=>h) (Or.inl ⟨by rfl,?_⟩) (by assumption) ?_
      rotate_left
      ·intro w hSw;(try dsimp only at hSw);first | (go_simp;done) | (go_simp;with_reducible rfl)
      (try simp only [Act.put,List.getElem_toArray,List.getElem_cons_succ,List.getElem_cons_zero,List.setIfInBounds_toArray,List.set_cons_zero,List.set_cons_succ])
      refine wpAnyH_take (i:=2) (v:=?_) rfl (by kernel_rfl) (by kernel_rfl) (by kernel_rfl) (fun _ _ _ h=>h) (Or.inl ⟨by rfl,?_⟩) (by assumption) ?_
      rotate_left
      ·intro w hSw;(try dsimp only at hSw);first | (go_simp;done) | (go_simp;with_reducible rfl)
      (try simp only [Act.put,List.getElem_toArray,List.getElem_cons_succ,List.getElem_cons_zero,List.setIfInBounds_toArray,List.set_cons_zero,List.set_cons_succ])
      refine wpAnyH_take (i:=5) (v:=?_) rfl (by kernel_rfl) (by kernel_rfl) (by kernel_rfl) (fun _ _ _ h=>h) (Or.inl ⟨by rfl,?_⟩) (by assumption) ?_
      rotate_left
      ·intro w hSw;(try dsimp only at hSw);first | (go_simp;done) | (go_simp;with_reducible rfl)
      (try simp only [Act.put,List.getElem_toArray,List.getElem_cons_succ,List.getElem_cons_zero,List.setIfInBounds_toArray,List.set_cons_zero,List.set_cons_succ])
      refine wpAnyH_take (i:=6) (v:=?_) rfl (by kernel_rfl) (by kernel_rfl) (by kernel_rfl) (fun _ _ _ h=>h) (Or.inl ⟨by rfl,?_⟩) (by assumption) ?_
      rotate_left
      ·intro w hSw;(try dsimp only at hSw);first | (go_simp;done) | (go_simp;with_reducible rfl)
      (try simp only [Act.put,List.getElem_toArray,List.getElem_cons_succ,List.getElem_cons_zero,List.setIfInBounds_toArray,List.set_cons_zero,List.set_cons_succ])
      refine wpAnyH_take (i:=7) (v:=?_) rfl (by kernel_rfl) (by kernel_rfl) (by kernel_rfl) (fun _ _ _ h=>h) (Or.inl ⟨by rfl,?_⟩) (by assumption) ?_
      rotate_left
      ·intro w hSw;(try dsimp only at hSw);first | (go_simp;done) | (go_simp;with_reducible rfl)
      (try simp only [Act.put,List.getElem_toArray,List.getElem_cons_succ,List.getElem_cons_zero,List.setIfInBounds_toArray,List.set_cons_zero,List.set_cons_succ])
      refine wpAnyH_ready (rs:=[3]) (by kernel_rfl) (by simp) ?_
      refine AllReadyH.cons rfl (fun K hK=>?_) AllReadyH.nil
      go_simp
      refine (wneg_any _ Z _ (by repeat (first | assumption | refine Ok.alloc ?_ _ | refine Below.drew ?_))).mono ?_
      rintro e w' ⟨rfl,hb⟩
      (try unfold cv)
      have q1:=Ok.cell hb zl d0
      have q2:=Ok.cell hb zl d1
      obtain ⟨k0,k1,k2,k3⟩:=row_facts (Ok.row' hb HRZ.out)
      go_wp2_with fail
      refine hK.out _ _ (by (try dsimp only);go_keep) (fun hHeld=>?_)
      clear hK K
      (try simp only [Act.put,List.getElem_toArray,List.getElem_cons_succ,List.getElem_cons_zero,List.setIfInBounds_toArray,List.set_cons_zero,List.set_cons_succ])
      refine wpAnyH_ready (rs:=[4]) (by kernel_rfl) (by simp) ?_
      refine AllReadyH.cons rfl (fun K hK=>?_) AllReadyH.nil
      go_simp
      refine (pconst_any _ Z _ (by repeat (first | assumption | refine Ok.alloc ?_ _ | refine Below.drew ?_))).mono ?_
      rintro e w' ⟨rfl,hb⟩
      (try unfold cv)
      have q1:=Ok.cell hb zl d0
      have q2:=Ok.cell hb zl d1
      obtain ⟨k0,k1,k2,k3⟩:=row_facts (Ok.row' hb HRZ.out)
      go_wp2_with fail
      refine hK.out _ _ (by (try dsimp only);go_keep) (fun hHeld=>?_)
      clear hK K
      (try simp only [Act.put,List.getElem_toArray,List.getElem_cons_succ,List.getElem_cons_zero,List.setIfInBounds_toArray,List.set_cons_zero,List.set_cons_succ])
      refine wpAnyH_take (i:=8) (v:=?_) rfl (by kernel_rfl) (by kernel_rfl) (by kernel_rfl) (fun _ _ _ h=>h) (Or.inl ⟨by rfl,?_⟩) (by assumption) ?_
      rotate_left
      ·intro w hSw;(try dsimp only at hSw);first | (go_simp;done) | (go_simp;with_reducible rfl)
      (try simp only [Act.put,List.getElem_toArray,List.getElem_cons_succ,List.getElem_cons_zero,List.setIfInBounds_toArray,List.set_cons_zero,List.set_cons_succ])
      refine wpAnyH_take (i:=9) (v:=undef) rfl (by kernel_rfl) (by kernel_rfl) (by kernel_rfl) (fun _ _ _ h=>h) (Or.inr ⟨by rfl,rfl⟩) (by assumption) ?_
      (try simp only [Act.put,List.getElem_toArray,List.getElem_cons_succ,List.getElem_cons_zero,List.setIfInBounds_toArray,List.set_cons_zero,List.set_cons_succ])
      refine wpAnyH_take (i:=10) (v:=undef) rfl (by kernel_rfl) (by kernel_rfl) (by kernel_rfl) (fun _ _ _ h=>h) (Or.inr ⟨by rfl,rfl⟩) (by assumption) ?_
      (try simp only [Act.put,List.getElem_toArray,List.getElem_cons_succ,List.getElem_cons_zero,List.setIfInBounds_toArray,List.set_cons_zero,List.set_cons_succ])
      refine wpAnyH_take (i:=11) (v:=undef) rfl (by kernel_rfl) (by kernel_rfl) (by kernel_rfl) (fun _ _ _ h=>h) (Or.inr ⟨by rfl,rfl⟩) (by assumption) ?_
      (try simp only [Act.put,List.getElem_toArray,List.getElem_cons_succ,List.getElem_cons_zero,List.setIfInBounds_toArray,List.set_cons_zero,List.set_cons_succ])
      refine wpAnyH_take (i:=12) (v:=?_) rfl (by kernel_rfl) (by kernel_rfl) (by kernel_rfl) (fun _ _ _ h=>h) (Or.inl ⟨by rfl,?_⟩) (by assumption) ?_
      rotate_left
      ·intro w hSw;(try dsimp only at hSw);first | (go_simp;done) | (go_simp;with_reducible rfl)
      (try simp only [Act.put,List.getElem_toArray,List.getElem_cons_succ,List.getElem_cons_zero,List.setIfInBounds_toArray,List.set_cons_zero,List.set_cons_succ])
      refine wpAnyH_ready (rs:=[13]) (by kernel_rfl) (by simp) ?_
      refine AllReadyH.cons rfl (fun K hK=>?_) AllReadyH.nil
      go_simp
      refine (ponly_no 0 _ Z _ (by repeat (first | assumption | refine Ok.alloc ?_ _ | refine Below.drew ?_))).mono ?_
      rintro e w' ⟨rfl,hb⟩
      (try unfold cv)
      have q1:=Ok.cell hb zl d0
      have q2:=Ok.cell hb zl d1
      obtain ⟨k0,k1,k2,k3⟩:=row_facts (Ok.row' hb HRZ.out)
      go_wp2_with fail
      refine hK.out _ _ (by (try dsimp only);go_keep) (fun hHeld=>?_)
      clear hK K
      (try simp only [Act.put,List.getElem_toArray,List.getElem_cons_succ,List.getElem_cons_zero,List.setIfInBounds_toArray,List.set_cons_zero,List.set_cons_succ])
      refine wpAnyH_take (i:=14) (v:=?_) rfl (by kernel_rfl) (by kernel_rfl) (by kernel_rfl) (fun _ _ _ h=>h) (Or.inl ⟨by rfl,?_⟩) (by assumption) ?_
      rotate_left
      ·intro w hSw;(try dsimp only at hSw);first | (go_simp;done) | (go_simp;with_reducible rfl)
      (try simp only [Act.put,List.getElem_toArray,List.getElem_cons_succ,List.getElem_cons_zero,List.setIfInBounds_toArray,List.set_cons_zero,List.set_cons_succ])
      refine wpAnyH_take (i:=15) (v:=?_) rfl (by kernel_rfl) (by kernel_rfl) (by kernel_rfl) (fun _ _ _ h=>h) (Or.inl ⟨by rfl,?_⟩) (by assumption) ?_
      rotate_left
      ·intro w hSw;(try dsimp only at hSw);first | (go_simp;done) | (go_simp;with_reducible rfl)
      (try simp only [Act.put,List.getElem_toArray,List.getElem_cons_succ,List.getElem_cons_zero,List.setIfInBounds_toArray,List.set_cons_zero,List.set_cons_succ])
      refine wpAnyH_ready (rs:=[16]) (by kernel_rfl) (by simp) ?_
      refine AllReadyH.cons rfl (fun K hK=>?_) AllReadyH.nil
      go_simp
      go_wp2_with fail
      refine hK.out _ _ (by (try dsimp only);go_keep) (fun hHeld=>?_)
      clear hK K
      (try simp only [Act.put,List.getElem_toArray,List.getElem_cons_succ,List.getElem_cons_zero,List.setIfInBounds_toArray,List.set_cons_zero,List.set_cons_succ])
      refine wpAnyH_ready (rs:=[17]) (by kernel_rfl) (by simp) ?_
      refine AllReadyH.cons rfl (fun K hK=>?_) AllReadyH.nil
      go_simp
      go_wp2_with fail
      refine hK.out _ _ (by (try dsimp only);go_keep) (fun hHeld=>?_)
      clear hK K
      (try simp only [Act.put,List.getElem_toArray,List.getElem_cons_succ,List.getElem_cons_zero,List.setIfInBounds_toArray,List.set_cons_zero,List.set_cons_succ])
      refine wpAnyH_done (by kernel_rfl) ?_ _
      have hr:Hid _:=Ok.row' hb HRZ.out
      have HF2:Hid (Ok w0 w'):=HF.out.step hb
      go_wp2_with fail
      (try simp only [Exit.inBlock, Exit.then]); refine bodyPost_ret (results_iv rfl _ _ (w.heap.size+2) 27 #[_, _] (0, 0) _ rfl (row_set2 hr.out _ _) Tryz.underlying27 rfl infoCg) rfl ?_
      rw [HXL.out.2.2.2,fin_no HNL.out HXX.out a3.out]
      exact ⟨retcb rfl rfl,(HF2.out.set (show w0.heap.size<=w.heap.size+2 by omega) _).set (show w0.heap.size<=w.heap.size+2 by omega) _⟩
    ·have hq1:(hx==0)=false:=by simp;exact hq
     clear hX hL
     obtain ⟨D,hD⟩:∃ D,D=L-X:=⟨_,rfl⟩
     obtain ⟨hd,ehd⟩:∃ z:Int,z=hiB D:=⟨_,rfl⟩
     obtain ⟨ld,eld⟩:∃ z:Int,z=loB D:=⟨_,rfl⟩
     have ED:Hid _:=And.intro hD (And.intro ehd eld)
     clear hD ehd eld hV
     go_wp2_with fail
     refine (pwminus_at L X hl ll hx lx HXL.out.2.1 HXL.out.2.2.1 (by have:=HXL.out.1;omega) EX.out.2.2.1 EX.out.2.2.2 EX.out.1 EX.out.2.1 _ _ (Ok.refl _)).mono ?_
     rintro e z ⟨rfl,hz⟩
     rw [<-ED.out.1]
     unfold bv
     rw [<-ED.out.2.1,<-ED.out.2.2]
     have okZ:Ok Y (z.alloc (.cells #[.int .u64 hd,.int .u64 ld] 173)):=(Ok.step HOV.out hz).alloc _
     obtain ⟨Z,hZ⟩:∃ Z,Z=z.alloc (.cells #[.int .u64 hd,.int .u64 ld] 173):=⟨_,rfl⟩
     obtain ⟨gz,hgz⟩:∃ g,g=z.heap.size:=⟨_,rfl⟩
     have rZ:Z.heap[gz]?=some (.cells #[.int .u64 hd,.int .u64 ld] 173):=by rw [hZ,hgz];exact heap_new0 _ _
     rw [<-hZ] at okZ
     have zr:Z.heap[w.heap.size+2]?=some (.cells #[.int .u64 0,.int .u64 0] 27):=Ok.row' okZ (Ok.row' HYo.out HR2.out)
     have HRZ:Hid _:=zr
     have HRG:Hid _:=rZ
     obtain ⟨d0,d1,_,_⟩:=row_facts rZ
     have zl:=lt_row rZ
     have HF:Hid (Ok w0 Z):=(HW.out.step HYo.out).step okZ
     have nn:¬w.heap.size+1+1=gz:=by
      intro h
      have h1:=zr
      rw [show w.heap.size+2=gz from h,rZ] at h1
      injection h1 with h1
      injection h1 with _ h2 _
      cases h2
     clear zr rZ okZ
     go_wp2_with fail
     rw [<-hZ,<-hgz]
     clear hZ hgz
     have bz2:Ok Z Z:=Ok.refl _
     by_cases hk:hd=0
     ·by_cases hm:ld<=9223372036854775808
      ·have a3:Hid (L-X<=9223372036854775808/\ld=((L-X:Nat):Int)):=by
        have b1:=ED.out.1;have b2:=ED.out.2.1;have b3:=ED.out.2.2
        rw [hiB_nat] at b2;rw [loB_nat] at b3
        unfold Hid;omega
       subst hk
       go_region_held3 (fun w'=>w'.cell? ⟨gz,0,none⟩=some (.int .u64 0)/\w'.cell? ⟨gz,1,none⟩=some (.int .u64 ld)) (go_keep)
        (first
        | (go_at_call 198;refine (wneg_any (IntKind.i64.wrap ld) Z _ (by repeat (first | assumption | refine Ok.alloc ?_ _ | refine Below.drew ?_))).mono ?_;rintro e w' ⟨rfl,hb⟩;have q1:=Ok.cell hb zl d0;have q2:=Ok.cell hb zl d1;obtain ⟨k0,k1,k2,k3⟩:=row_facts (Ok.row' hb HRZ.out))
        | (go_at_call 123;refine (pconst_any (wrap64 (-(IntKind.i64.wrap ld))) Z _ (by repeat (first | assumption | refine Ok.alloc ?_ _ | refine Below.drew ?_))).mono ?_;rintro e w' ⟨rfl,hb⟩;unfold cv;have q1:=Ok.cell hb zl d0;have q2:=Ok.cell hb zl d1;obtain ⟨k0,k1,k2,k3⟩:=row_facts (Ok.row' hb HRZ.out))
        | (go_at_call 150;refine (ponly_yes 0 (bitsN (wrap64 (-(IntKind.i64.wrap ld)))) Z _ (by repeat (first | assumption | refine Ok.alloc ?_ _ | refine Below.drew ?_))).mono ?_;rintro e w' ⟨rfl,hb⟩;unfold cv;have q1:=Ok.cell hb zl d0;have q2:=Ok.cell hb zl d1;obtain ⟨k0,k1,k2,k3⟩:=row_facts (Ok.row' hb HRZ.out))
        | fail)
       have hr:Hid _:=Ok.row' hb HRZ.out
       have HF2:Hid (Ok w0 w'):=HF.out.step hb
       go_wp2_with fail
       (try simp only [Exit.inBlock, Exit.then]); refine bodyPost_ret (results_iv rfl _ _ (w.heap.size+2) 27 #[_, _] (0, 0) _ rfl (row_set2 hr.out _ _) Tryz.underlying27 rfl infoCg) rfl ?_
       rw [HXL.out.2.2.2,fin_below HNL.out HXX.out a3.out.1]
       exact ⟨retcb rfl (by rw [<-neg_bits,a3.out.2,show IntKind.i64.wrap ((L-X:Nat):Int)=wrap64 ((L-X:Nat):Int) by rw [IntKind.wrap_i64];unfold wrap64;omega]),(HF2.out.set (show w0.heap.size<=w.heap.size+2 by omega) _).set (show w0.heap.size<=w.heap.size+2 by omega) _⟩
      ·have a3:Hid (¬L-X<=9223372036854775808):=by
        have b1:=ED.out.1;have b2:=ED.out.2.1;have b3:=ED.out.2.2
        rw [hiB_nat] at b2;rw [loB_nat] at b3
        unfold Hid;omega
       subst hk
       have hm2:decide (ld<=9223372036854775808)=false:=decide_eq_false hm
       go_region_held3 (fun w'=>w'.cell? ⟨gz,0,none⟩=some (.int .u64 0)/\w'.cell? ⟨gz,1,none⟩=some (.int .u64 ld)) (go_keep)
        (first
        | (go_at_call 198;refine (wneg_any (IntKind.i64.wrap ld) Z _ (by repeat (first | assumption | refine Ok.alloc ?_ _ | refine Below.drew ?_))).mono ?_;rintro e w' ⟨rfl,hb⟩;have q1:=Ok.cell hb zl d0;have q2:=Ok.cell hb zl d1;obtain ⟨k0,k1,k2,k3⟩:=row_facts (Ok.row' hb HRZ.out))
        | (go_at_call 123;refine (pconst_any (wrap64 (-(IntKind.i64.wrap ld))) Z _ (by repeat (first | assumption | refine Ok.alloc ?_ _ | refine Below.drew ?_))).mono ?_;rintro e w' ⟨rfl,hb⟩;unfold cv;have q1:=Ok.cell hb zl d0;have q2:=Ok.cell hb zl d1;obtain ⟨k0,k1,k2,k3⟩:=row_facts (Ok.row' hb HRZ.out))
        | (go_at_call 150;refine (ponly_no 0 (bitsN (wrap64 (-(IntKind.i64.wrap ld)))) Z _ (by repeat (first | assumption | refine Ok.alloc ?_ _ | refine Below.drew ?_))).mono ?_;rintro e w' ⟨rfl,hb⟩;unfold cv;have q1:=Ok.cell hb zl d0;have q2:=Ok.cell hb zl d1;obtain ⟨k0,k1,k2,k3⟩:=row_facts (Ok.row' hb HRZ.out))
        | fail)
       have hr:Hid _:=Ok.row' hb HRZ.out
       have HF2:Hid (Ok w0 w'):=HF.out.step hb
       go_wp2_with fail
       (try simp only [Exit.inBlock, Exit.then]); refine bodyPost_ret (results_iv rfl _ _ (w.heap.size+2) 27 #[_, _] (0, 0) _ rfl (row_set2 hr.out _ _) Tryz.underlying27 rfl infoCg) rfl ?_
       rw [HXL.out.2.2.2,fin_no HNL.out HXX.out a3.out]
       exact ⟨retcb rfl rfl,(HF2.out.set (show w0.heap.size<=w.heap.size+2 by omega) _).set (show w0.heap.size<=w.heap.size+2 by omega) _⟩
     ·have a3:Hid (¬L-X<=9223372036854775808):=by
       have b1:=ED.out.1;have b2:=ED.out.2.1;have b3:=ED.out.2.2
       rw [hiB_nat] at b2;rw [loB_nat] at b3
       unfold Hid;omega
      have hk1:(hd==0)=false:=by simp;exact hk
      refine wp_region_held_drew (S:=(fun w'=>w'.cell? ⟨gz,0,none⟩=some (.int .u64 hd)/\w'.cell? ⟨gz,1,none⟩=some (.int .u64 ld))) (by kernel_rfl) (by (try dsimp only);go_keep) (fun hHeld=>?_)
      refine wpAnyH_take (i:=0) (v:=?_) rfl (by kernel_rfl) (by kernel_rfl) (by kernel_rfl) (fun _ _ _ h=>h) (Or.inl ⟨by rfl,?_⟩) (by assumption) ?_
      rotate_left
      ·intro w hSw;(try dsimp only at hSw);first | (go_simp;done) | (go_simp;with_reducible rfl)
      (try simp only [Act.put,List.getElem_toArray,List.getElem_cons_succ,List.getElem_cons_zero,List.setIfInBounds_toArray,List.set_cons_zero,List.set_cons_succ])
      refine wpAnyH_take (i:=1) (v:=?_) rfl (by kernel_rfl) (by kernel_rfl) (by kernel_rfl) (fun _ _ _ h=>h) (Or.inl ⟨by rfl,?_⟩) (by assumption) ?_
      rotate_left
      ·intro w hSw;(try dsimp only at hSw);first | (go_simp;done) | (go_simp;with_reducible rfl)
      (try simp only [Act.put,List.getElem_toArray,List.getElem_cons_succ,List.getElem_cons_zero,List.setIfInBounds_toArray,List.set_cons_zero,List.set_cons_succ])
      refine wpAnyH_take (i:=2) (v:=?_) rfl (by kernel_rfl) (by kernel_rfl) (by kernel_rfl) (fun _ _ _ h=>h) (Or.inl ⟨by rfl,?_⟩) (by assumption) ?_
      rotate_left
      ·intro w hSw;(try dsimp only at hSw);first | (go_simp;done) | (go_simp;with_reducible rfl)
      (try simp only [Act.put,List.getElem_toArray,List.getElem_cons_succ,List.getElem_cons_zero,List.setIfInBounds_toArray,List.set_cons_zero,List.set_cons_succ])
      refine wpAnyH_take (i:=5) (v:=?_) rfl (by kernel_rfl) (by kernel_rfl) (by kernel_rfl) (fun _ _ _ h=>h) (Or.inl ⟨by rfl,?_⟩) (by assumption) ?_
      rotate_left
      ·intro w hSw;(try dsimp only at hSw);first | (go_simp;done) | (go_simp;with_reducible rfl)
      (try simp only [Act.put,List.getElem_toArray,List.getElem_cons_succ,List.getElem_cons_zero,List.setIfInBounds_toArray,List.set_cons_zero,List.set_cons_succ])
      refine wpAnyH_take (i:=6) (v:=?_) rfl (by kernel_rfl) (by kernel_rfl) (by kernel_rfl) (fun _ _ _ h=>h) (Or.inl ⟨by rfl,?_⟩) (by assumption) ?_
      rotate_left
      ·intro w hSw;(try dsimp only at hSw);first | (go_simp;done) | (go_simp;with_reducible rfl)
      (try simp only [Act.put,List.getElem_toArray,List.getElem_cons_succ,List.getElem_cons_zero,List.setIfInBounds_toArray,List.set_cons_zero,List.set_cons_succ])
      refine wpAnyH_take (i:=7) (v:=?_) rfl (by kernel_rfl) (by kernel_rfl) (by kernel_rfl) (fun _ _ _ h=>h) (Or.inl ⟨by rfl,?_⟩) (by assumption) ?_
      rotate_left
      ·intro w hSw;(try dsimp only at hSw);first | (go_simp;done) | (go_simp;with_reducible rfl)
      (try simp only [Act.put,List.getElem_toArray,List.getElem_cons_succ,List.getElem_cons_zero,List.setIfInBounds_toArray,List.set_cons_zero,List.set_cons_succ])
      refine wpAnyH_ready (rs:=[3]) (by kernel_rfl) (by simp) ?_
      refine AllReadyH.cons rfl (fun K hK=>?_) AllReadyH.nil
      go_simp
      refine (wneg_any _ Z _ (by repeat (first | assumption | refine Ok.alloc ?_ _ | refine Below.drew ?_))).mono ?_
      rintro e w' ⟨rfl,hb⟩
      (try unfold cv)
      have q1:=Ok.cell hb zl d0
      have q2:=Ok.cell hb zl d1
      obtain ⟨k0,k1,k2,k3⟩:=row_facts (Ok.row' hb HRZ.out)
      go_wp2_with fail
      refine hK.out _ _ (by (try dsimp only);go_keep) (fun hHeld=>?_)
      clear hK K
      (try simp only [Act.put,List.getElem_toArray,List.getElem_cons_succ,List.getElem_cons_zero,List.setIfInBounds_toArray,List.set_cons_zero,List.set_cons_succ])
      refine wpAnyH_ready (rs:=[4]) (by kernel_rfl) (by simp) ?_
      refine AllReadyH.cons rfl (fun K hK=>?_) AllReadyH.nil
      go_simp
      refine (pconst_any _ Z _ (by repeat (first | assumption | refine Ok.alloc ?_ _ | refine Below.drew ?_))).mono ?_
      rintro e w' ⟨rfl,hb⟩
      (try unfold cv)
      have q1:=Ok.cell hb zl d0
      have q2:=Ok.cell hb zl d1
      obtain ⟨k0,k1,k2,k3⟩:=row_facts (Ok.row' hb HRZ.out)
      go_wp2_with fail
      refine hK.out _ _ (by (try dsimp only);go_keep) (fun hHeld=>?_)
      clear hK K
      (try simp only [Act.put,List.getElem_toArray,List.getElem_cons_succ,List.getElem_cons_zero,List.setIfInBounds_toArray,List.set_cons_zero,List.set_cons_succ])
      refine wpAnyH_take (i:=8) (v:=?_) rfl (by kernel_rfl) (by kernel_rfl) (by kernel_rfl) (fun _ _ _ h=>h) (Or.inl ⟨by rfl,?_⟩) (by assumption) ?_
      rotate_left
      ·intro w hSw;(try dsimp only at hSw);first | (go_simp;done) | (go_simp;with_reducible rfl)
      (try simp only [Act.put,List.getElem_toArray,List.getElem_cons_succ,List.getElem_cons_zero,List.setIfInBounds_toArray,List.set_cons_zero,List.set_cons_succ])
      refine wpAnyH_take (i:=9) (v:=undef) rfl (by kernel_rfl) (by kernel_rfl) (by kernel_rfl) (fun _ _ _ h=>h) (Or.inr ⟨by rfl,rfl⟩) (by assumption) ?_
      (try simp only [Act.put,List.getElem_toArray,List.getElem_cons_succ,List.getElem_cons_zero,List.setIfInBounds_toArray,List.set_cons_zero,List.set_cons_succ])
      refine wpAnyH_take (i:=10) (v:=undef) rfl (by kernel_rfl) (by kernel_rfl) (by kernel_rfl) (fun _ _ _ h=>h) (Or.inr ⟨by rfl,rfl⟩) (by assumption) ?_
      (try simp only [Act.put,List.getElem_toArray,List.getElem_cons_succ,List.getElem_cons_zero,List.setIfInBounds_toArray,List.set_cons_zero,List.set_cons_succ])
      refine wpAnyH_take (i:=11) (v:=undef) rfl (by kernel_rfl) (by kernel_rfl) (by kernel_rfl) (fun _ _ _ h=>h) (Or.inr ⟨by rfl,rfl⟩) (by assumption) ?_
      (try simp only [Act.put,List.getElem_toArray,List.getElem_cons_succ,List.getElem_cons_zero,List.setIfInBounds_toArray,List.set_cons_zero,List.set_cons_succ])
      refine wpAnyH_take (i:=12) (v:=?_) rfl (by kernel_rfl) (by kernel_rfl) (by kernel_rfl) (fun _ _ _ h=>h) (Or.inl ⟨by rfl,?_⟩) (by assumption) ?_
      rotate_left
      ·intro w hSw;(try dsimp only at hSw);first | (go_simp;done) | (go_simp;with_reducible rfl)
      (try simp only [Act.put,List.getElem_toArray,List.getElem_cons_succ,List.getElem_cons_zero,List.setIfInBounds_toArray,List.set_cons_zero,List.set_cons_succ])
      refine wpAnyH_ready (rs:=[13]) (by kernel_rfl) (by simp) ?_
      refine AllReadyH.cons rfl (fun K hK=>?_) AllReadyH.nil
      go_simp
      refine (ponly_no 0 _ Z _ (by repeat (first | assumption | refine Ok.alloc ?_ _ | refine Below.drew ?_))).mono ?_
      rintro e w' ⟨rfl,hb⟩
      (try unfold cv)
      have q1:=Ok.cell hb zl d0
      have q2:=Ok.cell hb zl d1
      obtain ⟨k0,k1,k2,k3⟩:=row_facts (Ok.row' hb HRZ.out)
      go_wp2_with fail
      refine hK.out _ _ (by (try dsimp only);go_keep) (fun hHeld=>?_)
      clear hK K
      (try simp only [Act.put,List.getElem_toArray,List.getElem_cons_succ,List.getElem_cons_zero,List.setIfInBounds_toArray,List.set_cons_zero,List.set_cons_succ])
      refine wpAnyH_take (i:=14) (v:=?_) rfl (by kernel_rfl) (by kernel_rfl) (by kernel_rfl) (fun _ _ _ h=>h) (Or.inl ⟨by rfl,?_⟩) (by assumption) ?_
      rotate_left
      ·intro w hSw;(try dsimp only at hSw);first | (go_simp;done) | (go_simp;with_reducible rfl)
      (try simp only [Act.put,List.getElem_toArray,List.getElem_cons_succ,List.getElem_cons_zero,List.setIfInBounds_toArray,List.set_cons_zero,List.set_cons_succ])
      refine wpAnyH_take (i:=15) (v:=?_) rfl (by kernel_rfl) (by kernel_rfl) (by kernel_rfl) (fun _ _ _ h=>h) (Or.inl ⟨by rfl,?_⟩) (by assumption) ?_
      rotate_left
      ·intro w hSw;(try dsimp only at hSw);first | (go_simp;done) | (go_simp;with_reducible rfl)
      (try simp only [Act.put,List.getElem_toArray,List.getElem_cons_succ,List.getElem_cons_zero,List.setIfInBounds_toArray,List.set_cons_zero,List.set_cons_succ])
      refine wpAnyH_ready (rs:=[16]) (by kernel_rfl) (by simp) ?_
      refine AllReadyH.cons rfl (fun K hK=>?_) AllReadyH.nil
      go_simp
      go_wp2_with fail
      refine hK.out _ _ (by (try dsimp only);go_keep) (fun hHeld=>?_)
      clear hK K
      (try simp only [Act.put,List.getElem_toArray,List.getElem_cons_succ,List.getElem_cons_zero,List.setIfInBounds_toArray,List.set_cons_zero,List.set_cons_succ])
      refine wpAnyH_ready (rs:=[17]) (by kernel_rfl) (by simp) ?_
      refine AllReadyH.cons rfl (fun K hK=>?_) AllReadyH.nil
      go_simp
      go_wp2_with fail
      refine hK.out _ _ (by (try dsimp only);go_keep) (fun hHeld=>?_)
      clear hK K
      (try simp only [Act.put,List.getElem_toArray,List.getElem_cons_succ,List.getElem_cons_zero,List.setIfInBounds_toArray,List.set_cons_zero,List.set_cons_succ])
      refine wpAnyH_done (by kernel_rfl) ?_ _
      have hr:Hid _:=Ok.row' hb HRZ.out
      have HF2:Hid (Ok w0 w'):=HF.out.step hb
      go_wp2_with fail
      (try simp only [Exit.inBlock, Exit.then]); refine bodyPost_ret (results_iv rfl _ _ (w.heap.size+2) 27 #[_, _] (0, 0) _ rfl (row_set2 hr.out _ _) Tryz.underlying27 rfl infoCg) rfl ?_
      rw [HXL.out.2.2.2,fin_no HNL.out HXX.out a3.out]
      exact ⟨retcb rfl rfl,(HF2.out.set (show w0.heap.size<=w.heap.size+2 by omega) _).set (show w0.heap.size<=w.heap.size+2 by omega) _⟩
 have HT2:Hid _:=tail
 clear tail aK
 have rX:=Ok.row' hb HR2.out
 have x1:=knew_ne hb z0;have x2:=knew_ne hb z1
 go_region_held3 (fun w'=>w'.cell? ⟨w.heap.size,0,none⟩=some (.int .u64 (cM:Int))/\w'.cell? ⟨w.heap.size,1,none⟩=some (.int .u64 (cR:Int))/\w'.cell? ⟨w.heap.size+1,0,none⟩=some (.int .u64 (dM:Int))/\w'.cell? ⟨w.heap.size+1,1,none⟩=some (.int .u64 (dR:Int))) (go_keep)
  (first
  | (go_at_call 196;refine (pproduct_ok cM t HC.out.cu HP1.out _ _ (Ok.refl _)).mono ?_;rintro e w2 ⟨rfl,hc⟩;rw [<-HP.out];have hb:Ok W w2:=Ok.step (by repeat (first | assumption | refine Ok.alloc ?_ _ | refine Below.drew ?_)) hc;(first | have rX:=Ok.row' hc (heap_new0 _ _) | have rX:=Ok.row' hc rX);obtain ⟨c0,c1,c2,c3⟩:=row_facts rX;have x3:=knew_ne hb z0;have x4:=knew_ne hb z1;unfold bv;have q00:=Ok.cell hb z0 g00;have q01:=Ok.cell hb z0 g01;have q10:=Ok.cell hb z1 g10;have q11:=Ok.cell hb z1 g11)
  | (go_at_call 195;refine (pwplus_at cR P HPB.out.2.1 HPB.out.1 HPB.out.2.2 HR.out.1 HR.out.2 _ _ (Ok.refl _)).mono ?_;rintro e w2 ⟨rfl,hc⟩;rw [<-HLL.out.1];have hb:Ok W w2:=Ok.step (by repeat (first | assumption | refine Ok.alloc ?_ _ | refine Below.drew ?_)) hc;(first | have rX:=Ok.row' hc (heap_new0 _ _) | have rX:=Ok.row' hc rX);obtain ⟨c0,c1,c2,c3⟩:=row_facts rX;have x3:=knew_ne hb z0;have x4:=knew_ne hb z1;unfold bv;have q00:=Ok.cell hb z0 g00;have q01:=Ok.cell hb z0 g01;have q10:=Ok.cell hb z1 g10;have q11:=Ok.cell hb z1 g11)
  | fail)
 ·refine HT2.out _ _ (heap_new0 _ _) (hb.alloc _)
 ·exact HT2.out _ _ (row_set2 rX _ _) (Ok.set (Ok.set hb (by simp only;exact Ok.le (by assumption)) _) (by simp only;exact Ok.le (by assumption)) _)
 ·exact HT2.out _ _ (row_set2 rX _ _) (Ok.set (Ok.set hb (by simp only;exact Ok.le (by assumption)) _) (by simp only;exact Ok.le (by assumption)) _)
end Go.Proofs.YtnjmjnmhldhaoaaGreat
namespace Go.Proofs.YtnjmjnmhldhaoaaGreat
open Go.RowKit
theorem meet_c {cR dM dR:Nat} (hc:U64 cR) (hd:U64 dR):meetC 0 cR dM dR=if leqC 0 cR dM dR=true then (0,cR,true) else (0,0,false):=by
 unfold meetC
 rw [if_pos (Or.inl rfl)]
 by_cases h:leqC 0 cR dM dR=true
 ·rw [if_pos h,if_pos h];rfl
 ·rw [if_neg h,if_neg h]
  have:leqC dM dR 0 cR=false:=by
   cases e:leqC dM dR 0 cR with
   | false=>rfl
   | true =>
    exfalso;apply h
    unfold leqC at e
    rw [if_pos rfl,Bool.and_eq_true,decide_eq_true_eq,decide_eq_true_eq] at e
    obtain ⟨rfl,rfl⟩:=e
    unfold leqC
    rw [if_pos rfl,decide_eq_true rfl,decide_eq_true rfl];rfl
  rw [this,if_neg (by simp)]
theorem meet_d {cM cR dR:Nat} (h:cM≠0):meetC cM cR 0 dR=if leqC 0 dR cM cR=true then (0,dR,true) else (0,0,false):=by
 unfold meetC
 rw [if_pos (Or.inr rfl)]
 have e:leqC cM cR 0 dR=false:=by unfold leqC;rw [if_pos rfl,decide_eq_false h,Bool.false_and]
 rw [e,if_neg (by simp)]
 rfl
set_option maxRecDepth 100000 in
theorem pmeet_c (cR dM dR:Nat) (h2:U64 cR) (h3:U64 dM) (h4:U64 dR) (w0 w:World) (hok:Ok w0 w) :
  Calls Tryz.prog 83 #[cv 0 cR,cv dM dR] w fun e w'=>e=.returned (.tuple #[cv (meetC 0 cR dM dR).1 (meetC 0 cR dM dR).2.1,.bool (meetC 0 cR dM dR).2.2])/\Ok w0 w':=by
 have hle:=hok.le
 rw [meet_c h2 h4]
 obtain ⟨b,hb0⟩:∃ b,b=leqC 0 cR dM dR:=⟨_,rfl⟩
 rw [<-hb0]
 have HB0:Hid _:=hb0
 have HU:Hid _:=And.intro (show U64 0 by unfold U64;omega) (And.intro h2 (And.intro h3 h4))
 clear hb0 h2 h3 h4
 cases b with
 | true =>
  rw [if_pos rfl]
  unfold cv
  go_enter Tryz.func83,Tryz.ntmps83
  go_wp2_with (first | (go_at_call 149;refine (pisone_ex 0 cR _).mono ?_;rintro e w' ⟨rfl,rfl⟩) | fail)
  obtain ⟨W,hW⟩:∃ W,W=((((w.alloc (.cells #[.int .u64 0,.int .u64 (cR:Int)] 27)).alloc (.cells #[.int .u64 (dM:Int),.int .u64 (dR:Int)] 27)).alloc (.cells #[.int .u64 0,.int .u64 0] 27)).alloc (.cells #[.int .u64 0,.int .u64 (cR:Int)] 27)):=⟨_,rfl⟩
  have ra0:W.heap[w.heap.size]?=some (.cells #[.int .u64 0,.int .u64 (cR:Int)] 27):=by rw [hW];exact jj
  have ra1:W.heap[w.heap.size+1]?=some (.cells #[.int .u64 (dM:Int),.int .u64 (dR:Int)] 27):=by rw [hW];exact jj
  have ra2:W.heap[w.heap.size+2]?=some (.cells #[.int .u64 0,.int .u64 0] 27):=by rw [hW];exact jj
  have ra3:W.heap[w.heap.size+3]?=some (.cells #[.int .u64 0,.int .u64 (cR:Int)] 27):=by rw [hW];exact jj
  have HW:Hid (Ok w0 W):=by rw [hW];exact (by repeat (first | exact hok | refine Ok.alloc ?_ _ | refine Ok.draws ?_ _ | fail))
  rw [<-hW]
  clear hW hok
  have z0:=lt_row ra0
  have HR0:Hid _:=ra0
  obtain ⟨g00,g01,f00,f01⟩:=row_facts ra0
  have z1:=lt_row ra1
  have HR1:Hid _:=ra1
  obtain ⟨g10,g11,f10,f11⟩:=row_facts ra1
  have z2:=lt_row ra2
  have HR2:Hid _:=ra2
  obtain ⟨g20,g21,f20,f21⟩:=row_facts ra2
  have z3:=lt_row ra3
  have HR3:Hid _:=ra3
  obtain ⟨g30,g31,f30,f31⟩:=row_facts ra3
  clear ra0 ra1 ra2 ra3
  have bz:Ok W W:=Ok.refl _
  have n1:¬w.heap.size+1+1=w.heap.size:=by omega
  have n2:¬w.heap.size+1+1=w.heap.size+1:=by omega
  go_region_held3 (fun w'=>w'.cell? ⟨w.heap.size,0,none⟩=some (.int .u64 0)/\w'.cell? ⟨w.heap.size,1,none⟩=some (.int .u64 (cR:Int))/\w'.cell? ⟨w.heap.size+1,0,none⟩=some (.int .u64 (dM:Int))/\w'.cell? ⟨w.heap.size+1,1,none⟩=some (.int .u64 (dR:Int))) (go_keep)
   (first
   | (go_at_call 151;refine (pleq_any 0 cR dM dR HU.out.1 HU.out.2.1 HU.out.2.2.1 HU.out.2.2.2 W _ (by repeat (first | assumption | refine Ok.alloc ?_ _ | refine Below.drew ?_))).mono ?_;rintro e w' ⟨rfl,hb⟩;rw [<-HB0.out];have q00:=Ok.cell hb z0 g00;have q01:=Ok.cell hb z0 g01;have q10:=Ok.cell hb z1 g10;have q11:=Ok.cell hb z1 g11;obtain ⟨k0,k1,k2,k3⟩:=row_facts (Ok.row' hb HR2.out))
   | (go_at_call 150;refine (ponly_yes 0 cR W _ (by repeat (first | assumption | refine Ok.alloc ?_ _ | refine Below.drew ?_))).mono ?_;rintro e w' ⟨rfl,hb⟩;unfold cv;have q00:=Ok.cell hb z0 g00;have q01:=Ok.cell hb z0 g01;have q10:=Ok.cell hb z1 g10;have q11:=Ok.cell hb z1 g11;obtain ⟨k0,k1,k2,k3⟩:=row_facts (Ok.row' hb HR2.out))
   | fail)
  have hr:Hid _:=Ok.row' hb HR2.out
  have HF:Hid (Ok w0 w'):=HW.out.step hb
  go_wp2_with fail
  (try simp only [Exit.inBlock, Exit.then]); refine bodyPost_ret (results_iv rfl _ _ (w.heap.size+2) 27 #[_, _] (0, 0) _ rfl (row_set2 hr.out _ _) Tryz.underlying27 rfl infoCg) rfl ?_
  exact ⟨rfl,(HF.out.set (show w0.heap.size<=w.heap.size+2 by omega) _).set (show w0.heap.size<=w.heap.size+2 by omega) _⟩
 | false =>
  rw [if_neg (by simp)]
  unfold cv
  go_enter Tryz.func83,Tryz.ntmps83
  go_wp2_with (first | (go_at_call 149;refine (pisone_ex 0 cR _).mono ?_;rintro e w' ⟨rfl,rfl⟩) | fail)
  obtain ⟨W,hW⟩:∃ W,W=((((w.alloc (.cells #[.int .u64 0,.int .u64 (cR:Int)] 27)).alloc (.cells #[.int .u64 (dM:Int),.int .u64 (dR:Int)] 27)).alloc (.cells #[.int .u64 0,.int .u64 0] 27)).alloc (.cells #[.int .u64 0,.int .u64 (cR:Int)] 27)):=⟨_,rfl⟩
  have ra0:W.heap[w.heap.size]?=some (.cells #[.int .u64 0,.int .u64 (cR:Int)] 27):=by rw [hW];exact jj
  have ra1:W.heap[w.heap.size+1]?=some (.cells #[.int .u64 (dM:Int),.int .u64 (dR:Int)] 27):=by rw [hW];exact jj
  have ra2:W.heap[w.heap.size+2]?=some (.cells #[.int .u64 0,.int .u64 0] 27):=by rw [hW];exact jj
  have ra3:W.heap[w.heap.size+3]?=some (.cells #[.int .u64 0,.int .u64 (cR:Int)] 27):=by rw [hW];exact jj
  have HW:Hid (Ok w0 W):=by rw [hW];exact (by repeat (first | exact hok | refine Ok.alloc ?_ _ | refine Ok.draws ?_ _ | fail))
  rw [<-hW]
  clear hW hok
  have z0:=lt_row ra0
  have HR0:Hid _:=ra0
  obtain ⟨g00,g01,f00,f01⟩:=row_facts ra0
  have z1:=lt_row ra1
  have HR1:Hid _:=ra1
  obtain ⟨g10,g11,f10,f11⟩:=row_facts ra1
  have z2:=lt_row ra2
  have HR2:Hid _:=ra2
  obtain ⟨g20,g21,f20,f21⟩:=row_facts ra2
  have z3:=lt_row ra3
  have HR3:Hid _:=ra3
  obtain ⟨g30,g31,f30,f31⟩:=row_facts ra3
  clear ra0 ra1 ra2 ra3
  have bz:Ok W W:=Ok.refl _
  have n1:¬w.heap.size+1+1=w.heap.size:=by omega
  have n2:¬w.heap.size+1+1=w.heap.size+1:=by omega
  go_region_held3 (fun w'=>w'.cell? ⟨w.heap.size,0,none⟩=some (.int .u64 0)/\w'.cell? ⟨w.heap.size,1,none⟩=some (.int .u64 (cR:Int))/\w'.cell? ⟨w.heap.size+1,0,none⟩=some (.int .u64 (dM:Int))/\w'.cell? ⟨w.heap.size+1,1,none⟩=some (.int .u64 (dR:Int))) (go_keep)
   (first
   | (go_at_call 151;refine (pleq_any 0 cR dM dR HU.out.1 HU.out.2.1 HU.out.2.2.1 HU.out.2.2.2 W _ (by repeat (first | assumption | refine Ok.alloc ?_ _ | refine Below.drew ?_))).mono ?_;rintro e w' ⟨rfl,hb⟩;rw [<-HB0.out];have q00:=Ok.cell hb z0 g00;have q01:=Ok.cell hb z0 g01;have q10:=Ok.cell hb z1 g10;have q11:=Ok.cell hb z1 g11;obtain ⟨k0,k1,k2,k3⟩:=row_facts (Ok.row' hb HR2.out))
   | (go_at_call 150;refine (ponly_no 0 cR W _ (by repeat (first | assumption | refine Ok.alloc ?_ _ | refine Below.drew ?_))).mono ?_;rintro e w' ⟨rfl,hb⟩;unfold cv;have q00:=Ok.cell hb z0 g00;have q01:=Ok.cell hb z0 g01;have q10:=Ok.cell hb z1 g10;have q11:=Ok.cell hb z1 g11;obtain ⟨k0,k1,k2,k3⟩:=row_facts (Ok.row' hb HR2.out))
   | fail)
  have hr:Hid _:=Ok.row' hb HR2.out
  have HF:Hid (Ok w0 w'):=HW.out.step hb
  go_wp2_with fail
  (try simp only [Exit.inBlock, Exit.then]); refine bodyPost_ret (results_iv rfl _ _ (w.heap.size+2) 27 #[_, _] (0, 0) _ rfl (row_set2 hr.out _ _) Tryz.underlying27 rfl infoCg) rfl ?_
  exact ⟨rfl,(HF.out.set (show w0.heap.size<=w.heap.size+2 by omega) _).set (show w0.heap.size<=w.heap.size+2 by omega) _⟩
set_option maxRecDepth 100000 in
theorem pmeet_d (cM cR dR:Nat) (hc:cM≠0) (h1:U64 cM) (h2:U64 cR) (h4:U64 dR) (w0 w:World) (hok:Ok w0 w) :
  Calls Tryz.prog 83 #[cv cM cR,cv 0 dR] w fun e w'=>e=.returned (.tuple #[cv (meetC cM cR 0 dR).1 (meetC cM cR 0 dR).2.1,.bool (meetC cM cR 0 dR).2.2])/\Ok w0 w':=by
 have hle:=hok.le
 rw [meet_d hc]
 obtain ⟨b,hb0⟩:∃ b,b=leqC 0 dR cM cR:=⟨_,rfl⟩
 rw [<-hb0]
 have HB0:Hid _:=hb0
 have HU:Hid _:=And.intro h1 (And.intro h2 (And.intro (show U64 0 by unfold U64;omega) h4))
 have d1:decide (cM=0)=false:=decide_eq_false hc
 clear hb0 h1 h2 h4 hc
 cases b with
 | true =>
  rw [if_pos rfl]
  unfold cv
  go_enter Tryz.func83,Tryz.ntmps83
  go_wp2_with (first | (go_at_call 149;(first | refine (pisone_ex cM cR _).mono ?_ | refine (pisone_ex 0 dR _).mono ?_);rintro e w' ⟨rfl,rfl⟩) | fail)
  obtain ⟨W,hW⟩:∃ W,W=(((((w.alloc (.cells #[.int .u64 (cM:Int),.int .u64 (cR:Int)] 27)).alloc (.cells #[.int .u64 0,.int .u64 (dR:Int)] 27)).alloc (.cells #[.int .u64 0,.int .u64 0] 27)).alloc (.cells #[.int .u64 (cM:Int),.int .u64 (cR:Int)] 27)).alloc (.cells #[.int .u64 0,.int .u64 (dR:Int)] 27)):=⟨_,rfl⟩
  have ra0:W.heap[w.heap.size]?=some (.cells #[.int .u64 (cM:Int),.int .u64 (cR:Int)] 27):=by rw [hW];exact jj
  have ra1:W.heap[w.heap.size+1]?=some (.cells #[.int .u64 0,.int .u64 (dR:Int)] 27):=by rw [hW];exact jj
  have ra2:W.heap[w.heap.size+2]?=some (.cells #[.int .u64 0,.int .u64 0] 27):=by rw [hW];exact jj
  have ra3:W.heap[w.heap.size+3]?=some (.cells #[.int .u64 (cM:Int),.int .u64 (cR:Int)] 27):=by rw [hW];exact jj
  have ra4:W.heap[w.heap.size+4]?=some (.cells #[.int .u64 0,.int .u64 (dR:Int)] 27):=by rw [hW];exact jj
  have HW:Hid (Ok w0 W):=by rw [hW];exact (by repeat (first | exact hok | refine Ok.alloc ?_ _ | refine Ok.draws ?_ _ | fail))
  rw [<-hW]
  clear hW hok
  have z0:=lt_row ra0
  have HR0:Hid _:=ra0
  obtain ⟨g00,g01,f00,f01⟩:=row_facts ra0
  have z1:=lt_row ra1
  have HR1:Hid _:=ra1
  obtain ⟨g10,g11,f10,f11⟩:=row_facts ra1
  have z2:=lt_row ra2
  have HR2:Hid _:=ra2
  obtain ⟨g20,g21,f20,f21⟩:=row_facts ra2
  have z3:=lt_row ra3
  have HR3:Hid _:=ra3
  obtain ⟨g30,g31,f30,f31⟩:=row_facts ra3
  have z4:=lt_row ra4
  have HR4:Hid _:=ra4
  obtain ⟨g40,g41,f40,f41⟩:=row_facts ra4
  clear ra0 ra1 ra2 ra3 ra4
  have bz:Ok W W:=Ok.refl _
  have n1:¬w.heap.size+1+1=w.heap.size:=by omega
  have n2:¬w.heap.size+1+1=w.heap.size+1:=by omega
  go_region_held3 (fun w'=>w'.cell? ⟨w.heap.size,0,none⟩=some (.int .u64 (cM:Int))/\w'.cell? ⟨w.heap.size,1,none⟩=some (.int .u64 (cR:Int))/\w'.cell? ⟨w.heap.size+1,0,none⟩=some (.int .u64 0)/\w'.cell? ⟨w.heap.size+1,1,none⟩=some (.int .u64 (dR:Int))) (go_keep)
   (first
   | (go_at_call 151;refine (pleq_any 0 dR cM cR HU.out.2.2.1 HU.out.2.2.2 HU.out.1 HU.out.2.1 W _ (by repeat (first | assumption | refine Ok.alloc ?_ _ | refine Below.drew ?_))).mono ?_;rintro e w' ⟨rfl,hb⟩;rw [<-HB0.out];have q00:=Ok.cell hb z0 g00;have q01:=Ok.cell hb z0 g01;have q10:=Ok.cell hb z1 g10;have q11:=Ok.cell hb z1 g11;obtain ⟨k0,k1,k2,k3⟩:=row_facts (Ok.row' hb HR2.out))
   | (go_at_call 150;refine (ponly_yes 0 dR W _ (by repeat (first | assumption | refine Ok.alloc ?_ _ | refine Below.drew ?_))).mono ?_;rintro e w' ⟨rfl,hb⟩;unfold cv;have q00:=Ok.cell hb z0 g00;have q01:=Ok.cell hb z0 g01;have q10:=Ok.cell hb z1 g10;have q11:=Ok.cell hb z1 g11;obtain ⟨k0,k1,k2,k3⟩:=row_facts (Ok.row' hb HR2.out))
   | fail)
  have hr:Hid _:=Ok.row' hb HR2.out
  have HF:Hid (Ok w0 w'):=HW.out.step hb
  go_wp2_with fail
  (try simp only [Exit.inBlock, Exit.then]); refine bodyPost_ret (results_iv rfl _ _ (w.heap.size+2) 27 #[_, _] (0, 0) _ rfl (row_set2 hr.out _ _) Tryz.underlying27 rfl infoCg) rfl ?_
  exact ⟨rfl,(HF.out.set (show w0.heap.size<=w.heap.size+2 by omega) _).set (show w0.heap.size<=w.heap.size+2 by omega) _⟩
 | false =>
  rw [if_neg (by simp)]
  unfold cv
  go_enter Tryz.func83,Tryz.ntmps83
  go_wp2_with (first | (go_at_call 149;(first | refine (pisone_ex cM cR _).mono ?_ | refine (pisone_ex 0 dR _).mono ?_);rintro e w' ⟨rfl,rfl⟩) | fail)
  obtain ⟨W,hW⟩:∃ W,W=(((((w.alloc (.cells #[.int .u64 (cM:Int),.int .u64 (cR:Int)] 27)).alloc (.cells #[.int .u64 0,.int .u64 (dR:Int)] 27)).alloc (.cells #[.int .u64 0,.int .u64 0] 27)).alloc (.cells #[.int .u64 (cM:Int),.int .u64 (cR:Int)] 27)).alloc (.cells #[.int .u64 0,.int .u64 (dR:Int)] 27)):=⟨_,rfl⟩
  have ra0:W.heap[w.heap.size]?=some (.cells #[.int .u64 (cM:Int),.int .u64 (cR:Int)] 27):=by rw [hW];exact jj
  have ra1:W.heap[w.heap.size+1]?=some (.cells #[.int .u64 0,.int .u64 (dR:Int)] 27):=by rw [hW];exact jj
  have ra2:W.heap[w.heap.size+2]?=some (.cells #[.int .u64 0,.int .u64 0] 27):=by rw [hW];exact jj
  have ra3:W.heap[w.heap.size+3]?=some (.cells #[.int .u64 (cM:Int),.int .u64 (cR:Int)] 27):=by rw [hW];exact jj
  have ra4:W.heap[w.heap.size+4]?=some (.cells #[.int .u64 0,.int .u64 (dR:Int)] 27):=by rw [hW];exact jj
  have HW:Hid (Ok w0 W):=by rw [hW];exact (by repeat (first | exact hok | refine Ok.alloc ?_ _ | refine Ok.draws ?_ _ | fail))
  rw [<-hW]
  clear hW hok
  have z0:=lt_row ra0
  have HR0:Hid _:=ra0
  obtain ⟨g00,g01,f00,f01⟩:=row_facts ra0
  have z1:=lt_row ra1
  have HR1:Hid _:=ra1
  obtain ⟨g10,g11,f10,f11⟩:=row_facts ra1
  have z2:=lt_row ra2
  have HR2:Hid _:=ra2
  obtain ⟨g20,g21,f20,f21⟩:=row_facts ra2
  have z3:=lt_row ra3
  have HR3:Hid _:=ra3
  obtain ⟨g30,g31,f30,f31⟩:=row_facts ra3
  have z4:=lt_row ra4
  have HR4:Hid _:=ra4
  obtain ⟨g40,g41,f40,f41⟩:=row_facts ra4
  clear ra0 ra1 ra2 ra3 ra4
  have bz:Ok W W:=Ok.refl _
  have n1:¬w.heap.size+1+1=w.heap.size:=by omega
  have n2:¬w.heap.size+1+1=w.heap.size+1:=by omega
  go_region_held3 (fun w'=>w'.cell? ⟨w.heap.size,0,none⟩=some (.int .u64 (cM:Int))/\w'.cell? ⟨w.heap.size,1,none⟩=some (.int .u64 (cR:Int))/\w'.cell? ⟨w.heap.size+1,0,none⟩=some (.int .u64 0)/\w'.cell? ⟨w.heap.size+1,1,none⟩=some (.int .u64 (dR:Int))) (go_keep)
   (first
   | (go_at_call 151;refine (pleq_any 0 dR cM cR HU.out.2.2.1 HU.out.2.2.2 HU.out.1 HU.out.2.1 W _ (by repeat (first | assumption | refine Ok.alloc ?_ _ | refine Below.drew ?_))).mono ?_;rintro e w' ⟨rfl,hb⟩;rw [<-HB0.out];have q00:=Ok.cell hb z0 g00;have q01:=Ok.cell hb z0 g01;have q10:=Ok.cell hb z1 g10;have q11:=Ok.cell hb z1 g11;obtain ⟨k0,k1,k2,k3⟩:=row_facts (Ok.row' hb HR2.out))
   | (go_at_call 150;refine (ponly_no 0 dR W _ (by repeat (first | assumption | refine Ok.alloc ?_ _ | refine Below.drew ?_))).mono ?_;rintro e w' ⟨rfl,hb⟩;unfold cv;have q00:=Ok.cell hb z0 g00;have q01:=Ok.cell hb z0 g01;have q10:=Ok.cell hb z1 g10;have q11:=Ok.cell hb z1 g11;obtain ⟨k0,k1,k2,k3⟩:=row_facts (Ok.row' hb HR2.out))
   | fail)
  have hr:Hid _:=Ok.row' hb HR2.out
  have HF:Hid (Ok w0 w'):=HW.out.step hb
  go_wp2_with fail
  (try simp only [Exit.inBlock, Exit.then]); refine bodyPost_ret (results_iv rfl _ _ (w.heap.size+2) 27 #[_, _] (0, 0) _ rfl (row_set2 hr.out _ _) Tryz.underlying27 rfl infoCg) rfl ?_
  exact ⟨rfl,(HF.out.set (show w0.heap.size<=w.heap.size+2 by omega) _).set (show w0.heap.size<=w.heap.size+2 by omega) _⟩
theorem meet_norm {cM cR dM dR:Nat} (hc:0<cM) (hd:0<dM):meetC cM (cR%cM) dM (dR%dM)=meetC cM cR dM dR:=by
 have e:commX cM (cR%cM) dM (dR%dM)=commX cM cR dM dR:=by
  unfold commX
  congr 1
  funext x
  unfold memB
  rw [if_neg (by omega),if_neg (by omega),if_neg (by omega),if_neg (by omega),Nat.mod_mod,Nat.mod_mod]
 unfold meetC
 rw [if_neg (by omega),if_neg (by omega),e]
theorem rest_of {M R g:Nat} (h:0<M):restL M R g=R%M%g:=by unfold restL;rw [if_neg (by omega)]
set_option maxRecDepth 100000 in
theorem pmeet_more (cM cR dM dR:Nat) (hc:0<cM) (hd:0<dM) (h1:U64 cM) (h2:U64 cR) (h3:U64 dM) (h4:U64 dR) (w0 w:World) (hok:Ok w0 w) :
  Calls Tryz.prog 83 #[cv cM cR,cv dM dR] w fun e w'=>e=.returned (.tuple #[cv (meetC cM cR dM dR).1 (meetC cM cR dM dR).2.1,.bool (meetC cM cR dM dR).2.2])/\Ok w0 w':=by
 have hle:=hok.le
 have d1:decide (cM=0)=false:=decide_eq_false (by omega)
 have d2:decide (dM=0)=false:=decide_eq_false (by omega)
 have HU:Hid _:=And.intro h1 (And.intro h2 (And.intro h3 h4))
 have HP:Hid _:=And.intro hc hd
 obtain ⟨g,hg⟩:∃ g,g=Nat.gcd cM dM:=⟨_,rfl⟩
 have HG:Hid _:=And.intro hg (And.intro (show 0<g by rw [hg];exact Nat.gcd_pos_of_pos_left _ hc) (show U64 g by rw [hg];exact gcd_u64 h1 h3))
 obtain ⟨x,hx⟩:∃ x,x=restL cM cR g:=⟨_,rfl⟩
 obtain ⟨y,hy⟩:∃ y,y=restL dM dR g:=⟨_,rfl⟩
 have HX:Hid _:=And.intro hx hy
 have HXY:Hid (x=cR%cM%Nat.gcd cM dM/\y=dR%dM%Nat.gcd cM dM):=by rw [hx,hy,rest_of hc,rest_of hd,hg];exact ⟨rfl,rfl⟩
 clear hg hx hy hc hd h1 h2 h3 h4
 by_cases hq:x=y
 ·have q1:(x:Int)=y:=by omega
  obtain ⟨r1,hr1⟩:∃ r,r=cR%cM:=⟨_,rfl⟩
  obtain ⟨r2,hr2⟩:∃ r,r=dR%dM:=⟨_,rfl⟩
  have HMM:Hid (meetC cM cR dM dR=meetC cM r1 dM r2):=by rw [hr1,hr2];exact (meet_norm HP.out.1 HP.out.2).symm
  have HN:Hid (normC cM cR=(cM,r1)/\normC dM dR=(dM,r2)):=by
   rw [norm_is,norm_is,restL_own HP.out.1,restL_own HP.out.2,hr1,hr2];exact ⟨rfl,rfl⟩
  obtain ⟨g',cn,ck,ca,cd,cp,C⟩:=comL (cM:=cM) (cR:=r1) (dM:=dM) (dR:=r2) (by rw [hr1];exact Nat.mod_lt _ HP.out.1) (by rw [hr2];exact Nat.mod_lt _ HP.out.2) HU.out.1 HU.out.2.2.1 (by rw [hr1,hr2,<-HXY.out.1,<-HXY.out.2];exact hq)
  have eg:g'=g:=C.hg.trans HG.out.1.symm
  rw [eg] at C
  have HC:Hid _:=C
  clear hq hr1 hr2 C eg
  unfold cv
  go_enter Tryz.func83,Tryz.ntmps83
  go_wp2_with (first | (go_at_call 149;(first | refine (pisone_ex cM cR _).mono ?_ | refine (pisone_ex dM dR _).mono ?_);rintro e w' ⟨rfl,rfl⟩) | fail)
  refine (pgcd2_any cM dM (w.heap.size+1+1+1+1+1) _ _ (Ok.refl _) HU.out.1 HU.out.2.2.1 jj).mono ?_
  rintro e W ⟨rfl,hb⟩
  rw [<-HG.out.1]
  have ra0:W.heap[w.heap.size]?=some (.cells #[.int .u64 (cM:Int),.int .u64 (cR:Int)] 27):=Ok.row' hb jj
  have ra1:W.heap[w.heap.size+1]?=some (.cells #[.int .u64 (dM:Int),.int .u64 (dR:Int)] 27):=Ok.row' hb jj
  have ra2:W.heap[w.heap.size+2]?=some (.cells #[.int .u64 0,.int .u64 0] 27):=Ok.row' hb jj
  have HW:Hid (Ok w0 W):=Ok.step (by repeat (first | exact hok | refine Ok.alloc ?_ _ | refine Ok.draws ?_ _ | fail)) hb
  clear hb hok
  have z0:=lt_row ra0
  have HR0:Hid _:=ra0
  obtain ⟨g00,g01,f00,f01⟩:=row_facts ra0
  have z1:=lt_row ra1
  have HR1:Hid _:=ra1
  obtain ⟨g10,g11,f10,f11⟩:=row_facts ra1
  have z2:=lt_row ra2
  have HR2:Hid _:=ra2
  obtain ⟨g20,g21,f20,f21⟩:=row_facts ra2
  clear ra0 ra1 ra2
  have bz:Ok W W:=Ok.refl _
  have n1:¬w.heap.size+1+1=w.heap.size:=by omega
  have n2:¬w.heap.size+1+1=w.heap.size+1:=by omega
  go_wp2_with fail
  go_region_held3 (fun w'=>w'.cell? ⟨w.heap.size,0,none⟩=some (.int .u64 (cM:Int))/\w'.cell? ⟨w.heap.size,1,none⟩=some (.int .u64 (cR:Int))/\w'.cell? ⟨w.heap.size+1,0,none⟩=some (.int .u64 (dM:Int))/\w'.cell? ⟨w.heap.size+1,1,none⟩=some (.int .u64 (dR:Int))) (go_keep)
   (first
   | (go_at_call 124;refine (pclass_any _ _ g (by first | exact HU.out.1 | exact HU.out.2.2.1) (by first | exact HU.out.2.1 | exact HU.out.2.2.2) HG.out.2.2 (Or.inr HG.out.2.1) W _ (by repeat (first | assumption | refine Ok.alloc ?_ _ | refine Below.drew ?_))).mono ?_;rintro e w' ⟨rfl,hb⟩;(first | rw [<-HX.out.1] | rw [<-HX.out.2]);unfold cv;have q00:=Ok.cell hb z0 g00;have q01:=Ok.cell hb z0 g01;have q10:=Ok.cell hb z1 g10;have q11:=Ok.cell hb z1 g11)
   | fail)
  go_wp2_with fail
  go_region_held3 (fun w'=>w'.cell? ⟨w.heap.size,0,none⟩=some (.int .u64 (cM:Int))/\w'.cell? ⟨w.heap.size,1,none⟩=some (.int .u64 (cR:Int))/\w'.cell? ⟨w.heap.size+1,0,none⟩=some (.int .u64 (dM:Int))/\w'.cell? ⟨w.heap.size+1,1,none⟩=some (.int .u64 (dR:Int))) (go_keep)
   (first
   | (go_at_call 60;refine (pnorm_u _ _ (by first | exact HU.out.1 | exact HU.out.2.2.1) (by first | exact HU.out.2.1 | exact HU.out.2.2.2) W _ (by repeat (first | assumption | refine Ok.alloc ?_ _ | refine Below.drew ?_))).mono ?_;rintro e w' ⟨rfl,hb⟩;(first | rw [HN.out.1] | rw [HN.out.2]);unfold cv;have q00:=Ok.cell hb z0 g00;have q01:=Ok.cell hb z0 g01;have q10:=Ok.cell hb z1 g10;have q11:=Ok.cell hb z1 g11;obtain ⟨k0,k1,k2,k3⟩:=row_facts (Ok.row' hb HR2.out))
   | (go_at_call 153;refine (pcommon_any cM r1 dM r2 g cn ck ca cd cp HC.out W _ (by repeat (first | assumption | refine Ok.alloc ?_ _ | refine Below.drew ?_))).mono ?_;rintro e w' ⟨rfl,hb⟩;unfold cv;have q00:=Ok.cell hb z0 g00;have q01:=Ok.cell hb z0 g01;have q10:=Ok.cell hb z1 g10;have q11:=Ok.cell hb z1 g11;obtain ⟨k0,k1,k2,k3⟩:=row_facts (Ok.row' hb HR2.out))
   | fail)
  have hr:Hid _:=Ok.row' hb HR2.out
  have HF:Hid (Ok w0 w'):=HW.out.step hb
  go_wp2_with fail
  (try simp only [Exit.inBlock, Exit.then]); refine bodyPost_ret (results_iv rfl _ _ (w.heap.size+2) 27 #[_, _] (0, 0) _ rfl (row_set2 hr.out _ _) Tryz.underlying27 rfl infoCg) rfl ?_
  rw [HMM.out]
  exact ⟨rfl,(HF.out.set (show w0.heap.size<=w.heap.size+2 by omega) _).set (show w0.heap.size<=w.heap.size+2 by omega) _⟩
 ·have q1:¬(x:Int)=y:=by omega
  have HQ:Hid _:=hq
  clear hq
  unfold cv
  go_enter Tryz.func83,Tryz.ntmps83
  go_wp2_with (first | (go_at_call 149;(first | refine (pisone_ex cM cR _).mono ?_ | refine (pisone_ex dM dR _).mono ?_);rintro e w' ⟨rfl,rfl⟩) | fail)
  refine (pgcd2_any cM dM (w.heap.size+1+1+1+1+1) _ _ (Ok.refl _) HU.out.1 HU.out.2.2.1 jj).mono ?_
  rintro e W ⟨rfl,hb⟩
  rw [<-HG.out.1]
  have ra0:W.heap[w.heap.size]?=some (.cells #[.int .u64 (cM:Int),.int .u64 (cR:Int)] 27):=Ok.row' hb jj
  have ra1:W.heap[w.heap.size+1]?=some (.cells #[.int .u64 (dM:Int),.int .u64 (dR:Int)] 27):=Ok.row' hb jj
  have ra2:W.heap[w.heap.size+2]?=some (.cells #[.int .u64 0,.int .u64 0] 27):=Ok.row' hb jj
  have HW:Hid (Ok w0 W):=Ok.step (by repeat (first | exact hok | refine Ok.alloc ?_ _ | refine Ok.draws ?_ _ | fail)) hb
  clear hb hok
  have z0:=lt_row ra0
  have HR0:Hid _:=ra0
  obtain ⟨g00,g01,f00,f01⟩:=row_facts ra0
  have z1:=lt_row ra1
  have HR1:Hid _:=ra1
  obtain ⟨g10,g11,f10,f11⟩:=row_facts ra1
  have z2:=lt_row ra2
  have HR2:Hid _:=ra2
  obtain ⟨g20,g21,f20,f21⟩:=row_facts ra2
  clear ra0 ra1 ra2
  have bz:Ok W W:=Ok.refl _
  have n1:¬w.heap.size+1+1=w.heap.size:=by omega
  have n2:¬w.heap.size+1+1=w.heap.size+1:=by omega
  go_wp2_with fail
  go_region_held3 (fun w'=>w'.cell? ⟨w.heap.size,0,none⟩=some (.int .u64 (cM:Int))/\w'.cell? ⟨w.heap.size,1,none⟩=some (.int .u64 (cR:Int))/\w'.cell? ⟨w.heap.size+1,0,none⟩=some (.int .u64 (dM:Int))/\w'.cell? ⟨w.heap.size+1,1,none⟩=some (.int .u64 (dR:Int))) (go_keep)
   (first
   | (go_at_call 124;refine (pclass_any _ _ g (by first | exact HU.out.1 | exact HU.out.2.2.1) (by first | exact HU.out.2.1 | exact HU.out.2.2.2) HG.out.2.2 (Or.inr HG.out.2.1) W _ (by repeat (first | assumption | refine Ok.alloc ?_ _ | refine Below.drew ?_))).mono ?_;rintro e w' ⟨rfl,hb⟩;(first | rw [<-HX.out.1] | rw [<-HX.out.2]);unfold cv;have q00:=Ok.cell hb z0 g00;have q01:=Ok.cell hb z0 g01;have q10:=Ok.cell hb z1 g10;have q11:=Ok.cell hb z1 g11)
   | fail)
  have hr:Hid _:=Ok.row' hb HR2.out
  have HF:Hid (Ok w0 w'):=HW.out.step hb
  obtain ⟨k0,k1,k2,k3⟩:=row_facts hr.out
  go_wp2_with fail
  (try simp only [Exit.inBlock, Exit.then]); refine bodyPost_ret (results_iv rfl _ _ (w.heap.size+2) 27 #[_, _] (0, 0) _ rfl (row_set2 hr.out _ _) Tryz.underlying27 rfl infoCg) rfl ?_
  rw [meet_apart HP.out.1 HP.out.2 (by rw [<-HXY.out.1,<-HXY.out.2];exact HQ.out)]
  exact ⟨rfl,(HF.out.set (show w0.heap.size<=w.heap.size+2 by omega) _).set (show w0.heap.size<=w.heap.size+2 by omega) _⟩
theorem pmeet_any (cM cR dM dR:Nat) (h1:U64 cM) (h2:U64 cR) (h3:U64 dM) (h4:U64 dR) (w0 w:World) (hok:Ok w0 w) :
  Calls Tryz.prog 83 #[cv cM cR,cv dM dR] w fun e w'=>e=.returned (.tuple #[cv (meetC cM cR dM dR).1 (meetC cM cR dM dR).2.1,.bool (meetC cM cR dM dR).2.2])/\Ok w0 w':=by
 by_cases hc:cM=0
 ·subst hc
  exact pmeet_c cR dM dR h2 h3 h4 w0 w hok
 ·by_cases hd:dM=0
  ·subst hd
   exact pmeet_d cM cR dR hc h1 h2 h4 w0 w hok
  ·exact pmeet_more cM cR dM dR (by omega) (by omega) h1 h2 h3 h4 w0 w hok
end Go.Proofs.YtnjmjnmhldhaoaaGreat
