import Derived.Test.YtnjmjnmhldhaoaaGreatKCok
set_option linter.all false
namespace Go.Proofs.YtnjmjnmhldhaoaaGreat
section
open Go.RowKit
def MemC (M R:Nat) (v:Int):Prop:=if M=0 then v=wrap64 (R:Int) else v%(M:Int)=((R%M:Nat):Int)
theorem memC_zero {R:Nat} {v:Int}:MemC 0 R v↔v=wrap64 (R:Int):=by unfold MemC;rw [if_pos rfl]
theorem memC_pos {M R:Nat} (h:0<M) {v:Int}:MemC M R v↔v%(M:Int)=((R%M:Nat):Int):=by unfold MemC;rw [if_neg (by omega)]
theorem rI_pos {M R:Nat} (h:0<M):rI M R=((R%M:Nat):Int):=by unfold rI;rw [if_neg (by omega)]
theorem rI_zero (R:Nat):rI 0 R=wrap64 (R:Int):=by unfold rI;rw [if_pos rfl]
theorem rI_mod {M R:Nat} (h:0<M):rI M R%(M:Int)=((R%M:Nat):Int):=by
 rw [rI_pos h]
 have:=Nat.mod_lt R h
 exact Int.emod_eq_of_lt (by omega) (by omega)
theorem rI_mem (M R:Nat):MemC M R (rI M R):=by
 by_cases h:M=0
 ·subst h;rw [memC_zero,rI_zero]
 ·rw [memC_pos (by omega)];exact rI_mod (by omega)
theorem memC_dvd (M R:Nat) (v:Int):MemC M R v↔(M:Int) ∣ v-rI M R:=by
 by_cases h:M=0
 ·subst h
  rw [memC_zero,rI_zero,Int.natCast_zero,Int.zero_dvd];omega
 ·rw [memC_pos (by omega),<-rI_mod (M:=M) (R:=R) (by omega)]
  rw [Int.emod_eq_emod_iff_emod_sub_eq_zero]
  exact ⟨Int.dvd_of_emod_eq_zero,Int.emod_eq_zero_of_dvd⟩
def leqC (cM cR dM dR:Nat):Bool :=
 if dM=0 then decide (cM=0)&&decide (cR=dR)
 else decide (cM%dM=0)&&decide (restN (rF cM cR) (rS cM cR) dM=restN (rF dM dR) (rS dM dR) dM)
theorem wrap_inj {a b:Nat} (ha:U64 a) (hb:U64 b) (h:wrap64 (a:Int)=wrap64 (b:Int)):a=b:=by
 unfold U64 at *;unfold wrap64 at h;omega
theorem rest_mod {M R:Nat} {m:Nat} (hm:0<m):(restN (rF M R) (rS M R) m:Int)=rI M R%(m:Int):=by rw [restN_val hm,r_val]
theorem leqC_iff {cM cR dM dR:Nat} (hcR:U64 cR) (hdR:U64 dR):leqC cM cR dM dR=true↔∀ v,MemC cM cR v->MemC dM dR v:=by
 unfold leqC
 by_cases h:dM=0
 ·rw [if_pos h,Bool.and_eq_true,decide_eq_true_eq,decide_eq_true_eq]
  subst h
  constructor
  ·rintro ⟨rfl,rfl⟩ v hv;exact hv
  ·intro hs
   by_cases hc:cM=0
   ·subst hc
    refine ⟨rfl,wrap_inj hcR hdR ?_⟩
    have:=hs (wrap64 (cR:Int)) (memC_zero.2 rfl)
    exact memC_zero.1 this
   ·exfalso
    have h1:=memC_zero.1 (hs _ (rI_mem cM cR))
    have h2:=memC_zero.1 (hs (rI cM cR+cM) ((memC_dvd _ _ _).2 ⟨1,by omega⟩))
    omega
 ·rw [if_neg h,Bool.and_eq_true,decide_eq_true_eq,decide_eq_true_eq]
  have hd:0<dM:=by omega
  have e1:(restN (rF cM cR) (rS cM cR) dM=restN (rF dM dR) (rS dM dR) dM)↔rI cM cR%(dM:Int)=rI dM dR%(dM:Int):=by
   rw [<-rest_mod hd,<-rest_mod hd];omega
  rw [e1,Int.emod_eq_emod_iff_emod_sub_eq_zero]
  constructor
  ·rintro ⟨p,q⟩ v hv
   rw [memC_dvd] at hv ⊢
   have p':(dM:Int) ∣ (cM:Int):=Int.natCast_dvd_natCast.2 (Nat.dvd_of_mod_eq_zero p)
   have:=Int.dvd_add (Int.dvd_trans p' hv) (Int.dvd_of_emod_eq_zero q)
   have e:v-rI cM cR+(rI cM cR-rI dM dR)=v-rI dM dR:=by omega
   rwa [e] at this
  ·intro hs
   have h1:=(memC_dvd _ _ _).1 (hs _ (rI_mem cM cR))
   have h2:=(memC_dvd _ _ _).1 (hs (rI cM cR+cM) ((memC_dvd _ _ _).2 ⟨1,by omega⟩))
   refine ⟨Nat.mod_eq_zero_of_dvd ?_,Int.emod_eq_zero_of_dvd h1⟩
   have:=Int.dvd_sub h2 h1
   have e:rI cM cR+cM-rI dM dR-(rI cM cR-rI dM dR)=(cM:Int):=by omega
   rw [e] at this
   exact Int.natCast_dvd_natCast.1 this
def bitsN (v:Int):Nat:=(v%18446744073709551616).toNat
theorem bitsN_u64 (v:Int):U64 (bitsN v):=by unfold U64 bitsN;omega
theorem wrap_bits {v:Int} (h:In64 v):wrap64 (bitsN v:Int)=v:=by unfold In64 at h;unfold wrap64 bitsN;omega
def hasC (M R:Nat) (v:Int):Bool:=leqC 0 (bitsN v) M R
theorem hasC_iff {M R:Nat} {v:Int} (hR:U64 R) (hv:In64 v):hasC M R v=true↔MemC M R v:=by
 unfold hasC
 rw [leqC_iff (bitsN_u64 v) hR]
 constructor
 ·intro h;exact h v (memC_zero.2 (wrap_bits hv).symm)
 ·intro h u hu
  rw [memC_zero,wrap_bits hv] at hu
  rw [hu];exact h
end
section
open Go.RowKit
def NormalC (M R:Nat):Prop:=M=0\/R<M
def normC (M R:Nat):Nat×Nat:=(M,if 0<M then R%M else R)
theorem normC_mem (M R:Nat) (v:Int):MemC (normC M R).1 (normC M R).2 v↔MemC M R v:=by
 unfold normC
 by_cases h:0<M
 ·simp only [if_pos h,memC_pos h,Nat.mod_mod]
 ·simp only [if_neg h]
theorem normC_normal (M R:Nat):NormalC (normC M R).1 (normC M R).2:=by
 unfold normC NormalC
 by_cases h:0<M
 ·exact Or.inr (by simp only [if_pos h];exact Nat.mod_lt _ h)
 ·exact Or.inl (by simp only;omega)
end
section
open Go.RowKit
theorem lcm_dvd_int {a b:Nat} {z:Int}:((Nat.lcm a b:Nat):Int) ∣ z↔(a:Int) ∣ z/\(b:Int) ∣ z:=by
 rw [Int.ofNat_dvd_left,Int.ofNat_dvd_left,Int.ofNat_dvd_left]
 exact ⟨fun h=>⟨Nat.dvd_trans (Nat.dvd_lcm_left a b) h,Nat.dvd_trans (Nat.dvd_lcm_right a b) h⟩,fun h=>Nat.lcm_dvd h.1 h.2⟩
theorem common_iff {cM cR dM dR:Nat} {x:Int} (h1:MemC cM cR x) (h2:MemC dM dR x) (v:Int):(MemC cM cR v/\MemC dM dR v)↔((Nat.lcm cM dM:Nat):Int) ∣ v-x:=by
 rw [memC_dvd] at h1 h2
 rw [memC_dvd,memC_dvd,lcm_dvd_int]
 constructor
 ·rintro ⟨a,b⟩
  have p:=Int.dvd_sub a h1
  have q:=Int.dvd_sub b h2
  rw [show v-rI cM cR-(x-rI cM cR)=v-x by omega] at p
  rw [show v-rI dM dR-(x-rI dM dR)=v-x by omega] at q
  exact ⟨p,q⟩
 ·rintro ⟨a,b⟩
  have p:=Int.dvd_add a h1
  have q:=Int.dvd_add b h2
  rw [show v-x+(x-rI cM cR)=v-rI cM cR by omega] at p
  rw [show v-x+(x-rI dM dR)=v-rI dM dR by omega] at q
  exact ⟨p,q⟩
theorem common_gcd {cM cR dM dR:Nat} {x:Int} (h1:MemC cM cR x) (h2:MemC dM dR x):((Nat.gcd cM dM:Nat):Int) ∣ rI cM cR-rI dM dR:=by
 rw [memC_dvd] at h1 h2
 have p:=Int.dvd_trans (Int.natCast_dvd_natCast.2 (Nat.gcd_dvd_left cM dM)) h1
 have q:=Int.dvd_trans (Int.natCast_dvd_natCast.2 (Nat.gcd_dvd_right cM dM)) h2
 have r:=Int.dvd_sub q p
 rwa [show x-rI dM dR-(x-rI cM cR)=rI cM cR-rI dM dR by omega] at r
theorem common_at {cM dM g m:Nat} {r1 r2 k t i:Int} (hg:0<g) (hc:(cM:Int)=g*k) (hd:(dM:Int)=g*m) (hi:(m:Int) ∣ i*k-1) (s:Int) (hs:r2-r1=g*s) (ht:(m:Int) ∣ t-s*i) :
  (dM:Int) ∣ (r1+cM*t)-r2:=by
 have a1:(m:Int) ∣ (t-s*i)*k:=Int.dvd_trans ht (Int.dvd_mul_right _ _)
 have a2:(m:Int) ∣ s*(i*k-1):=Int.dvd_trans hi (Int.dvd_mul_left _ _)
 have a3:(m:Int) ∣ k*t-s:=by
  have:=Int.dvd_add a1 a2
  rwa [show (t-s*i)*k+s*(i*k-1)=k*t-s by
   rw [Int.sub_mul,Int.mul_sub,Int.mul_one,Int.mul_assoc s i k,Int.mul_comm t k];omega] at this
 rw [hd,hc]
 have a4:(g:Int)*(m:Int) ∣ g*(k*t-s):=Int.mul_dvd_mul (Int.dvd_refl _) a3
 have e:r1+g*k*t-r2=g*(k*t-s):=by
  rw [Int.mul_sub,<-hs,Int.mul_assoc];omega
 rw [e];exact a4
end
section
open Go.RowKit
def finC (L x:Nat):Nat×Nat×Bool :=
 if L<18446744073709551616 then (L,x,true) else if x<9223372036854775808 then (0,x,true) else if L-x<=9223372036854775808 then (0,bitsN (-((L-x:Nat):Int)),true) else (0,0,false)
def Comm (cM cR dM dR x:Nat):Prop:=x<Nat.lcm cM dM/\MemC cM cR (x:Int)/\MemC dM dR (x:Int)
def memB (M R x:Nat):Bool:=if M=0 then decide ((x:Int)=wrap64 (R:Int)) else decide (x%M=R%M)
theorem memB_iff (M R x:Nat):memB M R x=true↔MemC M R (x:Int):=by
 unfold memB MemC
 split
 ·rw [decide_eq_true_iff]
 ·rw [decide_eq_true_iff,<-Int.natCast_emod]
  exact ⟨fun h=>by rw [h],fun h=>Int.ofNat_inj.1 h⟩
def commX (cM cR dM dR:Nat):Option Nat:=(List.range (Nat.lcm cM dM)).find? (fun x=>memB cM cR x&&memB dM dR x)
def meetC (cM cR dM dR:Nat):Nat×Nat×Bool :=
 if cM=0\/dM=0 then
  if leqC cM cR dM dR=true then ((normC cM cR).1,(normC cM cR).2,true) else if leqC dM dR cM cR=true then ((normC dM dR).1,(normC dM dR).2,true) else (0,0,false)
 else match commX cM cR dM dR with
  | some x=>finC (Nat.lcm cM dM) x
  | none=>(0,0,false)
theorem commX_some {cM cR dM dR x:Nat} (h:commX cM cR dM dR=some x):Comm cM cR dM dR x:=by
 unfold commX at h
 have a:=List.find?_some h
 have b:=List.mem_of_find?_eq_some h
 simp only [Bool.and_eq_true] at a
 exact ⟨List.mem_range.1 b,(memB_iff _ _ _).1 a.1,(memB_iff _ _ _).1 a.2⟩
theorem commX_none {cM cR dM dR x:Nat} (h:commX cM cR dM dR=none):¬Comm cM cR dM dR x:=by
 unfold commX at h
 rw [List.find?_eq_none] at h
 intro c
 have:=h x (List.mem_range.2 c.1)
 rw [(memB_iff _ _ _).2 c.2.1,(memB_iff _ _ _).2 c.2.2] at this
 exact this rfl
theorem comm_one {cM cR dM dR x y:Nat} (hx:Comm cM cR dM dR x) (hy:Comm cM cR dM dR y):x=y:=by
 have h:=(common_iff hx.2.1 hx.2.2 (y:Int)).1 hy.2
 obtain ⟨k,hk⟩:=h
 have h1:=hx.1
 have h2:=hy.1
 have h3:(x:Int)%(Nat.lcm cM dM:Int)=(y:Int)%(Nat.lcm cM dM:Int):=by
  rw [show (y:Int)=x+(Nat.lcm cM dM:Int)*k by omega,Int.add_mul_emod_self_left]
 rw [Int.emod_eq_of_lt (by omega) (by omega),Int.emod_eq_of_lt (by omega) (by omega)] at h3
 omega
theorem meetC_fin {cM cR dM dR x:Nat} (hc:0<cM) (hd:0<dM) (hx:Comm cM cR dM dR x):meetC cM cR dM dR=finC (Nat.lcm cM dM) x:=by
 unfold meetC
 rw [if_neg (by omega)]
 cases e:commX cM cR dM dR with
 | none=>exact absurd hx (commX_none e)
 | some y=>rw [comm_one (commX_some e) hx]
theorem meetC_no {cM cR dM dR:Nat} (hc:0<cM) (hd:0<dM) (h:¬ ∃ x,Comm cM cR dM dR x):meetC cM cR dM dR=(0,0,false):=by
 unfold meetC
 rw [if_neg (by omega)]
 cases e:commX cM cR dM dR with
 | none=>rfl
 | some y=>exact absurd ⟨y,commX_some e⟩ h
theorem comm_of {cM cR dM dR:Nat} (hc:0<cM) (hd:0<dM) {v:Int} (h1:MemC cM cR v) (h2:MemC dM dR v):∃ x,Comm cM cR dM dR x:=by
 have hL:0<Nat.lcm cM dM:=Nat.lcm_pos hc hd
 refine ⟨(v%(Nat.lcm cM dM:Int)).toNat,?_,?_⟩
 ·have a:=Int.emod_nonneg v (show (Nat.lcm cM dM:Int)≠0 by omega)
  have b:=Int.emod_lt_of_pos v (show (0:Int)<(Nat.lcm cM dM:Int) by omega)
  omega
 ·have a:=Int.emod_nonneg v (show (Nat.lcm cM dM:Int)≠0 by omega)
  rw [Int.toNat_of_nonneg a]
  refine (common_iff h1 h2 _).2 ?_
  rw [show v%(Nat.lcm cM dM:Int)-v=(Nat.lcm cM dM:Int)*(-(v/(Nat.lcm cM dM:Int))) by
   have:=Int.mul_ediv_add_emod v (Nat.lcm cM dM:Int)
   rw [Int.mul_neg];omega]
  exact Int.dvd_mul_right _ _
theorem fin_mem {L x:Nat} (hx:x<L) {v:Int} (hv:In64 v):((finC L x).2.2=true/\MemC (finC L x).1 (finC L x).2.1 v)↔(L:Int) ∣ v-x:=by
 unfold finC
 split
 ·rename_i h
  simp only [true_and]
  rw [memC_dvd,rI_pos (by omega),Nat.mod_eq_of_lt hx]
 ·rename_i h
  have key:(L:Int) ∣ v-x↔(v=x\/v=(x:Int)-L):=by
   constructor
   ·rintro ⟨k,hk⟩
    unfold In64 at hv
    have k1:k<1:=by
     apply Int.lt_of_not_ge;intro h1
     have:(L:Int)*1<=L*k:=Int.mul_le_mul_of_nonneg_left h1 (by omega)
     omega
    have k2 : -2<k:=by
     apply Int.lt_of_not_ge;intro h1
     have:(L:Int)*k<=L*(-2):=Int.mul_le_mul_of_nonneg_left h1 (by omega)
     omega
    have:k=0\/k = -1:=by omega
    rcases this with rfl | rfl
    ·left;omega
    ·right;omega
   ·rintro (rfl | rfl)
    ·simp
    ·exact ⟨-1,by omega⟩
  rw [key]
  unfold In64 at hv
  split
  ·rename_i h1
   simp only [true_and]
   rw [memC_zero]
   unfold wrap64;omega
  ·rename_i h1
   split
   ·rename_i h2
    simp only [true_and]
    rw [memC_zero,wrap_bits (by unfold In64;omega)]
    omega
   ·rename_i h2
    simp
    omega
theorem fin_u64 {L x:Nat} (hx:x<L):U64 (finC L x).1/\U64 (finC L x).2.1:=by
 unfold finC
 split
 ·unfold U64;simp only;omega
 ·split
  ·unfold U64;simp only;omega
  ·split
   ·exact ⟨show 0<18446744073709551616 by omega,bitsN_u64 _⟩
   ·unfold U64;decide
theorem meet_mem {cM cR dM dR:Nat} (h2:U64 cR) (h4:U64 dR) {v:Int} (hv:In64 v) :
  ((meetC cM cR dM dR).2.2=true/\MemC (meetC cM cR dM dR).1 (meetC cM cR dM dR).2.1 v)↔(MemC cM cR v/\MemC dM dR v):=by
 by_cases h0:cM=0\/dM=0
 ·unfold meetC
  rw [if_pos h0]
  by_cases l1:leqC cM cR dM dR=true
  ·rw [if_pos l1]
   simp only [true_and]
   rw [normC_mem]
   exact ⟨fun h=>⟨h,(leqC_iff h2 h4).1 l1 _ h⟩,fun h=>h.1⟩
  ·rw [if_neg l1]
   by_cases l2:leqC dM dR cM cR=true
   ·rw [if_pos l2]
    simp only [true_and]
    rw [normC_mem]
    exact ⟨fun h=>⟨(leqC_iff h4 h2).1 l2 _ h,h⟩,fun h=>h.2⟩
   ·rw [if_neg l2]
    simp only [Bool.false_eq_true,false_and,false_iff]
    rintro ⟨a,b⟩
    rcases h0 with rfl | rfl
    ·apply l1
     rw [leqC_iff h2 h4]
     intro u hu
     rw [memC_zero] at hu a
     rw [hu,<-a];exact b
    ·apply l2
     rw [leqC_iff h4 h2]
     intro u hu
     rw [memC_zero] at hu b
     rw [hu,<-b];exact a
 ·by_cases h:∃ x,Comm cM cR dM dR x
  ·obtain ⟨x,hx⟩:=h
   rw [meetC_fin (by omega) (by omega) hx,fin_mem hx.1 hv,common_iff hx.2.1 hx.2.2]
  ·rw [meetC_no (by omega) (by omega) h]
   simp only [Bool.false_eq_true,false_and,false_iff]
   rintro ⟨a,b⟩
   exact h (comm_of (by omega) (by omega) a b)
theorem normC_u64 {M R:Nat} (h1:U64 M) (h2:U64 R):U64 (normC M R).1/\U64 (normC M R).2:=by
 unfold normC
 refine ⟨h1,?_⟩
 show U64 (if 0<M then R%M else R)
 split
 ·have:=Nat.mod_le R M;unfold U64 at *;omega
 ·exact h2
theorem meet_u64 {cM cR dM dR:Nat} (h1:U64 cM) (h2:U64 cR) (h3:U64 dM) (h4:U64 dR):U64 (meetC cM cR dM dR).1/\U64 (meetC cM cR dM dR).2.1:=by
 by_cases h0:cM=0\/dM=0
 ·unfold meetC
  rw [if_pos h0]
  split
  ·exact normC_u64 h1 h2
  ·split
   ·exact normC_u64 h3 h4
   ·unfold U64;decide
 ·by_cases h:∃ x,Comm cM cR dM dR x
  ·obtain ⟨x,hx⟩:=h
   rw [meetC_fin (by omega) (by omega) hx];exact fin_u64 hx.1
  ·rw [meetC_no (by omega) (by omega) h];unfold U64;decide
theorem meet_apart {cM cR dM dR:Nat} (hc:0<cM) (hd:0<dM) (h:cR%cM%Nat.gcd cM dM≠dR%dM%Nat.gcd cM dM):meetC cM cR dM dR=(0,0,false):=by
 refine meetC_no hc hd ?_
 rintro ⟨x,hx⟩
 have a:=common_gcd hx.2.1 hx.2.2
 rw [rI_pos hc,rI_pos hd] at a
 apply h
 have b:=Int.emod_eq_emod_iff_emod_sub_eq_zero.2 (Int.emod_eq_zero_of_dvd a)
 exact Int.ofNat_inj.1 (by rw [Int.natCast_emod,Int.natCast_emod];exact b)
theorem meet_at {cM cR dM dR t m:Nat} (hc:0<cM) (hd:0<dM) (hm:m=dM/Nat.gcd cM dM) (ht:t<m) (hx:(dM:Int) ∣ ((cR%cM:Nat):Int)+(cM:Int)*(t:Int)-((dR%dM:Nat):Int)) :
  meetC cM cR dM dR=finC (cM*m) (cM*t+cR%cM):=by
 have hL:Nat.lcm cM dM=cM*m:=by
  rw [hm,Nat.lcm,Nat.mul_div_assoc _ (Nat.gcd_dvd_right cM dM)]
 rw [<-hL]
 refine meetC_fin hc hd ⟨?_,?_,?_⟩
 ·rw [hL]
  have a:=Nat.mod_lt cR hc
  have b:cM*(t+1)<=cM*m:=Nat.mul_le_mul_left _ ht
  rw [Nat.mul_add,Nat.mul_one] at b
  omega
 ·rw [memC_dvd,rI_pos hc]
  exact ⟨(t:Int),by rw [Int.natCast_add,Int.natCast_mul];omega⟩
 ·rw [memC_dvd,rI_pos hd]
  rw [Int.natCast_add,Int.natCast_mul,Int.add_comm ((cM:Int)*t)]
  exact hx
end
end Go.Proofs.YtnjmjnmhldhaoaaGreat
