import Derived.Test.YtnjmjnmhldhaoaaGreatKCok
set_option maxHeartbeats 8000000
set_option linter.all false
namespace Go.Proofs.YtnjmjnmhldhaoaaGreat
open Go.RowKit
theorem Sret1 {k:IntKind} {a b:Int} (h:a=b):Ending.returned (.int k a)=.returned (.int k b):=by rw [h]
theorem Sret2 {k j:IntKind} {a b c d:Int} (h:a=b) (g:c=d):Ending.returned (.tuple #[.int k a,.int j c])=.returned (.tuple #[.int k b,.int j d]):=by rw [h,g]
theorem Sret2b {k:IntKind} {a b:Int} {c:Bool} (h:a=b):Ending.returned (.tuple #[.int k a,.bool c])=.returned (.tuple #[.int k b,.bool c]):=by rw [h]
theorem wrap64_mul_mod (a b:Int):wrap64 ((a%18446744073709551616)*(b%18446744073709551616))=wrap64 (a*b):=by
 rw [<-wmod,<-Int.mul_emod,wmod]
theorem ww3 (a b:Int):wrap64 (a-b)=wrap64 (a+wrap64 (-b)):=by unfold wrap64;omega
theorem Stmod_abs (a b:Int):(a.tmod b).natAbs=a.natAbs%b.natAbs:=Int.natAbs_tmod a b
theorem tmod_sign (a b:Int):(0<=a->0<=a.tmod b)/\(a<=0->a.tmod b<=0) :=
 ⟨fun h=>Int.tmod_nonneg b h,fun h=>by
  have:=Int.tmod_nonneg b (show 0 <= -a by omega)
  rw [Int.neg_tmod] at this
  omega⟩
def evF:Nat->Nat->Nat
 | 0,_=>1
 | f+1,m=>if m%2=1 then 1 else 2*evF f (m/2)
theorem evF_pow (f m:Nat):∃ k,evF f m=2 ^ k:=by
 induction f generalizing m with
 | zero=>exact ⟨0,rfl⟩
 | succ f ih =>
  unfold evF
  split
  ·exact ⟨0,rfl⟩
  ·obtain ⟨k,hk⟩:=ih (m/2)
   exact ⟨k+1,by rw [hk,Nat.pow_succ,Nat.mul_comm]⟩
theorem evF_div (f m:Nat) (h0:0<m) (h:m<2 ^ f):∃ q,m=evF f m*q/\q%2=1:=by
 induction f generalizing m with
 | zero=>simp at h;omega
 | succ f ih =>
  unfold evF
  split
  ·exact ⟨m,by omega,by assumption⟩
  ·obtain ⟨q,hq,ho⟩:=ih (m/2) (by omega) (by rw [Nat.pow_succ] at h;omega)
   refine ⟨q,?_,ho⟩
   rw [Nat.mul_assoc,<-hq]
   omega
theorem Sand_split (a b:Nat):a &&& b=2*(a/2 &&& b/2)+(a%2 &&& b%2):=by
 have h1:(a &&& b)/2=a/2 &&& b/2:=Nat.and_div_two
 have h2:(a &&& b)%2=a%2 &&& b%2:=by
  have:=Nat.and_mod_two_pow (a:=a) (b:=b) (n:=1)
  simpa using this
 omega
theorem evF_le (f m:Nat) (h0:0<m) (h:m<2 ^ f):0<evF f m/\evF f m<=m:=by
 obtain ⟨q,hq,ho⟩:=evF_div f m h0 h
 obtain ⟨k,hk⟩:=evF_pow f m
 have:0<evF f m:=by rw [hk];exact Nat.two_pow_pos k
 refine ⟨this,?_⟩
 have:evF f m*1<=evF f m*q:=Nat.mul_le_mul_left _ (by omega)
 omega
theorem xor_split (a b:Nat):a ^^^ b=2*(a/2 ^^^ b/2)+(a+b)%2:=by
 have h1:(a ^^^ b)/2=a/2 ^^^ b/2:=Nat.xor_div_two
 have h2:(a ^^^ b)%2=(a+b)%2:=by
  have h3:(a ^^^ b)%2=a%2 ^^^ b%2:=by
   have:=Nat.xor_mod_two_pow (a:=a) (b:=b) (n:=1)
   simpa using this
  rw [h3]
  rcases Nat.mod_two_eq_zero_or_one a with h | h<;>rcases Nat.mod_two_eq_zero_or_one b with g | g<;>rw [h,g]<;>simp<;>omega
 omega
theorem and_mod2 (a b:Nat):(a%2 &&& b%2)=a%2*(b%2):=by
 rcases Nat.mod_two_eq_zero_or_one a with h | h<;>rcases Nat.mod_two_eq_zero_or_one b with g | g<;>rw [h,g]<;>rfl
theorem add_bits (n:Nat):∀ a b:Nat,a<=n->a+b=(a ^^^ b)+2*(a &&& b):=by
 induction n with
 | zero =>
  intro a b h
  have:a=0:=by omega
  subst this
  simp
 | succ n ih =>
  intro a b h
  rw [xor_split a b,Sand_split a b,and_mod2]
  have:=ih (a/2) (b/2) (by omega)
  rcases Nat.mod_two_eq_zero_or_one a with h | h<;>rcases Nat.mod_two_eq_zero_or_one b with g | g<;>rw [h,g]<;>omega
theorem evF_ge (f m j:Nat) (h0:0<m) (h:m<2 ^ f) (hd:2 ^ j ∣ m):2 ^ j<=evF f m:=by
 induction f generalizing m j with
 | zero=>simp at h;omega
 | succ f ih =>
  cases j with
  | zero =>
   obtain ⟨p,_⟩:=evF_le (f+1) m h0 h
   rw [Nat.pow_zero]
   exact p
  | succ j =>
   obtain ⟨q,hq⟩:=hd
   rw [Nat.pow_succ] at hq h
   have he:m=2*(2 ^ j*q):=by rw [hq,Nat.mul_comm (2 ^ j) 2,Nat.mul_assoc]
   have h2:m/2=2 ^ j*q:=by omega
   unfold evF
   rw [if_neg (by omega),Nat.pow_succ,Nat.mul_comm]
   exact Nat.mul_le_mul_left 2 (ih (m/2) j (by omega) (by omega) ⟨q,h2⟩)
def mu (y:Nat):Nat:=if y=0 then 0 else 18446744073709551617-evF 64 y
theorem mu_down (x y:Nat) (hy:y<18446744073709551616) (h0:¬y=0):mu (2*(x &&& y)%18446744073709551616)<mu y:=by
 obtain ⟨p1,p2⟩:=evF_le 64 y (by omega) hy
 unfold mu
 rw [if_neg h0]
 split
 ·omega
 ·rename_i hz
  obtain ⟨k,hk⟩:=evF_pow 64 y
  obtain ⟨q,hq,_⟩:=evF_div 64 y (by omega) hy
  have hd:(x &&& y)%2 ^ k=0:=by
   rw [Nat.and_mod_two_pow]
   have:y%2 ^ k=0:=by
    rw [<-hk]
    conv=>lhs;lhs;rw [hq]
    exact Nat.mul_mod_right _ _
   rw [this,Nat.and_zero]
  obtain ⟨c,hc⟩:=Nat.dvd_of_mod_eq_zero hd
  have hk64:k<64:=by
   apply Nat.lt_of_not_le
   intro hle
   have:2 ^ 64<=2 ^ k:=Nat.pow_le_pow_right (by omega) hle
   omega
  have hdv:2 ^ (k+1) ∣ 2*(x &&& y)%18446744073709551616:=by
   refine (Nat.dvd_mod_iff ?_).2 ?_
   ·exact Nat.pow_dvd_pow 2 (show k+1<=64 by omega)
   ·exact ⟨c,by rw [hc,Nat.pow_succ,Nat.mul_comm (2 ^ k) 2,Nat.mul_assoc]⟩
  have:=evF_ge 64 _ (k+1) (by omega) (Nat.mod_lt _ (by omega)) hdv
  rw [Nat.pow_succ,<-hk] at this
  generalize evF 64 (2*(x &&& y)%18446744073709551616)=z at *
  generalize evF 64 y=d at *
  omega
theorem radd_step (x y:Nat) (hx:x<18446744073709551616) (hy:y<18446744073709551616):((x ^^^ y)+2*(x &&& y)%18446744073709551616)%18446744073709551616=(x+y)%18446744073709551616/\x ^^^ y<18446744073709551616:=by
 have:=add_bits x x y (Nat.le_refl _)
 refine ⟨by omega,?_⟩
 exact Nat.xor_lt_two_pow (n:=64) hx hy
theorem radd_end {x a b:Nat} {A B:Int} (hA:IntKind.u64.wrap A=a) (hB:IntKind.u64.wrap B=b) (h:(x+0)%18446744073709551616=(a+b)%18446744073709551616):wrap64 (x:Int)=wrap64 (A+B):=by
 rw [u64w] at hA hB
 unfold wrap64
 omega
theorem u64_nat (a:Int):∃ x:Nat,x<18446744073709551616/\IntKind.u64.wrap a=x:=by
 refine ⟨(IntKind.u64.wrap a).toNat,?_,?_⟩<;>rw [u64w]<;>omega
theorem radd_next {p q s:Nat} (hp:p<18446744073709551616) (hq:q<18446744073709551616) (h0:¬q=0) (hg:(p+q)%18446744073709551616=s%18446744073709551616) :
  (∃ p1 q1:Nat,p1<18446744073709551616/\q1<18446744073709551616/\Value.int .u64 ((p ^^^ q:Nat):Int)=.int .u64 p1/\Value.int .u64 (IntKind.u64.wrap (((p &&& q:Nat):Int)*2))=.int .u64 q1/\Hid ((p1+q1)%18446744073709551616=s%18446744073709551616)) /\
  mu (intOf (Value.int .u64 (IntKind.u64.wrap (((p &&& q:Nat):Int)*2)))).toNat<mu (intOf (Value.int .u64 (q:Int))).toNat:=by
 have hc:p &&& q<18446744073709551616:=Nat.lt_of_le_of_lt Nat.and_le_left hp
 have e:IntKind.u64.wrap (((p &&& q:Nat):Int)*2)=((2*(p &&& q)%18446744073709551616:Nat):Int):=by
  rw [u64w];generalize p &&& q=c at *;omega
 obtain ⟨s1,s2⟩:=radd_step p q hp hq
 refine ⟨⟨p ^^^ q,2*(p &&& q)%18446744073709551616,s2,Nat.mod_lt _ (by omega),rfl,by rw [e],s1.trans hg⟩,?_⟩
 rw [e]
 simp only [intOf,Int.toNat_natCast]
 exact mu_down p q hq h0
theorem Sradd_any (a b:Int) (w:World) :
  Calls Tryz.prog 24 #[.int .i64 a,.int .i64 b] w fun e w'=>e=.returned (.int .i64 (wrap64 (a+b)))/\w'=w:=by
 obtain ⟨x,hx,ha⟩:=u64_nat a
 obtain ⟨y,hy,hb⟩:=u64_nat b
 have HA:Hid _:=ha
 have HB:Hid _:=hb
 go_enter Tryz.func24,Tryz.ntmps24
 go_wp2
 clear ha hb
 go_loop [5,6,7] (fun u v _=>∃ p q:Nat,p<18446744073709551616/\q<18446744073709551616/\u=.int .u64 p/\v=.int .u64 q/\Hid ((p+q)%18446744073709551616=(x+y)%18446744073709551616)) (fun _ v _=>mu (intOf v).toNat)
 case atStart=>exact ⟨x,y,hx,hy,rfl,rfl,rfl⟩
 case round =>
  obtain ⟨p,q,hp,hq,rfl,rfl,hg⟩:=hrel
  by_cases h0:q=0
  ·subst h0
   go_wp2
   go_ret
   exact ⟨Sret1 (radd_end HA.out HB.out hg.out),rfl⟩
  ·have hq1:((q:Int) != 0)=true:=by simpa using h0
   have e1:=u64_and_nat p q hp hq
   have e2:=u64_xor_nat p q hp hq
   go_wp2
   exact radd_next hp hq h0 hg.out
theorem compl_nat (n x:Nat) (h:x<2 ^ n):(2 ^ n-1) ^^^ x=2 ^ n-(x+1):=by
 apply Nat.eq_of_testBit_eq
 intro i
 rw [Nat.testBit_xor,Nat.testBit_two_pow_sub_succ h,Nat.testBit_two_pow_sub_one]
 by_cases hi:i<n
 ·simp [hi]
 ·have:x.testBit i=false:=Nat.testBit_lt_two_pow (Nat.lt_of_lt_of_le h (Nat.pow_le_pow_right (by omega) (by omega)))
  simp [hi,this]
theorem not_u64 (x:Nat) (h:x<18446744073709551616):bits .xor .u64 IntKind.u64.max (x:Int)=((18446744073709551616-(x+1):Nat):Int):=by
 have e:IntKind.u64.max=((18446744073709551615:Nat):Int):=rfl
 rw [e,u64_xor_nat _ _ (by omega) h]
 exact congrArg Int.ofNat (compl_nat 64 x h)
theorem rneg_eq (a:Int):wrap64 (wrap64 (bits .xor .u64 IntKind.u64.max (IntKind.u64.wrap a))+1)=wrap64 (-a):=by
 obtain ⟨x,hx,ha⟩:=u64_nat a
 rw [ha,not_u64 x hx]
 rw [u64w] at ha
 unfold wrap64
 omega
theorem Srneg_any (a:Int) (w:World) :
  Calls Tryz.prog 23 #[.int .i64 a] w fun e w'=>e=.returned (.int .i64 (wrap64 (-a)))/\w'=w:=by
 go_enter Tryz.func23,Tryz.ntmps23
 go_wp2_with (go_at_call 24;refine (Sradd_any _ _ _).mono ?_;rintro e w' ⟨rfl,rfl⟩;rw [rneg_eq a])
 go_ret
 exact ⟨rfl,rfl⟩
theorem abs_neg {a:Int} (h:a<0) (h1 : -9223372036854775808<=a):IntKind.u64.wrap (wrap64 (-a))=(a.natAbs:Int):=by
 rw [u64w];unfold wrap64;omega
theorem abs_pos {a:Int} (h:0<=a) (h1:a<=9223372036854775807):IntKind.u64.wrap a=(a.natAbs:Int):=by
 rw [u64w];omega
theorem rabs_any (a:Int) (ha:In64 a) (w:World) :
  Calls Tryz.prog 66 #[.int .i64 a] w fun e w'=>e=.returned (.int .u64 (a.natAbs:Int))/\w'=w:=by
 by_cases h:a<0
 ·have H:Hid _:=abs_neg h ha.1
  go_enter Tryz.func66,Tryz.ntmps66
  go_wp2_with (go_at_call 23;refine (Srneg_any _ _).mono ?_;rintro e w' ⟨rfl,rfl⟩)
  go_ret
  exact ⟨Sret1 (by first | exact H.out | omega),rfl⟩
 ·have H:Hid _:=abs_pos (by omega) ha.2
  have h':0<=a:=by omega
  clear h
  go_enter Tryz.func66,Tryz.ntmps66
  go_wp2_with fail
  go_ret
  exact ⟨Sret1 (by first | exact H.out | omega),rfl⟩
def SbitAt (x i:Nat):Nat:=x/2 ^ i%2
theorem SbitAt_lt (x i:Nat):SbitAt x i<2:=Nat.mod_lt _ (by omega)
theorem bit_eq (x i:Nat):((x:Int)/2 ^ i).tmod 2=(SbitAt x i:Int):=by
 have e:(x:Int)/2 ^ i=((x/2 ^ i:Nat):Int):=by rw [Int.natCast_ediv,Int.natCast_pow];rfl
 rw [e,Int.tmod_eq_emod_of_nonneg (Int.natCast_nonneg _)]
 unfold SbitAt
 omega
theorem half_step (x i:Nat):x/2 ^ i=2*(x/2 ^ (i+1))+SbitAt x i:=by
 unfold SbitAt
 rw [Nat.pow_succ,<-Nat.div_div_eq_div_mul]
 omega
theorem or_bit (R b:Nat) (hb:b<2):bits .or .u64 (IntKind.u64.wrap ((R:Int)*2)) (b:Int)=((2*R%18446744073709551616+b:Nat):Int):=by
 have e:IntKind.u64.wrap ((R:Int)*2)=((2*R%18446744073709551616:Nat):Int):=by rw [u64w];omega
 rw [e,bits_or_u64_nat _ _ (Nat.mod_lt _ (by omega)) (by omega)]
 have e2:2*R%18446744073709551616=2 ^ 1*(R%9223372036854775808):=by omega
 rw [e2,<-Nat.two_pow_add_eq_or_of_lt (i:=1) (by omega)]
theorem or_pow (c i:Nat) (h:c*2 ^ (i+1)+2 ^ i<18446744073709551616):bits .or .u64 ((c*2 ^ (i+1):Nat):Int) (IntKind.u64.wrap (2 ^ i))=((c*2 ^ (i+1)+2 ^ i:Nat):Int):=by
 have e:IntKind.u64.wrap (2 ^ i)=((2 ^ i:Nat):Int):=by
  rw [u64w,show ((2:Int) ^ i)=((2 ^ i:Nat):Int) by rw [Int.natCast_pow];rfl]
  generalize 2 ^ i=P at *
  generalize c*2 ^ (i+1)=q at *
  omega
 rw [e,bits_or_u64_nat _ _ (Nat.lt_of_le_of_lt (Nat.le_add_right _ _) h) (Nat.lt_of_le_of_lt (Nat.le_add_left _ _) h)]
 have hp:2 ^ i<2 ^ (i+1):=Nat.pow_lt_pow_right (by omega) (by omega)
 rw [Nat.mul_comm c,<-Nat.two_pow_add_eq_or_of_lt hp]
theorem div_bit (X b y:Nat) (hb:b<2) (hy:0<y):(y<=2*(X%y)+b->(2*X+b)/y=2*(X/y)+1/\(2*X+b)%y=2*(X%y)+b-y)/\(2*(X%y)+b<y->(2*X+b)/y=2*(X/y)/\(2*X+b)%y=2*(X%y)+b):=by
 have h1:=Nat.div_add_mod X y
 have h2:=Nat.mod_lt X hy
 generalize X/y=q at *
 generalize X%y=r at *
 constructor
 ·intro h
  have e:2*X+b=(2*r+b-y)+y*(2*q+1):=by
   rw [Nat.mul_add,<-Nat.mul_assoc,Nat.mul_comm y 2,Nat.mul_assoc];omega
  rw [e,Nat.add_mul_div_left _ _ hy,Nat.add_mul_mod_self_left,Nat.div_eq_of_lt (by omega),Nat.mod_eq_of_lt (by omega)]
  exact ⟨by omega,rfl⟩
 ·intro h
  have e:2*X+b=(2*r+b)+y*(2*q):=by
   rw [<-Nat.mul_assoc,Nat.mul_comm y 2,Nat.mul_assoc];omega
  rw [e,Nat.add_mul_div_left _ _ hy,Nat.add_mul_mod_self_left,Nat.div_eq_of_lt (by omega),Nat.mod_eq_of_lt (by omega)]
  exact ⟨by omega,rfl⟩
theorem Spow_next (q i:Nat):(2*q)*2 ^ i=q*2 ^ (i+1)/\(2*q+1)*2 ^ i=q*2 ^ (i+1)+2 ^ i:=by
 have e:(2*q)*2 ^ i=q*2 ^ (i+1):=by rw [Nat.pow_succ,Nat.mul_comm 2 q,Nat.mul_assoc,Nat.mul_comm 2]
 exact ⟨e,by rw [Nat.add_mul,e,Nat.one_mul]⟩
def LongInv (x y k Q R:Nat):Prop:=Q=x/2 ^ k/y*2 ^ k/\R=x/2 ^ k%y
theorem long_yes {x y i Q R:Nat} (hx:x<18446744073709551616) (hy:y<18446744073709551616) (h0:0<y) (hi:i+1<=64) (h:LongInv x y (i+1) Q R) (hge:y<=2*R+SbitAt x i) :
  (∃ k Q1 R1:Nat,k<=64/\Value.int .i64 ((i:Int)-1)=.int .i64 ((k:Int)-1)/\Value.int .u64 (bits .or .u64 (Q:Int) (IntKind.u64.wrap (2 ^ i)))=.int .u64 Q1 /\
   Value.int .u64 (IntKind.u64.wrap (bits .or .u64 (IntKind.u64.wrap ((R:Int)*2)) (((x:Int)/2 ^ i).tmod 2)-(y:Int)))=.int .u64 R1/\R1<y/\Hid (LongInv x y k Q1 R1)) /\
  (intOf (Value.int .i64 ((i:Int)-1))+1).toNat<(intOf (Value.int .i64 (((i+1:Nat):Int)-1))+1).toNat:=by
 obtain ⟨hQ,hR⟩:=h
 have hb:=SbitAt_lt x i
 have hs:=half_step x i
 obtain ⟨d1,d2⟩:=(div_bit (x/2 ^ (i+1)) (SbitAt x i) y hb h0).1 (by rw [<-hR];exact hge)
 rw [<-hs] at d1 d2
 rw [<-hR] at d2
 have hRy:R<y:=by rw [hR];exact Nat.mod_lt _ h0
 have hle:x/2 ^ i/y*2 ^ i<=x:=by
  refine Nat.le_trans (Nat.mul_le_mul_right _ (Nat.div_le_self _ _)) (Nat.div_mul_le_self _ _)
 rw [d1,(Spow_next _ i).2,<-hQ] at hle
 refine ⟨⟨i,Q+2 ^ i,2*R+SbitAt x i-y,by omega,rfl,?_,?_,by omega,?_,?_⟩,?_⟩
 ·rw [hQ] at hle ⊢
  rw [or_pow _ i (by omega)]
 ·rw [bit_eq,or_bit R _ hb,u64w]
  congr 1
  generalize SbitAt x i=b at *
  omega
 ·rw [d1,(Spow_next _ i).2,<-hQ]
 ·exact d2.symm
 ·simp only [intOf];omega
theorem long_no {x y i Q R:Nat} (h0:0<y) (hi:i+1<=64) (h:LongInv x y (i+1) Q R) (hlt:2*R+SbitAt x i<y) (hy:y<18446744073709551616) :
  (∃ k Q1 R1:Nat,k<=64/\Value.int .i64 ((i:Int)-1)=.int .i64 ((k:Int)-1)/\Value.int .u64 (Q:Int)=.int .u64 Q1 /\
   Value.int .u64 (bits .or .u64 (IntKind.u64.wrap ((R:Int)*2)) (((x:Int)/2 ^ i).tmod 2))=.int .u64 R1/\R1<y/\Hid (LongInv x y k Q1 R1)) /\
  (intOf (Value.int .i64 ((i:Int)-1))+1).toNat<(intOf (Value.int .i64 (((i+1:Nat):Int)-1))+1).toNat:=by
 obtain ⟨hQ,hR⟩:=h
 have hb:=SbitAt_lt x i
 have hs:=half_step x i
 obtain ⟨d1,d2⟩:=(div_bit (x/2 ^ (i+1)) (SbitAt x i) y hb h0).2 (by rw [<-hR];exact hlt)
 rw [<-hs] at d1 d2
 rw [<-hR] at d2
 refine ⟨⟨i,Q,2*R+SbitAt x i,by omega,rfl,rfl,?_,by omega,?_,?_⟩,?_⟩
 ·rw [bit_eq,or_bit R _ hb]
  congr 1
  generalize SbitAt x i=b at *
  omega
 ·rw [d1,(Spow_next _ i).1,<-hQ]
 ·exact d2.symm
 ·simp only [intOf];omega
theorem or_small {x i R:Nat} (h:R<9223372036854775808):bits .or .u64 (IntKind.u64.wrap ((R:Int)*2)) (((x:Int)/2 ^ i).tmod 2)=((2*R+SbitAt x i:Nat):Int):=by
 rw [bit_eq,or_bit R _ (SbitAt_lt x i)]
 congr 2
 omega
set_option maxRecDepth 100000 in
theorem long_any (x y:Nat) (hx:x<18446744073709551616) (hy:y<18446744073709551616) (h0:0<y) (w:World) :
  Calls Tryz.prog 65 #[.int .u64 x,.int .u64 y] w fun e w'=>e=.returned (.tuple #[.int .u64 ((x/y:Nat):Int),.int .u64 ((x%y:Nat):Int)])/\w'=w:=by
 go_enter Tryz.func65,Tryz.ntmps65
 go_wp2
 go_loop [6,7,8,9] (fun q r i _=>∃ (k Q R:Nat),k<=64/\i=.int .i64 ((k:Int)-1)/\q=.int .u64 Q/\r=.int .u64 R/\R<y/\Hid (LongInv x y k Q R)) (fun _ _ i _=>(intOf i+1).toNat)
 case atStart =>
  refine ⟨64,0,0,by omega,rfl,rfl,rfl,h0,?_,?_⟩
  ·rw [Nat.div_eq_of_lt (show x<2 ^ 64 from hx),Nat.zero_div,Nat.zero_mul]
  ·rw [Nat.div_eq_of_lt (show x<2 ^ 64 from hx),Nat.zero_mod]
 case round =>
  obtain ⟨k,Q,R,hk,rfl,rfl,rfl,hR,hinv⟩:=hrel
  by_cases hk0:0<k
  ·obtain ⟨i,rfl⟩:∃ i,k=i+1:=⟨k-1,by omega⟩
   by_cases hov:9223372036854775808<=(R:Int)
   ·have H:Hid _:=long_yes hx hy h0 hk hinv.out (by omega)
    clear hinv
    go_wp2
    exact H
   ·have E:IntKind.u64.wrap ((R:Int)*2)=(R:Int)*2:=by rw [u64w];omega
    by_cases hge:y<=2*R+SbitAt x i
    ·have H:Hid _:=long_yes hx hy h0 hk hinv.out hge
     have hT:(y:Int)<=bits .or .u64 (IntKind.u64.wrap ((R:Int)*2)) (((x:Int)/2 ^ i).tmod 2):=by rw [or_small (by omega)];omega
     rw [E] at H hT
     clear hinv hge E
     go_wp2
     exact H
    ·have H:Hid _:=long_no h0 hk hinv.out (by omega) hy
     have hT:bits .or .u64 (IntKind.u64.wrap ((R:Int)*2)) (((x:Int)/2 ^ i).tmod 2)<(y:Int):=by rw [or_small (by omega)];omega
     rw [E] at H hT
     clear hinv hge E
     go_wp2
     exact H
  ·have hk1:k=0:=by omega
   subst hk1
   have H:Hid (x/y=Q/\x%y=R):=by
    have:=hinv.out
    unfold LongInv at this
    rw [Nat.pow_zero,Nat.div_one,Nat.mul_one] at this
    exact ⟨this.1.symm,this.2.symm⟩
   go_wp2
   go_ret2
   exact ⟨Sret2 (by rw [<-Int.natCast_ediv,H.out.1]) (by rw [<-Int.natCast_emod,H.out.2]),rfl⟩
theorem tdiv_nat (n m:Nat):((n:Int)).tdiv (m:Int)=((n/m:Nat):Int):=(Int.ofNat_tdiv n m).symm
theorem abs_form (a:Int):(a<0/\a = -(a.natAbs:Int))\/(0<=a/\a=(a.natAbs:Int)):=by omega
theorem rdiv_eq (a b:Int):(if (!(decide (a<0)==decide (b<0)))=true then wrap64 (-(wrap64 ((a.natAbs/b.natAbs:Nat):Int))) else wrap64 ((a.natAbs/b.natAbs:Nat):Int))=wrap64 (a.tdiv b):=by
 have hw:∀ q:Int,wrap64 (-(wrap64 q))=wrap64 (-q):=fun q=>by unfold wrap64;omega
 rcases abs_form a with ⟨ha,ea⟩ | ⟨ha,ea⟩<;>rcases abs_form b with ⟨hb,eb⟩ | ⟨hb,eb⟩
 ·rw [decide_eq_true ha,decide_eq_true hb]
  rw [if_neg (by decide)]
  conv=>rhs;rw [ea,eb,Int.neg_tdiv,Int.tdiv_neg,Int.neg_neg,tdiv_nat]
 ·rw [decide_eq_true ha,decide_eq_false (show ¬b<0 by omega)]
  rw [if_pos (by decide),hw]
  conv=>rhs;rw [ea,eb,Int.neg_tdiv,tdiv_nat]
 ·rw [decide_eq_false (show ¬a<0 by omega),decide_eq_true hb]
  rw [if_pos (by decide),hw]
  conv=>rhs;rw [ea,eb,Int.tdiv_neg,tdiv_nat]
 ·rw [decide_eq_false (show ¬a<0 by omega),decide_eq_false (show ¬b<0 by omega)]
  rw [if_neg (by decide)]
  conv=>rhs;rw [ea,eb,tdiv_nat]
theorem rrem_neg {a:Int} (ha:a<0) (b:Int) (h1 : -9223372036854775808<=a):wrap64 (-(wrap64 ((a.natAbs%b.natAbs:Nat):Int)))=a.tmod b:=by
 have h:=Stmod_abs a b
 have hs:=(tmod_sign a b).2 (by omega)
 have hl:a.natAbs%b.natAbs<=a.natAbs:=Nat.mod_le _ _
 generalize a.natAbs%b.natAbs=r at *
 generalize a.tmod b=t at *
 unfold wrap64
 omega
theorem rrem_pos {a:Int} (ha:0<=a) (b:Int) (h1:a<=9223372036854775807):wrap64 ((a.natAbs%b.natAbs:Nat):Int)=a.tmod b:=by
 have h:=Stmod_abs a b
 have hs:=(tmod_sign a b).1 ha
 have hl:a.natAbs%b.natAbs<=a.natAbs:=Nat.mod_le _ _
 generalize a.natAbs%b.natAbs=r at *
 generalize a.tmod b=t at *
 unfold wrap64
 omega
theorem nabs_pos {b:Int} (h:b≠0):0<b.natAbs:=by omega
theorem abs_lt {a:Int} (ha:In64 a):a.natAbs<18446744073709551616:=by unfold In64 at ha;omega
theorem rdiv_zero (a b:Int) (h:b=0) (w:World) :
  Calls Tryz.prog 27 #[.int .i64 a,.int .i64 b] w fun e w'=>e=.returned (.tuple #[.int .i64 0,.bool false])/\w'=w:=by
 subst h
 go_enter Tryz.func27,Tryz.ntmps27
 go_wp2_with fail
 go_ret2
 exact ⟨rfl,rfl⟩
theorem rrem_zero (a b:Int) (h:b=0) (w:World) :
  Calls Tryz.prog 28 #[.int .i64 a,.int .i64 b] w fun e w'=>e=.returned (.tuple #[.int .i64 0,.bool false])/\w'=w:=by
 subst h
 go_enter Tryz.func28,Tryz.ntmps28
 go_wp2_with fail
 go_ret2
 exact ⟨rfl,rfl⟩
theorem Srdiv_any (a b:Int) (ha:In64 a) (hb:In64 b) (h0:b≠0) (w:World) :
  Calls Tryz.prog 27 #[.int .i64 a,.int .i64 b] w fun e w'=>e=.returned (.tuple #[.int .i64 (wrap64 (a.tdiv b)),.bool true])/\w'=w:=by
 have hb':(b==0)=false:=by simpa using h0
 have E:Hid _:=rdiv_eq a b
 have H0:Hid _:=h0
 clear h0
 go_enter Tryz.func27,Tryz.ntmps27
 go_wp2_with fail
 refine (rabs_any a ha _).mono ?_
 rintro e w' ⟨rfl,rfl⟩
 go_wp2_with fail
 refine (rabs_any b hb _).mono ?_
 rintro e w' ⟨rfl,rfl⟩
 go_wp2_with fail
 refine (long_any _ _ (abs_lt ha) (abs_lt hb) (nabs_pos H0.out) _).mono ?_
 rintro e w' ⟨rfl,rfl⟩
 generalize a.natAbs/b.natAbs=q at *
 generalize a.natAbs%b.natAbs=r at *
 cases hc:(!(decide (a<0)==decide (b<0)))
 ·have E2:=E.out
  rw [hc,if_neg (by decide)] at E2
  have E3:Hid _:=E2
  clear E2 E
  go_wp2_with fail
  go_ret2
  exact ⟨Sret2b E3.out,rfl⟩
 ·have E2:=E.out
  rw [hc,if_pos rfl] at E2
  have E3:Hid _:=E2
  clear E2 E
  go_wp2_with fail
  refine (Srneg_any _ _).mono ?_
  rintro e w' ⟨rfl,rfl⟩
  go_wp2_with fail
  go_ret2
  exact ⟨Sret2b E3.out,rfl⟩
theorem Srrem_any (a b:Int) (ha:In64 a) (hb:In64 b) (h0:b≠0) (w:World) :
  Calls Tryz.prog 28 #[.int .i64 a,.int .i64 b] w fun e w'=>e=.returned (.tuple #[.int .i64 (a.tmod b),.bool true])/\w'=w:=by
 have hb':(b==0)=false:=by simpa using h0
 have E1:Hid (a<0->_):=fun h=>rrem_neg h b ha.1
 have E2:Hid (0<=a->_):=fun h=>rrem_pos h b ha.2
 have H0:Hid _:=h0
 clear h0
 go_enter Tryz.func28,Tryz.ntmps28
 go_wp2_with fail
 refine (rabs_any a ha _).mono ?_
 rintro e w' ⟨rfl,rfl⟩
 go_wp2_with fail
 refine (rabs_any b hb _).mono ?_
 rintro e w' ⟨rfl,rfl⟩
 go_wp2_with fail
 refine (long_any _ _ (abs_lt ha) (abs_lt hb) (nabs_pos H0.out) _).mono ?_
 rintro e w' ⟨rfl,rfl⟩
 generalize a.natAbs/b.natAbs=q at *
 generalize a.natAbs%b.natAbs=r at *
 by_cases hc:a<0
 ·have E3:Hid _:=E1.out hc
  clear E1 E2
  go_wp2_with fail
  refine (Srneg_any _ _).mono ?_
  rintro e w' ⟨rfl,rfl⟩
  go_wp2_with fail
  go_ret2
  exact ⟨Sret2b E3.out,rfl⟩
 ·have E3:Hid _:=E2.out (by omega)
  clear E1 E2
  go_wp2_with fail
  go_ret2
  exact ⟨Sret2b E3.out,rfl⟩
theorem Srsub_any (a b:Int) (w:World) :
  Calls Tryz.prog 25 #[.int .i64 a,.int .i64 b] w fun e w'=>e=.returned (.int .i64 (wrap64 (a-b)))/\w'=w:=by
 have E:Hid _:=(ww3 a b).symm
 go_enter Tryz.func25,Tryz.ntmps25
 go_wp2_with fail
 refine (Srneg_any _ _).mono ?_
 rintro e w' ⟨rfl,rfl⟩
 go_wp2_with fail
 refine (Sradd_any _ _ _).mono ?_
 rintro e w' ⟨rfl,rfl⟩
 go_wp2_with fail
 go_ret
 exact ⟨Sret1 E.out,rfl⟩
theorem Smod_pow_next (B k:Nat):B%2 ^ (k+1)=B%2 ^ k+2 ^ k*SbitAt B k:=Nat.mod_pow_succ
theorem wrap_sum (p q:Nat):wrap64 (wrap64 (p:Int)+wrap64 (IntKind.u64.wrap (q:Int)))=wrap64 ((p+q:Nat):Int):=by
 rw [u64w];unfold wrap64;omega
theorem mul_yes {X B k:Nat} {S:Int} (h:S=wrap64 ((X*(B%2 ^ k):Nat):Int)) (hb:SbitAt B k=1):wrap64 (S+wrap64 (IntKind.u64.wrap ((X:Int)*2 ^ k)))=wrap64 ((X*(B%2 ^ (k+1)):Nat):Int):=by
 have e:(X:Int)*2 ^ k=((X*2 ^ k:Nat):Int):=by rw [Int.natCast_mul,Int.natCast_pow];rfl
 have e2:X*(B%2 ^ (k+1))=X*(B%2 ^ k)+X*2 ^ k:=by rw [Smod_pow_next,hb,Nat.mul_one,Nat.mul_add]
 rw [e2,h,e]
 exact wrap_sum _ _
theorem mul_no {X B k:Nat} {S:Int} (h:S=wrap64 ((X*(B%2 ^ k):Nat):Int)) (hb:SbitAt B k=0):S=wrap64 ((X*(B%2 ^ (k+1)):Nat):Int):=by
 rw [Smod_pow_next,hb,Nat.mul_zero,Nat.add_zero]
 exact h
theorem mul_end {X B:Nat} {a b S:Int} (ea:IntKind.u64.wrap a=X) (eb:IntKind.u64.wrap b=B) (hB:B<18446744073709551616) (h:S=wrap64 ((X*(B%2 ^ 64):Nat):Int)):S=wrap64 (a*b):=by
 rw [h,Nat.mod_eq_of_lt (show B<2 ^ 64 from hB),Int.natCast_mul,<-ea,<-eb,u64w,u64w,wrap64_mul_mod]
set_option maxRecDepth 100000 in
theorem Srmul_any (a b:Int) (w:World) :
  Calls Tryz.prog 26 #[.int .i64 a,.int .i64 b] w fun e w'=>e=.returned (.int .i64 (wrap64 (a*b)))/\w'=w:=by
 obtain ⟨X,hX,ea⟩:=u64_nat a
 obtain ⟨B,hB,eb⟩:=u64_nat b
 have EA:Hid _:=ea
 have EB:Hid _:=eb
 go_enter Tryz.func26,Tryz.ntmps26
 go_wp2_with fail
 clear ea
 go_loop [5,7] (fun s i=>∃ (k:Nat) (S:Int),k<=64/\i=.int .i64 k/\s=.int .i64 S/\Hid (S=wrap64 ((X*(B%2 ^ k):Nat):Int))) (fun _ i=>64-(intOf i).toNat)
 case atStart=>exact ⟨0,0,by omega,rfl,rfl,by unfold Hid;simp [Nat.mod_one,wrap64]⟩
 case round =>
  obtain ⟨k,S,hk,rfl,rfl,hS⟩:=hrel
  by_cases hlt:k<64
  ·have hbe:=bit_eq B k
   by_cases hb1:SbitAt B k=1
   ·have hp:((SbitAt B k:Int)==1)=true:=by rw [beq_iff_eq];omega
    have H:Hid _:=mul_yes hS.out hb1
    clear hb1 hS
    go_wp2_with fail
    refine (Sradd_any _ _ _).mono ?_
    rintro e w' ⟨rfl,rfl⟩
    go_wp2_with fail
    go_round
    case rel=>exact ⟨k+1,_,by omega,by go_num,rfl,H⟩
    case measure=>simp [intOf];omega
   ·have hp:((SbitAt B k:Int)==1)=false:=by rw [beq_eq_false_iff_ne];omega
    have H:Hid _:=mul_no hS.out (by have:=SbitAt_lt B k;omega)
    clear hb1 hS
    go_wp2_with fail
    go_round
    case rel=>exact ⟨k+1,_,by omega,by go_num,rfl,H⟩
    case measure=>simp [intOf];omega
  ·have:k=64:=by omega
   subst this
   have H:Hid (S=wrap64 (a*b)):=mul_end EA.out EB.out hB hS.out
   go_wp2_with fail
   go_ret
   exact ⟨Sret1 H.out,rfl⟩
end Go.Proofs.YtnjmjnmhldhaoaaGreat
