import Derived.Shelf.Strconv.Itoa0
import Derived.Shelf.Bits.Mul64
import Derived.Shelf.Spec.BitsCarry
import Derived.Test.YtnjmjnmhldhaoaaGreatKKa
set_option maxHeartbeats 8000000
set_option linter.all false
namespace Go.Proofs.YtnjmjnmhldhaoaaGreat
open Go.RowKit
def dq (u d Y:Nat):Nat:=(u*4294967296+d)/Y
def dr (u d Y:Nat):Nat:=(u*4294967296+d)%Y
def Guess (u d Y q r:Nat):Prop:=u=q*(Y/4294967296)+r/\dq u d Y<=q/\q<=4294967297
theorem dq_lt {u d Y:Nat} (hu:u<Y) (hd:d<4294967296):dq u d Y<4294967296:=by
 unfold dq
 rw [Nat.div_lt_iff_lt_mul (by omega)]
 omega
theorem split_mul (q Y:Nat):q*Y=q*(Y/4294967296)*4294967296+q*(Y%4294967296):=by
 have h:Y=Y/4294967296*4294967296+Y%4294967296:=by omega
 calc q*Y=q*(Y/4294967296*4294967296+Y%4294967296):=by rw [<-h]
  _=_:=by rw [Nat.mul_add,Nat.mul_assoc]
theorem guess_first {u d Y:Nat} (hu:u<Y) (hd:d<4294967296) (hY:9223372036854775808<=Y) (hY2:Y<18446744073709551616) :
  Guess u d Y (u/(Y/4294967296)) (u-u/(Y/4294967296)*(Y/4294967296)):=by
 have hp:0<Y/4294967296:=by omega
 have h1:=Nat.div_add_mod u (Y/4294967296)
 have h2:=Nat.mod_lt u hp
 rw [Nat.mul_comm] at h1
 refine ⟨by omega,?_,?_⟩
 ·unfold dq
  rw [Nat.div_le_iff_le_mul (by omega),split_mul (u/(Y/4294967296)) Y]
  generalize u/(Y/4294967296)=q at *
  generalize u%(Y/4294967296)=r at *
  generalize q*(Y/4294967296)=p at *
  generalize q*(Y%4294967296)=z at *
  omega
 ·have:u/(Y/4294967296)<4294967298:=by
   rw [Nat.div_lt_iff_lt_mul hp]
   omega
  omega
theorem guess_less {u d Y q r:Nat} (hu:u<Y) (hd:d<4294967296) (hY:9223372036854775808<=Y) (h:Guess u d Y q r)
  (c:4294967296<=q\/4294967296*r+d<q*(Y%4294967296)):0<q/\Guess u d Y (q-1) (r+Y/4294967296):=by
 obtain ⟨e,g,b⟩:=h
 have hlt:dq u d Y<q:=by
  rcases c with c | c
  ·exact Nat.lt_of_lt_of_le (dq_lt hu hd) c
  ·unfold dq
   rw [Nat.div_lt_iff_lt_mul (by omega),split_mul q Y]
   generalize q*(Y/4294967296)=p at *
   generalize q*(Y%4294967296)=z at *
   omega
 refine ⟨by omega,?_,by omega,by omega⟩
 obtain ⟨k,rfl⟩:∃ k,q=k+1:=⟨q-1,by omega⟩
 rw [Nat.add_mul,Nat.one_mul] at e
 simp only [Nat.add_sub_cancel]
 omega
theorem guess_right {u d Y q r:Nat} (hY:0<Y) (h:Guess u d Y q r) (c:q*(Y%4294967296)<=4294967296*r+d):q=dq u d Y:=by
 obtain ⟨e,g,b⟩:=h
 refine Nat.le_antisymm ?_ g
 unfold dq
 rw [Nat.le_div_iff_mul_le hY,split_mul q Y]
 generalize q*(Y/4294967296)=p at *
 generalize q*(Y%4294967296)=z at *
 omega
theorem guess_past {u d Y q r:Nat} (hY:0<Y) (h:Guess u d Y q r) (hq:q<=4294967296) (c:4294967296<=r):q=dq u d Y:=by
 refine guess_right hY h ?_
 have h1:q*(Y%4294967296)<=4294967296*(Y%4294967296):=Nat.mul_le_mul_right _ hq
 have h2:Y%4294967296<4294967296:=Nat.mod_lt _ (by omega)
 omega
theorem left_is {u d Y:Nat} (hY:0<Y) (hY2:Y<18446744073709551616) :
  ((u:Int)*4294967296+d-(dq u d Y:Int)*Y)%18446744073709551616=(dr u d Y:Int):=by
 have h:=Nat.div_add_mod (u*4294967296+d) Y
 have hl:=Nat.mod_lt (u*4294967296+d) hY
 unfold dq dr
 generalize hx:(u*4294967296+d)%Y=x at *
 generalize hq:(u*4294967296+d)/Y=q at *
 have h':(q:Int)*(Y:Int)=((Y*q:Nat):Int):=by rw [Int.natCast_mul,Int.mul_comm]
 rw [h']
 generalize Y*q=z at *
 omega
theorem dr_lt {u d Y:Nat} (hY:0<Y):dr u d Y<Y:=Nat.mod_lt _ hY
theorem two_digits {u d e Y:Nat}:(dr (dr u d Y) e Y)=((u*4294967296+d)*4294967296+e)%Y:=by
 unfold dr
 conv=>rhs;rw [Nat.add_mod,Nat.mul_mod]
 rw [Nat.add_mod,Nat.mul_mod,Nat.mod_mod]
theorem pow_two_parts {s:Nat} (hs:s<=63):2 ^ (64-s)*2 ^ s=18446744073709551616:=by
 rw [<-Nat.pow_add,show 64-s+s=64 by omega]
theorem shifted {hi lo y s:Nat} (hs:s<=63) (hlo:lo<18446744073709551616) :
  (hi*2 ^ s+lo/2 ^ (64-s))*18446744073709551616+lo*2 ^ s%18446744073709551616=(hi*18446744073709551616+lo)*2 ^ s:=by
 have hp:=pow_two_parts hs
 have h0:0<2 ^ s:=Nat.two_pow_pos s
 have h1:lo*2 ^ s/18446744073709551616=lo/2 ^ (64-s):=by
  rw [<-hp,Nat.mul_div_mul_right _ _ h0]
 have h2:=Nat.div_add_mod (lo*2 ^ s) 18446744073709551616
 rw [h1] at h2
 rw [Nat.add_mul,Nat.add_mul,Nat.mul_right_comm hi]
 omega
theorem shift_lt {hi lo y s:Nat} (hs:s<=63) (hlo:lo<18446744073709551616) (hy:hi<y):hi*2 ^ s+lo/2 ^ (64-s)<y*2 ^ s:=by
 have hp:=pow_two_parts hs
 have h1:lo/2 ^ (64-s)<2 ^ s:=by
  rw [Nat.div_lt_iff_lt_mul (Nat.two_pow_pos _),Nat.mul_comm,hp];exact hlo
 have h2:(hi+1)*2 ^ s<=y*2 ^ s:=Nat.mul_le_mul_right _ hy
 rw [Nat.add_mul,Nat.one_mul] at h2
 omega
theorem end_is {hi lo y s:Nat} (hs:s<=63) (hlo:lo<18446744073709551616) :
  dr (dr (hi*2 ^ s+lo/2 ^ (64-s)) (lo*2 ^ s%18446744073709551616/4294967296) (y*2 ^ s)) (lo*2 ^ s%18446744073709551616%4294967296) (y*2 ^ s)/2 ^ s=(hi*18446744073709551616+lo)%y:=by
 rw [two_digits]
 have h:=shifted (y:=y) (hi:=hi) hs hlo
 generalize hi*2 ^ s+lo/2 ^ (64-s)=u at *
 generalize hz:lo*2 ^ s%18446744073709551616=z at *
 have e:(u*4294967296+z/4294967296)*4294967296+z%4294967296=(hi*18446744073709551616+lo)*2 ^ s:=by rw [<-h];clear h hz;omega
 rw [e,Nat.mul_mod_mul_right,Nat.mul_div_cancel _ (Nat.two_pow_pos s)]
end Go.Proofs.YtnjmjnmhldhaoaaGreat
namespace Go.Proofs.YtnjmjnmhldhaoaaGreat
open Go.RowKit Go.Shelf
def laysL_ren:Go.Shelf.Ren:=⟨fun | 129=>262 | n=>n,fun | 53=>25 | 46=>81 | 3=>3 | 4=>4 | 5=>5 | 9=>9 | n=>n,fun | n=>n⟩
theorem laysLen:Go.Proofs.Lays.n129 Tryz.prog laysL_ren:={
 mixed:=by kernel_rfl
 f129:=Tryz.func262.trans (congrArg some (by kernel_rfl))
 t3:=Tryz.underlying3
 a3:=Tryz.isAgg3
 z3:=Tryz.sizeOf3
 v3:=Tryz.zeroValue3
 t4:=Tryz.underlying4
 a4:=Tryz.isAgg4
 z4:=Tryz.sizeOf4
 v4:=Tryz.zeroValue4
 t5:=Tryz.underlying5
 a5:=Tryz.isAgg5
 z5:=Tryz.sizeOf5
 v5:=Tryz.zeroValue5
 t9:=Tryz.underlying9
 a9:=Tryz.isAgg9
 z9:=Tryz.sizeOf9
 v9:=Tryz.zeroValue9
 t46:=Tryz.underlying81
 a46:=Tryz.isAgg81
 z46:=Tryz.sizeOf81
 v46:=Tryz.zeroValue81
 t53:=Tryz.underlying25
 a53:=Tryz.isAgg25
 z53:=Tryz.sizeOf25
 v53:=Tryz.zeroValue25 }
theorem bitLen_bounds:∀ (f x:Nat),0<x->x<2 ^ f->f<=64->∃ k,Lib.bitLen x=k+1/\k<f/\2 ^ k<=x/\x<2 ^ (k+1)
 | 0,x,h0,h,_=>by simp at h;omega
 | f+1,x,h0,h,hf=>by
  have h64:x<2 ^ 64:=Nat.lt_of_lt_of_le h (Nat.pow_le_pow_right (by omega) hf)
  have e:=Lib.bitLen_half x (by omega) h64
  by_cases h1:x/2=0
  ·have hx:x=1:=by omega
   subst hx
   exact ⟨0,by rw [e];kernel_rfl,by omega,by simp,by simp⟩
  ·obtain ⟨k,a,b,c,d⟩:=bitLen_bounds f (x/2) (by omega) (by rw [Nat.pow_succ] at h;omega) (by omega)
   refine ⟨k+1,by rw [e,a];omega,by omega,?_,?_⟩
   ·rw [Nat.pow_succ];omega
   ·rw [Nat.pow_succ];omega
theorem shift_of {y:Nat} (h0:0<y) (h:y<18446744073709551616):∃ s:Nat,(64:Int)-(Lib.bitLen y:Int)=(s:Int)/\s<=63/\9223372036854775808<=y*2 ^ s/\y*2 ^ s<18446744073709551616:=by
 obtain ⟨k,a,b,c,d⟩:=bitLen_bounds 64 y h0 h (by omega)
 refine ⟨63-k,by rw [a];omega,by omega,?_,?_⟩
 ·have e:2 ^ k*2 ^ (63-k)=9223372036854775808:=by rw [<-Nat.pow_add,show k+(63-k)=63 by omega]
  rw [<-e];exact Nat.mul_le_mul_right _ c
 ·have e:2 ^ (k+1)*2 ^ (63-k)=18446744073709551616:=by rw [<-Nat.pow_add,show k+1+(63-k)=64 by omega]
  rw [<-e];exact Nat.mul_lt_mul_of_pos_right d (Nat.two_pow_pos _)
theorem lead_any (y s:Nat) (h:y<18446744073709551616) (hs:(64:Int)-(Lib.bitLen y:Int)=(s:Int)) (hs2:s<=63) (w:World) :
  Calls Tryz.prog 259 #[.int .u64 (y:Int)] w fun e w'=>e=.returned (.int .i64 (s:Int))/\w'=w:=by
 have HS:Hid _:=And.intro hs hs2
 have HY:Hid _:=h
 clear hs hs2 h
 go_enter Tryz.func259,Tryz.ntmps259
 go_wp2_with fail
 refine (Any.bits_Len64 laysLen (y:Int) _ (by omega) (by have:=HY.out;omega)).mono ?_
 rintro e w' ⟨rfl,rfl⟩
 go_wp2_with fail
 go_ret
 refine ⟨congrArg Ending.returned (congrArg (Value.int IntKind.i64) ?_),rfl⟩
 have:=HS.out
 unfold wrap64
 omega
theorem or_add {a b s:Nat} (h:b<2 ^ s) (h1:a*2 ^ s<18446744073709551616) (h2:b<18446744073709551616):bits .or .u64 ((a*2 ^ s:Nat):Int) (b:Int)=((a*2 ^ s+b:Nat):Int):=by
 rw [bits_or_u64_nat _ _ h1 h2,Nat.mul_comm,Nat.two_pow_add_eq_or_of_lt h]
theorem and_mod {a:Nat} (h1:a<18446744073709551616):bits .and .u64 (a:Int) 4294967295=((a%4294967296:Nat):Int):=by
 rw [show (4294967295:Int)=((4294967295:Nat):Int) from rfl,bits_and_u64_nat _ _ h1 (by omega)]
 rw [show (4294967295:Nat)=2 ^ 32-1 from rfl,Nat.and_two_pow_sub_one_eq_mod]
theorem pow_cast (y s:Nat):(y:Int)*2 ^ s=((y*2 ^ s:Nat):Int):=by rw [Int.natCast_mul,Int.natCast_pow];rfl
structure DivL (hi lo y s t Y H T U Z Y1 Y0 Z1 Z0 Q R:Nat):Prop where
 hs:s<=63
 hY:Y=y*2 ^ s
 hY1:9223372036854775808<=Y
 hY2:Y<18446744073709551616
 y1:Y1=Y/4294967296
 y0:Y0=Y%4294967296
 hU:U=hi*2 ^ s+lo/2 ^ (64-s)
 hU2:U<Y
 hZ:Z=lo*2 ^ s%18446744073709551616
 z1:Z1=Z/4294967296
 z0:Z0=Z%4294967296
 hQ:Q=U/Y1
 hR:R=U-Q*Y1
 e6:IntKind.u64.wrap (s:Int)=s
 e7:min s 64=s
 e8:IntKind.u64.wrap (64-(s:Int))=(t:Int)
 e9:min t 64=t
 e10:IntKind.u64.wrap ((y:Int)*2 ^ s)=(Y:Int)
 e11:IntKind.u64.wrap ((hi:Int)*2 ^ s)=(H:Int)
 e12:(lo:Int)/2 ^ t=(T:Int)
 e13:bits .or .u64 (H:Int) (T:Int)=(U:Int)
 e14:IntKind.u64.wrap ((lo:Int)*2 ^ s)=(Z:Int)
 e15:bits .and .u64 (Y:Int) 4294967295=(Y0:Int)
 e16:(Y:Int)/4294967296=(Y1:Int)
 e17:bits .and .u64 (Z:Int) 4294967295=(Z0:Int)
 e18:(Z:Int)/4294967296=(Z1:Int)
 e19:(U:Int)/(Y1:Int)=(Q:Int)
 e20:IntKind.u64.wrap (Q:Int)=(Q:Int)
 e21:IntKind.u64.wrap ((U:Int)-IntKind.u64.wrap ((Q:Int)*(Y1:Int)))=(R:Int)
theorem divL {hi lo y s:Nat} (hhi:hi<y) (hlo:lo<18446744073709551616) (hy:y<18446744073709551616) (hs:s<=63) (h1:9223372036854775808<=y*2 ^ s) (h2:y*2 ^ s<18446744073709551616) :
  ∃ t Y H T U Z Y1 Y0 Z1 Z0 Q R,DivL hi lo y s t Y H T U Z Y1 Y0 Z1 Z0 Q R:=by
 have hH:hi*2 ^ s<18446744073709551616:=by
  have:=Nat.mul_le_mul_right (2 ^ s) (Nat.le_of_lt hhi);omega
 have hT:lo/2 ^ (64-s)<2 ^ s:=by
  rw [Nat.div_lt_iff_lt_mul (Nat.two_pow_pos _),Nat.mul_comm,pow_two_parts hs];exact hlo
 have hT2:lo/2 ^ (64-s)<=lo:=Nat.div_le_self _ _
 have hU2:=shift_lt (y:=y) (hi:=hi) hs hlo hhi
 have hZ:lo*2 ^ s%18446744073709551616<18446744073709551616:=Nat.mod_lt _ (by omega)
 have hQ2:(hi*2 ^ s+lo/2 ^ (64-s))/(y*2 ^ s/4294967296)<=hi*2 ^ s+lo/2 ^ (64-s):=Nat.div_le_self _ _
 refine ⟨64-s,y*2 ^ s,hi*2 ^ s,lo/2 ^ (64-s),(hi*2 ^ s+lo/2 ^ (64-s)),(lo*2 ^ s%18446744073709551616),(y*2 ^ s)/4294967296,(y*2 ^ s)%4294967296,(lo*2 ^ s%18446744073709551616)/4294967296,(lo*2 ^ s%18446744073709551616)%4294967296,(hi*2 ^ s+lo/2 ^ (64-s))/((y*2 ^ s)/4294967296),(hi*2 ^ s+lo/2 ^ (64-s))-(hi*2 ^ s+lo/2 ^ (64-s))/((y*2 ^ s)/4294967296)*((y*2 ^ s)/4294967296),?_⟩
 exact {
  hs:=hs,hY:=rfl,hY1:=h1,hY2:=h2,y1:=rfl,y0:=rfl,hU:=rfl,hU2:=hU2,hZ:=rfl,z1:=rfl,z0:=rfl,hQ:=rfl,hR:=rfl
  e6:=by rw [IntKind.wrap_u64];omega
  e7:=by omega
  e8:=by rw [IntKind.wrap_u64];omega
  e9:=by omega
  e10:=by rw [pow_cast,IntKind.wrap_u64];omega
  e11:=by rw [pow_cast,IntKind.wrap_u64];omega
  e12:=by rw [Int.natCast_ediv,Int.natCast_pow];rfl
  e13:=or_add hT hH (by omega)
  e14:=by rw [pow_cast,IntKind.wrap_u64];omega
  e15:=and_mod h2
  e16:=by rw [Int.natCast_ediv];rfl
  e17:=and_mod hZ
  e18:=by rw [Int.natCast_ediv];rfl
  e19:=(Int.natCast_ediv _ _).symm
  e20:=by
   rw [IntKind.wrap_u64]
   generalize (hi*2 ^ s+lo/2 ^ (64-s))/(y*2 ^ s/4294967296)=z at *
   omega
  e21:=by
   have h3:=Nat.div_mul_le_self (hi*2 ^ s+lo/2 ^ (64-s)) (y*2 ^ s/4294967296)
   rw [<-Int.natCast_mul,IntKind.wrap_u64,IntKind.wrap_u64]
   generalize (hi*2 ^ s+lo/2 ^ (64-s))/(y*2 ^ s/4294967296)*(y*2 ^ s/4294967296)=z at *
   omega }
def Fit (u d Y:Nat) (q r:Int):Prop:=∃ q' r':Nat,q=q'/\r=r'/\r'<4294967296/\Guess u d Y q' r'
structure DivK (u d Y Y1 Y0:Nat):Prop where
 hu:u<Y
 hd:d<4294967296
 h1:9223372036854775808<=Y
 h2:Y<18446744073709551616
 y1:Y1=Y/4294967296
 y0:Y0=Y%4294967296
theorem fit_first {u d Y Y1 Y0:Nat} (K:DivK u d Y Y1 Y0):Fit u d Y ((u/Y1:Nat):Int) ((u-u/Y1*Y1:Nat):Int):=by
 have g:=guess_first K.hu K.hd K.h1 K.h2
 rw [<-K.y1] at g
 refine ⟨_,_,rfl,rfl,?_,g⟩
 have h:=Nat.div_add_mod u Y1
 have h2:=Nat.mod_lt u (show 0<Y1 by have:=K.y1;have:=K.h1;omega)
 rw [Nat.mul_comm] at h
 have:=K.y1;have:=K.h2
 omega
theorem fit_less {u d Y Y1 Y0:Nat} {q r qn rn p s:Int} (K:DivK u d Y Y1 Y0) (f:Fit u d Y q r)
  (eq:IntKind.u64.wrap (q-1)=qn) (er:IntKind.u64.wrap (r+(Y1:Int))=rn)
  (ep:IntKind.u64.wrap (q*(Y0:Int))=p) (es:IntKind.u64.wrap (IntKind.u64.wrap (4294967296*r)+(d:Int))=s)
  (c:4294967296<=q\/(q<4294967296/\s<p)):(rn<4294967296->Fit u d Y qn rn/\qn.toNat<q.toNat)/\(4294967296<=rn->qn=((dq u d Y:Nat):Int)):=by
 obtain ⟨q',r',rfl,rfl,hr,g⟩:=f
 have hy1:=K.y1
 have hy0:=K.y0
 have h1:=K.h1
 have h2:=K.h2
 have hd:=K.hd
 have c':4294967296<=q'\/4294967296*r'+d<q'*(Y%4294967296):=by
  rcases c with c | ⟨c0,c⟩
  ·left;omega
  ·right
   have hp:q'*Y0<=4294967296*4294967296:=Nat.mul_le_mul (by omega) (by omega)
   have hp1:q'*Y0<18446744073709551616:=by
    have:q'*Y0<=q'*4294967296:=Nat.mul_le_mul_left _ (by omega)
    omega
   rw [<-Int.natCast_mul] at ep
   rw [<-hy0]
   simp only [IntKind.wrap_u64] at ep es
   generalize q'*Y0=z at *
   omega
 have L:=guess_less K.hu hd h1 g c'
 have hq2:=g.2.2
 have e1:qn=((q'-1:Nat):Int):=by rw [<-eq,IntKind.wrap_u64];omega
 have e2:rn=((r'+Y/4294967296:Nat):Int):=by rw [<-er,IntKind.wrap_u64];omega
 constructor
 ·intro h
  exact ⟨⟨_,_,e1,e2,by omega,L.2⟩,by omega⟩
 ·intro h
  rw [e1]
  have:=guess_past (by omega) L.2 (by omega) (by omega)
  omega
theorem fit_right {u d Y Y1 Y0:Nat} {q r p s:Int} (K:DivK u d Y Y1 Y0) (f:Fit u d Y q r)
  (ep:IntKind.u64.wrap (q*(Y0:Int))=p) (es:IntKind.u64.wrap (IntKind.u64.wrap (4294967296*r)+(d:Int))=s)
  (c0:q<4294967296) (c:p<=s):q=((dq u d Y:Nat):Int):=by
 obtain ⟨q',r',rfl,rfl,hr,g⟩:=f
 have hy0:=K.y0
 have h1:=K.h1
 have hd:=K.hd
 have:=guess_right (by omega) g (by
  have hp1:q'*Y0<18446744073709551616:=by
   have:q'*Y0<=q'*4294967296:=Nat.mul_le_mul_left _ (by omega)
   omega
  rw [<-Int.natCast_mul] at ep
  rw [<-hy0]
  simp only [IntKind.wrap_u64] at ep es
  generalize q'*Y0=z at *
  omega)
 omega
theorem fit_left {u d Y Y1 Y0:Nat} {q:Int} (K:DivK u d Y Y1 Y0) (h:q=((dq u d Y:Nat):Int)) :
  IntKind.u64.wrap (IntKind.u64.wrap (IntKind.u64.wrap ((u:Int)*4294967296)+(d:Int))-IntKind.u64.wrap (q*(Y:Int)))=((dr u d Y:Nat):Int):=by
 have L:=left_is (u:=u) (d:=d) (Y:=Y) (by have:=K.h1;omega) K.h2
 rw [h]
 simp only [IntKind.wrap_u64]
 generalize (dq u d Y:Int)*(Y:Int)=z at *
 omega
theorem second {u d e Y Y1 Y0:Nat} (K:DivK u d Y Y1 Y0) (he:e<4294967296):DivK (dr u d Y) e Y Y1 Y0 :=
 ⟨dr_lt (by have:=K.h1;omega),he,K.h1,K.h2,K.y1,K.y0⟩
theorem quo_first {n Y1:Nat} (hn:n<18446744073709551616):IntKind.u64.wrap ((n:Int).tdiv (Y1:Int))=((n/Y1:Nat):Int)/\IntKind.u64.wrap ((n:Int)-IntKind.u64.wrap (((n/Y1:Nat):Int)*(Y1:Int)))=((n-n/Y1*Y1:Nat):Int):=by
 have h1:=Nat.div_le_self n Y1
 have h2:=Nat.div_mul_le_self n Y1
 constructor
 ·rw [Int.tdiv_eq_ediv_of_nonneg (by omega),<-Int.natCast_ediv,IntKind.wrap_u64]
  generalize n/Y1=z at *
  omega
 ·rw [<-Int.natCast_mul,IntKind.wrap_u64,IntKind.wrap_u64]
  generalize n/Y1*Y1=z at *
  omega
theorem div_end {hi lo y s t Y H T U Z Y1 Y0 Z1 Z0 Q R n:Nat} (D:DivL hi lo y s t Y H T U Z Y1 Y0 Z1 Z0 Q R) (hlo:lo<18446744073709551616) (hn:n=dr U Z1 Y) :
  ((dr n Z0 Y:Nat):Int)/2 ^ s=(((hi*18446744073709551616+lo)%y:Nat):Int):=by
 have h:=end_is (hi:=hi) (lo:=lo) (y:=y) D.hs hlo
 rw [<-D.hU,<-D.hZ,<-D.z1,<-D.z0,<-D.hY,<-hn] at h
 rw [<-h,Int.natCast_ediv,Int.natCast_pow]
 rfl
theorem ret2b {k j:IntKind} {a c d:Int} (g:c=d):∃ q:Int,Ending.returned (.tuple #[.int k a,.int j c])=.returned (.tuple #[.int k q,.int j d]):=⟨a,by rw [g]⟩
set_option maxRecDepth 100000 in
theorem div64_any (hi lo y:Nat) (hhi:hi<y) (h0:0<hi) (hlo:lo<18446744073709551616) (hy:y<18446744073709551616) (w:World) :
  Calls Tryz.prog 251 #[.int .u64 (hi:Int),.int .u64 (lo:Int),.int .u64 (y:Int)] w fun e w'=>(∃ q:Int,e=.returned (.tuple #[.int .u64 q,.int .u64 (((hi*18446744073709551616+lo)%y:Nat):Int)]))/\w'=w:=by
 obtain ⟨s,hs1,hs2,hs3,hs4⟩:=shift_of (show 0<y by omega) hy
 obtain ⟨t,Y,H,T,U,Z,Y1,Y0,Z1,Z0,Q,R,D⟩:=divL hhi hlo hy hs2 hs3 hs4
 have HS:Hid _:=And.intro hs1 hs2
 have HL:Hid _:=And.intro hhi (And.intro hlo hy)
 have HD:Hid _:=D
 have HK:Hid (DivK U Z1 Y Y1 Y0):=⟨D.hU2,by have:=D.z1;have:=D.hZ;omega,D.hY1,D.hY2,D.y1,D.y0⟩
 have e1:((y:Int)==0)=false:=by simp;omega
 have e2:¬(y:Int)<=(hi:Int):=by omega
 have e3:((hi:Int)==0)=false:=by simp;omega
 have e4:¬(hi:Int)=0:=by omega
 have e5:¬(y:Int)=0:=by omega
 have e6:=D.e6
 have e7:=D.e7
 have e8:=D.e8
 have e9:=D.e9
 have e10:=D.e10
 have e11:=D.e11
 have e12:=D.e12
 have e13:=D.e13
 have e14:=D.e14
 have e15:=D.e15
 have e16:=D.e16
 have e17:=D.e17
 have e18:=D.e18
 have e19:=D.e19
 have e20:=D.e20
 have e21:=D.e21
 have y1:¬(Y1:Int)=0:=by have:=D.y1;have:=D.hY1;omega
 have y2:((Y1:Int)==0)=false:=by simp;have:=D.y1;have:=D.hY1;omega
 clear hs1 hs2 hs3 hs4 hhi hlo hy h0 D
 go_enter Tryz.func251,Tryz.ntmps251
 go_wp2_with fail
 refine (lead_any y s HL.out.2.2 HS.out.1 HS.out.2 _).mono ?_
 rintro e w' ⟨rfl,rfl⟩
 go_wp2_with fail
 clear e1 e2 e3 e4 e5 e8 e9 e10 e11 e12 e13 e14 e15 e16 e17 e18 e19 e20 e21
 go_loopw [15,16] (fun a b wr=>∃ q r:Int,a=.int .u64 q/\b=.int .u64 r/\Hid (Fit U Z1 Y q r)/\Hid (wr=w')) (fun a _ _=>(intOf a).toNat)
 case atStart =>
  refine ⟨Q,R,rfl,rfl,?_,rfl⟩
  have f:=fit_first HK.out
  rw [<-HD.out.hQ,<-HD.out.hR] at f
  exact f
 case round =>
  obtain ⟨q,r,rfl,rfl,HG,HW⟩:=hrel
  obtain ⟨qn,eqn⟩:∃ z,IntKind.u64.wrap (q-1)=z:=⟨_,rfl⟩
  obtain ⟨rn,ern⟩:∃ z,IntKind.u64.wrap (r+(Y1:Int))=z:=⟨_,rfl⟩
  obtain ⟨p,ep⟩:∃ z,IntKind.u64.wrap (q*(Y0:Int))=z:=⟨_,rfl⟩
  obtain ⟨sm,es⟩:∃ z,IntKind.u64.wrap (IntKind.u64.wrap (4294967296*r)+(Z1:Int))=z:=⟨_,rfl⟩
  have HL1:Hid _:=fun c=>fit_less HK.out HG.out eqn ern ep es c
  have HL2:Hid _:=fun c0 c=>fit_right HK.out HG.out ep es c0 c
  by_cases c1:4294967296<=q
  ·have F:Hid _:=HL1.out (Or.inl c1)
   clear HL1 HL2
   by_cases c3:rn<4294967296
   ·have F2:Hid _:=F.out.1 c3
    clear F
    go_wp2_with fail
    exact ⟨⟨qn,rn,rfl,rfl,F2.out.1,HW⟩,by simp only [intOf];exact F2.out.2⟩
   ·have F2:Hid _:=F.out.2 (by omega)
    clear F
    have em:=fit_left HK.out F2.out
    obtain ⟨n,hn⟩:∃ n,n=dr U Z1 Y:=⟨_,rfl⟩
    have HN:Hid _:=hn
    have HK2:Hid (DivK n Z0 Y Y1 Y0):=by rw [hn];exact second HK.out (by have:=HD.out.z0;omega)
    rw [<-hn] at em
    obtain ⟨R1,hR1⟩:∃ z:Int,z=(n:Int):=⟨_,rfl⟩
    rw [<-hR1] at em
    have qf:=quo_first (n:=n) (Y1:=Y1) (by have:=HK2.out.hu;have:=HK2.out.h2;omega)
    have ff:=fit_first HK2.out
    obtain ⟨Q0,hQ0⟩:∃ z:Int,z=((n/Y1:Nat):Int):=⟨_,rfl⟩
    obtain ⟨R0,hR0⟩:∃ z:Int,z=((n-n/Y1*Y1:Nat):Int):=⟨_,rfl⟩
    rw [<-hR1,<-hQ0,<-hR0] at qf
    rw [<-hQ0,<-hR0] at ff
    obtain ⟨eq0,er0⟩:=qf
    have HF:Hid (Fit n Z0 Y Q0 R0):=ff
    have HR1:Hid _:=hR1
    have HW0:Hid _:=HW.out
    clear ff hn hR1 hQ0 hR0 HK HG HW
    go_wp2_with fail
    clear em eq0 er0 eqn ern ep es F2
    obtain ⟨V,hV⟩:∃ V,V=wr:=⟨_,rfl⟩
    rw [<-hV] at HW0 ⊢
    clear hV
    go_loopw [18,16] (fun a b wr=>∃ q r:Int,a=.int .u64 q/\b=.int .u64 r/\Hid (Fit n Z0 Y q r)/\Hid (wr=V)) (fun a _ _=>(intOf a).toNat)
    case atStart=>exact ⟨Q0,R0,rfl,rfl,HF.out,rfl⟩
    case round =>
     obtain ⟨q,r,rfl,rfl,HG,HW⟩:=hrel
     obtain ⟨qn,eqn⟩:∃ z,IntKind.u64.wrap (q-1)=z:=⟨_,rfl⟩
     obtain ⟨rn,ern⟩:∃ z,IntKind.u64.wrap (r+(Y1:Int))=z:=⟨_,rfl⟩
     obtain ⟨p,ep⟩:∃ z,IntKind.u64.wrap (q*(Y0:Int))=z:=⟨_,rfl⟩
     obtain ⟨sm,es⟩:∃ z,IntKind.u64.wrap (IntKind.u64.wrap (4294967296*r)+(Z0:Int))=z:=⟨_,rfl⟩
     have HL1:Hid _:=fun c=>fit_less HK2.out HG.out eqn ern ep es c
     have HL2:Hid _:=fun c0 c=>fit_right HK2.out HG.out ep es c0 c
     by_cases c1:4294967296<=q
     ·have F:Hid _:=HL1.out (Or.inl c1)
      clear HL1 HL2
      by_cases c3:rn<4294967296
      ·have F2:Hid _:=F.out.1 c3
       clear F
       go_wp2_with fail
       exact ⟨⟨qn,rn,rfl,rfl,F2.out.1,HW⟩,by simp only [intOf];exact F2.out.2⟩
      ·have F2:Hid _:=F.out.2 (by omega)
       clear F
       have em:=fit_left HK2.out F2.out
       rw [<-HR1.out] at em
       obtain ⟨E,hE⟩:∃ z:Int,z=((dr n Z0 Y:Nat):Int):=⟨_,rfl⟩
       rw [<-hE] at em
       have HE:Hid _:=hE
       clear hE
       go_wp2_with fail
       go_ret2
       refine ⟨ret2b ?_,HW.out.trans HW0.out⟩
       rw [HE.out]
       exact div_end HD.out HL.out.2.1 HN.out
     ·by_cases c2:sm<p
      ·have F:Hid _:=HL1.out (Or.inr ⟨by omega,c2⟩)
       clear HL1 HL2
       by_cases c3:rn<4294967296
       ·have F2:Hid _:=F.out.1 c3
        clear F
        go_wp2_with fail
        exact ⟨⟨qn,rn,rfl,rfl,F2.out.1,HW⟩,by simp only [intOf];exact F2.out.2⟩
       ·have F2:Hid _:=F.out.2 (by omega)
        clear F
        have em:=fit_left HK2.out F2.out
        rw [<-HR1.out] at em
        obtain ⟨E,hE⟩:∃ z:Int,z=((dr n Z0 Y:Nat):Int):=⟨_,rfl⟩
        rw [<-hE] at em
        have HE:Hid _:=hE
        clear hE
        go_wp2_with fail
        go_ret2
        refine ⟨ret2b ?_,HW.out.trans HW0.out⟩
        rw [HE.out]
        exact div_end HD.out HL.out.2.1 HN.out
      ·have F2:Hid _:=HL2.out (by omega) (by omega)
       clear HL1 HL2
       have em:=fit_left HK2.out F2.out
       rw [<-HR1.out] at em
       obtain ⟨E,hE⟩:∃ z:Int,z=((dr n Z0 Y:Nat):Int):=⟨_,rfl⟩
       rw [<-hE] at em
       have HE:Hid _:=hE
       clear hE
       go_wp2_with fail
       go_ret2
       refine ⟨ret2b ?_,HW.out.trans HW0.out⟩
       rw [HE.out]
       exact div_end HD.out HL.out.2.1 HN.out
  ·by_cases c2:sm<p
   ·have F:Hid _:=HL1.out (Or.inr ⟨by omega,c2⟩)
    clear HL1 HL2
    by_cases c3:rn<4294967296
    ·have F2:Hid _:=F.out.1 c3
     clear F
     go_wp2_with fail
     exact ⟨⟨qn,rn,rfl,rfl,F2.out.1,HW⟩,by simp only [intOf];exact F2.out.2⟩
    ·have F2:Hid _:=F.out.2 (by omega)
     clear F
     have em:=fit_left HK.out F2.out
     obtain ⟨n,hn⟩:∃ n,n=dr U Z1 Y:=⟨_,rfl⟩
     have HN:Hid _:=hn
     have HK2:Hid (DivK n Z0 Y Y1 Y0):=by rw [hn];exact second HK.out (by have:=HD.out.z0;omega)
     rw [<-hn] at em
     obtain ⟨R1,hR1⟩:∃ z:Int,z=(n:Int):=⟨_,rfl⟩
     rw [<-hR1] at em
     have qf:=quo_first (n:=n) (Y1:=Y1) (by have:=HK2.out.hu;have:=HK2.out.h2;omega)
     have ff:=fit_first HK2.out
     obtain ⟨Q0,hQ0⟩:∃ z:Int,z=((n/Y1:Nat):Int):=⟨_,rfl⟩
     obtain ⟨R0,hR0⟩:∃ z:Int,z=((n-n/Y1*Y1:Nat):Int):=⟨_,rfl⟩
     rw [<-hR1,<-hQ0,<-hR0] at qf
     rw [<-hQ0,<-hR0] at ff
     obtain ⟨eq0,er0⟩:=qf
     have HF:Hid (Fit n Z0 Y Q0 R0):=ff
     have HR1:Hid _:=hR1
     have HW0:Hid _:=HW.out
     clear ff hn hR1 hQ0 hR0 HK HG HW
     go_wp2_with fail
     clear em eq0 er0 eqn ern ep es F2
     obtain ⟨V,hV⟩:∃ V,V=wr:=⟨_,rfl⟩
     rw [<-hV] at HW0 ⊢
     clear hV
     go_loopw [18,16] (fun a b wr=>∃ q r:Int,a=.int .u64 q/\b=.int .u64 r/\Hid (Fit n Z0 Y q r)/\Hid (wr=V)) (fun a _ _=>(intOf a).toNat)
     case atStart=>exact ⟨Q0,R0,rfl,rfl,HF.out,rfl⟩
     case round =>
      obtain ⟨q,r,rfl,rfl,HG,HW⟩:=hrel
      obtain ⟨qn,eqn⟩:∃ z,IntKind.u64.wrap (q-1)=z:=⟨_,rfl⟩
      obtain ⟨rn,ern⟩:∃ z,IntKind.u64.wrap (r+(Y1:Int))=z:=⟨_,rfl⟩
      obtain ⟨p,ep⟩:∃ z,IntKind.u64.wrap (q*(Y0:Int))=z:=⟨_,rfl⟩
      obtain ⟨sm,es⟩:∃ z,IntKind.u64.wrap (IntKind.u64.wrap (4294967296*r)+(Z0:Int))=z:=⟨_,rfl⟩
      have HL1:Hid _:=fun c=>fit_less HK2.out HG.out eqn ern ep es c
      have HL2:Hid _:=fun c0 c=>fit_right HK2.out HG.out ep es c0 c
      by_cases c1:4294967296<=q
      ·have F:Hid _:=HL1.out (Or.inl c1)
       clear HL1 HL2
       by_cases c3:rn<4294967296
       ·have F2:Hid _:=F.out.1 c3
        clear F
        go_wp2_with fail
        exact ⟨⟨qn,rn,rfl,rfl,F2.out.1,HW⟩,by simp only [intOf];exact F2.out.2⟩
       ·have F2:Hid _:=F.out.2 (by omega)
        clear F
        have em:=fit_left HK2.out F2.out
        rw [<-HR1.out] at em
        obtain ⟨E,hE⟩:∃ z:Int,z=((dr n Z0 Y:Nat):Int):=⟨_,rfl⟩
        rw [<-hE] at em
        have HE:Hid _:=hE
        clear hE
        go_wp2_with fail
        go_ret2
        refine ⟨ret2b ?_,HW.out.trans HW0.out⟩
        rw [HE.out]
        exact div_end HD.out HL.out.2.1 HN.out
      ·by_cases c2:sm<p
       ·have F:Hid _:=HL1.out (Or.inr ⟨by omega,c2⟩)
        clear HL1 HL2
        by_cases c3:rn<4294967296
        ·have F2:Hid _:=F.out.1 c3
         clear F
         go_wp2_with fail
         exact ⟨⟨qn,rn,rfl,rfl,F2.out.1,HW⟩,by simp only [intOf];exact F2.out.2⟩
        ·have F2:Hid _:=F.out.2 (by omega)
         clear F
         have em:=fit_left HK2.out F2.out
         rw [<-HR1.out] at em
         obtain ⟨E,hE⟩:∃ z:Int,z=((dr n Z0 Y:Nat):Int):=⟨_,rfl⟩
         rw [<-hE] at em
         have HE:Hid _:=hE
         clear hE
         go_wp2_with fail
         go_ret2
         refine ⟨ret2b ?_,HW.out.trans HW0.out⟩
         rw [HE.out]
         exact div_end HD.out HL.out.2.1 HN.out
       ·have F2:Hid _:=HL2.out (by omega) (by omega)
        clear HL1 HL2
        have em:=fit_left HK2.out F2.out
        rw [<-HR1.out] at em
        obtain ⟨E,hE⟩:∃ z:Int,z=((dr n Z0 Y:Nat):Int):=⟨_,rfl⟩
        rw [<-hE] at em
        have HE:Hid _:=hE
        clear hE
        go_wp2_with fail
        go_ret2
        refine ⟨ret2b ?_,HW.out.trans HW0.out⟩
        rw [HE.out]
        exact div_end HD.out HL.out.2.1 HN.out
   ·have F2:Hid _:=HL2.out (by omega) (by omega)
    clear HL1 HL2
    have em:=fit_left HK.out F2.out
    obtain ⟨n,hn⟩:∃ n,n=dr U Z1 Y:=⟨_,rfl⟩
    have HN:Hid _:=hn
    have HK2:Hid (DivK n Z0 Y Y1 Y0):=by rw [hn];exact second HK.out (by have:=HD.out.z0;omega)
    rw [<-hn] at em
    obtain ⟨R1,hR1⟩:∃ z:Int,z=(n:Int):=⟨_,rfl⟩
    rw [<-hR1] at em
    have qf:=quo_first (n:=n) (Y1:=Y1) (by have:=HK2.out.hu;have:=HK2.out.h2;omega)
    have ff:=fit_first HK2.out
    obtain ⟨Q0,hQ0⟩:∃ z:Int,z=((n/Y1:Nat):Int):=⟨_,rfl⟩
    obtain ⟨R0,hR0⟩:∃ z:Int,z=((n-n/Y1*Y1:Nat):Int):=⟨_,rfl⟩
    rw [<-hR1,<-hQ0,<-hR0] at qf
    rw [<-hQ0,<-hR0] at ff
    obtain ⟨eq0,er0⟩:=qf
    have HF:Hid (Fit n Z0 Y Q0 R0):=ff
    have HR1:Hid _:=hR1
    have HW0:Hid _:=HW.out
    clear ff hn hR1 hQ0 hR0 HK HG HW
    go_wp2_with fail
    clear em eq0 er0 eqn ern ep es F2
    obtain ⟨V,hV⟩:∃ V,V=wr:=⟨_,rfl⟩
    rw [<-hV] at HW0 ⊢
    clear hV
    go_loopw [18,16] (fun a b wr=>∃ q r:Int,a=.int .u64 q/\b=.int .u64 r/\Hid (Fit n Z0 Y q r)/\Hid (wr=V)) (fun a _ _=>(intOf a).toNat)
    case atStart=>exact ⟨Q0,R0,rfl,rfl,HF.out,rfl⟩
    case round =>
     obtain ⟨q,r,rfl,rfl,HG,HW⟩:=hrel
     obtain ⟨qn,eqn⟩:∃ z,IntKind.u64.wrap (q-1)=z:=⟨_,rfl⟩
     obtain ⟨rn,ern⟩:∃ z,IntKind.u64.wrap (r+(Y1:Int))=z:=⟨_,rfl⟩
     obtain ⟨p,ep⟩:∃ z,IntKind.u64.wrap (q*(Y0:Int))=z:=⟨_,rfl⟩
     obtain ⟨sm,es⟩:∃ z,IntKind.u64.wrap (IntKind.u64.wrap (4294967296*r)+(Z0:Int))=z:=⟨_,rfl⟩
     have HL1:Hid _:=fun c=>fit_less HK2.out HG.out eqn ern ep es c
     have HL2:Hid _:=fun c0 c=>fit_right HK2.out HG.out ep es c0 c
     by_cases c1:4294967296<=q
     ·have F:Hid _:=HL1.out (Or.inl c1)
      clear HL1 HL2
      by_cases c3:rn<4294967296
      ·have F2:Hid _:=F.out.1 c3
       clear F
       go_wp2_with fail
       exact ⟨⟨qn,rn,rfl,rfl,F2.out.1,HW⟩,by simp only [intOf];exact F2.out.2⟩
      ·have F2:Hid _:=F.out.2 (by omega)
       clear F
       have em:=fit_left HK2.out F2.out
       rw [<-HR1.out] at em
       obtain ⟨E,hE⟩:∃ z:Int,z=((dr n Z0 Y:Nat):Int):=⟨_,rfl⟩
       rw [<-hE] at em
       have HE:Hid _:=hE
       clear hE
       go_wp2_with fail
       go_ret2
       refine ⟨ret2b ?_,HW.out.trans HW0.out⟩
       rw [HE.out]
       exact div_end HD.out HL.out.2.1 HN.out
     ·by_cases c2:sm<p
      ·have F:Hid _:=HL1.out (Or.inr ⟨by omega,c2⟩)
       clear HL1 HL2
       by_cases c3:rn<4294967296
       ·have F2:Hid _:=F.out.1 c3
        clear F
        go_wp2_with fail
        exact ⟨⟨qn,rn,rfl,rfl,F2.out.1,HW⟩,by simp only [intOf];exact F2.out.2⟩
       ·have F2:Hid _:=F.out.2 (by omega)
        clear F
        have em:=fit_left HK2.out F2.out
        rw [<-HR1.out] at em
        obtain ⟨E,hE⟩:∃ z:Int,z=((dr n Z0 Y:Nat):Int):=⟨_,rfl⟩
        rw [<-hE] at em
        have HE:Hid _:=hE
        clear hE
        go_wp2_with fail
        go_ret2
        refine ⟨ret2b ?_,HW.out.trans HW0.out⟩
        rw [HE.out]
        exact div_end HD.out HL.out.2.1 HN.out
      ·have F2:Hid _:=HL2.out (by omega) (by omega)
       clear HL1 HL2
       have em:=fit_left HK2.out F2.out
       rw [<-HR1.out] at em
       obtain ⟨E,hE⟩:∃ z:Int,z=((dr n Z0 Y:Nat):Int):=⟨_,rfl⟩
       rw [<-hE] at em
       have HE:Hid _:=hE
       clear hE
       go_wp2_with fail
       go_ret2
       refine ⟨ret2b ?_,HW.out.trans HW0.out⟩
       rw [HE.out]
       exact div_end HD.out HL.out.2.1 HN.out
end Go.Proofs.YtnjmjnmhldhaoaaGreat
namespace Go.Proofs.YtnjmjnmhldhaoaaGreat
open Go.RowKit Go.Shelf
set_option maxRecDepth 100000 in
theorem div64_zero (lo y:Nat) (hy:0<y) (w0 w:World) (hok:Ok w0 w) :
  Calls Tryz.prog 251 #[.int .u64 0,.int .u64 (lo:Int),.int .u64 (y:Int)] w fun e w'=>(∃ q:Int,e=.returned (.tuple #[.int .u64 q,.int .u64 ((lo%y:Nat):Int)]))/\Ok w0 w':=by
 have e1:((y:Int)==0)=false:=by simp;omega
 have e2:¬(y:Int)<=0:=by omega
 have e5:¬(y:Int)=0:=by omega
 have E:Hid ((lo:Int)%(y:Int)=((lo%y:Nat):Int)):=(Int.natCast_emod _ _).symm
 clear hy
 go_enter Tryz.func251,Tryz.ntmps251
 go_wp2_with fail
 go_quiet (fail)
 go_wp2_with fail
 go_ret2
 exact ⟨ret2b E.out,by repeat (first | exact hok | refine Ok.draws ?_ _ | refine Below.drew ?_)⟩
theorem rem_mod (hi lo y:Nat):(hi%y*18446744073709551616+lo)%y=(hi*18446744073709551616+lo)%y:=by
 rw [Nat.add_mod,Nat.mul_mod,Nat.mod_mod,<-Nat.mul_mod,<-Nat.add_mod]
theorem div64_all (hi lo y:Nat) (hhi:hi<y) (hlo:lo<18446744073709551616) (hy:y<18446744073709551616) (w0 w:World) (hok:Ok w0 w) :
  Calls Tryz.prog 251 #[.int .u64 (hi:Int),.int .u64 (lo:Int),.int .u64 (y:Int)] w fun e w'=>(∃ q:Int,e=.returned (.tuple #[.int .u64 q,.int .u64 (((hi*18446744073709551616+lo)%y:Nat):Int)]))/\Ok w0 w':=by
 by_cases h:hi=0
 ·subst h
  have:=div64_zero lo y hhi w0 w hok
  rw [Nat.zero_mul,Nat.zero_add]
  exact this
 ·refine (div64_any hi lo y hhi (by omega) hlo hy w).mono ?_
  rintro e w' ⟨h,rfl⟩
  exact ⟨h,hok⟩
theorem rem64_any (hi lo y:Nat) (h0:0<y) (hlo:lo<18446744073709551616) (hy:y<18446744073709551616) (w0 w:World) (hok:Ok w0 w) :
  Calls Tryz.prog 220 #[.int .u64 (hi:Int),.int .u64 (lo:Int),.int .u64 (y:Int)] w fun e w'=>e=.returned (.int .u64 (((hi*18446744073709551616+lo)%y:Nat):Int))/\Ok w0 w':=by
 rw [<-rem_mod]
 have e1:((y:Int)==0)=false:=by simp;omega
 have e2:¬(y:Int)=0:=by omega
 have HL:Hid _:=And.intro (Nat.mod_lt hi h0) (And.intro hlo hy)
 obtain ⟨m,hm⟩:∃ m,m=hi%y:=⟨_,rfl⟩
 rw [<-hm] at HL ⊢
 have e3:(hi:Int)%(y:Int)=(m:Int):=by rw [hm,Int.natCast_emod]
 obtain ⟨k,hk⟩:∃ k,k=(m*18446744073709551616+lo)%y:=⟨_,rfl⟩
 have HK:Hid _:=hk
 rw [<-hk]
 clear hm h0 hlo hy hk
 go_enter Tryz.func220,Tryz.ntmps220
 go_wp2_with fail
 refine (div64_all m lo y HL.out.1 HL.out.2.1 HL.out.2.2 w0 _ hok).mono ?_
 rintro e w' ⟨⟨q,rfl⟩,hb⟩
 rw [<-HK.out]
 go_wp2_with fail
 go_ret
 exact ⟨rfl,hb⟩
def laysM_ren:Go.Shelf.Ren:=⟨fun | 264=>221 | n=>n,fun | 53=>25 | 46=>81 | n=>n,fun | n=>n⟩
theorem laysMul:Go.Proofs.Lays.n264 Tryz.prog laysM_ren:={
 mixed:=by kernel_rfl
 f264:=Tryz.func221.trans (congrArg some (by kernel_rfl))
 t46:=Tryz.underlying81
 a46:=Tryz.isAgg81
 z46:=Tryz.sizeOf81
 v46:=Tryz.zeroValue81
 t53:=Tryz.underlying25
 a53:=Tryz.isAgg25
 z53:=Tryz.sizeOf25
 v53:=Tryz.zeroValue25 }
theorem infoWd:(Tryz.prog.info? 173).map (·.size)=some 2:=by kernel_rfl
theorem hiB_nat (n:Nat):hiB n=((n/18446744073709551616:Nat):Int):=rfl
theorem loB_nat (n:Nat):loB n=((n%18446744073709551616:Nat):Int):=rfl
theorem pproduct_ex (x y:Nat) (hx:U64 x) (hy:U64 y) (w:World) :
  Calls Tryz.prog 196 #[.int .u64 (x:Int),.int .u64 (y:Int)] w fun e w'=>e=.returned (bv (x*y))/\w'=w.alloc (.cells #[.int .u64 (hiB (x*y)),.int .u64 (loB (x*y))] 173):=by
 have HX:Hid _:=And.intro hx hy
 clear hx hy
 unfold bv
 rw [hiB_nat,loB_nat]
 go_enter Tryz.func196,Tryz.ntmps196
 go_wp2_with (first | (go_at_call 221;refine (Any.bits_Mul64 laysMul x y HX.out.1 HX.out.2 _).mono ?_;rintro e w' ⟨rfl,rfl⟩) | fail)
 (try simp only [Exit.inBlock, Exit.then]); refine bodyPost_ret (results_cell_row rfl _ _ (w.heap.size) 173 #[_, _] (0, 0) _ rfl jj Tryz.underlying173 rfl infoWd) rfl ?_
 exact ⟨rfl,rfl⟩
theorem ptimes_any (x y m:Nat) (hx:U64 x) (hy:U64 y) (h0:0<m) (hm:U64 m) (w0 w:World) (hok:Ok w0 w) :
  Calls Tryz.prog 193 #[.int .u64 (x:Int),.int .u64 (y:Int),.int .u64 (m:Int)] w fun e w'=>e=.returned (.int .u64 ((x*y%m:Nat):Int))/\Ok w0 w':=by
 have HX:Hid _:=And.intro hx (And.intro hy (And.intro h0 hm))
 have HH:Hid (x*y/18446744073709551616*18446744073709551616+x*y%18446744073709551616=x*y):=by unfold Hid;omega
 obtain ⟨h,hh⟩:∃ h,h=x*y/18446744073709551616:=⟨_,rfl⟩
 obtain ⟨l,hl⟩:∃ l,l=x*y%18446744073709551616:=⟨_,rfl⟩
 have HB:Hid (hiB (x*y)=(h:Int)/\loB (x*y)=(l:Int)/\l<18446744073709551616):=by unfold Hid;rw [hiB_nat,loB_nat,<-hh,<-hl];exact ⟨rfl,rfl,by omega⟩
 rw [<-hh,<-hl] at HH
 rw [<-HH.out]
 obtain ⟨k,hk⟩:∃ k,k=(h*18446744073709551616+l)%m:=⟨_,rfl⟩
 have HK:Hid _:=hk
 rw [<-hk]
 clear hx hy h0 hm hh hl hk
 go_enter Tryz.func193,Tryz.ntmps193
 go_wp2_with (first | (go_at_call 196;refine (pproduct_ex x y HX.out.1 HX.out.2.1 _).mono ?_;rintro e w' ⟨rfl,rfl⟩;unfold bv;rw [HB.out.1,HB.out.2.1]) | (go_at_call 220;refine (rem64_any h l m HX.out.2.2.1 HB.out.2.2 HX.out.2.2.2 w0 _ (by repeat (first | exact hok | refine Ok.alloc ?_ _ | refine Ok.draws ?_ _ | fail))).mono ?_;rintro e w' ⟨rfl,hb⟩;rw [<-HK.out]) | fail)
 go_ret
 exact ⟨rfl,hb⟩
theorem wbv (n:Nat) (hn:Big n):∃ h l:Nat,hiB n=(h:Int)/\loB n=(l:Int)/\h<18446744073709551616/\l<18446744073709551616/\n=h*18446744073709551616+l :=
 ⟨n/18446744073709551616,n%18446744073709551616,rfl,rfl,by unfold Big at hn;omega,by omega,by omega⟩
theorem add64_law (x y:Nat) (hx:x<18446744073709551616) (hy:y<18446744073709551616) (w:World) :
  (callFunc 166 #[.int .u64 (x:Int),.int .u64 (y:Int),.int .u64 0]).run Tryz.prog w =
   .ok (.value (.tuple #[.int .u64 (((x+y)%18446744073709551616:Nat):Int),.int .u64 (((x+y)/18446744073709551616:Nat):Int)])) w:=by
 rw [run_callFunc_extern Tryz.func166 (by kernel_rfl) (by kernel_rfl) (by kernel_rfl) (e:=add64Entry) (by kernel_rfl),run_add64 _ _ _ (by omega) (by omega) (by omega) (by omega)]
 simp only [Result.andThen,Int.add_zero]
 congr 1
theorem sub64_law (x y:Nat) (hy:y<18446744073709551616) (w:World) :
  (callFunc 222 #[.int .u64 (x:Int),.int .u64 (y:Int),.int .u64 0]).run Tryz.prog w =
   .ok (.value (.tuple #[.int .u64 (((x+18446744073709551616-y)%18446744073709551616:Nat):Int),.int .u64 ((if x<y then 1 else 0:Nat):Int)])) w:=by
 rw [run_callFunc_extern Tryz.func222 (by kernel_rfl) (by kernel_rfl) (by kernel_rfl) (e:=sub64Entry) (by kernel_rfl)]
 rw [show (Value.int .u64 0)=.int .u64 ((0:Nat):Int) from rfl,run_sub64 x y 0 (by omega)]
 simp only [Result.andThen,Nat.add_zero]
 rfl
theorem pwplus_any (a b:Nat) (ha:Big a) (hb:Big b) (hs:Big (a+b)) (w0 w:World) (hok:Ok w0 w) :
  Calls Tryz.prog 195 #[bv a,bv b] w fun e w'=>e=.returned (bv (a+b))/\Ok w0 w':=by
 obtain ⟨h1,l1,e1,e2,b1,b2,e3⟩:=wbv a ha
 obtain ⟨h2,l2,e4,e5,b3,b4,e6⟩:=wbv b hb
 have A:=add64_law l1 l2 b2 b4
 obtain ⟨lo,hlo⟩:∃ z,z=(l1+l2)%18446744073709551616:=⟨_,rfl⟩
 obtain ⟨c,hc⟩:∃ z,z=(l1+l2)/18446744073709551616:=⟨_,rfl⟩
 rw [<-hlo,<-hc] at A
 have E:Hid (hiB (a+b)=IntKind.u64.wrap (IntKind.u64.wrap ((h1:Int)+h2)+c)/\loB (a+b)=(lo:Int)):=by
  unfold Big at hs
  refine ⟨?_,?_⟩
  ·simp only [u64w,hiB_nat];omega
  ·rw [loB_nat];omega
 unfold bv
 rw [e1,e2,e4,e5]
 clear e1 e2 e3 e4 e5 e6 b1 b2 b3 b4 ha hb hs hlo hc
 go_enter Tryz.func195,Tryz.ntmps195
 go_wp2_with (first | simp only [A] | fail)
 (try simp only [Exit.inBlock, Exit.then]); refine bodyPost_ret (results_cell_row rfl _ _ (w.heap.size+2) 173 #[_, _] (0, 0) _ rfl jj Tryz.underlying173 rfl infoWd) rfl ?_
 rw [E.out.1,E.out.2]
 exact ⟨rfl,(by repeat (first | exact hok | refine Ok.alloc ?_ _ | refine Ok.draws ?_ _ | fail))⟩
theorem pwminus_any (a b:Nat) (ha:Big a) (hb:Big b) (hs:b<=a) (w0 w:World) (hok:Ok w0 w) :
  Calls Tryz.prog 197 #[bv a,bv b] w fun e w'=>e=.returned (bv (a-b))/\Ok w0 w':=by
 obtain ⟨h1,l1,e1,e2,b1,b2,e3⟩:=wbv a ha
 obtain ⟨h2,l2,e4,e5,b3,b4,e6⟩:=wbv b hb
 have A:=sub64_law l1 l2 b4
 obtain ⟨lo,hlo⟩:∃ z,z=(l1+18446744073709551616-l2)%18446744073709551616:=⟨_,rfl⟩
 obtain ⟨c,hc⟩:∃ z:Nat,z=(if l1<l2 then 1 else 0):=⟨_,rfl⟩
 rw [<-hlo,<-hc] at A
 have E:Hid (hiB (a-b)=IntKind.u64.wrap (IntKind.u64.wrap ((h1:Int)-h2)-c)/\loB (a-b)=(lo:Int)):=by
  refine ⟨?_,?_⟩
  ·simp only [u64w,hiB_nat]
   split at hc<;>omega
  ·rw [loB_nat];omega
 unfold bv
 rw [e1,e2,e4,e5]
 clear e1 e2 e3 e4 e5 e6 b1 b2 b3 b4 ha hb hs hlo hc
 go_enter Tryz.func197,Tryz.ntmps197
 go_wp2_with (first | simp only [A] | fail)
 (try simp only [Exit.inBlock, Exit.then]); refine bodyPost_ret (results_cell_row rfl _ _ (w.heap.size+2) 173 #[_, _] (0, 0) _ rfl jj Tryz.underlying173 rfl infoWd) rfl ?_
 rw [E.out.1,E.out.2]
 exact ⟨rfl,(by repeat (first | exact hok | refine Ok.alloc ?_ _ | refine Ok.draws ?_ _ | fail))⟩
theorem two_low (n:Nat):twoN n=twoN (n%18446744073709551616):=by
 have h:∀ i,i<63->n%18446744073709551616/2 ^ i%2=n/2 ^ i%2:=by
  intro i hi
  have a:=Nat.testBit_mod_two_pow n 64 i
  rw [Nat.testBit_eq_decide_div_mod_eq,Nat.testBit_eq_decide_div_mod_eq,decide_eq_true (show i<64 by omega),Bool.true_and,decide_eq_decide] at a
  have e:(18446744073709551616:Nat)=2 ^ 64:=rfl
  rw [e]
  omega
 by_cases c:∃ i,i<63/\n/2 ^ i%2=1
 ·obtain ⟨i,hi,h1⟩:=c
  obtain ⟨k,hk,h2,h3⟩:∃ k,k<63/\n/2 ^ k%2=1/\∀ j,j<k->n/2 ^ j%2=0:=by
   induction i using Nat.strongRecOn with
   | _ i ih =>
    by_cases d:∃ j,j<i/\n/2 ^ j%2=1
    ·obtain ⟨j,hj,h4⟩:=d
     exact ih j hj (by omega) h4
    ·exact ⟨i,hi,h1,fun j hj=>by
      have:¬n/2 ^ j%2=1:=fun e=>d ⟨j,hj,e⟩
      omega⟩
  rw [twoN_at hk h2 h3,twoN_at hk (by rw [h k hk];exact h2) (fun j hj=>by rw [h j (by omega)];exact h3 j hj)]
 ·have h0:∀ j,j<63->n/2 ^ j%2=0:=fun j hj=>by
   have:¬n/2 ^ j%2=1:=fun e=>c ⟨j,hj,e⟩
   omega
  rw [twoN_none h0,twoN_none (fun j hj=>by rw [h j hj];exact h0 j hj)]
theorem two_zero:twoN 0=9223372036854775808:=twoN_none (fun j _=>by simp)
theorem ppower_any (n:Nat) (w0 w:World) (hok:Ok w0 w) :
  Calls Tryz.prog 236 #[bv n] w fun e w'=>e=.returned (.int .u64 (twoN n:Int))/\Ok w0 w':=by
 rw [two_low]
 unfold bv
 rw [loB_nat]
 have hl:n%18446744073709551616<18446744073709551616:=Nat.mod_lt _ (by omega)
 generalize n%18446744073709551616=l at *
 generalize hiB n=h
 by_cases h0:l=0
 ·subst h0
  have E:Hid _:=two_zero
  clear hl
  go_enter Tryz.func236,Tryz.ntmps236
  go_wp2_with fail
  go_ret
  exact ⟨ret1 (by rw [E.out];rfl),(by repeat (first | exact hok | refine Ok.alloc ?_ _ | refine Ok.draws ?_ _ | fail))⟩
 ·have h1:((l:Int)==0)=false:=by simpa using h0
  have h2:¬(l:Int)=0:=by omega
  have HP:Hid _:=And.intro (show 0<l by omega) hl
  clear hl h0
  go_enter Tryz.func236,Tryz.ntmps236
  go_wp2_with (first | (go_at_call 216;refine (weven_any l HP.out.1 HP.out.2 _).mono ?_;rintro e w' ⟨rfl,rfl⟩) | fail)
  go_ret
  exact ⟨rfl,(by repeat (first | exact hok | refine Ok.alloc ?_ _ | refine Ok.draws ?_ _ | fail))⟩
end Go.Proofs.YtnjmjnmhldhaoaaGreat
