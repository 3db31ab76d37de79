import Derived.Test.YtnjmjnmhldhaoaaGreatKCmm
import Derived.Test.YtnjmjnmhldhaoaaGreatKCpart
set_option maxHeartbeats 8000000
set_option linter.all false
namespace Go.Proofs.YtnjmjnmhldhaoaaGreat
section
open Go.RowKit
set_option maxRecDepth 100000 in
theorem bparted_bigB (a m:Nat) (hm:0<m) (ha:Big a) (hmB:Big m) (hc:¬m<18446744073709551616) (hs:a<18446744073709551616) (w0 w:World) (hok:Ok w0 w) :
  Calls Tryz.prog 125 #[bv a,bv m] w fun e w'=>e=.returned (.tuple #[bv (a/m),bv (a%m)])/\Ok w0 w':=by
 have h1:(hiB m==0)=false:=by unfold hiB;simp;omega
 have ea:hiB a=0:=(big_small hs).1
 have HH:Hid _:=And.intro ha (And.intro hmB hm)
 have hle:=hok.le
 clear ha hmB hm hc hs
 unfold bv
 go_enter Tryz.func125,Tryz.ntmps125
 go_wp2_with fail
 obtain ⟨W,hW⟩:∃ W,W=(((((w.alloc (.cells #[.int .u64 0,.int .u64 (loB a)] 75)).alloc (.cells #[.int .u64 (hiB m),.int .u64 (loB m)] 75)).alloc (.cells #[.int .u64 0,.int .u64 0] 75)).alloc (.cells #[.int .u64 0,.int .u64 0] 75)).alloc (.cells #[.int .u64 0,.int .u64 0] 75)).alloc (.cells #[.int .u64 0,.int .u64 0] 75):=⟨_,rfl⟩
 have HI:Hid (PartInv w0 w W a m 0 0):=by
  unfold Hid PartInv
  rw [cB_zero,hW]
  refine ⟨(by repeat (first | exact hok | refine Ok.alloc ?_ _ | refine Ok.draws ?_ _ | fail)),by simp,?_,?_,?_,?_,?_,?_⟩
  ·unfold cB;rw [ea];exact jj
  ·unfold cB;exact jj
  ·exact jj
  ·exact jj
  ·exact jj
  ·exact jj
 rw [<-hW]
 clear hW hok ea
 go_loopw [8] (fun i wr=>∃ k:Nat,k<=128/\i=.int .i64 ((k:Int)-1)/\Hid (PartInv w0 w wr a m (a/2 ^ k/m) (a/2 ^ k%m))) (fun i _=>(intOf i+1).toNat)
 case atStart =>
  refine ⟨128,by omega,rfl,?_⟩
  have e:a/2 ^ 128=0:=Nat.div_eq_of_lt HH.out.1
  unfold Hid
  rw [e,Nat.zero_div,Nat.zero_mod]
  exact HI.out
 case round =>
  clear HI
  obtain ⟨k,hk,rfl,HP⟩:=hrel
  by_cases hk0:k=0
  ·subst hk0
   have e:a/2 ^ 0=a:=by simp
   rw [e] at HP
   clear e
   obtain ⟨_,p2,_,_,p5,p6,p7,p8⟩:=HP.out
   obtain ⟨q0,q1,_,_⟩:=cB_facts p7
   obtain ⟨t0,t1,_,_⟩:=cB_facts p8
   obtain ⟨k0,k1,k2,k3⟩:=cB_facts p5
   obtain ⟨l0,l1,l2,l3⟩:=cB_facts p6
   have HS:Hid _:=row_set4 p5 p6 (show w.heap.size+2≠w.heap.size+3 by omega) (.int .u64 (hiB (a/m))) (.int .u64 (loB (a/m))) (.int .u64 (hiB (a%m))) (.int .u64 (loB (a%m)))
   clear p2 p5 p6 p7 p8
   go_wp2_with fail
   have n1:¬w.heap.size+2=w.heap.size+4:=by omega
   have n2:¬w.heap.size+2=w.heap.size+5:=by omega
   have n3:¬w.heap.size+3=w.heap.size+4:=by omega
   have n4:¬w.heap.size+3=w.heap.size+5:=by omega
   go_region_held3 (fun w'=>w'.cell? ⟨w.heap.size+4,0,none⟩=some (.int .u64 (hiB (a/m)))/\w'.cell? ⟨w.heap.size+4,1,none⟩=some (.int .u64 (loB (a/m)))/\w'.cell? ⟨w.heap.size+5,0,none⟩=some (.int .u64 (hiB (a%m)))/\w'.cell? ⟨w.heap.size+5,1,none⟩=some (.int .u64 (loB (a%m)))) (go_keep) (fail)
   go_wp2_with fail
   (try simp only [Exit.inBlock,Exit.then])
   refine bodyPost_ret (results_2c rfl _ _ (w.heap.size+2) (w.heap.size+3) 75 #[_,_] #[_,_] (0,0) _ rfl rfl HS.out.1 HS.out.2 Tryz.underlying75 rfl infoBg infoBg) rfl ?_
   exact ⟨rfl,Ok.draws ((((HP.out.1.set (show w0.heap.size<=w.heap.size+2 by omega) _).set (show w0.heap.size<=w.heap.size+2 by omega) _).set (show w0.heap.size<=w.heap.size+3 by omega) _).set (show w0.heap.size<=w.heap.size+3 by omega) _) 1⟩
  ·obtain ⟨j,rfl⟩:∃ j,k=j+1:=⟨k-1,by omega⟩
   have hj:j<128:=by omega
   have ej:(((j+1:Nat):Int)-1)=(j:Int):=by omega
   rw [ej]
   clear ej hk0 hk
   obtain ⟨Q,hQ⟩:∃ Q,Q=a/2 ^ (j+1)/m:=⟨_,rfl⟩
   obtain ⟨R,hR⟩:∃ R,R=a/2 ^ (j+1)%m:=⟨_,rfl⟩
   obtain ⟨bt,hbt⟩:∃ bt,bt=a/2 ^ j%2:=⟨_,rfl⟩
   rw [<-hQ,<-hR] at HP
   have hb2:bt<2:=by omega
   have HST:Hid _:=part_step (A:=a/2 ^ (j+1)) (m:=m) (b:=bt) HH.out.2.2 hb2
   have HB:Hid (a/2 ^ j=2*(a/2 ^ (j+1))+bt):=by unfold Hid;rw [hbt];exact bit_step a j
   rw [<-hQ,<-hR,<-HB.out] at HST
   have HRM:Hid (R<m):=by unfold Hid;rw [hR];exact Nat.mod_lt _ HH.out.2.2
   have HQ2:Hid (Big (2*Q)):=by
    unfold Hid Big;rw [hQ]
    have e1:a/2 ^ (j+1)/m<=a/2 ^ (j+1):=Nat.div_le_self _ _
    have e2:2*(a/2 ^ (j+1))<=a/2 ^ j:=by have:=HB.out;omega
    have e3:a/2 ^ j<=a:=Nat.div_le_self _ _
    have:=HH.out.1;unfold Big at this;omega
   have hRB:Big R:=by have:=HH.out.2.1;have:=HRM.out;unfold Big at *;omega
   have hQB:Big Q:=by have:=HQ2.out;unfold Big at *;omega
   have HBT:Hid _:=hbt
   clear hQ hR hbt HB
   obtain ⟨_,p2,p3,p4,p5,p6,p7,p8⟩:=HP.out
   obtain ⟨a0,a1,_,_⟩:=cB_facts p3
   obtain ⟨r0,r1,r2,r3⟩:=cB_facts p8
   have z0:=lt_row p3
   have z1:=lt_row p8
   have bz:Ok wr wr:=Ok.refl _
   have HR8:Hid _:=p8
   clear p2 p3 p4 p5 p6 p7 p8
   go_wp2_with fail
   go_region_with (first
    | (go_at_call 177;refine (bbit_any a j HH.out.1 hj wr _ (by repeat (first | assumption | refine Ok.alloc ?_ _ | refine Below.drew ?_))).mono ?_;rintro e w' ⟨rfl,hb⟩;rw [<-HBT.out];have q0:=Ok.cell hb z1 r0;have q1:=Ok.cell hb z1 r1;have q2:=Ok.cell hb z0 a0;have q3:=Ok.cell hb z0 a1)
    | (go_at_call 176;refine (btwice_any R bt hRB hb2 wr _ (by repeat (first | assumption | refine Ok.alloc ?_ _ | refine Below.drew ?_))).mono ?_;rintro e w' ⟨rfl,hb⟩;unfold bv;obtain ⟨s0,s1,s2,s3⟩:=cB_facts (Ok.row' hb HR8.out))
    | fail)
   all_goals
    have HP1:Hid (PartInv w0 w ((w'.setCell ⟨w.heap.size+1+1+1+1+1,0,none⟩ (.int .u64 (hiB ((2*R+bt)%340282366920938463463374607431768211456)))).setCell ⟨w.heap.size+1+1+1+1+1,1,none⟩ (.int .u64 (loB ((2*R+bt)%340282366920938463463374607431768211456)))) a m Q ((2*R+bt)%340282366920938463463374607431768211456)):=(HP.out.below hb).setR hle _ _ _ rfl rfl
    obtain ⟨X,hX⟩:∃ X,X=(w'.setCell ⟨w.heap.size+1+1+1+1+1,0,none⟩ (.int .u64 (hiB ((2*R+bt)%340282366920938463463374607431768211456)))).setCell ⟨w.heap.size+1+1+1+1+1,1,none⟩ (.int .u64 (loB ((2*R+bt)%340282366920938463463374607431768211456))):=⟨_,rfl⟩
    rw [<-hX] at HP1 ⊢
    clear hX
    obtain ⟨N,hN⟩:∃ N,N=(2*R+bt)%340282366920938463463374607431768211456:=⟨_,rfl⟩
    rw [<-hN] at HP1
    try rw [<-hN]
    have HN:Hid _:=hN
    have hNB:Big N:=by rw [hN];unfold Big;omega
    clear hN HP HR8 z0 z1
    obtain ⟨_,_,_,x4,_,_,x7,x8⟩:=HP1.out
    obtain ⟨y0,y1,y2,y3⟩:=cB_facts x7
    clear x4 x7 x8
    by_cases hC:340282366920938463463374607431768211456<=2*R+bt
    ·have HE1:Hid (subB N m=2*R+bt-m):=by
      have e1:=HN.out;have e2:=HRM.out;have e3:=HH.out.2.1;unfold Big at e3;unfold Hid subB;omega
     have HE2:Hid (a/2 ^ j/m=2*Q+1/\a/2 ^ j%m=2*R+bt-m):=HST.out.1 (by have e3:=HH.out.2.1;unfold Big at e3;omega)
     have dC:decide (340282366920938463463374607431768211456<=2*R+bt)=true:=decide_eq_true hC
     rw [dC]
     clear hC dC
     go_wp2_with fail
     refine (btwice0 Q hQB HQ2.out X X (Ok.refl _)).mono ?_
     rintro e w4 ⟨rfl,hb4⟩
     have HP2:Hid (PartInv w0 w w4 a m Q N):=HP1.out.below hb4
     unfold bv
     obtain ⟨_,_,_,x4,_,_,x7,x8⟩:=HP2.out
     obtain ⟨b0,b1,b2,b3⟩:=cB_facts x7
     obtain ⟨c0,c1,c2,c3⟩:=cB_facts x4
     obtain ⟨d0,d1,d2,d3⟩:=cB_facts x8
     clear x4 x7 x8 y0 y1 y2 y3
     go_wp2_with fail
     have HP3:Hid (PartInv w0 w ((w4.setCell ⟨w.heap.size+1+1+1+1,0,none⟩ (.int .u64 (hiB (2*Q)))).setCell ⟨w.heap.size+1+1+1+1,1,none⟩ (.int .u64 (loB (2*Q)))) a m (2*Q) N):=HP2.out.setQ hle _ _ _ rfl rfl
     obtain ⟨Y,hY⟩:∃ Y,Y=((w4.setCell ⟨w.heap.size+1+1+1+1,0,none⟩ (.int .u64 (hiB (2*Q)))).setCell ⟨w.heap.size+1+1+1+1,1,none⟩ (.int .u64 (loB (2*Q)))):=⟨_,rfl⟩
     rw [<-hY] at HP3 ⊢
     clear hY b0 b1 b2 b3 c0 c1 c2 c3 d0 d1 d2 d3 HP2
     refine (bminus_any N m hNB HH.out.2.1 Y Y (Ok.refl _)).mono ?_
     rintro e w6 ⟨rfl,hb6⟩
     have HP5:Hid (PartInv w0 w w6 a m (2*Q) N):=HP3.out.below hb6
     have HP6:Hid (PartInv w0 w ((w6.setCell ⟨w.heap.size+5,0,none⟩ (.int .u64 (hiB (subB N m)))).setCell ⟨w.heap.size+5,1,none⟩ (.int .u64 (loB (subB N m)))) a m (2*Q) (subB N m)):=HP5.out.setR hle _ _ _ rfl rfl
     have HP7:Hid _:=HP6.out.oneQ hle HQ2.out
     obtain ⟨_,_,_,_,_,_,x7,x8⟩:=HP5.out
     obtain ⟨b0,b1,b2,b3⟩:=cB_facts x7
     obtain ⟨d0,d1,d2,d3⟩:=cB_facts x8
     clear x7 x8
     unfold bv
     go_wp2_with fail
     refine ⟨⟨j,by omega,rfl,?_⟩,by simp only [intOf];omega⟩
     unfold Hid
     rw [HE2.out.1,HE2.out.2,<-HE1.out]
     exact HP7.out
    ·have HN2:Hid (N=2*R+bt):=by unfold Hid;rw [HN.out];omega
     have dC:decide (340282366920938463463374607431768211456<=2*R+bt)=false:=decide_eq_false hC
     rw [dC]
     clear hC dC
     go_wp2_with fail
     refine (btwice0 Q hQB HQ2.out X X (Ok.refl _)).mono ?_
     rintro e w4 ⟨rfl,hb4⟩
     have HP2:Hid (PartInv w0 w w4 a m Q N):=HP1.out.below hb4
     unfold bv
     obtain ⟨_,_,_,x4,_,_,x7,x8⟩:=HP2.out
     obtain ⟨b0,b1,b2,b3⟩:=cB_facts x7
     obtain ⟨c0,c1,c2,c3⟩:=cB_facts x4
     obtain ⟨d0,d1,d2,d3⟩:=cB_facts x8
     clear x4 x7 x8 y0 y1 y2 y3
     go_wp2_with fail
     have HP3:Hid (PartInv w0 w ((w4.setCell ⟨w.heap.size+1+1+1+1,0,none⟩ (.int .u64 (hiB (2*Q)))).setCell ⟨w.heap.size+1+1+1+1,1,none⟩ (.int .u64 (loB (2*Q)))) a m (2*Q) N):=HP2.out.setQ hle _ _ _ rfl rfl
     obtain ⟨Y,hY⟩:∃ Y,Y=((w4.setCell ⟨w.heap.size+1+1+1+1,0,none⟩ (.int .u64 (hiB (2*Q)))).setCell ⟨w.heap.size+1+1+1+1,1,none⟩ (.int .u64 (loB (2*Q)))):=⟨_,rfl⟩
     rw [<-hY] at HP3 ⊢
     clear hY b0 b1 b2 b3 c0 c1 c2 c3 d0 d1 d2 d3 HP2
     refine (bless_any N m Y Y (Ok.refl _)).mono ?_
     rintro e w5 ⟨rfl,hb5⟩
     have HP4:Hid (PartInv w0 w w5 a m (2*Q) N):=HP3.out.below hb5
     obtain ⟨_,_,_,x4,_,_,x7,x8⟩:=HP4.out
     obtain ⟨b0,b1,b2,b3⟩:=cB_facts x7
     obtain ⟨c0,c1,c2,c3⟩:=cB_facts x4
     obtain ⟨d0,d1,d2,d3⟩:=cB_facts x8
     clear x4 x7 x8
     by_cases hlt:N<m
     ·have HE2:Hid (a/2 ^ j/m=2*Q/\a/2 ^ j%m=2*R+bt):=HST.out.2 (by have:=HN2.out;omega)
      rw [decide_eq_true hlt]
      clear hlt
      go_wp2_with fail
      refine ⟨⟨j,by omega,rfl,?_⟩,by simp only [intOf];omega⟩
      unfold Hid
      rw [HE2.out.1,HE2.out.2,<-HN2.out]
      exact HP4.out
     ·have HE2:Hid (a/2 ^ j/m=2*Q+1/\a/2 ^ j%m=2*R+bt-m):=HST.out.1 (by have:=HN2.out;omega)
      have HE1:Hid (subB N m=2*R+bt-m):=by unfold Hid;rw [subB_le hNB (by omega),HN2.out]
      rw [decide_eq_false hlt]
      clear hlt
      go_wp2_with fail
      refine (bminus_any N m hNB HH.out.2.1 w5 w5 (Ok.refl _)).mono ?_
      rintro e w6 ⟨rfl,hb6⟩
      have HP5:Hid (PartInv w0 w w6 a m (2*Q) N):=HP4.out.below hb6
      have HP6:Hid (PartInv w0 w ((w6.setCell ⟨w.heap.size+5,0,none⟩ (.int .u64 (hiB (subB N m)))).setCell ⟨w.heap.size+5,1,none⟩ (.int .u64 (loB (subB N m)))) a m (2*Q) (subB N m)):=HP5.out.setR hle _ _ _ rfl rfl
      have HP7:Hid _:=HP6.out.oneQ hle HQ2.out
      obtain ⟨_,_,_,_,_,_,x7,x8⟩:=HP5.out
      obtain ⟨b0,b1,b2,b3⟩:=cB_facts x7
      obtain ⟨d0,d1,d2,d3⟩:=cB_facts x8
      clear x7 x8
      unfold bv
      go_wp2_with fail
      refine ⟨⟨j,by omega,rfl,?_⟩,by simp only [intOf];omega⟩
      unfold Hid
      rw [HE2.out.1,HE2.out.2,<-HE1.out]
      exact HP7.out
theorem bparted_any (a m:Nat) (hm:0<m) (ha:Big a) (hmB:Big m) (w0 w:World) (hok:Ok w0 w) :
  Calls Tryz.prog 125 #[bv a,bv m] w fun e w'=>e=.returned (.tuple #[bv (a/m),bv (a%m)])/\Ok w0 w':=by
 by_cases h1:a<18446744073709551616
 ·by_cases h2:m<18446744073709551616
  ·exact bparted_small a m hm h1 h2 w0 w hok
  ·exact bparted_bigB a m hm ha hmB h2 h1 w0 w hok
 ·exact bparted_bigA a m hm ha hmB h1 w0 w hok
end
section
open Go.RowKit
def GcdInv (w0 w wr:World) (x y:Nat):Prop :=
 Ok w0 wr/\wr.heap[w.heap.size]?=some (cB x)/\wr.heap[w.heap.size+1]?=some (cB y)/\wr.heap[w.heap.size+2]?=some (cB 0)
theorem GcdInv.next {w0 w X:World} {x y:Nat} (h:GcdInv w0 w X x y) (hw:w0.heap.size<=w.heap.size) (n:Nat) :
  GcdInv w0 w ((((X.setCell ⟨w.heap.size,0,none⟩ (.int .u64 (hiB y))).setCell ⟨w.heap.size,1,none⟩ (.int .u64 (loB y))).setCell ⟨w.heap.size+1,0,none⟩ (.int .u64 (hiB n))).setCell ⟨w.heap.size+1,1,none⟩ (.int .u64 (loB n))) y n:=by
 have hs:=row_set4 h.2.1 h.2.2.1 (show w.heap.size≠w.heap.size+1 by omega) (.int .u64 (hiB y)) (.int .u64 (loB y)) (.int .u64 (hiB n)) (.int .u64 (loB n))
 refine ⟨(((h.1.set hw _).set hw _).set (show w0.heap.size<=w.heap.size+1 by omega) _).set (show w0.heap.size<=w.heap.size+1 by omega) _,hs.1,hs.2,?_⟩
 rw [heap_setCell_other _ _ _ _ (by simp),heap_setCell_other _ _ _ _ (by simp),heap_setCell_other _ _ _ _ (by simp),heap_setCell_other _ _ _ _ (by simp)]
 exact h.2.2.2
theorem GcdInv.below {w0 w wr w1:World} {x y:Nat} (h:GcdInv w0 w wr x y) (hb:Ok wr w1):GcdInv w0 w w1 x y:=⟨h.1.step hb,hb.row' h.2.1,hb.row' h.2.2.1,hb.row' h.2.2.2⟩
def twoN (g:Nat):Nat :=
 match (List.range 63).find? (fun i=>g/2 ^ i%2==1) with
 | some i=>2 ^ i
 | none=>9223372036854775808
theorem twoN_at {g i:Nat} (hi:i<63) (h1:g/2 ^ i%2=1) (h0:∀ j,j<i->g/2 ^ j%2=0):twoN g=2 ^ i:=by
 have:(List.range 63).find? (fun i=>g/2 ^ i%2==1)=some i:=by
  rw [List.find?_range_eq_some]
  refine ⟨by simp [h1],by simpa using hi,fun j hj=>by simp [h0 j hj]⟩
 unfold twoN;rw [this]
theorem twoN_none {g:Nat} (h0:∀ j,j<63->g/2 ^ j%2=0):twoN g=9223372036854775808:=by
 have:(List.range 63).find? (fun i=>g/2 ^ i%2==1)=none:=by
  rw [List.find?_eq_none]
  intro j hj
  have:=h0 j (by simpa using hj)
  simp [this]
 unfold twoN;rw [this]
end
section
open Go.RowKit
def TimInv (w0 w wr:World) (S:Nat):Prop:=Ok w0 wr/\wr.heap[w.heap.size]?=some (cB 0)/\wr.heap[w.heap.size+1]?=some (cB S)
theorem TimInv.below {w0 w wr w1:World} {S:Nat} (h:TimInv w0 w wr S) (hb:Ok wr w1):TimInv w0 w w1 S:=⟨h.1.step hb,hb.row' h.2.1,hb.row' h.2.2⟩
theorem TimInv.lo {w0 w wr:World} {S:Nat} (h:TimInv w0 w wr S) (x:Int):(wr.setCell ⟨w.heap.size+1,1,none⟩ (.int .u64 x)).heap[w.heap.size+1]?=some (.cells #[.int .u64 (hiB S),.int .u64 x] 75):=by
 rw [heap_setCell_same _ _ 1 _ _ _ h.2.2];rfl
end
section
open Go.RowKit
theorem infoCg:(Tryz.prog.info? 27).map (·.size)=some 2:=by kernel_rfl
theorem infoIn:(Tryz.prog.info? 78).map (·.size)=some 3:=by kernel_rfl
def cv (M R:Nat):Value:=.agg #[.int .u64 (M:Int),.int .u64 (R:Int)]
def iv (f:Nat) (s:Bool):Value:=.agg #[.int .u64 (hiB f),.int .u64 (loB f),.bool s]
theorem row3_facts {w:World} {g:Nat} {x y z:Value} {t:TypeId} (h:w.heap[g]?=some (.cells #[x,y,z] t (0,0))) :
  w.cell? ⟨g,0,none⟩=some x/\w.cell? ⟨g,1,none⟩=some y/\w.cell? ⟨g,2,none⟩=some z/\w.frozen? ⟨g,0,none⟩=false/\w.frozen? ⟨g,1,none⟩=false/\w.frozen? ⟨g,2,none⟩=false:=by
 refine ⟨?_,?_,?_,frozen_of_row _ _ _ _ _ h,frozen_of_row _ _ _ _ _ h,frozen_of_row _ _ _ _ _ h⟩
 ·exact (cell_of_row _ _ 0 _ _ _ h).trans (by simp)
 ·exact (cell_of_row _ _ 1 _ _ _ h).trans (by simp)
 ·exact (cell_of_row _ _ 2 _ _ _ h).trans (by simp)
theorem row_set3 {w:World} {g:Nat} {x y z:Value} {t:TypeId} (hg:w.heap[g]?=some (.cells #[x,y,z] t (0,0))) (x' y' z':Value) :
  (((w.setCell ⟨g,0,none⟩ x').setCell ⟨g,1,none⟩ y').setCell ⟨g,2,none⟩ z').heap[g]?=some (.cells #[x',y',z'] t (0,0)):=by
 have h1:=heap_setCell_same w g 0 _ t x' hg
 have h2:=heap_setCell_same _ g 1 _ t y' h1
 have h3:=heap_setCell_same _ g 2 _ t z' h2
 simpa using h3
theorem reti1 {a b:Int} (h:a=b):Ending.returned (.int .i64 a)=.returned (.int .i64 b):=by rw [h]
theorem cnumber_any (M R:Nat) (hR:U64 R) (w0 w:World) (hok:Ok w0 w) :
  Calls Tryz.prog 128 #[cv M R] w fun e w'=>e=.returned (.int .i64 (wrap64 (R:Int)))/\Ok w0 w':=by
 unfold cv
 go_enter Tryz.func128,Tryz.ntmps128
 go_wp2
 go_ret
 exact ⟨reti1 rfl,(by repeat (first | exact hok | refine Ok.alloc ?_ _ | refine Ok.draws ?_ _ | fail))⟩
theorem cfar_any (v:Int) (hv:In64 v) (w:World) :
  Calls Tryz.prog 127 #[.int .i64 v] w fun e w'=>e=.returned (.int .u64 (v.natAbs:Int))/\w'=w:=by
 have HV:Hid _:=hv
 clear hv
 by_cases h:v<0
 ·go_enter Tryz.func127,Tryz.ntmps127
  go_wp2
  go_ret
  refine ⟨retu ?_,rfl⟩
  have:=HV.out;unfold In64 at this;simp only [u64w];omega
 ·go_enter Tryz.func127,Tryz.ntmps127
  go_wp2
  go_ret
  refine ⟨retu ?_,rfl⟩
  have:=HV.out;unfold In64 at this;simp only [u64w];omega
theorem retI {a b:Int} {c:Bool} {f:Nat} {s:Bool} (e1:hiB f=a) (e2:loB f=b) (e3:s=c):Ending.returned (.agg #[.int .u64 a,.int .u64 b,.bool c])=.returned (iv f s):=by unfold iv;rw [e1,e2,e3]
theorem cr_any (M R:Nat) (hM:U64 M) (hR:U64 R) (w0 w:World) (hok:Ok w0 w) :
  Calls Tryz.prog 63 #[cv M R] w fun e w'=>e=.returned (iv (rF M R) (rS M R))/\Ok w0 w':=by
 have hle:=hok.le
 have HU:Hid _:=And.intro hM hR
 have HB:Hid _:=big_small (rF_rng hM hR)
 have HI:Hid _:=wrap64_in (R:Int)
 by_cases h0:M=0
 ·have EF:Hid (rF M R=(wrap64 (R:Int)).natAbs/\rS M R=decide (wrap64 (R:Int)<0)):=by unfold Hid rF rS;rw [if_pos h0,if_pos h0];exact ⟨rfl,rfl⟩
  obtain ⟨V,hV⟩:∃ V,V=wrap64 (R:Int):=⟨_,rfl⟩
  rw [<-hV] at EF HI
  have HV:Hid _:=hV
  clear hV hM hR
  subst h0
  unfold cv
  go_enter Tryz.func63,Tryz.ntmps63
  go_wp2_with fail
  obtain ⟨W,hW⟩:∃ W,W=(w.alloc (.cells #[.int .u64 0,.int .u64 (R:Int)] 27)).alloc (.cells #[.int .u64 0,.int .u64 0,.bool false] 78):=⟨_,rfl⟩
  have ra:W.heap[w.heap.size]?=some (.cells #[.int .u64 0,.int .u64 (R:Int)] 27):=by rw [hW];exact jj
  have rr:W.heap[w.heap.size+1]?=some (.cells #[.int .u64 0,.int .u64 0,.bool false] 78):=by rw [hW];exact jj
  have HW:Hid (Ok w0 W):=by rw [hW];exact (by repeat (first | exact hok | refine Ok.alloc ?_ _ | refine Ok.draws ?_ _ | fail))
  rw [<-hW]
  clear hW hok
  obtain ⟨f0,f1,_,_⟩:=row_facts ra
  have z0:=lt_row ra
  have HR:Hid _:=rr
  clear ra rr
  have bz:Ok W W:=Ok.refl _
  have n1:¬w.heap.size+1=w.heap.size:=by omega
  go_region_held3 (fun w'=>w'.cell? ⟨w.heap.size,0,none⟩=some (.int .u64 0)/\w'.cell? ⟨w.heap.size,1,none⟩=some (.int .u64 (R:Int))) (go_keep)
   (first
   | (go_at_call 128;refine (cnumber_any 0 R HU.out.2 W _ (by repeat (first | assumption | refine Ok.alloc ?_ _ | refine Below.drew ?_))).mono ?_;rintro e w' ⟨rfl,hb⟩;rw [<-HV.out];have q0:=Ok.cell hb z0 f0;have q1:=Ok.cell hb z0 f1;obtain ⟨k0,k1,k2,k3,k4,k5⟩:=row3_facts (Ok.row' hb HR.out))
   | (go_at_call 127;refine (cfar_any V HI.out _).mono ?_;rintro e w' ⟨rfl,rfl⟩)
   | (go_at_call 64;refine (bof_raw _ W _ (by repeat (first | assumption | refine Ok.alloc ?_ _ | refine Below.drew ?_))).mono ?_;rintro e w' ⟨rfl,hb⟩;have q0:=Ok.cell hb z0 f0;have q1:=Ok.cell hb z0 f1;obtain ⟨k0,k1,k2,k3,k4,k5⟩:=row3_facts (Ok.row' hb HR.out))
   | fail)
  have HS:Hid _:=row_set3 (Ok.row' hb HR.out) (.int .u64 0) (.int .u64 (V.natAbs:Int)) (.bool (decide (V<0)))
  have HB2:Hid (Ok w0 w'):=HW.out.step hb
  go_wp2_with fail
  (try simp only [Exit.inBlock,Exit.then])
  refine bodyPost_ret (results_cell_row rfl _ _ (w.heap.size+1) 78 #[_,_,_] (0,0) _ rfl HS.out Tryz.underlying78 rfl infoIn) rfl ?_
  refine ⟨retI HB.out.1 (by rw [HB.out.2,EF.out.1]) EF.out.2,?_⟩
  exact ((HB2.out.set (show w0.heap.size<=w.heap.size+1 by omega) _).set (show w0.heap.size<=w.heap.size+1 by omega) _).set (show w0.heap.size<=w.heap.size+1 by omega) _
 ·have EF:Hid (rF M R=R%M/\rS M R=false):=by unfold Hid rF rS;rw [if_neg h0,if_neg h0];exact ⟨rfl,rfl⟩
  have h1:((M:Int)==0)=false:=by simp;omega
  have h2:¬(M:Int)=0:=by omega
  clear hM hR h0
  unfold cv
  go_enter Tryz.func63,Tryz.ntmps63
  go_wp2_with fail
  have rr:((w.alloc (.cells #[.int .u64 (M:Int),.int .u64 (R:Int)] 27)).alloc (.cells #[.int .u64 0,.int .u64 0,.bool false] 78)).heap[w.heap.size+1]?=some (.cells #[.int .u64 0,.int .u64 0,.bool false] 78):=jj
  refine (bof_raw _ _ _ (Ok.refl _)).mono ?_
  rintro e w' ⟨rfl,hb⟩
  have HR:Hid _:=Ok.row' hb rr
  have HB2:Hid (Ok w0 w'):=Ok.step (by repeat (first | exact hok | refine Ok.alloc ?_ _ | refine Ok.draws ?_ _ | fail)) hb
  obtain ⟨k0,k1,k2,k3,k4,k5⟩:=row3_facts HR.out
  clear rr hb
  go_wp2_with fail
  (try simp only [Exit.inBlock,Exit.then])
  refine bodyPost_ret (results_cell_row rfl _ _ (w.heap.size+1) 78 #[_,_,_] (0,0) _ rfl (row_set3 HR.out _ _ _) Tryz.underlying78 rfl infoIn) rfl ?_
  refine ⟨retI HB.out.1 (by rw [HB.out.2,EF.out.1,Int.natCast_emod]) EF.out.2,?_⟩
  exact ((HB2.out.set (show w0.heap.size<=w.heap.size+1 by omega) _).set (show w0.heap.size<=w.heap.size+1 by omega) _).set (show w0.heap.size<=w.heap.size+1 by omega) _
theorem rest_a {f:Nat} {s:Bool} {m:Nat} (h:¬(s=true/\f%m≠0)):restN f s m=f%m:=by unfold restN;rw [if_neg h]
theorem rest_b {f m:Nat} (h:f%m≠0):restN f true m=m-f%m:=by unfold restN;rw [if_pos ⟨rfl,h⟩]
set_option maxRecDepth 100000 in
theorem crest_any (f:Nat) (s:Bool) (m:Nat) (hf:Big f) (hm:Big m) (hm0:0<m) (w0 w:World) (hok:Ok w0 w) :
  Calls Tryz.prog 62 #[iv f s,bv m] w fun e w'=>e=.returned (bv (restN f s m))/\Ok w0 w':=by
 have hle:=hok.le
 have HP:Hid _:=And.intro hf (And.intro hm hm0)
 clear hf hm hm0
 unfold iv bv
 go_enter Tryz.func62,Tryz.ntmps62
 go_wp2_with fail
 obtain ⟨W,hW⟩:∃ W,W=((w.alloc (.cells #[.int .u64 (hiB f),.int .u64 (loB f),.bool s] 78)).alloc (.cells #[.int .u64 (hiB m),.int .u64 (loB m)] 75)).alloc (.cells #[.int .u64 0,.int .u64 0] 75):=⟨_,rfl⟩
 have ra:W.heap[w.heap.size]?=some (.cells #[.int .u64 (hiB f),.int .u64 (loB f),.bool s] 78):=by rw [hW];exact jj
 have rm:W.heap[w.heap.size+1]?=some (cB m):=by rw [hW];exact jj
 have rr:W.heap[w.heap.size+2]?=some (cB 0):=by rw [hW,cB_zero];exact jj
 have HW:Hid (Ok w0 W):=by rw [hW];exact (by repeat (first | exact hok | refine Ok.alloc ?_ _ | refine Ok.draws ?_ _ | fail))
 rw [<-hW]
 clear hW hok
 refine (bparted_any f m HP.out.2.2 HP.out.1 HP.out.2.1 W W (Ok.refl _)).mono ?_
 rintro e w' ⟨rfl,hb⟩
 obtain ⟨V,hV⟩:∃ V,V=f%m:=⟨_,rfl⟩
 rw [<-hV]
 have HV:Hid _:=hV
 have hVB:Big V:=by have:=Nat.mod_lt f HP.out.2.2;have:=HP.out.2.1;rw [hV];unfold Big at *;omega
 have HR1:Hid _:=Ok.row' hb rm
 have HR2:Hid _:=Ok.row' hb rr
 obtain ⟨a0,a1,a2,_⟩:=row3_facts (Ok.row' hb ra)
 obtain ⟨m0,m1,_,_⟩:=cB_facts HR1.out
 obtain ⟨r0,r1,r2,r3⟩:=cB_facts HR2.out
 have z0:=lt_row (Ok.row' hb ra)
 have z1:=lt_row HR1.out
 have z2:=lt_row HR2.out
 have HB2:Hid (Ok w0 w'):=HW.out.step hb
 have y0:w.heap.size<w'.heap.size+1:=by omega
 have y1:w.heap.size+1<w'.heap.size+1:=by omega
 have y2:w.heap.size+2<w'.heap.size+1:=by omega
 have x0:¬w.heap.size=w'.heap.size:=by omega
 have x1:¬w.heap.size+1=w'.heap.size:=by omega
 have x2:¬w.heap.size+2=w'.heap.size:=by omega
 have x3:¬w.heap.size=w'.heap.size+1:=by omega
 have x4:¬w.heap.size+1=w'.heap.size+1:=by omega
 have x5:¬w.heap.size+2=w'.heap.size+1:=by omega
 clear ra rm rr hb hV
 unfold bv
 by_cases h:s=true/\V≠0
 ·obtain ⟨rfl,h2⟩:=h
  have E:Hid (restN f true m=subB m V):=by
   have h3:=Nat.mod_lt f HP.out.2.2
   rw [<-HV.out] at h3
   unfold Hid;rw [rest_b (by rw [<-HV.out];exact h2),<-HV.out,subB_le HP.out.2.1 (by omega)]
  have e3:¬(hiB V=0/\loB V=0):=by unfold hiB loB;omega
  by_cases e1:hiB V=0
  ·have e2:(loB V==0)=false:=by simp;exact fun h=>e3 ⟨e1,h⟩
   have HM:Hid (∀ X,Calls Tryz.prog 126 #[bv m,.agg #[.int .u64 0,.int .u64 (loB V)]] X fun e w''=>e=.returned (bv (subB m V))/\Ok X w''):=by
    intro X
    have:=bminus_any m V HP.out.2.1 hVB X X (Ok.refl _)
    rw [show bv V=.agg #[.int .u64 0,.int .u64 (loB V)] by unfold bv;rw [e1]] at this
    exact this
   rw [e1]
   clear e1 e3
   go_wp2_with fail
   refine Calls.mono (HM.out _) ?_
   rintro e w5 ⟨rfl,hb5⟩
   have HR5:Hid _:=Ok.row' hb5 (heap_past _ _ _ (by simp;omega) (heap_past _ _ _ z2 HR2.out))
   have HB5:Hid (Ok w0 w5):=Ok.step ((HB2.out.alloc _).alloc _) hb5
   obtain ⟨s0,s1,s2,s3⟩:=cB_facts HR5.out
   unfold bv
   go_wp2_with fail
   (try simp only [Exit.inBlock,Exit.then])
   refine bodyPost_ret (results_cell_row rfl _ _ (w.heap.size+2) 75 #[_,_] (0,0) _ rfl (row_set2 HR5.out _ _) Tryz.underlying75 rfl infoBg) rfl ?_
   rw [E.out]
   exact ⟨rfl,(HB5.out.set (show w0.heap.size<=w.heap.size+2 by omega) _).set (show w0.heap.size<=w.heap.size+2 by omega) _⟩
  ·have e2:(hiB V==0)=false:=by simp [e1]
   clear e1 e3
   go_wp2_with fail
   refine (bminus_any m V HP.out.2.1 hVB _ _ (Ok.refl _)).mono ?_
   rintro e w5 ⟨rfl,hb5⟩
   have HR5:Hid _:=Ok.row' hb5 (heap_past _ _ _ (by simp;omega) (heap_past _ _ _ z2 HR2.out))
   have HB5:Hid (Ok w0 w5):=Ok.step ((HB2.out.alloc _).alloc _) hb5
   obtain ⟨s0,s1,s2,s3⟩:=cB_facts HR5.out
   unfold bv
   go_wp2_with fail
   (try simp only [Exit.inBlock,Exit.then])
   refine bodyPost_ret (results_cell_row rfl _ _ (w.heap.size+2) 75 #[_,_] (0,0) _ rfl (row_set2 HR5.out _ _) Tryz.underlying75 rfl infoBg) rfl ?_
   rw [E.out]
   exact ⟨rfl,(HB5.out.set (show w0.heap.size<=w.heap.size+2 by omega) _).set (show w0.heap.size<=w.heap.size+2 by omega) _⟩
 ·have E:Hid (restN f s m=V):=by unfold Hid;rw [rest_a (by rw [<-HV.out];exact h),HV.out]
  cases s with
  | false =>
   clear h
   go_wp2_with fail
   (try simp only [Exit.inBlock,Exit.then])
   refine bodyPost_ret (results_cell_row rfl _ _ (w.heap.size+2) 75 #[_,_] (0,0) _ rfl (heap_past _ _ _ (by simp;omega) (heap_past _ _ _ (by simp;omega) (row_set2 HR2.out _ _))) Tryz.underlying75 rfl infoBg) rfl ?_
   rw [E.out]
   exact ⟨rfl,(((HB2.out.set (show w0.heap.size<=w.heap.size+2 by omega) _).set (show w0.heap.size<=w.heap.size+2 by omega) _).alloc _).alloc _⟩
  | true =>
   have h0:V=0:=Classical.byContradiction fun c=>h ⟨rfl,c⟩
   have e1:hiB V=0:=by rw [h0];rfl
   have e2:loB V=0:=by rw [h0];rfl
   have HE12:Hid _:=And.intro e1 e2
   rw [e1,e2]
   clear h h0 e1 e2
   go_wp2_with fail
   (try simp only [Exit.inBlock,Exit.then])
   refine bodyPost_ret (results_cell_row rfl _ _ (w.heap.size+2) 75 #[_,_] (0,0) _ rfl (heap_past _ _ _ (by simp;omega) (heap_past _ _ _ (by simp;omega) (row_set2 HR2.out _ _))) Tryz.underlying75 rfl infoBg) rfl ?_
   rw [E.out,HE12.out.1,HE12.out.2]
   exact ⟨rfl,(((HB2.out.set (show w0.heap.size<=w.heap.size+2 by omega) _).set (show w0.heap.size<=w.heap.size+2 by omega) _).alloc _).alloc _⟩
theorem field_lo (a b:Value) (w:World):(Instr.field 75 (.agg #[a,b]) 1).run Tryz.prog w=.ok b w:=by kernel_rfl
attribute [local go_sem] field_lo
end
section
open Go.RowKit
theorem cconst_any (v:Int) (w0 w:World) (hok:Ok w0 w) :
  Calls Tryz.prog 55 #[.int .i64 v] w fun e w'=>e=.returned (cv 0 (bitsN v))/\Ok w0 w':=by
 have E:Hid ((bitsN v:Int)=IntKind.u64.wrap v):=by unfold Hid bitsN;rw [u64w];omega
 unfold cv
 go_enter Tryz.func55,Tryz.ntmps55
 go_wp2
 (try simp only [Exit.inBlock, Exit.then]); refine bodyPost_ret (results_cell_row rfl _ _ (w.heap.size) 27 #[_, _] (0, 0) _ rfl jj Tryz.underlying27 rfl infoCg) rfl ?_
 rw [E.out]
 exact ⟨rfl,(by repeat (first | exact hok | refine Ok.alloc ?_ _ | refine Ok.draws ?_ _ | fail))⟩
theorem cnorm_any (M R:Nat) (w0 w:World) (hok:Ok w0 w) :
  Calls Tryz.prog 108 #[cv M R] w fun e w'=>e=.returned (cv (normC M R).1 (normC M R).2)/\Ok w0 w':=by
 unfold cv
 by_cases h:0<M
 ·have E:Hid (normC M R=(M,R%M)):=by unfold Hid normC;rw [if_pos h]
  have h1:(0:Int)<(M:Int):=by omega
  have h2:¬(M:Int)=0:=by omega
  have h3:((M:Int)==0)=false:=by simp;omega
  clear h
  go_enter Tryz.func108,Tryz.ntmps108
  go_wp2
  (try simp only [Exit.inBlock, Exit.then]); refine bodyPost_ret (results_cell_row rfl _ _ (w.heap.size+1) 27 #[_, _] (0, 0) _ rfl jj Tryz.underlying27 rfl infoCg) rfl ?_
  rw [E.out,Int.natCast_emod]
  exact ⟨rfl,(by repeat (first | exact hok | refine Ok.alloc ?_ _ | refine Ok.draws ?_ _ | fail))⟩
 ·have E:Hid (normC M R=(M,R)):=by unfold Hid normC;rw [if_neg h]
  have h1:¬(0:Int)<(M:Int):=by omega
  clear h
  go_enter Tryz.func108,Tryz.ntmps108
  go_wp2
  (try simp only [Exit.inBlock, Exit.then]); refine bodyPost_ret (results_cell_row rfl _ _ (w.heap.size+1) 27 #[_, _] (0, 0) _ rfl jj Tryz.underlying27 rfl infoCg) rfl ?_
  rw [E.out]
  exact ⟨rfl,(by repeat (first | exact hok | refine Ok.alloc ?_ _ | refine Ok.draws ?_ _ | fail))⟩
set_option maxRecDepth 100000 in
theorem cleq_any (cM cR dM dR:Nat) (h1:U64 cM) (h2:U64 cR) (h3:U64 dM) (h4:U64 dR) (w0 w:World) (hok:Ok w0 w) :
  Calls Tryz.prog 22 #[cv cM cR,cv dM dR] w fun e w'=>e=.returned (.bool (leqC cM cR dM dR))/\Ok w0 w':=by
 have hle:=hok.le
 have HU:Hid _:=And.intro h1 (And.intro h2 (And.intro h3 h4))
 clear h1 h2 h3 h4
 by_cases hd:dM=0
 ·have E:Hid (leqC cM cR dM dR=(decide (cM=0)&&decide (cR=dR))):=by unfold Hid leqC;rw [if_pos hd]
  have hd1:(dM:Int)=0:=by omega
  unfold cv
  by_cases hc:cM=0
  ·have hc1:(cM:Int)=0:=by omega
   have E2:Hid (((cR:Int)==(dR:Int))=leqC cM cR dM dR):=by
    unfold Hid;rw [E.out,decide_eq_true hc,Bool.true_and]
    by_cases e:cR=dR
    ·simp [e]
    ·simp [e];omega
   clear hd hc
   rw [hd1,hc1]
   clear hd1 hc1
   go_enter Tryz.func22,Tryz.ntmps22
   go_wp2_with fail
   go_ret
   exact ⟨retb E2.out,(by repeat (first | exact hok | refine Ok.alloc ?_ _ | refine Ok.draws ?_ _ | fail))⟩
  ·have hc1:((cM:Int)==0)=false:=by simp;omega
   have E2:Hid (false=leqC cM cR dM dR):=by unfold Hid;rw [E.out,decide_eq_false hc,Bool.false_and]
   clear hd hc
   rw [hd1]
   clear hd1
   go_enter Tryz.func22,Tryz.ntmps22
   go_wp2_with fail
   go_ret
   exact ⟨retb E2.out,(by repeat (first | exact hok | refine Ok.alloc ?_ _ | refine Ok.draws ?_ _ | fail))⟩
 ·have E:Hid (leqC cM cR dM dR=(decide (cM%dM=0)&&decide (restN (rF cM cR) (rS cM cR) dM=restN (rF dM dR) (rS dM dR) dM))):=by unfold Hid leqC;rw [if_neg hd]
  have hd1:((dM:Int)==0)=false:=by simp;omega
  have hd2:¬(dM:Int)=0:=by omega
  have hd3:¬dM=0:=hd
  have hd4:(dM==0)=false:=by simp [hd]
  have hd5:(0:Int)<=(dM:Int):=by omega
  have hd6:(0:Int)<=(cM:Int):=by omega
  have hd7:(cM:Int).tmod (dM:Int)=(cM:Int)%(dM:Int):=Int.tmod_eq_emod_of_nonneg (by omega)
  have HD:Hid (0<dM):=by unfold Hid;omega
  have HB:Hid (Big dM/\Big (rF cM cR)/\Big (rF dM dR)):=by
   have a:=rF_rng HU.out.1 HU.out.2.1
   have b:=rF_rng HU.out.2.2.1 HU.out.2.2.2
   have c:=HU.out.2.2.1
   unfold U64 at c;unfold Hid Big;omega
  obtain ⟨f1,hf1⟩:∃ f,f=rF cM cR:=⟨_,rfl⟩
  obtain ⟨s1,hs1⟩:∃ s,s=rS cM cR:=⟨_,rfl⟩
  obtain ⟨f2,hf2⟩:∃ f,f=rF dM dR:=⟨_,rfl⟩
  obtain ⟨s2,hs2⟩:∃ s,s=rS dM dR:=⟨_,rfl⟩
  obtain ⟨t1,ht1⟩:∃ t,t=restN f1 s1 dM:=⟨_,rfl⟩
  obtain ⟨t2,ht2⟩:∃ t,t=restN f2 s2 dM:=⟨_,rfl⟩
  rw [<-hf1,<-hs1,<-hf2,<-hs2,<-ht1,<-ht2] at E
  rw [<-hf1,<-hf2] at HB
  have HF:Hid _:=And.intro hf1 (And.intro hs1 (And.intro hf2 (And.intro hs2 (And.intro ht1 ht2))))
  clear hf1 hs1 hf2 hs2 ht1 ht2 hd
  by_cases hc:cM%dM=0
  ·have hc1:((cM:Int)%(dM:Int)==0)=true:=by rw [<-Int.natCast_emod,hc];rfl
   have hc2:(cM:Int)%(dM:Int)=0:=by rw [<-Int.natCast_emod,hc];rfl
   rw [decide_eq_true hc,Bool.true_and] at E
   have E2:Hid ((loB t1==loB t2)=leqC cM cR dM dR):=by
    have a:=restN_lt (f:=f1) (s:=s1) HD.out
    have b:=restN_lt (f:=f2) (s:=s2) HD.out
    have c:=HU.out.2.2.1
    rw [<-HF.out.2.2.2.2.1] at a
    rw [<-HF.out.2.2.2.2.2] at b
    unfold U64 at c
    unfold Hid
    rw [E.out,(big_small (n:=t1) (by omega)).2,(big_small (n:=t2) (by omega)).2]
    by_cases e:t1=t2
    ·simp [e]
    ·simp [e];omega
   have p1:hiB t1=0:=by
    have a:=restN_lt (f:=f1) (s:=s1) HD.out
    have c:=HU.out.2.2.1
    rw [<-HF.out.2.2.2.2.1] at a
    unfold U64 at c
    exact (big_small (by omega)).1
   have p2:hiB t2=0:=by
    have b:=restN_lt (f:=f2) (s:=s2) HD.out
    have c:=HU.out.2.2.1
    rw [<-HF.out.2.2.2.2.2] at b
    unfold U64 at c
    exact (big_small (by omega)).1
   clear hc
   by_cases ee:loB t1=loB t2
   ·have e1:(loB t1==loB t2)=true:=by simp [ee]
    rw [e1] at E2
    unfold cv
    go_enter Tryz.func22,Tryz.ntmps22
    go_wp2_with fail
    obtain ⟨W,hW⟩:∃ W,W=(w.alloc (.cells #[.int .u64 (cM:Int),.int .u64 (cR:Int)] 27)).alloc (.cells #[.int .u64 (dM:Int),.int .u64 (dR:Int)] 27):=⟨_,rfl⟩
    have ra:W.heap[w.heap.size]?=some (.cells #[.int .u64 (cM:Int),.int .u64 (cR:Int)] 27):=by rw [hW];exact jj
    have rr:W.heap[w.heap.size+1]?=some (.cells #[.int .u64 (dM:Int),.int .u64 (dR:Int)] 27):=by rw [hW];exact jj
    have HW:Hid (Ok w0 W):=by rw [hW];exact (by repeat (first | exact hok | refine Ok.alloc ?_ _ | refine Ok.draws ?_ _ | fail))
    rw [<-hW]
    clear hW hok
    obtain ⟨g0,g1,_,_⟩:=row_facts ra
    obtain ⟨g2,g3,_,_⟩:=row_facts rr
    have z0:=lt_row ra
    have z1:=lt_row rr
    clear ra rr
    have bz:Ok W W:=Ok.refl _
    go_region_held3 (fun w'=>w'.cell? ⟨w.heap.size,0,none⟩=some (.int .u64 (cM:Int))/\w'.cell? ⟨w.heap.size,1,none⟩=some (.int .u64 (cR:Int))/\w'.cell? ⟨w.heap.size+1,0,none⟩=some (.int .u64 (dM:Int))/\w'.cell? ⟨w.heap.size+1,1,none⟩=some (.int .u64 (dR:Int))) (go_keep)
     (first
     | (go_at_call 63;refine (cr_any _ _ (by first | exact HU.out.1 | exact HU.out.2.2.1) (by first | exact HU.out.2.1 | exact HU.out.2.2.2) W _ (by repeat (first | assumption | refine Ok.alloc ?_ _ | refine Below.drew ?_))).mono ?_;rintro e w' ⟨rfl,hb⟩;(first | rw [<-HF.out.1,<-HF.out.2.1] | rw [<-HF.out.2.2.1,<-HF.out.2.2.2.1]);have q0:=Ok.cell hb z0 g0;have q1:=Ok.cell hb z0 g1;have q2:=Ok.cell hb z1 g2;have q3:=Ok.cell hb z1 g3)
     | (go_at_call 64;refine (bof_any dM HU.out.2.2.1 W _ (by repeat (first | assumption | refine Ok.alloc ?_ _ | refine Below.drew ?_))).mono ?_;rintro e w' ⟨rfl,hb⟩;have q0:=Ok.cell hb z0 g0;have q1:=Ok.cell hb z0 g1;have q2:=Ok.cell hb z1 g2;have q3:=Ok.cell hb z1 g3)
     | (go_at_call 62;refine (crest_any _ _ dM (by first | exact HB.out.2.1 | exact HB.out.2.2) HB.out.1 HD.out W _ (by repeat (first | assumption | refine Ok.alloc ?_ _ | refine Below.drew ?_))).mono ?_;rintro e w' ⟨rfl,hb⟩;(first | rw [<-HF.out.2.2.2.2.1] | rw [<-HF.out.2.2.2.2.2]);unfold bv;have q0:=Ok.cell hb z0 g0;have q1:=Ok.cell hb z0 g1;have q2:=Ok.cell hb z1 g2;have q3:=Ok.cell hb z1 g3)
     | fail)
    go_wp2_with fail
    go_ret
    exact ⟨retb E2.out,by repeat (first | exact HW.out.step hb | refine Ok.draws ?_ _)⟩
   ·have e1:(loB t1==loB t2)=false:=by simp [ee]
    rw [e1] at E2
    unfold cv
    go_enter Tryz.func22,Tryz.ntmps22
    go_wp2_with fail
    obtain ⟨W,hW⟩:∃ W,W=(w.alloc (.cells #[.int .u64 (cM:Int),.int .u64 (cR:Int)] 27)).alloc (.cells #[.int .u64 (dM:Int),.int .u64 (dR:Int)] 27):=⟨_,rfl⟩
    have ra:W.heap[w.heap.size]?=some (.cells #[.int .u64 (cM:Int),.int .u64 (cR:Int)] 27):=by rw [hW];exact jj
    have rr:W.heap[w.heap.size+1]?=some (.cells #[.int .u64 (dM:Int),.int .u64 (dR:Int)] 27):=by rw [hW];exact jj
    have HW:Hid (Ok w0 W):=by rw [hW];exact (by repeat (first | exact hok | refine Ok.alloc ?_ _ | refine Ok.draws ?_ _ | fail))
    rw [<-hW]
    clear hW hok
    obtain ⟨g0,g1,_,_⟩:=row_facts ra
    obtain ⟨g2,g3,_,_⟩:=row_facts rr
    have z0:=lt_row ra
    have z1:=lt_row rr
    clear ra rr
    have bz:Ok W W:=Ok.refl _
    go_region_held3 (fun w'=>w'.cell? ⟨w.heap.size,0,none⟩=some (.int .u64 (cM:Int))/\w'.cell? ⟨w.heap.size,1,none⟩=some (.int .u64 (cR:Int))/\w'.cell? ⟨w.heap.size+1,0,none⟩=some (.int .u64 (dM:Int))/\w'.cell? ⟨w.heap.size+1,1,none⟩=some (.int .u64 (dR:Int))) (go_keep)
     (first
     | (go_at_call 63;refine (cr_any _ _ (by first | exact HU.out.1 | exact HU.out.2.2.1) (by first | exact HU.out.2.1 | exact HU.out.2.2.2) W _ (by repeat (first | assumption | refine Ok.alloc ?_ _ | refine Below.drew ?_))).mono ?_;rintro e w' ⟨rfl,hb⟩;(first | rw [<-HF.out.1,<-HF.out.2.1] | rw [<-HF.out.2.2.1,<-HF.out.2.2.2.1]);have q0:=Ok.cell hb z0 g0;have q1:=Ok.cell hb z0 g1;have q2:=Ok.cell hb z1 g2;have q3:=Ok.cell hb z1 g3)
     | (go_at_call 64;refine (bof_any dM HU.out.2.2.1 W _ (by repeat (first | assumption | refine Ok.alloc ?_ _ | refine Below.drew ?_))).mono ?_;rintro e w' ⟨rfl,hb⟩;have q0:=Ok.cell hb z0 g0;have q1:=Ok.cell hb z0 g1;have q2:=Ok.cell hb z1 g2;have q3:=Ok.cell hb z1 g3)
     | (go_at_call 62;refine (crest_any _ _ dM (by first | exact HB.out.2.1 | exact HB.out.2.2) HB.out.1 HD.out W _ (by repeat (first | assumption | refine Ok.alloc ?_ _ | refine Below.drew ?_))).mono ?_;rintro e w' ⟨rfl,hb⟩;(first | rw [<-HF.out.2.2.2.2.1] | rw [<-HF.out.2.2.2.2.2]);unfold bv;have q0:=Ok.cell hb z0 g0;have q1:=Ok.cell hb z0 g1;have q2:=Ok.cell hb z1 g2;have q3:=Ok.cell hb z1 g3)
     | fail)
    go_wp2_with fail
    go_ret
    exact ⟨retb E2.out,by repeat (first | exact HW.out.step hb | refine Ok.draws ?_ _)⟩
  ·have hc1:((cM:Int)%(dM:Int)==0)=false:=by rw [<-Int.natCast_emod];simp;omega
   rw [decide_eq_false hc,Bool.false_and] at E
   have hc2:¬(cM:Int)%(dM:Int)=0:=by rw [<-Int.natCast_emod];omega
   clear hc
   unfold cv
   go_enter Tryz.func22,Tryz.ntmps22
   go_wp2_with fail
   go_quiet (fail)
   go_wp2_with fail
   go_ret
   exact ⟨retb E.out.symm,by repeat (first | exact hok | refine Ok.draws ?_ _ | refine Ok.alloc ?_ _)⟩
end
end Go.Proofs.YtnjmjnmhldhaoaaGreat
