import Derived.Test.YtpjpjhjjhoeijaaGreatKCpartb
set_option maxHeartbeats 8000000
set_option linter.all false
namespace Go.Proofs.YtpjpjhjjhoeijaaGreat
section
open Go.RowKit
def valAt (w:World) (g:Nat):Nat:=(intOf ((w.cell? ⟨g,0,none⟩).getD undef)*18446744073709551616+intOf ((w.cell? ⟨g,1,none⟩).getD undef)).toNat
theorem valAt_row {w:World} {g n:Nat} (h:w.heap[g]?=some (cB n)):valAt w g=n:=by
 obtain ⟨h0,h1,_,_⟩:=cB_facts h
 unfold valAt;rw [h0,h1];simp only [Option.getD_some,intOf];unfold hiB loB;omega
def GcdInv (w0 w wr:World) (x y:Nat):Prop :=
 Ok w0 wr/\wr.heap[w.heap.size]?=some (cB x)/\wr.heap[w.heap.size+1]?=some (cB y)/\wr.heap[w.heap.size+2]?=some (cB 0)
theorem GcdInv.next {w0 w X:World} {x y:Nat} (h:GcdInv w0 w X x y) (hw:w0.heap.size<=w.heap.size) (n:Nat) :
  GcdInv w0 w ((((X.setCell ⟨w.heap.size,0,none⟩ (.int .u64 (hiB y))).setCell ⟨w.heap.size,1,none⟩ (.int .u64 (loB y))).setCell ⟨w.heap.size+1,0,none⟩ (.int .u64 (hiB n))).setCell ⟨w.heap.size+1,1,none⟩ (.int .u64 (loB n))) y n:=by
 have hs:=row_set4 h.2.1 h.2.2.1 (show w.heap.size≠w.heap.size+1 by omega) (.int .u64 (hiB y)) (.int .u64 (loB y)) (.int .u64 (hiB n)) (.int .u64 (loB n))
 refine ⟨(((h.1.set hw _).set hw _).set (show w0.heap.size<=w.heap.size+1 by omega) _).set (show w0.heap.size<=w.heap.size+1 by omega) _,hs.1,hs.2,?_⟩
 rw [heap_setCell_other _ _ _ _ (by simp),heap_setCell_other _ _ _ _ (by simp),heap_setCell_other _ _ _ _ (by simp),heap_setCell_other _ _ _ _ (by simp)]
 exact h.2.2.2
theorem GcdInv.below {w0 w wr w1:World} {x y:Nat} (h:GcdInv w0 w wr x y) (hb:Ok wr w1):GcdInv w0 w w1 x y:=⟨h.1.step hb,hb.row' h.2.1,hb.row' h.2.2.1,hb.row' h.2.2.2⟩
theorem gcd_step (x y:Nat):Nat.gcd y (x%y)=Nat.gcd x y:=by
 rw [Nat.gcd_comm y,<-Nat.gcd_rec,Nat.gcd_comm]
set_option maxRecDepth 100000 in
theorem bgcd_any (a b:Nat) (ha:Big a) (hb:Big b) (w0 w:World) (hok:Ok w0 w) :
  Calls Tryz.prog 114 #[bv a,bv b] w fun e w'=>e=.returned (bv (Nat.gcd a b))/\Ok w0 w':=by
 have hle:=hok.le
 have HAB:Hid _:=And.intro ha hb
 clear ha hb
 obtain ⟨G,hG⟩:∃ G,G=Nat.gcd a b:=⟨_,rfl⟩
 rw [<-hG]
 have HG:Hid _:=hG
 clear hG
 unfold bv
 go_enter Tryz.func114,Tryz.ntmps114
 go_wp2_with fail
 go_loopw [] (fun wr=>∃ x y:Nat,Big x/\Big y/\Hid (Nat.gcd x y=G)/\Hid (GcdInv w0 w wr x y)) (fun wr=>valAt wr (w.heap.size+1))
 case atStart =>
  refine ⟨a,b,HAB.out.1,HAB.out.2,HG.out.symm,?_⟩
  unfold Hid GcdInv
  rw [cB_zero]
  exact ⟨(by repeat (first | exact hok | refine Ok.alloc ?_ _ | refine Ok.draws ?_ _ | fail)),jj,jj,jj⟩
 case round =>
  obtain ⟨x,y,hx,hy,HGG,HI⟩:=hrel
  obtain ⟨j1,j2,j3,j4⟩:=HI.out
  obtain ⟨a0,a1,a2,a3⟩:=cB_facts j2
  obtain ⟨b0,b1,b2,b3⟩:=cB_facts j3
  obtain ⟨c0,c1,c2,c3⟩:=cB_facts j4
  have z0:=lt_row j2
  have z1:=lt_row j3
  clear j1 j2 j3 j4
  by_cases h0:y=0
  ·subst h0
   have e1:hiB 0=0:=rfl
   have e2:loB 0=0:=rfl
   rw [e1] at b0
   rw [e2] at b1
   clear e1 e2
   have HG2:Hid (x=G):=by have:=HGG.out;rw [Nat.gcd_zero_right] at this;exact this
   go_wp2_with fail
   (try simp only [Exit.inBlock,Exit.then])
   refine bodyPost_ret (results_cell_row rfl _ _ (w.heap.size+2) 105 #[_,_] (0,0) _ rfl (row_set2 HI.out.2.2.2 _ _) Tryz.underlying105 rfl infoBg) rfl ?_
   rw [HG2.out]
   exact ⟨rfl,(HI.out.1.set (show w0.heap.size<=w.heap.size+2 by omega) _).set (show w0.heap.size<=w.heap.size+2 by omega) _⟩
  ·have HY:Hid (0<y):=by unfold Hid;omega
   have HP:=bparted_any x y HY.out hx hy wr wr (Ok.refl _)
   have HME:Hid (valAt wr (w.heap.size+1)=y):=valAt_row HI.out.2.2.1
   have HBM:Hid (Big (x%y)):=by have:=Nat.mod_lt x HY.out;unfold Hid Big at *;omega
   by_cases e1:hiB y=0
   ·have e2:(loB y==0)=false:=by unfold hiB at e1;unfold loB;simp;omega
    rw [show bv y=.agg #[.int .u64 0,.int .u64 (loB y)] by unfold bv;rw [e1]] at HP
    have HP':Hid _:=HP
    rw [e1] at b0
    clear HP h0 e1
    go_wp2_with fail
    refine Calls.mono HP'.out ?_
    rintro e w' ⟨rfl,hb⟩
    have HI2:Hid (GcdInv w0 w w' x y):=HI.out.below hb
    have HI4:Hid (GcdInv w0 w ((((((w'.setCell ⟨w.heap.size,0,none⟩ (.int .u64 (hiB y))).setCell ⟨w.heap.size,1,none⟩ (.int .u64 (loB y))).setCell ⟨w.heap.size+1,0,none⟩ (.int .u64 (hiB (x%y)))).setCell ⟨w.heap.size+1,1,none⟩ (.int .u64 (loB (x%y)))).alloc (.cells #[.int .u64 (hiB (x/y)),.int .u64 (loB (x/y))] 105)).alloc (.cells #[.int .u64 (hiB (x%y)),.int .u64 (loB (x%y))] 105)) y (x%y)):=(HI2.out.next hle (x%y)).below (((Ok.refl _).alloc _).alloc _)
    obtain ⟨j1,j2,j3,j4⟩:=HI2.out
    obtain ⟨a0,a1,a2,a3⟩:=cB_facts j2
    obtain ⟨b0,b1,b2,b3⟩:=cB_facts j3
    have z0:=lt_row j2
    have z1:=lt_row j3
    have z2:w.heap.size<w'.heap.size+1:=by omega
    have z3:w.heap.size+1<w'.heap.size+1:=by omega
    have z4:¬w.heap.size=w'.heap.size:=by omega
    have z5:¬w.heap.size+1=w'.heap.size:=by omega
    have z6:¬w.heap.size=w'.heap.size+1:=by omega
    have z7:¬w.heap.size+1=w'.heap.size+1:=by omega
    have z8:¬w'.heap.size=w.heap.size:=by omega
    have z9:¬w'.heap.size=w.heap.size+1:=by omega
    have z10:¬w'.heap.size+1=w.heap.size:=by omega
    have z11:¬w'.heap.size+1=w.heap.size+1:=by omega
    clear j1 j2 j3 j4
    unfold bv
    go_wp2_with fail
    refine ⟨⟨y,x%y,hy,HBM.out,?_,HI4⟩,?_⟩
    ·unfold Hid;rw [gcd_step];exact HGG.out
    ·rw [valAt_row HI4.out.2.2.1,HME.out];exact Nat.mod_lt _ HY.out
   ·have e2:(hiB y==0)=false:=by simp [e1]
    have HP':Hid _:=HP
    clear HP h0 e1
    go_wp2_with fail
    refine Calls.mono HP'.out ?_
    rintro e w' ⟨rfl,hb⟩
    have HI2:Hid (GcdInv w0 w w' x y):=HI.out.below hb
    have HI4:Hid (GcdInv w0 w ((((((w'.setCell ⟨w.heap.size,0,none⟩ (.int .u64 (hiB y))).setCell ⟨w.heap.size,1,none⟩ (.int .u64 (loB y))).setCell ⟨w.heap.size+1,0,none⟩ (.int .u64 (hiB (x%y)))).setCell ⟨w.heap.size+1,1,none⟩ (.int .u64 (loB (x%y)))).alloc (.cells #[.int .u64 (hiB (x/y)),.int .u64 (loB (x/y))] 105)).alloc (.cells #[.int .u64 (hiB (x%y)),.int .u64 (loB (x%y))] 105)) y (x%y)):=(HI2.out.next hle (x%y)).below (((Ok.refl _).alloc _).alloc _)
    obtain ⟨j1,j2,j3,j4⟩:=HI2.out
    obtain ⟨a0,a1,a2,a3⟩:=cB_facts j2
    obtain ⟨b0,b1,b2,b3⟩:=cB_facts j3
    have z0:=lt_row j2
    have z1:=lt_row j3
    have z2:w.heap.size<w'.heap.size+1:=by omega
    have z3:w.heap.size+1<w'.heap.size+1:=by omega
    have z4:¬w.heap.size=w'.heap.size:=by omega
    have z5:¬w.heap.size+1=w'.heap.size:=by omega
    have z6:¬w.heap.size=w'.heap.size+1:=by omega
    have z7:¬w.heap.size+1=w'.heap.size+1:=by omega
    have z8:¬w'.heap.size=w.heap.size:=by omega
    have z9:¬w'.heap.size=w.heap.size+1:=by omega
    have z10:¬w'.heap.size+1=w.heap.size:=by omega
    have z11:¬w'.heap.size+1=w.heap.size+1:=by omega
    clear j1 j2 j3 j4
    unfold bv
    go_wp2_with fail
    refine ⟨⟨y,x%y,hy,HBM.out,?_,HI4⟩,?_⟩
    ·unfold Hid;rw [gcd_step];exact HGG.out
    ·rw [valAt_row HI4.out.2.2.1,HME.out];exact Nat.mod_lt _ HY.out
def twoN (g:Nat):Nat :=
 match (List.range 63).find? (fun i=>g/2 ^ i%2==1) with
 | some i=>2 ^ i
 | none=>9223372036854775808
theorem twoN_at {g i:Nat} (hi:i<63) (h1:g/2 ^ i%2=1) (h0:∀ j,j<i->g/2 ^ j%2=0):twoN g=2 ^ i:=by
 have:(List.range 63).find? (fun i=>g/2 ^ i%2==1)=some i:=by
  rw [List.find?_range_eq_some]
  refine ⟨by simp [h1],by simpa using hi,fun j hj=>by simp [h0 j hj]⟩
 unfold twoN;rw [this]
theorem twoN_none {g:Nat} (h0:∀ j,j<63->g/2 ^ j%2=0):twoN g=9223372036854775808:=by
 have:(List.range 63).find? (fun i=>g/2 ^ i%2==1)=none:=by
  rw [List.find?_eq_none]
  intro j hj
  have:=h0 j (by simpa using hj)
  simp [this]
 unfold twoN;rw [this]
theorem pow_wrap {k:Nat} (hk:k<64):IntKind.u64.wrap ((2:Int) ^ k)=((2 ^ k:Nat):Int):=by
 have h:(2:Nat) ^ k<2 ^ 64:=Nat.pow_lt_pow_right (by omega) hk
 have e:(2:Int) ^ k=((2 ^ k:Nat):Int):=by rw [Int.natCast_pow];rfl
 rw [u64w,e]
 generalize (2:Nat) ^ k=z at *
 omega
set_option maxRecDepth 100000 in
theorem btwo_any (g:Nat) (hg:Big g) (w0 w:World) (hok:Ok w0 w) :
  Calls Tryz.prog 203 #[bv g] w fun e w'=>e=.returned (.int .u64 (twoN g:Int))/\Ok w0 w':=by
 have hle:=hok.le
 have HG:Hid _:=hg
 clear hg
 unfold bv
 go_enter Tryz.func203,Tryz.ntmps203
 go_wp2_with fail
 obtain ⟨W,hW⟩:∃ W,W=w.alloc (.cells #[.int .u64 (hiB g),.int .u64 (loB g)] 105):=⟨_,rfl⟩
 have ra:W.heap[w.heap.size]?=some (cB g):=by rw [hW];exact heap_new0 _ _
 have HW:Hid (Ok w0 W):=by rw [hW];exact hok.alloc _
 rw [<-hW]
 clear hW hok
 have HRA:Hid _:=ra
 clear ra
 go_loopw [3] (fun i wr=>∃ k:Nat,k<=63/\i=.int .i64 k/\Hid (∀ j,j<k->g/2 ^ j%2=0)/\Hid (Ok W wr)) (fun i _=>63-(intOf i).toNat)
 case atStart=>exact ⟨0,by omega,rfl,fun j hj=>by omega,Ok.refl _⟩
 case round =>
  obtain ⟨k,hk,rfl,HZ,HO⟩:=hrel
  by_cases hk1:k<63
  ·have hk2:(k:Int)<63:=by omega
   obtain ⟨a0,a1,_,_⟩:=cB_facts (Ok.row' HO.out HRA.out)
   go_wp2_with fail
   refine (bbit_any g k HG.out (by omega) wr wr (Ok.refl _)).mono ?_
   rintro e w' ⟨rfl,hb⟩
   by_cases h1:g/2 ^ k%2=1
   ·have HT:Hid _:=twoN_at hk1 h1 HZ.out
    rw [h1]
    clear h1
    go_wp2_with fail
    go_ret
    rw [HT.out]
    exact ⟨retu (pow_wrap (by omega)),HW.out.step (Ok.step HO.out hb)⟩
   ·have h2:g/2 ^ k%2=0:=by omega
    have HZ2:Hid (∀ j,j<k+1->g/2 ^ j%2=0):=by
     intro j hj
     by_cases e:j=k
     ·rw [e];exact h2
     ·exact HZ.out j (by omega)
    rw [h2]
    clear h1 h2
    go_wp2_with fail
    exact ⟨⟨k+1,by omega,rfl,HZ2,Ok.step HO.out hb⟩,by simp only [intOf];omega⟩
  ·have e:k=63:=by omega
   subst e
   have HT:Hid _:=twoN_none HZ.out
   go_wp2_with fail
   go_ret
   rw [HT.out]
   exact ⟨rfl,HW.out.step HO.out⟩
end
section
open Go.RowKit
theorem bit_test (B k:Nat) (hB:B<18446744073709551616):(bits .and .u64 ((B:Int)/2 ^ k) 1==1)=decide (B/2 ^ k%2=1):=by
 have e:(B:Int)/2 ^ k=((B/2 ^ k:Nat):Int):=by rw [Int.natCast_ediv,Int.natCast_pow];rfl
 have h:B/2 ^ k<18446744073709551616:=Nat.lt_of_le_of_lt (Nat.div_le_self _ _) hB
 rw [e,bit_u64 h]
 by_cases hb:B/2 ^ k%2=1
 ·rw [hb];rfl
 ·have h0:B/2 ^ k%2=0:=by omega
  rw [h0];rfl
def TimInv (w0 w wr:World) (S:Nat):Prop:=Ok w0 wr/\wr.heap[w.heap.size]?=some (cB 0)/\wr.heap[w.heap.size+1]?=some (cB S)
theorem TimInv.below {w0 w wr w1:World} {S:Nat} (h:TimInv w0 w wr S) (hb:Ok wr w1):TimInv w0 w w1 S:=⟨h.1.step hb,hb.row' h.2.1,hb.row' h.2.2⟩
theorem TimInv.setS {w0 w wr:World} {S:Nat} (h:TimInv w0 w wr S) (hw:w0.heap.size<=w.heap.size) (n:Nat):TimInv w0 w ((wr.setCell ⟨w.heap.size+1,0,none⟩ (.int .u64 (hiB n))).setCell ⟨w.heap.size+1,1,none⟩ (.int .u64 (loB n))) n:=by
 refine ⟨(h.1.set (show w0.heap.size<=w.heap.size+1 by omega) _).set (show w0.heap.size<=w.heap.size+1 by omega) _,?_,row_set2 h.2.2 _ _⟩
 rw [heap_setCell_other _ _ _ _ (by simp),heap_setCell_other _ _ _ _ (by simp)];exact h.2.1
theorem TimInv.setLo {w0 w wr:World} {S:Nat} (h:TimInv w0 w wr S) (hw:w0.heap.size<=w.heap.size) (x:Int) (n:Nat) (e1:hiB n=hiB S) (e2:loB n=x):TimInv w0 w (wr.setCell ⟨w.heap.size+1,1,none⟩ (.int .u64 x)) n:=by
 refine ⟨h.1.set (show w0.heap.size<=w.heap.size+1 by omega) _,?_,?_⟩
 ·rw [heap_setCell_other _ _ _ _ (by simp)];exact h.2.1
 ·rw [heap_setCell_same _ _ 1 _ _ _ h.2.2];unfold cB;rw [e1,e2];rfl
theorem TimInv.setLoHi {w0 w wr:World} {S:Nat} (h:TimInv w0 w wr S) (hw:w0.heap.size<=w.heap.size) (x y:Int) (n:Nat) (e1:hiB n=y) (e2:loB n=x):TimInv w0 w ((wr.setCell ⟨w.heap.size+1,1,none⟩ (.int .u64 x)).setCell ⟨w.heap.size+1,0,none⟩ (.int .u64 y)) n:=by
 refine ⟨(h.1.set (show w0.heap.size<=w.heap.size+1 by omega) _).set (show w0.heap.size<=w.heap.size+1 by omega) _,?_,?_⟩
 ·rw [heap_setCell_other _ _ _ _ (by simp),heap_setCell_other _ _ _ _ (by simp)];exact h.2.1
 ·have h1:=heap_setCell_same _ _ 1 _ _ (.int .u64 x) h.2.2
  rw [heap_setCell_same _ _ 0 _ _ (.int .u64 y) h1];unfold cB;rw [e1,e2];rfl
theorem TimInv.lo {w0 w wr:World} {S:Nat} (h:TimInv w0 w wr S) (x:Int):(wr.setCell ⟨w.heap.size+1,1,none⟩ (.int .u64 x)).heap[w.heap.size+1]?=some (.cells #[.int .u64 (hiB S),.int .u64 x] 105):=by
 rw [heap_setCell_same _ _ 1 _ _ _ h.2.2];rfl
theorem tim_carry {S a:Nat} (ha:a<18446744073709551616) (hS:Big (S+a)) (h:IntKind.u64.wrap (loB S+(a:Int))<(a:Int)):hiB (S+a)=IntKind.u64.wrap (hiB S+1)/\loB (S+a)=IntKind.u64.wrap (loB S+(a:Int)):=by
 rw [u64w] at *;rw [u64w];unfold Big at hS;unfold hiB loB at *;omega
theorem tim_none {S a:Nat} (ha:a<18446744073709551616) (h:¬IntKind.u64.wrap (loB S+(a:Int))<(a:Int)):hiB (S+a)=hiB S/\loB (S+a)=IntKind.u64.wrap (loB S+(a:Int)):=by
 rw [u64w] at *;unfold hiB loB at *;omega
set_option maxRecDepth 100000 in
theorem btimes_any (a b:Nat) (ha:a<18446744073709551616) (hb:b<18446744073709551616) (w0 w:World) (hok:Ok w0 w) :
  Calls Tryz.prog 118 #[.int .u64 a,.int .u64 b] w fun e w'=>e=.returned (bv (a*b))/\Ok w0 w':=by
 have hle:=hok.le
 have HAB:Hid _:=And.intro ha hb
 have hT:=fun k=>bit_test b k hb
 have HT:Hid _:=hT
 clear hT hb
 unfold bv
 go_enter Tryz.func118,Tryz.ntmps118
 go_wp2_with fail
 go_loopw [6] (fun i wr=>∃ k:Nat,k<=64/\i=.int .i64 ((k:Int)-1)/\Hid (TimInv w0 w wr (a*(b/2 ^ k)))) (fun i _=>(intOf i+1).toNat)
 case atStart =>
  refine ⟨64,by omega,rfl,?_⟩
  have e:b/2 ^ 64=0:=Nat.div_eq_of_lt HAB.out.2
  unfold Hid TimInv
  rw [e,Nat.mul_zero,cB_zero]
  exact ⟨(by repeat (first | exact hok | refine Ok.alloc ?_ _ | refine Ok.draws ?_ _ | fail)),jj,jj⟩
 case round =>
  obtain ⟨k,hk,rfl,HP⟩:=hrel
  by_cases hk0:k=0
  ·subst hk0
   have e:b/2 ^ 0=b:=by simp
   rw [e] at HP
   clear e
   obtain ⟨s0,s1,s2,s3⟩:=cB_facts HP.out.2.2
   obtain ⟨r0,r1,r2,r3⟩:=cB_facts HP.out.2.1
   go_wp2_with fail
   (try simp only [Exit.inBlock,Exit.then])
   refine bodyPost_ret (results_cell_row rfl _ _ w.heap.size 105 #[_,_] (0,0) _ rfl (row_set2 HP.out.2.1 _ _) Tryz.underlying105 rfl infoBg) rfl ?_
   exact ⟨rfl,(HP.out.1.set (show w0.heap.size<=w.heap.size by omega) _).set (show w0.heap.size<=w.heap.size by omega) _⟩
  ·obtain ⟨j,rfl⟩:∃ j,k=j+1:=⟨k-1,by omega⟩
   have hj:j<64:=by omega
   have ej:(((j+1:Nat):Int)-1)=(j:Int):=by omega
   rw [ej]
   clear ej hk0 hk
   obtain ⟨S,hS⟩:∃ S,S=a*(b/2 ^ (j+1)):=⟨_,rfl⟩
   rw [<-hS] at HP
   have HB:Hid (Big (a*(b/2 ^ j))):=by
    have h1:b/2 ^ j<=b:=Nat.div_le_self _ _
    have h2:=HAB.out.1
    have h3:=HAB.out.2
    have h4:a*(b/2 ^ j)<=18446744073709551615*18446744073709551615:=Nat.mul_le_mul (by omega) (by omega)
    unfold Hid Big;omega
   have HS2:Hid (a*(b/2 ^ j)=2*S+a*(b/2 ^ j%2)):=by
    have:=bit_step b j
    unfold Hid
    rw [hS]
    generalize b/2 ^ (j+1)=z at *
    generalize b/2 ^ j%2=t at *
    rw [this,Nat.mul_add,Nat.mul_left_comm]
   have h2S:Big (2*S):=by have:=HB.out;rw [HS2.out] at this;unfold Big at *;omega
   have hSB:Big S:=by unfold Big at *;omega
   clear hS
   obtain ⟨s0,s1,s2,s3⟩:=cB_facts HP.out.2.2
   go_wp2_with fail
   refine (btwice0 S hSB h2S wr wr (Ok.refl _)).mono ?_
   rintro e w4 ⟨rfl,hb4⟩
   have HP1:Hid (TimInv w0 w w4 S):=HP.out.below hb4
   have HP2:Hid (TimInv w0 w ((w4.setCell ⟨w.heap.size+1,0,none⟩ (.int .u64 (hiB (2*S)))).setCell ⟨w.heap.size+1,1,none⟩ (.int .u64 (loB (2*S)))) (2*S)):=HP1.out.setS hle (2*S)
   obtain ⟨t0,t1,t2,t3⟩:=cB_facts HP1.out.2.2
   unfold bv
   clear s0 s1 s2 s3
   have ht:=HT.out j
   by_cases hbit:b/2 ^ j%2=1
   ·rw [decide_eq_true hbit] at ht
    rw [hbit,Nat.mul_one] at HS2
    rw [HS2.out] at HB
    by_cases hc:IntKind.u64.wrap (loB (2*S)+(a:Int))<(a:Int)
    ·have HE:Hid _:=tim_carry HAB.out.1 HB.out hc
     have HP3:Hid _:=HP2.out.setLoHi hle _ _ _ HE.out.1 HE.out.2
     obtain ⟨u0,u1,u2,u3⟩:=row_facts (HP2.out.lo (IntKind.u64.wrap (loB (2*S)+(a:Int))))
     clear hbit
     go_wp2_with fail
     refine ⟨⟨j,by omega,rfl,?_⟩,by simp only [intOf];omega⟩
     unfold Hid
     rw [HS2.out]
     exact HP3.out
    ·have HE:Hid _:=tim_none HAB.out.1 hc
     have HP3:Hid _:=HP2.out.setLo hle _ _ HE.out.1 HE.out.2
     obtain ⟨u0,u1,u2,u3⟩:=row_facts (HP2.out.lo (IntKind.u64.wrap (loB (2*S)+(a:Int))))
     clear hbit
     go_wp2_with fail
     refine ⟨⟨j,by omega,rfl,?_⟩,by simp only [intOf];omega⟩
     unfold Hid
     rw [HS2.out]
     exact HP3.out
   ·rw [decide_eq_false hbit] at ht
    have e0:b/2 ^ j%2=0:=by omega
    rw [e0,Nat.mul_zero,Nat.add_zero] at HS2
    clear hbit e0
    go_wp2_with fail
    refine ⟨⟨j,by omega,rfl,?_⟩,by simp only [intOf];omega⟩
    unfold Hid
    rw [HS2.out]
    exact HP2.out
end
section
open Go.RowKit
theorem infoCg:(Tryz.prog.info? 27).map (·.size)=some 2:=by kernel_rfl
theorem infoIn:(Tryz.prog.info? 107).map (·.size)=some 3:=by kernel_rfl
def cv (M R:Nat):Value:=.agg #[.int .u64 (M:Int),.int .u64 (R:Int)]
def iv (f:Nat) (s:Bool):Value:=.agg #[.int .u64 (hiB f),.int .u64 (loB f),.bool s]
theorem row3_facts {w:World} {g:Nat} {x y z:Value} {t:TypeId} (h:w.heap[g]?=some (.cells #[x,y,z] t (0,0))) :
  w.cell? ⟨g,0,none⟩=some x/\w.cell? ⟨g,1,none⟩=some y/\w.cell? ⟨g,2,none⟩=some z/\w.frozen? ⟨g,0,none⟩=false/\w.frozen? ⟨g,1,none⟩=false/\w.frozen? ⟨g,2,none⟩=false:=by
 refine ⟨?_,?_,?_,frozen_of_row _ _ _ _ _ h,frozen_of_row _ _ _ _ _ h,frozen_of_row _ _ _ _ _ h⟩
 ·exact (cell_of_row _ _ 0 _ _ _ h).trans (by simp)
 ·exact (cell_of_row _ _ 1 _ _ _ h).trans (by simp)
 ·exact (cell_of_row _ _ 2 _ _ _ h).trans (by simp)
theorem row_set3 {w:World} {g:Nat} {x y z:Value} {t:TypeId} (hg:w.heap[g]?=some (.cells #[x,y,z] t (0,0))) (x' y' z':Value) :
  (((w.setCell ⟨g,0,none⟩ x').setCell ⟨g,1,none⟩ y').setCell ⟨g,2,none⟩ z').heap[g]?=some (.cells #[x',y',z'] t (0,0)):=by
 have h1:=heap_setCell_same w g 0 _ t x' hg
 have h2:=heap_setCell_same _ g 1 _ t y' h1
 have h3:=heap_setCell_same _ g 2 _ t z' h2
 simpa using h3
theorem reti1 {a b:Int} (h:a=b):Ending.returned (.int .i64 a)=.returned (.int .i64 b):=by rw [h]
theorem cnumber_any (M R:Nat) (hR:U64 R) (w0 w:World) (hok:Ok w0 w) :
  Calls Tryz.prog 108 #[cv M R] w fun e w'=>e=.returned (.int .i64 (wrap64 (R:Int)))/\Ok w0 w':=by
 unfold cv
 go_enter Tryz.func108,Tryz.ntmps108
 go_wp2
 go_ret
 exact ⟨reti1 rfl,(by repeat (first | exact hok | refine Ok.alloc ?_ _ | refine Ok.draws ?_ _ | fail))⟩
theorem cfar_any (v:Int) (hv:In64 v) (w:World) :
  Calls Tryz.prog 122 #[.int .i64 v] w fun e w'=>e=.returned (.int .u64 (v.natAbs:Int))/\w'=w:=by
 have HV:Hid _:=hv
 clear hv
 by_cases h:v<0
 ·go_enter Tryz.func122,Tryz.ntmps122
  go_wp2
  go_ret
  refine ⟨retu ?_,rfl⟩
  have:=HV.out;unfold In64 at this;simp only [u64w];omega
 ·go_enter Tryz.func122,Tryz.ntmps122
  go_wp2
  go_ret
  refine ⟨retu ?_,rfl⟩
  have:=HV.out;unfold In64 at this;simp only [u64w];omega
theorem retI {a b:Int} {c:Bool} {f:Nat} {s:Bool} (e1:hiB f=a) (e2:loB f=b) (e3:s=c):Ending.returned (.agg #[.int .u64 a,.int .u64 b,.bool c])=.returned (iv f s):=by unfold iv;rw [e1,e2,e3]
theorem cr_any (M R:Nat) (hM:U64 M) (hR:U64 R) (w0 w:World) (hok:Ok w0 w) :
  Calls Tryz.prog 109 #[cv M R] w fun e w'=>e=.returned (iv (rF M R) (rS M R))/\Ok w0 w':=by
 have hle:=hok.le
 have HU:Hid _:=And.intro hM hR
 have HB:Hid _:=big_small (rF_rng hM hR)
 have HI:Hid _:=wrap64_in (R:Int)
 by_cases h0:M=0
 ·have EF:Hid (rF M R=(wrap64 (R:Int)).natAbs/\rS M R=decide (wrap64 (R:Int)<0)):=by unfold Hid rF rS;rw [if_pos h0,if_pos h0];exact ⟨rfl,rfl⟩
  obtain ⟨V,hV⟩:∃ V,V=wrap64 (R:Int):=⟨_,rfl⟩
  rw [<-hV] at EF HI
  have HV:Hid _:=hV
  clear hV hM hR
  subst h0
  unfold cv
  go_enter Tryz.func109,Tryz.ntmps109
  go_wp2_with fail
  obtain ⟨W,hW⟩:∃ W,W=(w.alloc (.cells #[.int .u64 0,.int .u64 (R:Int)] 27)).alloc (.cells #[.int .u64 0,.int .u64 0,.bool false] 107):=⟨_,rfl⟩
  have ra:W.heap[w.heap.size]?=some (.cells #[.int .u64 0,.int .u64 (R:Int)] 27):=by rw [hW];exact jj
  have rr:W.heap[w.heap.size+1]?=some (.cells #[.int .u64 0,.int .u64 0,.bool false] 107):=by rw [hW];exact jj
  have HW:Hid (Ok w0 W):=by rw [hW];exact (by repeat (first | exact hok | refine Ok.alloc ?_ _ | refine Ok.draws ?_ _ | fail))
  rw [<-hW]
  clear hW hok
  obtain ⟨f0,f1,_,_⟩:=row_facts ra
  have z0:=lt_row ra
  have HR:Hid _:=rr
  clear ra rr
  have bz:Ok W W:=Ok.refl _
  have n1:¬w.heap.size+1=w.heap.size:=by omega
  go_region_held3 (fun w'=>w'.cell? ⟨w.heap.size,0,none⟩=some (.int .u64 0)/\w'.cell? ⟨w.heap.size,1,none⟩=some (.int .u64 (R:Int))) (go_keep)
   (first
   | (go_at_call 108;refine (cnumber_any 0 R HU.out.2 W _ (by repeat (first | assumption | refine Ok.alloc ?_ _ | refine Below.drew ?_))).mono ?_;rintro e w' ⟨rfl,hb⟩;rw [<-HV.out];have q0:=Ok.cell hb z0 f0;have q1:=Ok.cell hb z0 f1;obtain ⟨k0,k1,k2,k3,k4,k5⟩:=row3_facts (Ok.row' hb HR.out))
   | (go_at_call 122;refine (cfar_any V HI.out _).mono ?_;rintro e w' ⟨rfl,rfl⟩)
   | (go_at_call 111;refine (bof_raw _ W _ (by repeat (first | assumption | refine Ok.alloc ?_ _ | refine Below.drew ?_))).mono ?_;rintro e w' ⟨rfl,hb⟩;have q0:=Ok.cell hb z0 f0;have q1:=Ok.cell hb z0 f1;obtain ⟨k0,k1,k2,k3,k4,k5⟩:=row3_facts (Ok.row' hb HR.out))
   | fail)
  have HS:Hid _:=row_set3 (Ok.row' hb HR.out) (.int .u64 0) (.int .u64 (V.natAbs:Int)) (.bool (decide (V<0)))
  have HB2:Hid (Ok w0 w'):=HW.out.step hb
  go_wp2_with fail
  (try simp only [Exit.inBlock,Exit.then])
  refine bodyPost_ret (results_cell_row rfl _ _ (w.heap.size+1) 107 #[_,_,_] (0,0) _ rfl HS.out Tryz.underlying107 rfl infoIn) rfl ?_
  refine ⟨retI HB.out.1 (by rw [HB.out.2,EF.out.1]) EF.out.2,?_⟩
  exact ((HB2.out.set (show w0.heap.size<=w.heap.size+1 by omega) _).set (show w0.heap.size<=w.heap.size+1 by omega) _).set (show w0.heap.size<=w.heap.size+1 by omega) _
 ·have EF:Hid (rF M R=R%M/\rS M R=false):=by unfold Hid rF rS;rw [if_neg h0,if_neg h0];exact ⟨rfl,rfl⟩
  have h1:((M:Int)==0)=false:=by simp;omega
  have h2:¬(M:Int)=0:=by omega
  clear hM hR h0
  unfold cv
  go_enter Tryz.func109,Tryz.ntmps109
  go_wp2_with fail
  have rr:((w.alloc (.cells #[.int .u64 (M:Int),.int .u64 (R:Int)] 27)).alloc (.cells #[.int .u64 0,.int .u64 0,.bool false] 107)).heap[w.heap.size+1]?=some (.cells #[.int .u64 0,.int .u64 0,.bool false] 107):=jj
  refine (bof_raw _ _ _ (Ok.refl _)).mono ?_
  rintro e w' ⟨rfl,hb⟩
  have HR:Hid _:=Ok.row' hb rr
  have HB2:Hid (Ok w0 w'):=Ok.step (by repeat (first | exact hok | refine Ok.alloc ?_ _ | refine Ok.draws ?_ _ | fail)) hb
  obtain ⟨k0,k1,k2,k3,k4,k5⟩:=row3_facts HR.out
  clear rr hb
  go_wp2_with fail
  (try simp only [Exit.inBlock,Exit.then])
  refine bodyPost_ret (results_cell_row rfl _ _ (w.heap.size+1) 107 #[_,_,_] (0,0) _ rfl (row_set3 HR.out _ _ _) Tryz.underlying107 rfl infoIn) rfl ?_
  refine ⟨retI HB.out.1 (by rw [HB.out.2,EF.out.1,Int.natCast_emod]) EF.out.2,?_⟩
  exact ((HB2.out.set (show w0.heap.size<=w.heap.size+1 by omega) _).set (show w0.heap.size<=w.heap.size+1 by omega) _).set (show w0.heap.size<=w.heap.size+1 by omega) _
theorem rest_a {f:Nat} {s:Bool} {m:Nat} (h:¬(s=true/\f%m≠0)):restN f s m=f%m:=by unfold restN;rw [if_neg h]
theorem rest_b {f m:Nat} (h:f%m≠0):restN f true m=m-f%m:=by unfold restN;rw [if_pos ⟨rfl,h⟩]
set_option maxRecDepth 100000 in
theorem crest_any (f:Nat) (s:Bool) (m:Nat) (hf:Big f) (hm:Big m) (hm0:0<m) (w0 w:World) (hok:Ok w0 w) :
  Calls Tryz.prog 131 #[iv f s,bv m] w fun e w'=>e=.returned (bv (restN f s m))/\Ok w0 w':=by
 have hle:=hok.le
 have HP:Hid _:=And.intro hf (And.intro hm hm0)
 clear hf hm hm0
 unfold iv bv
 go_enter Tryz.func131,Tryz.ntmps131
 go_wp2_with fail
 obtain ⟨W,hW⟩:∃ W,W=((w.alloc (.cells #[.int .u64 (hiB f),.int .u64 (loB f),.bool s] 107)).alloc (.cells #[.int .u64 (hiB m),.int .u64 (loB m)] 105)).alloc (.cells #[.int .u64 0,.int .u64 0] 105):=⟨_,rfl⟩
 have ra:W.heap[w.heap.size]?=some (.cells #[.int .u64 (hiB f),.int .u64 (loB f),.bool s] 107):=by rw [hW];exact jj
 have rm:W.heap[w.heap.size+1]?=some (cB m):=by rw [hW];exact jj
 have rr:W.heap[w.heap.size+2]?=some (cB 0):=by rw [hW,cB_zero];exact jj
 have HW:Hid (Ok w0 W):=by rw [hW];exact (by repeat (first | exact hok | refine Ok.alloc ?_ _ | refine Ok.draws ?_ _ | fail))
 rw [<-hW]
 clear hW hok
 refine (bparted_any f m HP.out.2.2 HP.out.1 HP.out.2.1 W W (Ok.refl _)).mono ?_
 rintro e w' ⟨rfl,hb⟩
 obtain ⟨V,hV⟩:∃ V,V=f%m:=⟨_,rfl⟩
 rw [<-hV]
 have HV:Hid _:=hV
 have hVB:Big V:=by have:=Nat.mod_lt f HP.out.2.2;have:=HP.out.2.1;rw [hV];unfold Big at *;omega
 have HR1:Hid _:=Ok.row' hb rm
 have HR2:Hid _:=Ok.row' hb rr
 obtain ⟨a0,a1,a2,_⟩:=row3_facts (Ok.row' hb ra)
 obtain ⟨m0,m1,_,_⟩:=cB_facts HR1.out
 obtain ⟨r0,r1,r2,r3⟩:=cB_facts HR2.out
 have z0:=lt_row (Ok.row' hb ra)
 have z1:=lt_row HR1.out
 have z2:=lt_row HR2.out
 have HB2:Hid (Ok w0 w'):=HW.out.step hb
 have y0:w.heap.size<w'.heap.size+1:=by omega
 have y1:w.heap.size+1<w'.heap.size+1:=by omega
 have y2:w.heap.size+2<w'.heap.size+1:=by omega
 have x0:¬w.heap.size=w'.heap.size:=by omega
 have x1:¬w.heap.size+1=w'.heap.size:=by omega
 have x2:¬w.heap.size+2=w'.heap.size:=by omega
 have x3:¬w.heap.size=w'.heap.size+1:=by omega
 have x4:¬w.heap.size+1=w'.heap.size+1:=by omega
 have x5:¬w.heap.size+2=w'.heap.size+1:=by omega
 clear ra rm rr hb hV
 unfold bv
 by_cases h:s=true/\V≠0
 ·obtain ⟨rfl,h2⟩:=h
  have E:Hid (restN f true m=subB m V):=by
   have h3:=Nat.mod_lt f HP.out.2.2
   rw [<-HV.out] at h3
   unfold Hid;rw [rest_b (by rw [<-HV.out];exact h2),<-HV.out,subB_le HP.out.2.1 (by omega)]
  have e3:¬(hiB V=0/\loB V=0):=by unfold hiB loB;omega
  by_cases e1:hiB V=0
  ·have e2:(loB V==0)=false:=by simp;exact fun h=>e3 ⟨e1,h⟩
   have HM:Hid (∀ X,Calls Tryz.prog 205 #[bv m,.agg #[.int .u64 0,.int .u64 (loB V)]] X fun e w''=>e=.returned (bv (subB m V))/\Ok X w''):=by
    intro X
    have:=bminus_any m V HP.out.2.1 hVB X X (Ok.refl _)
    rw [show bv V=.agg #[.int .u64 0,.int .u64 (loB V)] by unfold bv;rw [e1]] at this
    exact this
   rw [e1]
   clear e1 e3
   go_wp2_with fail
   refine Calls.mono (HM.out _) ?_
   rintro e w5 ⟨rfl,hb5⟩
   have HR5:Hid _:=Ok.row' hb5 (heap_past _ _ _ (by simp;omega) (heap_past _ _ _ z2 HR2.out))
   have HB5:Hid (Ok w0 w5):=Ok.step ((HB2.out.alloc _).alloc _) hb5
   obtain ⟨s0,s1,s2,s3⟩:=cB_facts HR5.out
   unfold bv
   go_wp2_with fail
   (try simp only [Exit.inBlock,Exit.then])
   refine bodyPost_ret (results_cell_row rfl _ _ (w.heap.size+2) 105 #[_,_] (0,0) _ rfl (row_set2 HR5.out _ _) Tryz.underlying105 rfl infoBg) rfl ?_
   rw [E.out]
   exact ⟨rfl,(HB5.out.set (show w0.heap.size<=w.heap.size+2 by omega) _).set (show w0.heap.size<=w.heap.size+2 by omega) _⟩
  ·have e2:(hiB V==0)=false:=by simp [e1]
   clear e1 e3
   go_wp2_with fail
   refine (bminus_any m V HP.out.2.1 hVB _ _ (Ok.refl _)).mono ?_
   rintro e w5 ⟨rfl,hb5⟩
   have HR5:Hid _:=Ok.row' hb5 (heap_past _ _ _ (by simp;omega) (heap_past _ _ _ z2 HR2.out))
   have HB5:Hid (Ok w0 w5):=Ok.step ((HB2.out.alloc _).alloc _) hb5
   obtain ⟨s0,s1,s2,s3⟩:=cB_facts HR5.out
   unfold bv
   go_wp2_with fail
   (try simp only [Exit.inBlock,Exit.then])
   refine bodyPost_ret (results_cell_row rfl _ _ (w.heap.size+2) 105 #[_,_] (0,0) _ rfl (row_set2 HR5.out _ _) Tryz.underlying105 rfl infoBg) rfl ?_
   rw [E.out]
   exact ⟨rfl,(HB5.out.set (show w0.heap.size<=w.heap.size+2 by omega) _).set (show w0.heap.size<=w.heap.size+2 by omega) _⟩
 ·have E:Hid (restN f s m=V):=by unfold Hid;rw [rest_a (by rw [<-HV.out];exact h),HV.out]
  cases s with
  | false =>
   clear h
   go_wp2_with fail
   (try simp only [Exit.inBlock,Exit.then])
   refine bodyPost_ret (results_cell_row rfl _ _ (w.heap.size+2) 105 #[_,_] (0,0) _ rfl (heap_past _ _ _ (by simp;omega) (heap_past _ _ _ (by simp;omega) (row_set2 HR2.out _ _))) Tryz.underlying105 rfl infoBg) rfl ?_
   rw [E.out]
   exact ⟨rfl,(((HB2.out.set (show w0.heap.size<=w.heap.size+2 by omega) _).set (show w0.heap.size<=w.heap.size+2 by omega) _).alloc _).alloc _⟩
  | true =>
   have h0:V=0:=Classical.byContradiction fun c=>h ⟨rfl,c⟩
   have e1:hiB V=0:=by rw [h0];rfl
   have e2:loB V=0:=by rw [h0];rfl
   have HE12:Hid _:=And.intro e1 e2
   rw [e1,e2]
   clear h h0 e1 e2
   go_wp2_with fail
   (try simp only [Exit.inBlock,Exit.then])
   refine bodyPost_ret (results_cell_row rfl _ _ (w.heap.size+2) 105 #[_,_] (0,0) _ rfl (heap_past _ _ _ (by simp;omega) (heap_past _ _ _ (by simp;omega) (row_set2 HR2.out _ _))) Tryz.underlying105 rfl infoBg) rfl ?_
   rw [E.out,HE12.out.1,HE12.out.2]
   exact ⟨rfl,(((HB2.out.set (show w0.heap.size<=w.heap.size+2 by omega) _).set (show w0.heap.size<=w.heap.size+2 by omega) _).alloc _).alloc _⟩
theorem field_lo (a b:Value) (w:World):(Instr.field 105 (.agg #[a,b]) 1).run Tryz.prog w=.ok b w:=by kernel_rfl
attribute [local go_sem] field_lo
set_option maxRecDepth 100000 in
theorem cclass_any (f:Nat) (s:Bool) (g:Nat) (hf:Big f) (hg:U64 g) (hg0:0<g) (w0 w:World) (hok:Ok w0 w) :
  Calls Tryz.prog 123 #[iv f s,.int .u64 (g:Int)] w fun e w'=>e=.returned (cv g (restN f s g))/\Ok w0 w':=by
 have hle:=hok.le
 have hgB:Big g:=by unfold U64 at hg;unfold Big;omega
 have HE:Hid (loB (restN f s g)=(restN f s g:Int)):=by
  have:=restN_lt (f:=f) (s:=s) hg0
  unfold U64 at hg
  exact (big_small (by omega)).2
 have HP:Hid _:=And.intro hf (And.intro hg (And.intro hg0 hgB))
 clear hf hg hg0 hgB
 obtain ⟨T,hT⟩:∃ T,T=restN f s g:=⟨_,rfl⟩
 rw [<-hT] at HE ⊢
 have HT:Hid _:=hT
 clear hT
 unfold iv cv
 go_enter Tryz.func123,Tryz.ntmps123
 go_wp2_with fail
 obtain ⟨W,hW⟩:∃ W,W=(w.alloc (.cells #[.int .u64 (hiB f),.int .u64 (loB f),.bool s] 107)).alloc (.cells #[.int .u64 0,.int .u64 0] 27):=⟨_,rfl⟩
 have ra:W.heap[w.heap.size]?=some (.cells #[.int .u64 (hiB f),.int .u64 (loB f),.bool s] 107):=by rw [hW];exact jj
 have rr:W.heap[w.heap.size+1]?=some (.cells #[.int .u64 0,.int .u64 0] 27):=by rw [hW];exact jj
 have HW:Hid (Ok w0 W):=by rw [hW];exact (by repeat (first | exact hok | refine Ok.alloc ?_ _ | refine Ok.draws ?_ _ | fail))
 rw [<-hW]
 clear hW hok
 obtain ⟨f0,f1,f2,_⟩:=row3_facts ra
 have z0:=lt_row ra
 have HR:Hid _:=rr
 clear ra rr
 have bz:Ok W W:=Ok.refl _
 have n1:¬w.heap.size+1=w.heap.size:=by omega
 go_region_held3 (fun w'=>w'.cell? ⟨w.heap.size,0,none⟩=some (.int .u64 (hiB f))/\w'.cell? ⟨w.heap.size,1,none⟩=some (.int .u64 (loB f))/\w'.cell? ⟨w.heap.size,2,none⟩=some (.bool s)) (go_keep)
  (first
  | (go_at_call 111;refine (bof_any g HP.out.2.1 W _ (by repeat (first | assumption | refine Ok.alloc ?_ _ | refine Below.drew ?_))).mono ?_;rintro e w' ⟨rfl,hb⟩;have q0:=Ok.cell hb z0 f0;have q1:=Ok.cell hb z0 f1;have q2:=Ok.cell hb z0 f2;obtain ⟨k0,k1,k2,k3⟩:=row_facts (Ok.row' hb HR.out))
  | (go_at_call 131;refine (crest_any f s g HP.out.1 HP.out.2.2.2 HP.out.2.2.1 W _ (by repeat (first | assumption | refine Ok.alloc ?_ _ | refine Below.drew ?_))).mono ?_;rintro e w' ⟨rfl,hb⟩;rw [<-HT.out];unfold bv;have q0:=Ok.cell hb z0 f0;have q1:=Ok.cell hb z0 f1;have q2:=Ok.cell hb z0 f2;obtain ⟨k0,k1,k2,k3⟩:=row_facts (Ok.row' hb HR.out))
  | fail)
 have HS:Hid _:=row_set2 (Ok.row' hb HR.out) (.int .u64 (g:Int)) (.int .u64 (loB T))
 have HB2:Hid (Ok w0 w'):=HW.out.step hb
 go_wp2_with fail
 (try simp only [Exit.inBlock,Exit.then])
 refine bodyPost_ret (results_cell_row rfl _ _ (w.heap.size+1) 27 #[_,_] (0,0) _ rfl HS.out Tryz.underlying27 rfl infoCg) rfl ?_
 rw [HE.out]
 exact ⟨rfl,(HB2.out.set (show w0.heap.size<=w.heap.size+1 by omega) _).set (show w0.heap.size<=w.heap.size+1 by omega) _⟩
end
end Go.Proofs.YtpjpjhjjhoeijaaGreat
