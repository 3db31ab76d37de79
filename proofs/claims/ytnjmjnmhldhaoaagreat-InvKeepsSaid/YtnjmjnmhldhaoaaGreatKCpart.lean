import Derived.Test.YtnjmjnmhldhaoaaGreatKCok
set_option maxHeartbeats 8000000
set_option linter.all false
namespace Go.Proofs.YtnjmjnmhldhaoaaGreat
section
open Go.RowKit
theorem infoBg:(Tryz.prog.info? 75).map (·.size)=some 2:=by kernel_rfl
def bv (n:Nat):Value:=.agg #[.int .u64 (hiB n),.int .u64 (loB n)]
theorem retB {h l:Int} {n:Nat} (e1:hiB n=h) (e2:loB n=l):Ending.returned (.agg #[.int .u64 h,.int .u64 l])=.returned (bv n):=by unfold bv;rw [e1,e2]
theorem bof_any (v:Nat) (hv:U64 v) (w0 w:World) (hok:Ok w0 w) :
  Calls Tryz.prog 64 #[.int .u64 v] w fun e w'=>e=.returned (bv v)/\Ok w0 w':=by
 have E:Hid _:=big_small hv
 go_enter Tryz.func64,Tryz.ntmps64
 go_wp2
 try simp only [Exit.inBlock,Exit.then]
 refine bodyPost_ret (results_cell_row rfl _ _ w.heap.size 75 _ (0,0) _ rfl (heap_new0 _ _) Tryz.underlying75 rfl infoBg) rfl ?_
 exact ⟨retB E.out.1 E.out.2,hok.alloc _⟩
theorem bless_any (a b:Nat) (w0 w:World) (hok:Ok w0 w) :
  Calls Tryz.prog 133 #[bv a,bv b] w fun e w'=>e=.returned (.bool (decide (a<b)))/\Ok w0 w':=by
 have E:Hid _:=big_lt (a:=a) (b:=b)
 unfold bv
 by_cases h1:hiB a<hiB b
 ·go_enter Tryz.func133,Tryz.ntmps133
  go_wp2
  go_ret
  exact ⟨retb (by rw [<-E.out];simp [h1]),by repeat (first | exact hok | refine Ok.alloc ?_ _)⟩
 ·by_cases h2:hiB a=hiB b
  ·have h3:(hiB a==hiB b)=true:=by simp [h2]
   go_enter Tryz.func133,Tryz.ntmps133
   go_wp2
   go_ret
   exact ⟨retb (by rw [<-E.out];simp [h1,h2]),by repeat (first | exact hok | refine Ok.alloc ?_ _)⟩
  ·have h3:(hiB a==hiB b)=false:=by simp [h2]
   go_enter Tryz.func133,Tryz.ntmps133
   go_wp2
   go_ret
   exact ⟨retb (by rw [<-E.out];simp [h1,h2]),by repeat (first | exact hok | refine Ok.alloc ?_ _)⟩
def subB (a b:Nat):Nat:=(a+340282366920938463463374607431768211456-b)%340282366920938463463374607431768211456
theorem subB_le {a b:Nat} (ha:Big a) (h:b<=a):subB a b=a-b:=by unfold Big at ha;unfold subB;omega
theorem sub_c {a b:Nat} (ha:Big a) (hb:Big b) (h:loB a<loB b):hiB (subB a b)=(hiB a-hiB b-1)%18446744073709551616/\loB (subB a b)=(loB a-loB b)%18446744073709551616:=by
 unfold Big at *;unfold subB hiB loB at *;omega
theorem sub_n {a b:Nat} (ha:Big a) (hb:Big b) (h:¬loB a<loB b):hiB (subB a b)=(hiB a-hiB b)%18446744073709551616/\loB (subB a b)=(loB a-loB b)%18446744073709551616:=by
 unfold Big at *;unfold subB hiB loB at *;omega
theorem wrap2 (x:Int):IntKind.u64.wrap (IntKind.u64.wrap x-1)=(x-1)%18446744073709551616:=by rw [u64w,u64w];omega
theorem bminus_any (a b:Nat) (ha:Big a) (hb:Big b) (w0 w:World) (hok:Ok w0 w) :
  Calls Tryz.prog 126 #[bv a,bv b] w fun e w'=>e=.returned (bv (subB a b))/\Ok w0 w':=by
 have HA:Hid _:=And.intro ha hb
 clear ha hb
 unfold bv
 by_cases h:loB a<loB b
 ·have E:Hid _:=sub_c HA.out.1 HA.out.2 h
  go_enter Tryz.func126,Tryz.ntmps126
  go_wp2
  (try simp only [Exit.inBlock, Exit.then]); refine bodyPost_ret (results_cell_row rfl _ _ (w.heap.size+2) 75 #[_, _] (0, 0) _ rfl jj Tryz.underlying75 rfl infoBg) rfl ?_
  exact ⟨retB (by rw [E.out.1,wrap2]) (by rw [E.out.2,u64w]),(by repeat (first | exact hok | refine Ok.alloc ?_ _ | refine Ok.draws ?_ _ | fail))⟩
 ·have E:Hid _:=sub_n HA.out.1 HA.out.2 h
  go_enter Tryz.func126,Tryz.ntmps126
  go_wp2
  (try simp only [Exit.inBlock, Exit.then]); refine bodyPost_ret (results_cell_row rfl _ _ (w.heap.size+2) 75 #[_, _] (0, 0) _ rfl jj Tryz.underlying75 rfl infoBg) rfl ?_
  exact ⟨retB (by rw [E.out.1,u64w]) (by rw [E.out.2,u64w]),(by repeat (first | exact hok | refine Ok.alloc ?_ _ | refine Ok.draws ?_ _ | fail))⟩
theorem or_u64 {e b:Nat} (he:e<9223372036854775808) (hb:b<2):bits .or .u64 (2*(e:Int)) (b:Int)=2*(e:Int)+(b:Int):=by
 have:=bits_or_u64_nat (2*e) b (by omega) (by omega)
 rw [even_or hb] at this
 simpa using this
theorem twice_hi {a bit:Nat} (ha:Big a) (hb:bit<2):hiB ((2*a+bit)%340282366920938463463374607431768211456)=bits .or .u64 (IntKind.u64.wrap (hiB a*2)) (loB a/9223372036854775808):=by
 obtain ⟨h,hh⟩:∃ h:Nat,h=a/18446744073709551616:=⟨_,rfl⟩
 obtain ⟨l,hl⟩:∃ l:Nat,l=a%18446744073709551616:=⟨_,rfl⟩
 have e1:hiB a=h:=by unfold hiB;rw [hh]
 have e2:loB a=l:=by unfold loB;rw [hl]
 have e3:IntKind.u64.wrap (hiB a*2)=2*((h%9223372036854775808:Nat):Int):=by rw [u64w,e1];omega
 have e4:loB a/9223372036854775808=((l/9223372036854775808:Nat):Int):=by rw [e2];omega
 rw [e3,e4,or_u64 (by omega) (by omega)]
 unfold hiB;unfold Big at ha;omega
theorem twice_lo {a bit:Nat} (ha:Big a) (hb:bit<2):loB ((2*a+bit)%340282366920938463463374607431768211456)=bits .or .u64 (IntKind.u64.wrap (loB a*2)) (bit:Int):=by
 obtain ⟨l,hl⟩:∃ l:Nat,l=a%18446744073709551616:=⟨_,rfl⟩
 have e2:loB a=l:=by unfold loB;rw [hl]
 have e3:IntKind.u64.wrap (loB a*2)=2*((l%9223372036854775808:Nat):Int):=by rw [u64w,e2];omega
 rw [e3,or_u64 (by omega) hb]
 unfold loB;unfold Big at ha;omega
theorem twice_more {a bit:Nat} (ha:Big a) (hb:bit<2):(hiB a/9223372036854775808==1)=decide (340282366920938463463374607431768211456<=2*a+bit):=by
 unfold hiB;unfold Big at ha
 by_cases h:340282366920938463463374607431768211456<=2*a+bit
 ·rw [decide_eq_true h];simp;omega
 ·rw [decide_eq_false h];simp;omega
theorem retBb {h l:Int} {n:Nat} {b c:Bool} (e1:hiB n=h) (e2:loB n=l) (e3:b=c):Ending.returned (.tuple #[.agg #[.int .u64 h,.int .u64 l],.bool b])=.returned (.tuple #[bv n,.bool c]):=by unfold bv;rw [e1,e2,e3]
theorem btwice_any (a:Nat) (bit:Nat) (ha:Big a) (hbit:bit<2) (w0 w:World) (hok:Ok w0 w) :
  Calls Tryz.prog 176 #[bv a,.int .u64 bit] w fun e w'=>e=.returned (.tuple #[bv ((2*a+bit)%340282366920938463463374607431768211456),.bool (decide (340282366920938463463374607431768211456<=2*a+bit))])/\Ok w0 w':=by
 have HA:Hid _:=And.intro (twice_hi ha hbit) (And.intro (twice_lo ha hbit) (twice_more ha hbit))
 clear ha hbit
 have hle:=hok.le
 obtain ⟨N,hN⟩:∃ N,N=(2*a+bit)%340282366920938463463374607431768211456:=⟨_,rfl⟩
 obtain ⟨C,hC⟩:∃ C,C=decide (340282366920938463463374607431768211456<=2*a+bit):=⟨_,rfl⟩
 rw [<-hN,<-hC] at HA
 rw [<-hN,<-hC]
 clear hN hC
 go_enter Tryz.func176,Tryz.ntmps176
 unfold bv
 go_wp2
 obtain ⟨W,hW⟩:∃ W,W=(w.alloc (.cells #[.int .u64 (hiB a),.int .u64 (loB a)] 75)).alloc (.cells #[.int .u64 0,.int .u64 0] 75):=⟨_,rfl⟩
 have ra:W.heap[w.heap.size]?=some (.cells #[.int .u64 (hiB a),.int .u64 (loB a)] 75):=by rw [hW];exact jj
 have rr:W.heap[w.heap.size+1]?=some (.cells #[.int .u64 0,.int .u64 0] 75):=by rw [hW];exact jj
 have HW:Hid (Ok w0 W):=by rw [hW];exact (by repeat (first | exact hok | refine Ok.alloc ?_ _ | refine Ok.draws ?_ _ | fail))
 rw [<-hW]
 clear hW
 have HRR:Hid _:=rr
 obtain ⟨a0,a1,_,_⟩:=row_facts ra
 obtain ⟨c0,c1,c2,c3⟩:=row_facts rr
 clear ra rr hok
 go_region_held3 (fun w'=>w'.cell? ⟨w.heap.size,0,none⟩=some (.int .u64 (hiB a))/\w'.cell? ⟨w.heap.size,1,none⟩=some (.int .u64 (loB a))) (go_keep) (fail)
 go_wp2_with fail
 (try simp only [Exit.inBlock,Exit.then])
 refine bodyPost_ret (results_iv rfl _ _ (w.heap.size+1) 75 #[_,_] (0,0) _ rfl (row_set2 HRR.out _ _) Tryz.underlying75 rfl infoBg) rfl ?_
 exact ⟨retBb HA.out.1 HA.out.2.1 HA.out.2.2,Ok.draws ((HW.out.set (show w0.heap.size<=w.heap.size+1 by omega) _).set (show w0.heap.size<=w.heap.size+1 by omega) _) 1⟩
theorem bit_u64 {x:Nat} (hx:x<18446744073709551616):bits .and .u64 (x:Int) 1=((x%2:Nat):Int):=by
 have:=bits_and_u64_nat x 1 hx (by omega)
 rw [Nat.and_one_is_mod] at this
 simpa using this
theorem bit_lo {a i:Nat} (h:i<64):bits .and .u64 (loB a/2 ^ i) 1=((a/2 ^ i%2:Nat):Int):=by
 obtain ⟨l,hl⟩:∃ l:Nat,l=a%18446744073709551616:=⟨_,rfl⟩
 have e2:loB a=l:=by unfold loB;rw [hl]
 have e:loB a/2 ^ i=((l/2 ^ i:Nat):Int):=by rw [e2,Int.natCast_ediv,Int.natCast_pow];rfl
 have hlt:l/2 ^ i<18446744073709551616:=Nat.lt_of_le_of_lt (Nat.div_le_self _ _) (by omega)
 rw [e,bit_u64 hlt]
 congr 1
 rw [hl]
 have h2:(18446744073709551616:Nat)=2 ^ i*2 ^ (64-i):=by rw [<-Nat.pow_add,show i+(64-i)=64 by omega]
 rw [h2,Nat.mod_mul_right_div_self]
 have h3:2 ^ (64-i)=2*2 ^ (63-i):=by rw [<-Nat.pow_succ'];congr 1;omega
 rw [h3,Nat.mod_mul_right_mod]
theorem bit_hi {a i:Nat} (ha:Big a) (h:64<=i):bits .and .u64 (hiB a/2 ^ (i-64)) 1=((a/2 ^ i%2:Nat):Int):=by
 obtain ⟨l,hl⟩:∃ l:Nat,l=a/18446744073709551616:=⟨_,rfl⟩
 have e2:hiB a=l:=by unfold hiB;rw [hl]
 have e:hiB a/2 ^ (i-64)=((l/2 ^ (i-64):Nat):Int):=by rw [e2,Int.natCast_ediv,Int.natCast_pow];rfl
 have hlt:l/2 ^ (i-64)<18446744073709551616:=Nat.lt_of_le_of_lt (Nat.div_le_self _ _) (by unfold Big at ha;omega)
 rw [e,bit_u64 hlt]
 congr 2
 rw [hl,Nat.div_div_eq_div_mul]
 congr 1
 rw [show (18446744073709551616:Nat)=2 ^ 64 from rfl,<-Nat.pow_add,show 64+(i-64)=i by omega]
theorem retu {a b:Int} (h:a=b):Ending.returned (.int .u64 a)=.returned (.int .u64 b):=by rw [h]
theorem bbit_any (a i:Nat) (ha:Big a) (hi:i<128) (w0 w:World) (hok:Ok w0 w) :
  Calls Tryz.prog 177 #[bv a,.int .i64 i] w fun e w'=>e=.returned (.int .u64 ((a/2 ^ i%2:Nat):Int))/\Ok w0 w':=by
 have HA:Hid _:=ha
 clear ha
 obtain ⟨r,hr⟩:∃ r:Nat,r=a/2 ^ i%2:=⟨_,rfl⟩
 rw [<-hr]
 have HRr:Hid _:=hr
 clear hr
 unfold bv
 by_cases h:i<64
 ·have h2:(i:Int)<64:=by omega
  have E:Hid _:=bit_lo (a:=a) h
  rw [<-HRr.out] at E
  go_enter Tryz.func177,Tryz.ntmps177
  go_wp2
  go_ret
  exact ⟨retu E.out,(by repeat (first | exact hok | refine Ok.alloc ?_ _ | refine Ok.draws ?_ _ | fail))⟩
 ·have h2:¬(i:Int)<64:=by omega
  have E:Hid _:=bit_hi HA.out (show 64<=i by omega)
  rw [<-HRr.out] at E
  go_enter Tryz.func177,Tryz.ntmps177
  go_wp2
  go_ret
  exact ⟨retu E.out,(by repeat (first | exact hok | refine Ok.alloc ?_ _ | refine Ok.draws ?_ _ | fail))⟩
end
section
open Go.RowKit
def cB (n:Nat):Obj:=.cells #[.int .u64 (hiB n),.int .u64 (loB n)] 75
theorem cB_zero:cB 0=.cells #[.int .u64 0,.int .u64 0] 75:=by unfold cB hiB loB;rfl
theorem cB_facts {w:World} {g n:Nat} (h:w.heap[g]?=some (cB n)):w.cell? ⟨g,0,none⟩=some (.int .u64 (hiB n))/\w.cell? ⟨g,1,none⟩=some (.int .u64 (loB n))/\w.frozen? ⟨g,0,none⟩=false/\w.frozen? ⟨g,1,none⟩=false:=row_facts h
def PartInv (w0 w wr:World) (a m q r:Nat):Prop :=
 Ok w0 wr/\w.heap.size+6<=wr.heap.size/\wr.heap[w.heap.size]?=some (cB a)/\wr.heap[w.heap.size+1]?=some (cB m)/\wr.heap[w.heap.size+2]?=some (cB 0)/\wr.heap[w.heap.size+3]?=some (cB 0)/\wr.heap[w.heap.size+4]?=some (cB q)/\wr.heap[w.heap.size+5]?=some (cB r)
theorem PartInv.below {w0 w wr w1:World} {a m q r:Nat} (h:PartInv w0 w wr a m q r) (hb:Ok wr w1):PartInv w0 w w1 a m q r:=by
 obtain ⟨h1,h2,h3,h4,h5,h6,h7,h8⟩:=h
 have:=hb.le
 exact ⟨h1.step hb,by omega,hb.row' h3,hb.row' h4,hb.row' h5,hb.row' h6,hb.row' h7,hb.row' h8⟩
theorem PartInv.setR {w0 w wr:World} {a m q r:Nat} (h:PartInv w0 w wr a m q r) (hw:w0.heap.size<=w.heap.size) (x y:Int) (n:Nat) (hx:hiB n=x) (hy:loB n=y):PartInv w0 w ((wr.setCell ⟨w.heap.size+5,0,none⟩ (.int .u64 x)).setCell ⟨w.heap.size+5,1,none⟩ (.int .u64 y)) a m q n:=by
 obtain ⟨h1,h2,h3,h4,h5,h6,h7,h8⟩:=h
 refine ⟨(h1.set (show w0.heap.size<=w.heap.size+5 by omega) _).set (show w0.heap.size<=w.heap.size+5 by omega) _,by simpa using h2,?_,?_,?_,?_,?_,?_⟩
 ·rw [heap_setCell_other _ _ _ _ (by simp),heap_setCell_other _ _ _ _ (by simp)];exact h3
 ·rw [heap_setCell_other _ _ _ _ (by simp),heap_setCell_other _ _ _ _ (by simp)];exact h4
 ·rw [heap_setCell_other _ _ _ _ (by simp),heap_setCell_other _ _ _ _ (by simp)];exact h5
 ·rw [heap_setCell_other _ _ _ _ (by simp),heap_setCell_other _ _ _ _ (by simp)];exact h6
 ·rw [heap_setCell_other _ _ _ _ (by simp),heap_setCell_other _ _ _ _ (by simp)];exact h7
 ·have:=row_set2 h8 (.int .u64 x) (.int .u64 y)
  rw [<-hx,<-hy] at this ⊢
  exact this
theorem PartInv.setQ {w0 w wr:World} {a m q r:Nat} (h:PartInv w0 w wr a m q r) (hw:w0.heap.size<=w.heap.size) (x y:Int) (n:Nat) (hx:hiB n=x) (hy:loB n=y):PartInv w0 w ((wr.setCell ⟨w.heap.size+4,0,none⟩ (.int .u64 x)).setCell ⟨w.heap.size+4,1,none⟩ (.int .u64 y)) a m n r:=by
 obtain ⟨h1,h2,h3,h4,h5,h6,h7,h8⟩:=h
 refine ⟨(h1.set (show w0.heap.size<=w.heap.size+4 by omega) _).set (show w0.heap.size<=w.heap.size+4 by omega) _,by simpa using h2,?_,?_,?_,?_,?_,?_⟩
 ·rw [heap_setCell_other _ _ _ _ (by simp),heap_setCell_other _ _ _ _ (by simp)];exact h3
 ·rw [heap_setCell_other _ _ _ _ (by simp),heap_setCell_other _ _ _ _ (by simp)];exact h4
 ·rw [heap_setCell_other _ _ _ _ (by simp),heap_setCell_other _ _ _ _ (by simp)];exact h5
 ·rw [heap_setCell_other _ _ _ _ (by simp),heap_setCell_other _ _ _ _ (by simp)];exact h6
 ·have:=row_set2 h7 (.int .u64 x) (.int .u64 y)
  rw [<-hx,<-hy] at this ⊢
  exact this
 ·rw [heap_setCell_other _ _ _ _ (by simp),heap_setCell_other _ _ _ _ (by simp)];exact h8
theorem PartInv.oneQ {w0 w wr:World} {a m q r:Nat} (h:PartInv w0 w wr a m (2*q) r) (hw:w0.heap.size<=w.heap.size) (hq:Big (2*q)):PartInv w0 w (wr.setCell ⟨w.heap.size+4,1,none⟩ (.int .u64 (bits .or .u64 (loB (2*q)) 1))) a m (2*q+1) r:=by
 obtain ⟨h1,h2,h3,h4,h5,h6,h7,h8⟩:=h
 have e1:hiB (2*q)=hiB (2*q+1):=by unfold hiB;omega
 have e2:bits .or .u64 (loB (2*q)) 1=loB (2*q+1):=by
  have e3:loB (2*q)=2*((q%9223372036854775808:Nat):Int):=by unfold loB;omega
  have:=or_u64 (e:=q%9223372036854775808) (b:=1) (by omega) (by omega)
  rw [e3,show (1:Int)=((1:Nat):Int) from rfl,this]
  unfold loB;omega
 refine ⟨h1.set (show w0.heap.size<=w.heap.size+4 by omega) _,by simpa using h2,?_,?_,?_,?_,?_,?_⟩
 ·rw [heap_setCell_other _ _ _ _ (by simp)];exact h3
 ·rw [heap_setCell_other _ _ _ _ (by simp)];exact h4
 ·rw [heap_setCell_other _ _ _ _ (by simp)];exact h5
 ·rw [heap_setCell_other _ _ _ _ (by simp)];exact h6
 ·have:=heap_setCell_same _ _ 1 _ _ (.int .u64 (bits .or .u64 (loB (2*q)) 1)) h7
  rw [this]
  unfold cB
  rw [e2,e1]
  rfl
 ·rw [heap_setCell_other _ _ _ _ (by simp)];exact h8
theorem bof_raw (x:Int) (w0 w:World) (hok:Ok w0 w) :
  Calls Tryz.prog 64 #[.int .u64 x] w fun e w'=>e=.returned (.agg #[.int .u64 0,.int .u64 x])/\Ok w0 w':=by
 go_enter Tryz.func64,Tryz.ntmps64
 go_wp2
 try simp only [Exit.inBlock,Exit.then]
 refine bodyPost_ret (results_cell_row rfl _ _ w.heap.size 75 _ (0,0) _ rfl (heap_new0 _ _) Tryz.underlying75 rfl infoBg) rfl ?_
 exact ⟨rfl,hok.alloc _⟩
theorem nat_wrap {z:Nat} (h:z<18446744073709551616):(z:Int)=(z:Int)%18446744073709551616:=by omega
theorem row_set4 {w:World} {g k:Nat} {u v u' v':Value} {t:TypeId} (hg:w.heap[g]?=some (.cells #[u,v] t (0,0))) (hk:w.heap[k]?=some (.cells #[u',v'] t (0,0))) (hne:g≠k) (x y x' y':Value) :
  ((((w.setCell ⟨g,0,none⟩ x).setCell ⟨g,1,none⟩ y).setCell ⟨k,0,none⟩ x').setCell ⟨k,1,none⟩ y').heap[g]?=some (.cells #[x,y] t (0,0))/\((((w.setCell ⟨g,0,none⟩ x).setCell ⟨g,1,none⟩ y).setCell ⟨k,0,none⟩ x').setCell ⟨k,1,none⟩ y').heap[k]?=some (.cells #[x',y'] t (0,0)):=by
 constructor
 ·rw [heap_setCell_other _ _ _ _ hne,heap_setCell_other _ _ _ _ hne];exact row_set2 hg x y
 ·refine row_set2 (u:=u') (v:=v') ?_ x' y'
  rw [heap_setCell_other _ _ _ _ (Ne.symm hne),heap_setCell_other _ _ _ _ (Ne.symm hne)];exact hk
theorem retBB {h l h2 l2:Int} {n k:Nat} (e1:hiB n=h) (e2:loB n=l) (e3:hiB k=h2) (e4:loB k=l2):Ending.returned (.tuple #[.agg #[.int .u64 h,.int .u64 l],.agg #[.int .u64 h2,.int .u64 l2]])=.returned (.tuple #[bv n,bv k]):=by unfold bv;rw [e1,e2,e3,e4]
theorem bparted_small (a m:Nat) (hm:0<m) (ha:a<18446744073709551616) (hm2:m<18446744073709551616) (w0 w:World) (hok:Ok w0 w) :
  Calls Tryz.prog 125 #[bv a,bv m] w fun e w'=>e=.returned (.tuple #[bv (a/m),bv (a%m)])/\Ok w0 w':=by
 have h1:(hiB a==0)=true:=by rw [(big_small ha).1];rfl
 have h2:(hiB m==0)=true:=by rw [(big_small hm2).1];rfl
 have h3:(loB m==0)=false:=by rw [(big_small hm2).2];simp;omega
 have h4:¬loB m=0:=by rw [(big_small hm2).2];omega
 have E:Hid (hiB (a/m)=0/\loB (a/m)=IntKind.u64.wrap ((loB a).tdiv (loB m))/\hiB (a%m)=0/\loB (a%m)=(loB a).tmod (loB m)):=by
  have q1:a/m<18446744073709551616:=Nat.lt_of_le_of_lt (Nat.div_le_self _ _) ha
  have q2:a%m<18446744073709551616:=Nat.lt_of_le_of_lt (Nat.mod_le _ _) ha
  unfold Hid
  rw [(big_small q1).1,(big_small q1).2,(big_small q2).1,(big_small q2).2,(big_small ha).2,(big_small hm2).2]
  refine ⟨rfl,?_,rfl,?_⟩
  ·rw [u64w,Int.tdiv_eq_ediv_of_nonneg (by omega),<-Int.natCast_ediv]
   exact nat_wrap q1
  ·rw [Int.tmod_eq_emod_of_nonneg (by omega),<-Int.natCast_emod]
 have hle:=hok.le
 clear ha hm2
 unfold bv
 go_enter Tryz.func125,Tryz.ntmps125
 go_wp2_with fail
 obtain ⟨W,hW⟩:∃ W,W=(((w.alloc (.cells #[.int .u64 (hiB a),.int .u64 (loB a)] 75)).alloc (.cells #[.int .u64 (hiB m),.int .u64 (loB m)] 75)).alloc (.cells #[.int .u64 0,.int .u64 0] 75)).alloc (.cells #[.int .u64 0,.int .u64 0] 75):=⟨_,rfl⟩
 have ra:W.heap[w.heap.size]?=some (.cells #[.int .u64 (hiB a),.int .u64 (loB a)] 75):=by rw [hW];exact jj
 have rm:W.heap[w.heap.size+1]?=some (.cells #[.int .u64 (hiB m),.int .u64 (loB m)] 75):=by rw [hW];exact jj
 have r1:W.heap[w.heap.size+2]?=some (.cells #[.int .u64 0,.int .u64 0] 75):=by rw [hW];exact jj
 have r2:W.heap[w.heap.size+3]?=some (.cells #[.int .u64 0,.int .u64 0] 75):=by rw [hW];exact jj
 have HW:Hid (Ok w0 W):=by rw [hW];exact (by repeat (first | exact hok | refine Ok.alloc ?_ _ | refine Ok.draws ?_ _ | fail))
 first | rw [<-hW] | (trace_state;fail)
 clear hW
 obtain ⟨a0,a1,_,_⟩:=row_facts ra
 obtain ⟨m0,m1,_,_⟩:=row_facts rm
 have g0:=lt_row ra
 have g1:=lt_row rm
 have g2:=lt_row r1
 have g3:=lt_row r2
 have HR:Hid _:=And.intro r1 r2
 clear ra rm r1 r2 hok m0 a0
 have bz:Ok W W:=Ok.refl _
 have n1:¬w.heap.size+1+1=w.heap.size:=by omega
 have n2:¬w.heap.size+1+1+1=w.heap.size:=by omega
 have n3:¬w.heap.size+1+1=w.heap.size+1:=by omega
 have n4:¬w.heap.size+1+1+1=w.heap.size+1:=by omega
 go_region_held3 (fun w'=>w'.cell? ⟨w.heap.size,1,none⟩=some (.int .u64 (loB a))/\w'.cell? ⟨w.heap.size+1,1,none⟩=some (.int .u64 (loB m))) (go_keep)
  (first
  | (go_at_call 64;refine (bof_raw _ W _ (by first | assumption | exact Below.drew (by assumption))).mono ?_;rintro e w' ⟨rfl,hb⟩;have q0:=Ok.cell hb g0 a1;have q1:=Ok.cell hb g1 m1;obtain ⟨k0,k1,k2,k3⟩:=row_facts (Ok.row' hb HR.out.1);obtain ⟨l0,l1,l2,l3⟩:=row_facts (Ok.row' hb HR.out.2))
  | fail)
 have HS:Hid _:=row_set4 (Ok.row' hb HR.out.1) (Ok.row' hb HR.out.2) (show w.heap.size+2≠w.heap.size+3 by omega) (.int .u64 0) (.int .u64 (IntKind.u64.wrap ((loB a).tdiv (loB m)))) (.int .u64 0) (.int .u64 ((loB a).tmod (loB m)))
 have HB:Hid (Ok w0 w'):=HW.out.step hb
 clear n1 n2 n3 n4 g0 g1 g2 g3
 go_wp2_with fail
 (try simp only [Exit.inBlock,Exit.then])
 refine bodyPost_ret (results_2c rfl _ _ (w.heap.size+2) (w.heap.size+3) 75 #[_,_] #[_,_] (0,0) _ rfl rfl HS.out.1 HS.out.2 Tryz.underlying75 rfl infoBg infoBg) rfl ?_
 exact ⟨retBB E.out.1 E.out.2.1 E.out.2.2.1 E.out.2.2.2,(((HB.out.set (show w0.heap.size<=w.heap.size+2 by omega) _).set (show w0.heap.size<=w.heap.size+2 by omega) _).set (show w0.heap.size<=w.heap.size+3 by omega) _).set (show w0.heap.size<=w.heap.size+3 by omega) _⟩
theorem btwice0 (a:Nat) (ha:Big a) (ha2:Big (2*a)) (w0 w:World) (hok:Ok w0 w) :
  Calls Tryz.prog 176 #[bv a,.int .u64 0] w fun e w'=>e=.returned (.tuple #[bv (2*a),.bool false])/\Ok w0 w':=by
 have h:=btwice_any a 0 ha (by omega) w0 w hok
 have e1:(2*a+0)%340282366920938463463374607431768211456=2*a:=by unfold Big at ha2;omega
 have e2:decide (340282366920938463463374607431768211456<=2*a+0)=false:=by unfold Big at ha2;exact decide_eq_false (by omega)
 rw [e1,e2] at h
 exact h
set_option maxRecDepth 100000 in
theorem bparted_bigA (a m:Nat) (hm:0<m) (ha:Big a) (hmB:Big m) (hc:¬a<18446744073709551616) (w0 w:World) (hok:Ok w0 w) :
  Calls Tryz.prog 125 #[bv a,bv m] w fun e w'=>e=.returned (.tuple #[bv (a/m),bv (a%m)])/\Ok w0 w':=by
 have h1:(hiB a==0)=false:=by unfold hiB;simp;omega
 have HH:Hid _:=And.intro ha (And.intro hmB hm)
 have hle:=hok.le
 clear ha hmB hm hc
 unfold bv
 go_enter Tryz.func125,Tryz.ntmps125
 go_wp2_with fail
 obtain ⟨W,hW⟩:∃ W,W=(((((w.alloc (.cells #[.int .u64 (hiB a),.int .u64 (loB a)] 75)).alloc (.cells #[.int .u64 (hiB m),.int .u64 (loB m)] 75)).alloc (.cells #[.int .u64 0,.int .u64 0] 75)).alloc (.cells #[.int .u64 0,.int .u64 0] 75)).alloc (.cells #[.int .u64 0,.int .u64 0] 75)).alloc (.cells #[.int .u64 0,.int .u64 0] 75):=⟨_,rfl⟩
 have HI:Hid (PartInv w0 w W a m 0 0):=by
  unfold Hid PartInv
  rw [cB_zero,hW]
  refine ⟨(by repeat (first | exact hok | refine Ok.alloc ?_ _ | refine Ok.draws ?_ _ | fail)),by simp,?_,?_,?_,?_,?_,?_⟩
  ·unfold cB;skip;exact jj
  ·unfold cB;exact jj
  ·exact jj
  ·exact jj
  ·exact jj
  ·exact jj
 rw [<-hW]
 clear hW hok
 go_loopw [8] (fun i wr=>∃ k:Nat,k<=128/\i=.int .i64 ((k:Int)-1)/\Hid (PartInv w0 w wr a m (a/2 ^ k/m) (a/2 ^ k%m))) (fun i _=>(intOf i+1).toNat)
 case atStart =>
  refine ⟨128,by omega,rfl,?_⟩
  have e:a/2 ^ 128=0:=Nat.div_eq_of_lt HH.out.1
  unfold Hid
  rw [e,Nat.zero_div,Nat.zero_mod]
  exact HI.out
 case round =>
  clear HI
  obtain ⟨k,hk,rfl,HP⟩:=hrel
  by_cases hk0:k=0
  ·subst hk0
   have e:a/2 ^ 0=a:=by simp
   rw [e] at HP
   clear e
   obtain ⟨_,p2,_,_,p5,p6,p7,p8⟩:=HP.out
   obtain ⟨q0,q1,_,_⟩:=cB_facts p7
   obtain ⟨t0,t1,_,_⟩:=cB_facts p8
   obtain ⟨k0,k1,k2,k3⟩:=cB_facts p5
   obtain ⟨l0,l1,l2,l3⟩:=cB_facts p6
   have HS:Hid _:=row_set4 p5 p6 (show w.heap.size+2≠w.heap.size+3 by omega) (.int .u64 (hiB (a/m))) (.int .u64 (loB (a/m))) (.int .u64 (hiB (a%m))) (.int .u64 (loB (a%m)))
   clear p2 p5 p6 p7 p8
   go_wp2_with fail
   have n1:¬w.heap.size+2=w.heap.size+4:=by omega
   have n2:¬w.heap.size+2=w.heap.size+5:=by omega
   have n3:¬w.heap.size+3=w.heap.size+4:=by omega
   have n4:¬w.heap.size+3=w.heap.size+5:=by omega
   go_region_held3 (fun w'=>w'.cell? ⟨w.heap.size+4,0,none⟩=some (.int .u64 (hiB (a/m)))/\w'.cell? ⟨w.heap.size+4,1,none⟩=some (.int .u64 (loB (a/m)))/\w'.cell? ⟨w.heap.size+5,0,none⟩=some (.int .u64 (hiB (a%m)))/\w'.cell? ⟨w.heap.size+5,1,none⟩=some (.int .u64 (loB (a%m)))) (go_keep) (fail)
   go_wp2_with fail
   (try simp only [Exit.inBlock,Exit.then])
   refine bodyPost_ret (results_2c rfl _ _ (w.heap.size+2) (w.heap.size+3) 75 #[_,_] #[_,_] (0,0) _ rfl rfl HS.out.1 HS.out.2 Tryz.underlying75 rfl infoBg infoBg) rfl ?_
   exact ⟨rfl,Ok.draws ((((HP.out.1.set (show w0.heap.size<=w.heap.size+2 by omega) _).set (show w0.heap.size<=w.heap.size+2 by omega) _).set (show w0.heap.size<=w.heap.size+3 by omega) _).set (show w0.heap.size<=w.heap.size+3 by omega) _) 1⟩
  ·obtain ⟨j,rfl⟩:∃ j,k=j+1:=⟨k-1,by omega⟩
   have hj:j<128:=by omega
   have ej:(((j+1:Nat):Int)-1)=(j:Int):=by omega
   rw [ej]
   clear ej hk0 hk
   obtain ⟨Q,hQ⟩:∃ Q,Q=a/2 ^ (j+1)/m:=⟨_,rfl⟩
   obtain ⟨R,hR⟩:∃ R,R=a/2 ^ (j+1)%m:=⟨_,rfl⟩
   obtain ⟨bt,hbt⟩:∃ bt,bt=a/2 ^ j%2:=⟨_,rfl⟩
   rw [<-hQ,<-hR] at HP
   have hb2:bt<2:=by omega
   have HST:Hid _:=part_step (A:=a/2 ^ (j+1)) (m:=m) (b:=bt) HH.out.2.2 hb2
   have HB:Hid (a/2 ^ j=2*(a/2 ^ (j+1))+bt):=by unfold Hid;rw [hbt];exact bit_step a j
   rw [<-hQ,<-hR,<-HB.out] at HST
   have HRM:Hid (R<m):=by unfold Hid;rw [hR];exact Nat.mod_lt _ HH.out.2.2
   have HQ2:Hid (Big (2*Q)):=by
    unfold Hid Big;rw [hQ]
    have e1:a/2 ^ (j+1)/m<=a/2 ^ (j+1):=Nat.div_le_self _ _
    have e2:2*(a/2 ^ (j+1))<=a/2 ^ j:=by have:=HB.out;omega
    have e3:a/2 ^ j<=a:=Nat.div_le_self _ _
    have:=HH.out.1;unfold Big at this;omega
   have hRB:Big R:=by have:=HH.out.2.1;have:=HRM.out;unfold Big at *;omega
   have hQB:Big Q:=by have:=HQ2.out;unfold Big at *;omega
   have HBT:Hid _:=hbt
   clear hQ hR hbt HB
   obtain ⟨_,p2,p3,p4,p5,p6,p7,p8⟩:=HP.out
   obtain ⟨a0,a1,_,_⟩:=cB_facts p3
   obtain ⟨r0,r1,r2,r3⟩:=cB_facts p8
   have z0:=lt_row p3
   have z1:=lt_row p8
   have bz:Ok wr wr:=Ok.refl _
   have HR8:Hid _:=p8
   clear p2 p3 p4 p5 p6 p7 p8
   go_wp2_with fail
   go_region_with (first
    | (go_at_call 177;refine (bbit_any a j HH.out.1 hj wr _ (by repeat (first | assumption | refine Ok.alloc ?_ _ | refine Below.drew ?_))).mono ?_;rintro e w' ⟨rfl,hb⟩;rw [<-HBT.out];have q0:=Ok.cell hb z1 r0;have q1:=Ok.cell hb z1 r1;have q2:=Ok.cell hb z0 a0;have q3:=Ok.cell hb z0 a1)
    | (go_at_call 176;refine (btwice_any R bt hRB hb2 wr _ (by repeat (first | assumption | refine Ok.alloc ?_ _ | refine Below.drew ?_))).mono ?_;rintro e w' ⟨rfl,hb⟩;unfold bv;obtain ⟨s0,s1,s2,s3⟩:=cB_facts (Ok.row' hb HR8.out))
    | fail)
   all_goals
    have HP1:Hid (PartInv w0 w ((w'.setCell ⟨w.heap.size+1+1+1+1+1,0,none⟩ (.int .u64 (hiB ((2*R+bt)%340282366920938463463374607431768211456)))).setCell ⟨w.heap.size+1+1+1+1+1,1,none⟩ (.int .u64 (loB ((2*R+bt)%340282366920938463463374607431768211456)))) a m Q ((2*R+bt)%340282366920938463463374607431768211456)):=(HP.out.below hb).setR hle _ _ _ rfl rfl
    obtain ⟨X,hX⟩:∃ X,X=(w'.setCell ⟨w.heap.size+1+1+1+1+1,0,none⟩ (.int .u64 (hiB ((2*R+bt)%340282366920938463463374607431768211456)))).setCell ⟨w.heap.size+1+1+1+1+1,1,none⟩ (.int .u64 (loB ((2*R+bt)%340282366920938463463374607431768211456))):=⟨_,rfl⟩
    rw [<-hX] at HP1 ⊢
    clear hX
    obtain ⟨N,hN⟩:∃ N,N=(2*R+bt)%340282366920938463463374607431768211456:=⟨_,rfl⟩
    rw [<-hN] at HP1
    try rw [<-hN]
    have HN:Hid _:=hN
    have hNB:Big N:=by rw [hN];unfold Big;omega
    clear hN HP HR8 z0 z1
    obtain ⟨_,_,_,x4,_,_,x7,x8⟩:=HP1.out
    obtain ⟨y0,y1,y2,y3⟩:=cB_facts x7
    clear x4 x7 x8
    by_cases hC:340282366920938463463374607431768211456<=2*R+bt
    ·have HE1:Hid (subB N m=2*R+bt-m):=by
      have e1:=HN.out;have e2:=HRM.out;have e3:=HH.out.2.1;unfold Big at e3;unfold Hid subB;omega
     have HE2:Hid (a/2 ^ j/m=2*Q+1/\a/2 ^ j%m=2*R+bt-m):=HST.out.1 (by have e3:=HH.out.2.1;unfold Big at e3;omega)
     have dC:decide (340282366920938463463374607431768211456<=2*R+bt)=true:=decide_eq_true hC
     rw [dC]
     clear hC dC
     go_wp2_with fail
     refine (btwice0 Q hQB HQ2.out X X (Ok.refl _)).mono ?_
     rintro e w4 ⟨rfl,hb4⟩
     have HP2:Hid (PartInv w0 w w4 a m Q N):=HP1.out.below hb4
     unfold bv
     obtain ⟨_,_,_,x4,_,_,x7,x8⟩:=HP2.out
     obtain ⟨b0,b1,b2,b3⟩:=cB_facts x7
     obtain ⟨c0,c1,c2,c3⟩:=cB_facts x4
     obtain ⟨d0,d1,d2,d3⟩:=cB_facts x8
     clear x4 x7 x8 y0 y1 y2 y3
     go_wp2_with fail
     have HP3:Hid (PartInv w0 w ((w4.setCell ⟨w.heap.size+1+1+1+1,0,none⟩ (.int .u64 (hiB (2*Q)))).setCell ⟨w.heap.size+1+1+1+1,1,none⟩ (.int .u64 (loB (2*Q)))) a m (2*Q) N):=HP2.out.setQ hle _ _ _ rfl rfl
     obtain ⟨Y,hY⟩:∃ Y,Y=((w4.setCell ⟨w.heap.size+1+1+1+1,0,none⟩ (.int .u64 (hiB (2*Q)))).setCell ⟨w.heap.size+1+1+1+1,1,none⟩ (.int .u64 (loB (2*Q)))):=⟨_,rfl⟩
     rw [<-hY] at HP3 ⊢
     clear hY b0 b1 b2 b3 c0 c1 c2 c3 d0 d1 d2 d3 HP2
     refine (bminus_any N m hNB HH.out.2.1 Y Y (Ok.refl _)).mono ?_
     rintro e w6 ⟨rfl,hb6⟩
     have HP5:Hid (PartInv w0 w w6 a m (2*Q) N):=HP3.out.below hb6
     have HP6:Hid (PartInv w0 w ((w6.setCell ⟨w.heap.size+5,0,none⟩ (.int .u64 (hiB (subB N m)))).setCell ⟨w.heap.size+5,1,none⟩ (.int .u64 (loB (subB N m)))) a m (2*Q) (subB N m)):=HP5.out.setR hle _ _ _ rfl rfl
     have HP7:Hid _:=HP6.out.oneQ hle HQ2.out
     obtain ⟨_,_,_,_,_,_,x7,x8⟩:=HP5.out
     obtain ⟨b0,b1,b2,b3⟩:=cB_facts x7
     obtain ⟨d0,d1,d2,d3⟩:=cB_facts x8
     clear x7 x8
     unfold bv
     go_wp2_with fail
     refine ⟨⟨j,by omega,rfl,?_⟩,by simp only [intOf];omega⟩
     unfold Hid
     rw [HE2.out.1,HE2.out.2,<-HE1.out]
     exact HP7.out
    ·have HN2:Hid (N=2*R+bt):=by unfold Hid;rw [HN.out];omega
     have dC:decide (340282366920938463463374607431768211456<=2*R+bt)=false:=decide_eq_false hC
     rw [dC]
     clear hC dC
     go_wp2_with fail
     refine (btwice0 Q hQB HQ2.out X X (Ok.refl _)).mono ?_
     rintro e w4 ⟨rfl,hb4⟩
     have HP2:Hid (PartInv w0 w w4 a m Q N):=HP1.out.below hb4
     unfold bv
     obtain ⟨_,_,_,x4,_,_,x7,x8⟩:=HP2.out
     obtain ⟨b0,b1,b2,b3⟩:=cB_facts x7
     obtain ⟨c0,c1,c2,c3⟩:=cB_facts x4
     obtain ⟨d0,d1,d2,d3⟩:=cB_facts x8
     clear x4 x7 x8 y0 y1 y2 y3
     go_wp2_with fail
     have HP3:Hid (PartInv w0 w ((w4.setCell ⟨w.heap.size+1+1+1+1,0,none⟩ (.int .u64 (hiB (2*Q)))).setCell ⟨w.heap.size+1+1+1+1,1,none⟩ (.int .u64 (loB (2*Q)))) a m (2*Q) N):=HP2.out.setQ hle _ _ _ rfl rfl
     obtain ⟨Y,hY⟩:∃ Y,Y=((w4.setCell ⟨w.heap.size+1+1+1+1,0,none⟩ (.int .u64 (hiB (2*Q)))).setCell ⟨w.heap.size+1+1+1+1,1,none⟩ (.int .u64 (loB (2*Q)))):=⟨_,rfl⟩
     rw [<-hY] at HP3 ⊢
     clear hY b0 b1 b2 b3 c0 c1 c2 c3 d0 d1 d2 d3 HP2
     refine (bless_any N m Y Y (Ok.refl _)).mono ?_
     rintro e w5 ⟨rfl,hb5⟩
     have HP4:Hid (PartInv w0 w w5 a m (2*Q) N):=HP3.out.below hb5
     obtain ⟨_,_,_,x4,_,_,x7,x8⟩:=HP4.out
     obtain ⟨b0,b1,b2,b3⟩:=cB_facts x7
     obtain ⟨c0,c1,c2,c3⟩:=cB_facts x4
     obtain ⟨d0,d1,d2,d3⟩:=cB_facts x8
     clear x4 x7 x8
     by_cases hlt:N<m
     ·have HE2:Hid (a/2 ^ j/m=2*Q/\a/2 ^ j%m=2*R+bt):=HST.out.2 (by have:=HN2.out;omega)
      rw [decide_eq_true hlt]
      clear hlt
      go_wp2_with fail
      refine ⟨⟨j,by omega,rfl,?_⟩,by simp only [intOf];omega⟩
      unfold Hid
      rw [HE2.out.1,HE2.out.2,<-HN2.out]
      exact HP4.out
     ·have HE2:Hid (a/2 ^ j/m=2*Q+1/\a/2 ^ j%m=2*R+bt-m):=HST.out.1 (by have:=HN2.out;omega)
      have HE1:Hid (subB N m=2*R+bt-m):=by unfold Hid;rw [subB_le hNB (by omega),HN2.out]
      rw [decide_eq_false hlt]
      clear hlt
      go_wp2_with fail
      refine (bminus_any N m hNB HH.out.2.1 w5 w5 (Ok.refl _)).mono ?_
      rintro e w6 ⟨rfl,hb6⟩
      have HP5:Hid (PartInv w0 w w6 a m (2*Q) N):=HP4.out.below hb6
      have HP6:Hid (PartInv w0 w ((w6.setCell ⟨w.heap.size+5,0,none⟩ (.int .u64 (hiB (subB N m)))).setCell ⟨w.heap.size+5,1,none⟩ (.int .u64 (loB (subB N m)))) a m (2*Q) (subB N m)):=HP5.out.setR hle _ _ _ rfl rfl
      have HP7:Hid _:=HP6.out.oneQ hle HQ2.out
      obtain ⟨_,_,_,_,_,_,x7,x8⟩:=HP5.out
      obtain ⟨b0,b1,b2,b3⟩:=cB_facts x7
      obtain ⟨d0,d1,d2,d3⟩:=cB_facts x8
      clear x7 x8
      unfold bv
      go_wp2_with fail
      refine ⟨⟨j,by omega,rfl,?_⟩,by simp only [intOf];omega⟩
      unfold Hid
      rw [HE2.out.1,HE2.out.2,<-HE1.out]
      exact HP7.out
end
end Go.Proofs.YtnjmjnmhldhaoaaGreat
