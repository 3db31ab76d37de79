import Derived.Test.YtpjpjhjjhoeijaaGreatKIref
set_option maxHeartbeats 8000000
set_option linter.all false
namespace Go.Proofs.YtpjpjhjjhoeijaaGreat
section
open Go.RowKit
def hiW (z:Int):Int:=z/18446744073709551616
def loW (z:Int):Int:=z%18446744073709551616
theorem infoW:(Tryz.prog.info? 100).map (·.size)=some 2:=by kernel_rfl
theorem retw {a b z:Int} (h1:hiW z=a) (h2:loW z=b):Ending.returned (.agg #[.int .i64 a,.int .u64 b])=.returned (.agg #[.int .i64 (hiW z),.int .u64 (loW z)]):=by rw [h1,h2]
def Small (z:Int):Prop := -85070591730234615865843651857942052864<=z/\z<85070591730234615865843651857942052864
theorem wof_any (v:Int) (hv:In64 v) (w:World) :
  Calls Tryz.prog 104 #[.int .i64 v] w fun e w'=>e=.returned (.agg #[.int .i64 (hiW v),.int .u64 (loW v)])/\w'=w.alloc (.cells #[.int .i64 (hiW v),.int .u64 (loW v)] 100):=by
 have E:Hid (v/9223372036854775808=hiW v/\IntKind.u64.wrap v=loW v):=by
  unfold Hid In64 at *;rw [u64w];unfold hiW loW;omega
 clear hv
 go_enter Tryz.func104,Tryz.ntmps104
 go_wp2
 (try simp only [Exit.inBlock, Exit.then]); refine bodyPost_ret (results_cell_row rfl _ _ (w.heap.size) 100 #[_, _] (0, 0) _ rfl jj Tryz.underlying100 rfl infoW) rfl ?_
 rw [E.out.1,E.out.2]
 exact ⟨rfl,rfl⟩
theorem plus_c {a b:Int} (ha:Small a) (hb:Small b) (h:IntKind.u64.wrap (loW a+loW b)<loW a):hiW (a+b)=wrap64 (wrap64 (hiW a+hiW b)+1)/\loW (a+b)=IntKind.u64.wrap (loW a+loW b):=by
 simp only [u64w] at *;unfold hiW loW Small wrap64 at *;omega
theorem plus_n {a b:Int} (ha:Small a) (hb:Small b) (h:loW a<=IntKind.u64.wrap (loW a+loW b)):hiW (a+b)=wrap64 (hiW a+hiW b)/\loW (a+b)=IntKind.u64.wrap (loW a+loW b):=by
 simp only [u64w] at *;unfold hiW loW Small wrap64 at *;omega
theorem minus_c {a b:Int} (ha:Small a) (hb:Small b) (h:loW a<loW b):hiW (a-b)=wrap64 (wrap64 (hiW a-hiW b)-1)/\loW (a-b)=IntKind.u64.wrap (loW a-loW b):=by
 simp only [u64w] at *;unfold hiW loW Small wrap64 at *;omega
theorem minus_n {a b:Int} (ha:Small a) (hb:Small b) (h:loW b<=loW a):hiW (a-b)=wrap64 (hiW a-hiW b)/\loW (a-b)=IntKind.u64.wrap (loW a-loW b):=by
 simp only [u64w] at *;unfold hiW loW Small wrap64 at *;omega
theorem wplus_any (a b:Int) (w0 w:World) (hok:Ok w0 w) (ha:Small a) (hb:Small b) :
  Calls Tryz.prog 112 #[.agg #[.int .i64 (hiW a),.int .u64 (loW a)],.agg #[.int .i64 (hiW b),.int .u64 (loW b)]] w fun e w'=>e=.returned (.agg #[.int .i64 (hiW (a+b)),.int .u64 (loW (a+b))])/\Ok w0 w':=by
 go_enter Tryz.func112,Tryz.ntmps112
 go_wp2
 ·rename_i h0
  (try simp only [Exit.inBlock, Exit.then]); refine bodyPost_ret (results_cell_row rfl _ _ (w.heap.size+2) 100 #[_, _] (0, 0) _ rfl jj Tryz.underlying100 rfl infoW) rfl ?_
  exact ⟨retw (plus_c ha hb h0).1 (plus_c ha hb h0).2,(by repeat (first | exact hok | refine Ok.alloc ?_ _ | refine Ok.draws ?_ _ | fail))⟩
 ·rename_i h0
  (try simp only [Exit.inBlock, Exit.then]); refine bodyPost_ret (results_cell_row rfl _ _ (w.heap.size+2) 100 #[_, _] (0, 0) _ rfl jj Tryz.underlying100 rfl infoW) rfl ?_
  exact ⟨retw (plus_n ha hb h0).1 (plus_n ha hb h0).2,(by repeat (first | exact hok | refine Ok.alloc ?_ _ | refine Ok.draws ?_ _ | fail))⟩
theorem wminus_any (a b:Int) (w0 w:World) (hok:Ok w0 w) (ha:Small a) (hb:Small b) :
  Calls Tryz.prog 103 #[.agg #[.int .i64 (hiW a),.int .u64 (loW a)],.agg #[.int .i64 (hiW b),.int .u64 (loW b)]] w fun e w'=>e=.returned (.agg #[.int .i64 (hiW (a-b)),.int .u64 (loW (a-b))])/\Ok w0 w':=by
 go_enter Tryz.func103,Tryz.ntmps103
 go_wp2
 ·rename_i h0
  (try simp only [Exit.inBlock, Exit.then]); refine bodyPost_ret (results_cell_row rfl _ _ (w.heap.size+2) 100 #[_, _] (0, 0) _ rfl jj Tryz.underlying100 rfl infoW) rfl ?_
  exact ⟨retw (minus_c ha hb h0).1 (minus_c ha hb h0).2,(by repeat (first | exact hok | refine Ok.alloc ?_ _ | refine Ok.draws ?_ _ | fail))⟩
 ·rename_i h0
  (try simp only [Exit.inBlock, Exit.then]); refine bodyPost_ret (results_cell_row rfl _ _ (w.heap.size+2) 100 #[_, _] (0, 0) _ rfl jj Tryz.underlying100 rfl infoW) rfl ?_
  exact ⟨retw (minus_n ha hb h0).1 (minus_n ha hb h0).2,(by repeat (first | exact hok | refine Ok.alloc ?_ _ | refine Ok.draws ?_ _ | fail))⟩
theorem fits_eq (a:Int):(hiW a==wrap64 (loW a)/9223372036854775808)=decide (In64 a):=by
 have:hiW a=wrap64 (loW a)/9223372036854775808↔In64 a:=by unfold hiW loW wrap64 In64;omega
 by_cases h:In64 a
 ·rw [decide_eq_true h,beq_iff_eq];exact this.2 h
 ·rw [decide_eq_false h,beq_eq_false_iff_ne];exact fun e=>h (this.1 e)
end
section
open Go.RowKit
def bitAt (x i:Nat):Nat:=x/2 ^ i%2
theorem bitAt_lt (x i:Nat):bitAt x i<2:=Nat.mod_lt _ (by omega)
theorem mod_pow_next (B k:Nat):B%2 ^ (k+1)=B%2 ^ k+2 ^ k*bitAt B k:=Nat.mod_pow_succ
def rowW (z:Int):Obj:=.cells #[.int .i64 (hiW z),.int .u64 (loW z)] 100
theorem Jbit_test (B k:Nat) (hB:B<18446744073709551616):(bits .and .u64 ((B:Int)/2 ^ k) 1==1)=decide (bitAt B k=1):=by
 have e:(B:Int)/2 ^ k=((B/2 ^ k:Nat):Int):=by rw [Int.natCast_ediv,Int.natCast_pow];rfl
 have h:B/2 ^ k<18446744073709551616:=Nat.lt_of_le_of_lt (Nat.div_le_self _ _) hB
 rw [e,show (1:Int)=((1:Nat):Int) from rfl,bits_and_u64_nat _ _ h (by omega),Nat.and_one_is_mod]
 unfold bitAt
 by_cases hb:B/2 ^ k%2=1
 ·rw [hb];rfl
 ·have h0:B/2 ^ k%2=0:=by omega
  rw [h0];rfl
def SumT (a:Int) (B k:Nat):Int:=if k<=63 then a*((B%2 ^ k:Nat):Int) else a*wrap64 B
theorem sum_zero {a:Int} {B k:Nat} (hB:B<18446744073709551616) (hk:k<64) (hb:bitAt B k=0):SumT a B (k+1)=SumT a B k:=by
 unfold SumT
 have h:B%2 ^ (k+1)=B%2 ^ k:=by simpa [hb] using mod_pow_next B k
 rw [if_pos (show k<=63 by omega)]
 by_cases h1:k+1<=63
 ·rw [if_pos h1,h]
 ·rw [if_neg h1]
  have e:k=63:=by omega
  subst e
  have h2:B%2 ^ 63=B:=by
   rw [<-h];exact Nat.mod_eq_of_lt (by simpa using hB)
  have hlt:B<2 ^ 63:=by rw [<-h2];exact Nat.mod_lt _ (by omega)
  rw [h2,wrap64_id (by unfold In64;omega)]
theorem sum_one {a:Int} {B k:Nat} (hk:k<63) (hb:bitAt B k=1):SumT a B (k+1)=SumT a B k+a*2 ^ k:=by
 unfold SumT
 have h:=mod_pow_next B k
 rw [hb,Nat.mul_one] at h
 rw [if_pos (show k<=63 by omega),if_pos (show k+1<=63 by omega),h,Int.natCast_add,Int.mul_add,Int.natCast_pow]
 rfl
theorem sum_last {a:Int} {B:Nat} (hB:B<18446744073709551616) (hb:bitAt B 63=1):SumT a B 64=SumT a B 63-a*2 ^ 63:=by
 unfold SumT
 rw [if_pos (show 63<=63 by omega),if_neg (show ¬64<=63 by omega),<-Int.mul_sub]
 have h:=mod_pow_next B 63
 rw [hb,Nat.mul_one,Nat.mod_eq_of_lt (show B<2 ^ (63+1) by simpa using hB)] at h
 have h3:B%2 ^ 63<2 ^ 63:=Nat.mod_lt _ (by omega)
 have e:wrap64 (B:Int)=((B%2 ^ 63:Nat):Int)-2 ^ 63:=by
  unfold wrap64
  generalize B%2 ^ 63=r at *
  omega
 rw [e]
theorem mul_small {a m:Int} (ha:In64 a) (h0:0<=m) (h1:m<=9223372036854775808):Small (a*m):=by
 have l:=Int.mul_le_mul_of_nonneg_right ha.1 h0
 have r:=Int.mul_le_mul_of_nonneg_right ha.2 h0
 unfold Small
 omega
theorem pow_small {a:Int} (ha:In64 a) {k:Nat} (hk:k<64):Small (a*2 ^ k):=by
 refine mul_small ha (Int.pow_nonneg (by omega)) ?_
 have:(2:Nat) ^ k<=2 ^ 63:=Nat.pow_le_pow_right (by omega) (by omega)
 have e:(2:Int) ^ k=((2 ^ k:Nat):Int):=by rw [Int.natCast_pow];rfl
 rw [e];omega
theorem sum_small {a:Int} (ha:In64 a) {B k:Nat} (hk:k<64):Small (SumT a B k):=by
 unfold SumT
 rw [if_pos (by omega)]
 refine mul_small ha (by omega) ?_
 have h1:B%2 ^ k<2 ^ k:=Nat.mod_lt _ (Nat.pow_pos (by omega))
 have:(2:Nat) ^ k<=2 ^ 63:=Nat.pow_le_pow_right (by omega) (by omega)
 omega
theorem pow_next (a:Int) (k:Nat):a*2 ^ k+a*2 ^ k=a*2 ^ (k+1):=by
 rw [Int.pow_succ,<-Int.mul_assoc];omega
def TimesInv (w0 w wr:World) (X S:Int):Prop :=
 Ok w0 wr/\w.heap.size+4<=wr.heap.size/\wr.heap[w.heap.size]?=some (rowW 0)/\wr.heap[w.heap.size+2]?=some (rowW X)/\wr.heap[w.heap.size+3]?=some (rowW S)
theorem TimesInv.below {w0 w wr w1:World} {X S:Int} (h:TimesInv w0 w wr X S) (hb:Ok wr w1):TimesInv w0 w w1 X S:=by
 obtain ⟨h1,h2,h3,h4,h5⟩:=h
 have:=hb.le
 exact ⟨h1.step hb,by omega,hb.row (by omega) h3,hb.row (by omega) h4,hb.row (by omega) h5⟩
theorem TimesInv.setS {w0 w wr:World} {X S:Int} (h:TimesInv w0 w wr X S) (hw:w0.heap.size<=w.heap.size) (T:Int):TimesInv w0 w ((wr.setCell ⟨w.heap.size+3,0,none⟩ (.int .i64 (hiW T))).setCell ⟨w.heap.size+3,1,none⟩ (.int .u64 (loW T))) X T:=by
 obtain ⟨h1,h2,h3,h4,h5⟩:=h
 refine ⟨(h1.set (by simp;omega) _).set (by simp;omega) _,by simpa using h2,?_,?_,row_set2 h5 _ _⟩
 ·rw [heap_setCell_other _ _ _ _ (by simp),heap_setCell_other _ _ _ _ (by simp)];exact h3
 ·rw [heap_setCell_other _ _ _ _ (by simp),heap_setCell_other _ _ _ _ (by simp)];exact h4
theorem TimesInv.setX {w0 w wr:World} {X S:Int} (h:TimesInv w0 w wr X S) (hw:w0.heap.size<=w.heap.size) (T:Int):TimesInv w0 w ((wr.setCell ⟨w.heap.size+2,0,none⟩ (.int .i64 (hiW T))).setCell ⟨w.heap.size+2,1,none⟩ (.int .u64 (loW T))) T S:=by
 obtain ⟨h1,h2,h3,h4,h5⟩:=h
 refine ⟨(h1.set (by simp;omega) _).set (by simp;omega) _,by simpa using h2,?_,row_set2 h4 _ _,?_⟩
 ·rw [heap_setCell_other _ _ _ _ (by simp),heap_setCell_other _ _ _ _ (by simp)];exact h3
 ·rw [heap_setCell_other _ _ _ _ (by simp),heap_setCell_other _ _ _ _ (by simp)];exact h5
theorem TimesInv.facts {w0 w wr:World} {X S:Int} (h:TimesInv w0 w wr X S) :
  (wr.cell? ⟨w.heap.size+2,0,none⟩=some (.int .i64 (hiW X))/\wr.cell? ⟨w.heap.size+2,1,none⟩=some (.int .u64 (loW X))/\wr.frozen? ⟨w.heap.size+2,0,none⟩=false/\wr.frozen? ⟨w.heap.size+2,1,none⟩=false) /\
  (wr.cell? ⟨w.heap.size+3,0,none⟩=some (.int .i64 (hiW S))/\wr.cell? ⟨w.heap.size+3,1,none⟩=some (.int .u64 (loW S))/\wr.frozen? ⟨w.heap.size+3,0,none⟩=false/\wr.frozen? ⟨w.heap.size+3,1,none⟩=false) /\
  (wr.cell? ⟨w.heap.size,0,none⟩=some (.int .i64 0)/\wr.cell? ⟨w.heap.size,1,none⟩=some (.int .u64 0)/\wr.frozen? ⟨w.heap.size,0,none⟩=false/\wr.frozen? ⟨w.heap.size,1,none⟩=false):=by
 obtain ⟨h1,h2,h3,h4,h5⟩:=h
 refine ⟨⟨?_,?_,frozen_of_row _ _ _ _ _ h4,frozen_of_row _ _ _ _ _ h4⟩,⟨?_,?_,frozen_of_row _ _ _ _ _ h5,frozen_of_row _ _ _ _ _ h5⟩,⟨?_,?_,frozen_of_row _ _ _ _ _ h3,frozen_of_row _ _ _ _ _ h3⟩⟩
 ·exact (cell_of_row _ _ 0 _ _ _ h4).trans (by simp)
 ·exact (cell_of_row _ _ 1 _ _ _ h4).trans (by simp)
 ·exact (cell_of_row _ _ 0 _ _ _ h5).trans (by simp)
 ·exact (cell_of_row _ _ 1 _ _ _ h5).trans (by simp)
 ·exact (cell_of_row _ _ 0 _ _ _ h3).trans (by simp [hiW])
 ·exact (cell_of_row _ _ 1 _ _ _ h3).trans (by simp [loW])
theorem times_round {a:Int} {B k:Nat} {X T:Int} {w0 w w2:World} (hk:k<64) (hle:w0.heap.size<=w.heap.size) (hX:Hid (X+X=a*2 ^ (k+1))) (hS:Hid (T=SumT a B (k+1))) (h:TimesInv w0 w w2 X T) :
  ∃ k_1:Nat,k_1<=64/\Value.int IntKind.i64 (↑k+1)=Value.int IntKind.i64 ↑k_1/\Hid (TimesInv w0 w ((w2.setCell { block:=w.heap.size+1+1,off:=0 } (Value.int IntKind.i64 (hiW (X+X)))).setCell { block:=w.heap.size+1+1,off:=1 } (Value.int IntKind.u64 (loW (X+X)))) (a*2 ^ k_1) (SumT a B k_1)):=by
 refine ⟨k+1,by omega,rfl,?_⟩
 have:=h.setX hle (X+X)
 unfold Hid
 rw [<-hX.out,<-hS.out]
 exact this
theorem nat_u64 (b:Int) (hb:In64 b):∃ B:Nat,B<18446744073709551616/\wrap64 B=b:=by
 refine ⟨(b%18446744073709551616).toNat,by omega,?_⟩
 unfold In64 at hb;unfold wrap64;omega
theorem wtimes_any (a:Int) (B:Nat) (w0 w:World) (hok:Ok w0 w) (ha:In64 a) (hB:B<18446744073709551616) :
  Calls Tryz.prog 115 #[.int .i64 a,.int .i64 (wrap64 B)] w fun e w'=>e=.returned (.agg #[.int .i64 (hiW (a*wrap64 B)),.int .u64 (loW (a*wrap64 B))])/\Ok w0 w':=by
 have hw:IntKind.u64.wrap (wrap64 (B:Int))=(B:Int):=by rw [u64w];unfold wrap64;omega
 have hle:=hok.le
 go_enter Tryz.func115,Tryz.ntmps115
 go_wp2_with (first | (go_at_call 104;refine (wof_any _ ha _).mono ?_;rintro e w' ⟨rfl,rfl⟩))
 go_loopw [8] (fun i wr=>∃ (k:Nat),k<=64/\i=.int .i64 k/\Hid (TimesInv w0 w wr (a*2 ^ k) (SumT a B k))) (fun i _=>(64-intOf i).toNat)
 case atStart =>
  refine ⟨0,by omega,rfl,?_⟩
  have e0:SumT a B 0=0:=by unfold SumT;simp [Nat.mod_one]
  rw [e0,Int.pow_zero,Int.mul_one]
  have er:rowW 0=.cells #[.int .i64 0,.int .u64 0] 100:=by simp [rowW,hiW,loW]
  unfold Hid TimesInv
  rw [er]
  refine ⟨(by repeat (first | exact hok | refine Ok.alloc ?_ _ | refine Ok.draws ?_ _ | fail)),by simp,?_,?_,?_⟩
  ·exact jj
  ·exact jj
  ·exact jj
 case round =>
  obtain ⟨k,hk,rfl,hI⟩:=hrel
  obtain ⟨⟨x0,x1,x2,x3⟩,⟨s0,s1,s2,s3⟩,r0,r1,r2,r3⟩:=hI.out.facts
  by_cases hk1:k<64
  ·have hk2:(k:Int)<64:=by omega
   have PX:Small (a*2 ^ k):=pow_small ha hk1
   have PS:Small (SumT a B k):=sum_small ha hk1
   have PN:Hid (a*2 ^ k+a*2 ^ k=a*2 ^ (k+1)):=pow_next a k
   obtain ⟨X,hX⟩:∃ X,X=a*2 ^ k:=⟨_,rfl⟩
   obtain ⟨S,hS⟩:∃ S,S=SumT a B k:=⟨_,rfl⟩
   have HX:Hid _:=hX
   have HS:Hid _:=hS
   rw [<-hX,<-hS] at hI
   rw [<-hX] at x0 x1 PX PN
   rw [<-hS] at s0 s1 PS
   clear hX hS
   have hbt:=Jbit_test B k hB
   by_cases hb:bitAt B k=1
   ·rw [decide_eq_true hb] at hbt
    by_cases hk3:k=63
    ·have hk4:((k:Int)==63)=true:=by rw [beq_iff_eq];omega
     have HE:Hid (S-X=SumT a B (k+1)):=by
      have:=sum_last (a:=a) hB (by rw [<-hk3];exact hb)
      unfold Hid;rw [HX.out,HS.out,hk3];exact this.symm
     clear hk3
     go_wp2_with fail
     refine (wminus_any S X wr wr (Ok.refl _) PS PX).mono ?_
     rintro e w1 ⟨rfl,hb1⟩
     have HI:Hid (TimesInv w0 w w1 X S):=hI.out.below hb1
     obtain ⟨⟨x0',x1',x2',x3'⟩,⟨s0',s1',s2',s3'⟩,r0',r1',r2',r3'⟩:=HI.out.facts
     clear x0 x1 x2 x3 s0 s1 s2 s3 r0 r1 r2 r3 hb1
     go_wp2_with fail
     have HJ:Hid (TimesInv w0 w ((w1.setCell ⟨w.heap.size+3,0,none⟩ (.int .i64 (hiW (S-X)))).setCell ⟨w.heap.size+3,1,none⟩ (.int .u64 (loW (S-X)))) X (S-X)):=HI.out.setS hle (S-X)
     clear x0' x1' x2' x3' s0' s1' s2' s3' r0' r1' r2' r3' HI
     obtain ⟨W,hW⟩:∃ W,W=((w1.setCell ⟨w.heap.size+3,0,none⟩ (.int .i64 (hiW (S-X)))).setCell ⟨w.heap.size+3,1,none⟩ (.int .u64 (loW (S-X)))):=⟨_,rfl⟩
     try rw [<-hW]
     rw [<-hW] at HJ
     clear hW
     refine (wplus_any X X W W (Ok.refl _) PX PX).mono ?_
     rintro e w2 ⟨rfl,hb2⟩
     have HI:Hid (TimesInv w0 w w2 X (S-X)):=HJ.out.below hb2
     obtain ⟨⟨x0',x1',x2',x3'⟩,⟨s0',s1',s2',s3'⟩,r0',r1',r2',r3'⟩:=HI.out.facts
     go_wp2_with fail
     go_roundw
     case rel=>exact times_round hk1 hle PN HE HI.out
     case measure=>simp only [intOf];omega
    ·have hk4:((k:Int)==63)=false:=by rw [beq_eq_false_iff_ne];omega
     have HE:Hid (S+X=SumT a B (k+1)):=by
      have:=sum_one (a:=a) (show k<63 by omega) hb
      unfold Hid;rw [HX.out,HS.out];exact this.symm
     clear hk3
     go_wp2_with fail
     refine (wplus_any S X wr wr (Ok.refl _) PS PX).mono ?_
     rintro e w1 ⟨rfl,hb1⟩
     have HI:Hid (TimesInv w0 w w1 X S):=hI.out.below hb1
     obtain ⟨⟨x0',x1',x2',x3'⟩,⟨s0',s1',s2',s3'⟩,r0',r1',r2',r3'⟩:=HI.out.facts
     clear x0 x1 x2 x3 s0 s1 s2 s3 r0 r1 r2 r3 hb1
     go_wp2_with fail
     have HJ:Hid (TimesInv w0 w ((w1.setCell ⟨w.heap.size+3,0,none⟩ (.int .i64 (hiW (S+X)))).setCell ⟨w.heap.size+3,1,none⟩ (.int .u64 (loW (S+X)))) X (S+X)):=HI.out.setS hle (S+X)
     clear x0' x1' x2' x3' s0' s1' s2' s3' r0' r1' r2' r3' HI
     obtain ⟨W,hW⟩:∃ W,W=((w1.setCell ⟨w.heap.size+3,0,none⟩ (.int .i64 (hiW (S+X)))).setCell ⟨w.heap.size+3,1,none⟩ (.int .u64 (loW (S+X)))):=⟨_,rfl⟩
     try rw [<-hW]
     rw [<-hW] at HJ
     clear hW
     refine (wplus_any X X W W (Ok.refl _) PX PX).mono ?_
     rintro e w2 ⟨rfl,hb2⟩
     have HI:Hid (TimesInv w0 w w2 X (S+X)):=HJ.out.below hb2
     obtain ⟨⟨x0',x1',x2',x3'⟩,⟨s0',s1',s2',s3'⟩,r0',r1',r2',r3'⟩:=HI.out.facts
     go_wp2_with fail
     go_roundw
     case rel=>exact times_round hk1 hle PN HE HI.out
     case measure=>simp only [intOf];omega
   ·rw [decide_eq_false hb] at hbt
    have HE:Hid (S=SumT a B (k+1)):=by
     have:=sum_zero (a:=a) hB hk1 (show bitAt B k=0 by have:=bitAt_lt B k;omega)
     unfold Hid;rw [HS.out];exact this.symm
    go_wp2_with fail
    refine (wplus_any X X wr wr (Ok.refl _) PX PX).mono ?_
    rintro e w2 ⟨rfl,hb2⟩
    have HI:Hid (TimesInv w0 w w2 X S):=hI.out.below hb2
    obtain ⟨⟨x0',x1',x2',x3'⟩,⟨s0',s1',s2',s3'⟩,r0',r1',r2',r3'⟩:=HI.out.facts
    clear x0 x1 x2 x3 s0 s1 s2 s3 r0 r1 r2 r3
    go_wp2_with fail
    go_roundw
    case rel=>exact times_round hk1 hle PN HE HI.out
    case measure=>simp only [intOf];omega
  ·have e64:k=64:=by omega
   subst e64
   have HF:Hid (SumT a B 64=a*wrap64 B):=by unfold Hid SumT;rw [if_neg (by omega)]
   go_wp2_with fail
   (try simp only [Exit.inBlock,Exit.then])
   refine bodyPost_ret (results_cell_row rfl _ _ w.heap.size 100 #[_,_] (0,0) _ rfl (row_set2 hI.out.2.2.1 _ _) Tryz.underlying100 rfl infoW) rfl ?_
   rw [HF.out]
   exact ⟨rfl,(hI.out.1.set (by simp;omega) _).set (by simp;omega) _⟩
theorem rtimes_any (a b:Int) (w0 w:World) (hok:Ok w0 w) (ha:In64 a) (hb:In64 b) :
  Calls Tryz.prog 115 #[.int .i64 a,.int .i64 b] w fun e w'=>e=.returned (.agg #[.int .i64 (hiW (a*b)),.int .u64 (loW (a*b))])/\Ok w0 w':=by
 obtain ⟨B,hB,rfl⟩:=nat_u64 b hb
 exact wtimes_any a B w0 w hok ha hB
end
section
open Go.RowKit
theorem wminus_ex (a b:Int) (w:World) (ha:Small a) (hb:Small b) :
  Calls Tryz.prog 103 #[.agg #[.int .i64 (hiW a),.int .u64 (loW a)],.agg #[.int .i64 (hiW b),.int .u64 (loW b)]] w fun e w'=>e=.returned (.agg #[.int .i64 (hiW (a-b)),.int .u64 (loW (a-b))])/\w'=(((w.alloc (.cells #[.int .i64 (hiW a),.int .u64 (loW a)] 100)).alloc (.cells #[.int .i64 (hiW b),.int .u64 (loW b)] 100)).alloc (.cells #[.int .i64 (hiW (a-b)),.int .u64 (loW (a-b))] 100)).alloc (.cells #[.int .i64 (hiW (a-b)),.int .u64 (loW (a-b))] 100):=by
 go_enter Tryz.func103,Tryz.ntmps103
 go_wp2
 ·rename_i h0
  (try simp only [Exit.inBlock, Exit.then]); refine bodyPost_ret (results_cell_row rfl _ _ (w.heap.size+2) 100 #[_, _] (0, 0) _ rfl jj Tryz.underlying100 rfl infoW) rfl ?_
  rw [(minus_c ha hb h0).1,(minus_c ha hb h0).2]
  exact ⟨rfl,rfl⟩
 ·rename_i h0
  (try simp only [Exit.inBlock, Exit.then]); refine bodyPost_ret (results_cell_row rfl _ _ (w.heap.size+2) 100 #[_, _] (0, 0) _ rfl jj Tryz.underlying100 rfl infoW) rfl ?_
  rw [(minus_n ha hb h0).1,(minus_n ha hb h0).2]
  exact ⟨rfl,rfl⟩
theorem wfits_ex (a:Int) (w:World) :
  Calls Tryz.prog 117 #[.agg #[.int .i64 (hiW a),.int .u64 (loW a)]] w fun e w'=>e=.returned (.bool (decide (In64 a)))/\w'=w.alloc (.cells #[.int .i64 (hiW a),.int .u64 (loW a)] 100):=by
 have E:Hid _:=fits_eq a
 go_enter Tryz.func117,Tryz.ntmps117
 go_wp2
 go_ret
 exact ⟨retb E.out,rfl⟩
theorem rempty_ex (l h:Int) (w:World) :
  Calls Tryz.prog 100 #[.agg #[.int .i64 l,.int .i64 h]] w fun e w'=>e=.returned (.bool (decide (h<l)))/\w'=w.alloc (.cells #[.int .i64 l,.int .i64 h] 24):=by
 go_enter Tryz.func100,Tryz.ntmps100
 go_wp2
 go_ret
 exact ⟨rfl,rfl⟩
theorem wlo (z:Int):wrap64 (loW z)=wrap64 z:=by unfold loW wrap64;omega
theorem spanI_yes {lo hi:Int} (h1:In64 lo) (h2:In64 hi):spanI lo hi=(wrap64 (loW lo),wrap64 (loW hi),true):=by
 unfold spanI;rw [if_pos ⟨h1,h2⟩,wlo,wlo,wrap64_id h1,wrap64_id h2]
theorem spanI_full {lo hi:Int} (h1:¬(In64 lo/\In64 hi)) (h2:18446744073709551615<=hi-lo\/wrap64 hi<wrap64 lo):spanI lo hi=(-9223372036854775808,9223372036854775807,false):=by
 unfold spanI;rw [if_neg h1,if_pos h2]
theorem spanI_part {lo hi:Int} (h1:¬(In64 lo/\In64 hi)) (h2:¬(18446744073709551615<=hi-lo\/wrap64 hi<wrap64 lo)):spanI lo hi=(wrap64 (loW lo),wrap64 (loW hi),false):=by
 unfold spanI;rw [if_neg h1,if_neg h2,wlo,wlo]
theorem wide_hi {lo hi:Int} (h:lo<=hi) (h1:0<hiW (hi-lo)):18446744073709551615<=hi-lo:=by unfold hiW at h1;omega
theorem wide_lo {lo hi:Int} (h:lo<=hi) (h1:loW (hi-lo)=18446744073709551615):18446744073709551615<=hi-lo:=by unfold loW at h1;omega
theorem wide_no {lo hi:Int} (h:lo<=hi) (h1:¬0<hiW (hi-lo)) (h2:loW (hi-lo)≠18446744073709551615):¬18446744073709551615<=hi-lo:=by unfold hiW at h1;unfold loW at h2;omega
theorem wspan_a (lo hi:Int) (w0 w:World) (hok:Ok w0 w) (hl:Small lo) (hh:Small hi) (hle:lo<=hi) (c1:¬In64 lo) :
  Calls Tryz.prog 102 #[.agg #[.int .i64 (hiW lo),.int .u64 (loW lo)],.agg #[.int .i64 (hiW hi),.int .u64 (loW hi)]] w fun e w'=>e=.returned (.tuple #[.agg #[.int .i64 (spanI lo hi).1,.int .i64 (spanI lo hi).2.1],.bool (spanI lo hi).2.2])/\Ok w0 w':=by
 have hn:¬(In64 lo/\In64 hi):=fun h=>c1 h.1
 have d1:decide (In64 lo)=false:=decide_eq_false c1
 clear c1
 by_cases p1:0<hiW (hi-lo)
 ·have E:Hid _:=spanI_full hn (Or.inl (wide_hi hle p1))
  clear hn
  go_enter Tryz.func102,Tryz.ntmps102
  go_wp2_with (first | (go_at_call 103;refine (wminus_ex _ _ _ hh hl).mono ?_;rintro e w' ⟨rfl,rfl⟩) | (go_at_call 117;refine (wfits_ex _ _).mono ?_;rintro e w' ⟨rfl,rfl⟩) | (go_at_call 100;refine (rempty_ex _ _ _).mono ?_;rintro e w' ⟨rfl,rfl⟩))
  (try simp only [Exit.inBlock, Exit.then]); refine bodyPost_ret (results_iv rfl _ _ (w.heap.size + 2) 24 #[_, _] (0, 0) _ rfl jj Tryz.underlying24 rfl infoI) rfl ?_
  exact ⟨retib E.out,(by repeat (first | exact hok | refine Ok.alloc ?_ _ | refine Ok.draws ?_ _ | fail))⟩
 ·by_cases p2:loW (hi-lo)=18446744073709551615
  ·have E:Hid _:=spanI_full hn (Or.inl (wide_lo hle p2))
   have q2:(loW (hi-lo)==18446744073709551615)=true:=by rw [beq_iff_eq];exact p2
   have HP:Hid _:=p2
   clear hn p2
   go_enter Tryz.func102,Tryz.ntmps102
   go_wp2_with (first | (go_at_call 103;refine (wminus_ex _ _ _ hh hl).mono ?_;rintro e w' ⟨rfl,rfl⟩) | (go_at_call 117;refine (wfits_ex _ _).mono ?_;rintro e w' ⟨rfl,rfl⟩) | (go_at_call 100;refine (rempty_ex _ _ _).mono ?_;rintro e w' ⟨rfl,rfl⟩))
   (try simp only [Exit.inBlock, Exit.then]); refine bodyPost_ret (results_iv rfl _ _ (w.heap.size + 2) 24 #[_, _] (0, 0) _ rfl jj Tryz.underlying24 rfl infoI) rfl ?_
   exact ⟨retib E.out,(by repeat (first | exact hok | refine Ok.alloc ?_ _ | refine Ok.draws ?_ _ | fail))⟩
  ·have q2:(loW (hi-lo)==18446744073709551615)=false:=by rw [beq_eq_false_iff_ne];exact p2
   by_cases p3:wrap64 (loW hi)<wrap64 (loW lo)
   ·have E:Hid _:=spanI_full hn (Or.inr (by rw [<-wlo hi,<-wlo lo];exact p3))
    have q3:decide (wrap64 (loW hi)<wrap64 (loW lo))=true:=decide_eq_true p3
    clear hn p2
    go_enter Tryz.func102,Tryz.ntmps102
    go_wp2_with (first | (go_at_call 103;refine (wminus_ex _ _ _ hh hl).mono ?_;rintro e w' ⟨rfl,rfl⟩) | (go_at_call 117;refine (wfits_ex _ _).mono ?_;rintro e w' ⟨rfl,rfl⟩) | (go_at_call 100;refine (rempty_ex _ _ _).mono ?_;rintro e w' ⟨rfl,rfl⟩))
    (try simp only [Exit.inBlock, Exit.then]); refine bodyPost_ret (results_iv rfl _ _ (w.heap.size + 2) 24 #[_, _] (0, 0) _ rfl jj Tryz.underlying24 rfl infoI) rfl ?_
    exact ⟨retib E.out,(by repeat (first | exact hok | refine Ok.alloc ?_ _ | refine Ok.draws ?_ _ | fail))⟩
   ·have E:Hid _:=spanI_part hn (fun h=>h.elim (wide_no hle p1 p2) (fun h=>p3 (by rw [wlo,wlo];exact h)))
    have q3:decide (wrap64 (loW hi)<wrap64 (loW lo))=false:=decide_eq_false p3
    clear hn p2
    go_enter Tryz.func102,Tryz.ntmps102
    go_wp2_with (first | (go_at_call 103;refine (wminus_ex _ _ _ hh hl).mono ?_;rintro e w' ⟨rfl,rfl⟩) | (go_at_call 117;refine (wfits_ex _ _).mono ?_;rintro e w' ⟨rfl,rfl⟩) | (go_at_call 100;refine (rempty_ex _ _ _).mono ?_;rintro e w' ⟨rfl,rfl⟩))
    (try simp only [Exit.inBlock, Exit.then]); refine bodyPost_ret (results_iv rfl _ _ (w.heap.size + 2) 24 #[_, _] (0, 0) _ rfl jj Tryz.underlying24 rfl infoI) rfl ?_
    exact ⟨retib E.out,(by repeat (first | exact hok | refine Ok.alloc ?_ _ | refine Ok.draws ?_ _ | fail))⟩
theorem wspan_b (lo hi:Int) (w0 w:World) (hok:Ok w0 w) (hl:Small lo) (hh:Small hi) (hle:lo<=hi) (c1:In64 lo) (c2:¬In64 hi) :
  Calls Tryz.prog 102 #[.agg #[.int .i64 (hiW lo),.int .u64 (loW lo)],.agg #[.int .i64 (hiW hi),.int .u64 (loW hi)]] w fun e w'=>e=.returned (.tuple #[.agg #[.int .i64 (spanI lo hi).1,.int .i64 (spanI lo hi).2.1],.bool (spanI lo hi).2.2])/\Ok w0 w':=by
 have hn:¬(In64 lo/\In64 hi):=fun h=>c2 h.2
 have d1:decide (In64 lo)=true:=decide_eq_true c1
 have d2:decide (In64 hi)=false:=decide_eq_false c2
 clear c1 c2
 by_cases p1:0<hiW (hi-lo)
 ·have E:Hid _:=spanI_full hn (Or.inl (wide_hi hle p1))
  clear hn
  go_enter Tryz.func102,Tryz.ntmps102
  go_wp2_with (first | (go_at_call 103;refine (wminus_ex _ _ _ hh hl).mono ?_;rintro e w' ⟨rfl,rfl⟩) | (go_at_call 117;refine (wfits_ex _ _).mono ?_;rintro e w' ⟨rfl,rfl⟩) | (go_at_call 100;refine (rempty_ex _ _ _).mono ?_;rintro e w' ⟨rfl,rfl⟩))
  (try simp only [Exit.inBlock, Exit.then]); refine bodyPost_ret (results_iv rfl _ _ (w.heap.size + 2) 24 #[_, _] (0, 0) _ rfl jj Tryz.underlying24 rfl infoI) rfl ?_
  exact ⟨retib E.out,(by repeat (first | exact hok | refine Ok.alloc ?_ _ | refine Ok.draws ?_ _ | fail))⟩
 ·by_cases p2:loW (hi-lo)=18446744073709551615
  ·have E:Hid _:=spanI_full hn (Or.inl (wide_lo hle p2))
   have q2:(loW (hi-lo)==18446744073709551615)=true:=by rw [beq_iff_eq];exact p2
   have HP:Hid _:=p2
   clear hn p2
   go_enter Tryz.func102,Tryz.ntmps102
   go_wp2_with (first | (go_at_call 103;refine (wminus_ex _ _ _ hh hl).mono ?_;rintro e w' ⟨rfl,rfl⟩) | (go_at_call 117;refine (wfits_ex _ _).mono ?_;rintro e w' ⟨rfl,rfl⟩) | (go_at_call 100;refine (rempty_ex _ _ _).mono ?_;rintro e w' ⟨rfl,rfl⟩))
   (try simp only [Exit.inBlock, Exit.then]); refine bodyPost_ret (results_iv rfl _ _ (w.heap.size + 2) 24 #[_, _] (0, 0) _ rfl jj Tryz.underlying24 rfl infoI) rfl ?_
   exact ⟨retib E.out,(by repeat (first | exact hok | refine Ok.alloc ?_ _ | refine Ok.draws ?_ _ | fail))⟩
  ·have q2:(loW (hi-lo)==18446744073709551615)=false:=by rw [beq_eq_false_iff_ne];exact p2
   by_cases p3:wrap64 (loW hi)<wrap64 (loW lo)
   ·have E:Hid _:=spanI_full hn (Or.inr (by rw [<-wlo hi,<-wlo lo];exact p3))
    have q3:decide (wrap64 (loW hi)<wrap64 (loW lo))=true:=decide_eq_true p3
    clear hn p2
    go_enter Tryz.func102,Tryz.ntmps102
    go_wp2_with (first | (go_at_call 103;refine (wminus_ex _ _ _ hh hl).mono ?_;rintro e w' ⟨rfl,rfl⟩) | (go_at_call 117;refine (wfits_ex _ _).mono ?_;rintro e w' ⟨rfl,rfl⟩) | (go_at_call 100;refine (rempty_ex _ _ _).mono ?_;rintro e w' ⟨rfl,rfl⟩))
    (try simp only [Exit.inBlock, Exit.then]); refine bodyPost_ret (results_iv rfl _ _ (w.heap.size + 2) 24 #[_, _] (0, 0) _ rfl jj Tryz.underlying24 rfl infoI) rfl ?_
    exact ⟨retib E.out,(by repeat (first | exact hok | refine Ok.alloc ?_ _ | refine Ok.draws ?_ _ | fail))⟩
   ·have E:Hid _:=spanI_part hn (fun h=>h.elim (wide_no hle p1 p2) (fun h=>p3 (by rw [wlo,wlo];exact h)))
    have q3:decide (wrap64 (loW hi)<wrap64 (loW lo))=false:=decide_eq_false p3
    clear hn p2
    go_enter Tryz.func102,Tryz.ntmps102
    go_wp2_with (first | (go_at_call 103;refine (wminus_ex _ _ _ hh hl).mono ?_;rintro e w' ⟨rfl,rfl⟩) | (go_at_call 117;refine (wfits_ex _ _).mono ?_;rintro e w' ⟨rfl,rfl⟩) | (go_at_call 100;refine (rempty_ex _ _ _).mono ?_;rintro e w' ⟨rfl,rfl⟩))
    (try simp only [Exit.inBlock, Exit.then]); refine bodyPost_ret (results_iv rfl _ _ (w.heap.size + 2) 24 #[_, _] (0, 0) _ rfl jj Tryz.underlying24 rfl infoI) rfl ?_
    exact ⟨retib E.out,(by repeat (first | exact hok | refine Ok.alloc ?_ _ | refine Ok.draws ?_ _ | fail))⟩
theorem wspan_any (lo hi:Int) (w0 w:World) (hok:Ok w0 w) (hl:Small lo) (hh:Small hi) (hle:lo<=hi) :
  Calls Tryz.prog 102 #[.agg #[.int .i64 (hiW lo),.int .u64 (loW lo)],.agg #[.int .i64 (hiW hi),.int .u64 (loW hi)]] w fun e w'=>e=.returned (.tuple #[.agg #[.int .i64 (spanI lo hi).1,.int .i64 (spanI lo hi).2.1],.bool (spanI lo hi).2.2])/\Ok w0 w':=by
 by_cases c1:In64 lo
 ·by_cases c2:In64 hi
  ·have E:Hid _:=spanI_yes c1 c2
   have d1:decide (In64 lo)=true:=decide_eq_true c1
   have d2:decide (In64 hi)=true:=decide_eq_true c2
   clear c1 c2
   go_enter Tryz.func102,Tryz.ntmps102
   go_wp2_with (first | (go_at_call 103;refine (wminus_ex _ _ _ hh hl).mono ?_;rintro e w' ⟨rfl,rfl⟩) | (go_at_call 117;refine (wfits_ex _ _).mono ?_;rintro e w' ⟨rfl,rfl⟩) | (go_at_call 100;refine (rempty_ex _ _ _).mono ?_;rintro e w' ⟨rfl,rfl⟩))
   (try simp only [Exit.inBlock, Exit.then]); refine bodyPost_ret (results_iv rfl _ _ (w.heap.size + 2) 24 #[_, _] (0, 0) _ rfl jj Tryz.underlying24 rfl infoI) rfl ?_
   exact ⟨retib E.out,(by repeat (first | exact hok | refine Ok.alloc ?_ _ | refine Ok.draws ?_ _ | fail))⟩
  ·exact wspan_b lo hi w0 w hok hl hh hle c1 c2
 ·exact wspan_a lo hi w0 w hok hl hh hle c1
end
end Go.Proofs.YtpjpjhjjhoeijaaGreat
