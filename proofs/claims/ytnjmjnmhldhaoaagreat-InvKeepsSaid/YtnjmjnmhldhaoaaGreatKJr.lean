import Derived.Test.YtnjmjnmhldhaoaaGreatKJw
set_option maxHeartbeats 8000000
set_option linter.all false
namespace Go.Proofs.YtnjmjnmhldhaoaaGreat
section
open Go.RowKit
theorem less_lt {a b:Int} (h:tW a<tW b):a<b:=by unfold tW at h;omega
theorem less_eq {a b:Int} (h:tW a=tW b):(wrap64 a<wrap64 b↔a<b):=by have:=tW_eq a;have:=tW_eq b;omega
theorem less_gt {a b:Int} (h:tW b<tW a):¬a<b:=by unfold tW at h;omega
theorem pless_ex (a b:Int) (w:World) :
  Calls Tryz.prog 260 #[.agg #[.int .i64 (tW a),.int .i64 (wrap64 a)],.agg #[.int .i64 (tW b),.int .i64 (wrap64 b)]] w fun e w'=>e=.returned (.bool (decide (a<b)))/\w'=(w.alloc (.cells #[.int .i64 (tW a),.int .i64 (wrap64 a)] 185)).alloc (.cells #[.int .i64 (tW b),.int .i64 (wrap64 b)] 185):=by
 have L1:Hid _:=@less_lt a b
 have L2:Hid _:=@less_eq a b
 have L3:Hid _:=@less_gt a b
 generalize tW a=ta at *
 generalize tW b=tb at *
 by_cases h1:ta<tb
 ·have d1:decide (ta<tb)=true:=decide_eq_true h1
  have E:Hid (decide (a<b)=true):=decide_eq_true (L1.out h1)
  go_enter Tryz.func260,Tryz.ntmps260
  go_wp2
  go_ret
  exact ⟨retb E.out.symm,rfl⟩
 ·have d1:decide (ta<tb)=false:=decide_eq_false h1
  by_cases h2:ta=tb
  ·subst h2
   have E:Hid (decide (a<b)=decide (wrap64 a<wrap64 b)):=decide_eq_decide.2 (L2.out rfl).symm
   go_enter Tryz.func260,Tryz.ntmps260
   go_wp2
   go_ret
   exact ⟨retb E.out.symm,rfl⟩
  ·have h2':(ta==tb)=false:=by simpa using h2
   have E:Hid (decide (a<b)=false):=decide_eq_false (L3.out (by omega))
   go_enter Tryz.func260,Tryz.ntmps260
   go_wp2
   go_ret
   exact ⟨retb E.out.symm,rfl⟩
theorem infoS:(Tryz.prog.info? 187).map (·.size)=some 4:=by kernel_rfl
theorem pexact_ex (lo hi:Int) (w:World) :
  Calls Tryz.prog 231 #[.agg #[.int .i64 (tW lo),.int .i64 (wrap64 lo),.int .i64 (tW hi),.int .i64 (wrap64 hi)]] w fun e w'=>e=.returned (.bool (decide (In64 lo)&&decide (In64 hi)))/\w'=w.alloc (.cells #[.int .i64 (tW lo),.int .i64 (wrap64 lo),.int .i64 (tW hi),.int .i64 (wrap64 hi)] 187):=by
 have E1:Hid _:=tW_zero lo
 have E2:Hid _:=tW_zero hi
 generalize tW lo=ta at *
 generalize tW hi=tb at *
 generalize decide (In64 lo)=d1 at *
 generalize decide (In64 hi)=d2 at *
 rcases h1:(ta==0) with _ | _
 ·have E:Hid (false=(d1&&d2)):=by unfold Hid;rw [<-E1.out,h1];rfl
  go_enter Tryz.func231,Tryz.ntmps231
  go_wp2
  go_ret
  exact ⟨retb E.out,rfl⟩
 ·have E:Hid ((tb==0)=(d1&&d2)):=by unfold Hid;rw [<-E1.out,h1,E2.out];rfl
  go_enter Tryz.func231,Tryz.ntmps231
  go_wp2
  go_ret
  exact ⟨retb E.out,rfl⟩
def hullW (lo hi:Int):Int×Int:=if tW lo=tW hi then (wrap64 lo,wrap64 hi) else (-9223372036854775808,9223372036854775807)
theorem phull_any (lo hi:Int) (w0 w:World) (hok:Ok w0 w) :
  Calls Tryz.prog 233 #[.agg #[.int .i64 (tW lo),.int .i64 (wrap64 lo),.int .i64 (tW hi),.int .i64 (wrap64 hi)]] w fun e w'=>e=.returned (.agg #[.int .i64 (hullW lo hi).1,.int .i64 (hullW lo hi).2])/\Ok w0 w':=by
 by_cases h:tW lo=tW hi
 ·have E:Hid (hullW lo hi=(wrap64 lo,wrap64 hi)):=if_pos h
  generalize tW lo=ta at *
  generalize tW hi=tb at *
  subst h
  go_enter Tryz.func233,Tryz.ntmps233
  go_wp2_with (first | (go_at_call 234;refine (Jpall_ex _).mono ?_;rintro e w' ⟨rfl,rfl⟩) | fail)
  (try simp only [Exit.inBlock, Exit.then]); refine bodyPost_ret (results_cell_row rfl _ _ (w.heap.size+1) 24 #[_, _] (0, 0) _ rfl jj Tryz.underlying24 rfl infoI) rfl ?_
  exact ⟨reti E.out,(by repeat (first | exact hok | refine Ok.alloc ?_ _ | refine Ok.draws ?_ _ | fail))⟩
 ·have E:Hid (hullW lo hi=(-9223372036854775808,9223372036854775807)):=if_neg h
  generalize tW lo=ta at *
  generalize tW hi=tb at *
  have h':(ta != tb)=true:=by simpa using h
  go_enter Tryz.func233,Tryz.ntmps233
  go_wp2_with (first | (go_at_call 234;refine (Jpall_ex _).mono ?_;rintro e w' ⟨rfl,rfl⟩) | fail)
  (try simp only [Exit.inBlock, Exit.then]); refine bodyPost_ret (results_cell_row rfl _ _ (w.heap.size+1) 24 #[_, _] (0, 0) _ rfl jj Tryz.underlying24 rfl infoI) rfl ?_
  exact ⟨reti E.out,(by repeat (first | exact hok | refine Ok.alloc ?_ _ | refine Ok.draws ?_ _ | fail))⟩
def retS (lo hi:Int):Ending:=.returned (.agg #[.int .i64 (tW lo),.int .i64 (wrap64 lo),.int .i64 (tW hi),.int .i64 (wrap64 hi)])
theorem pwith_any (lo hi z:Int) (w0 w:World) (hok:Ok w0 w) :
  Calls Tryz.prog 254 #[.agg #[.int .i64 (tW lo),.int .i64 (wrap64 lo),.int .i64 (tW hi),.int .i64 (wrap64 hi)],.agg #[.int .i64 (tW z),.int .i64 (wrap64 z)]] w fun e w'=>e=retS (min lo z) (max hi z)/\Ok w0 w':=by
 by_cases h1:z<lo
 ·rw [show min lo z=z by omega]
  have d1:decide (z<lo)=true:=decide_eq_true h1
  by_cases h2:hi<z
  ·rw [show max hi z=z by omega]
   have d2:decide (hi<z)=true:=decide_eq_true h2
   go_enter Tryz.func254,Tryz.ntmps254
   go_wp2_with (first | (go_at_call 260;refine (pless_ex _ _ _).mono ?_;rintro e w' ⟨rfl,rfl⟩) | fail)
   (try simp only [Exit.inBlock, Exit.then]); refine bodyPost_ret (results_cell_row rfl _ _ (w.heap.size+2) 187 #[_, _, _, _] (0, 0) _ rfl jj Tryz.underlying187 rfl infoS) rfl ?_
   exact ⟨rfl,(by repeat (first | exact hok | refine Ok.alloc ?_ _ | refine Ok.draws ?_ _ | fail))⟩
  ·rw [show max hi z=hi by omega]
   have d2:decide (hi<z)=false:=decide_eq_false h2
   go_enter Tryz.func254,Tryz.ntmps254
   go_wp2_with (first | (go_at_call 260;refine (pless_ex _ _ _).mono ?_;rintro e w' ⟨rfl,rfl⟩) | fail)
   (try simp only [Exit.inBlock, Exit.then]); refine bodyPost_ret (results_cell_row rfl _ _ (w.heap.size+2) 187 #[_, _, _, _] (0, 0) _ rfl jj Tryz.underlying187 rfl infoS) rfl ?_
   exact ⟨rfl,(by repeat (first | exact hok | refine Ok.alloc ?_ _ | refine Ok.draws ?_ _ | fail))⟩
 ·rw [show min lo z=lo by omega]
  have d1:decide (z<lo)=false:=decide_eq_false h1
  by_cases h2:hi<z
  ·rw [show max hi z=z by omega]
   have d2:decide (hi<z)=true:=decide_eq_true h2
   go_enter Tryz.func254,Tryz.ntmps254
   go_wp2_with (first | (go_at_call 260;refine (pless_ex _ _ _).mono ?_;rintro e w' ⟨rfl,rfl⟩) | fail)
   (try simp only [Exit.inBlock, Exit.then]); refine bodyPost_ret (results_cell_row rfl _ _ (w.heap.size+2) 187 #[_, _, _, _] (0, 0) _ rfl jj Tryz.underlying187 rfl infoS) rfl ?_
   exact ⟨rfl,(by repeat (first | exact hok | refine Ok.alloc ?_ _ | refine Ok.draws ?_ _ | fail))⟩
  ·rw [show max hi z=hi by omega]
   have d2:decide (hi<z)=false:=decide_eq_false h2
   go_enter Tryz.func254,Tryz.ntmps254
   go_wp2_with (first | (go_at_call 260;refine (pless_ex _ _ _).mono ?_;rintro e w' ⟨rfl,rfl⟩) | fail)
   (try simp only [Exit.inBlock, Exit.then]); refine bodyPost_ret (results_cell_row rfl _ _ (w.heap.size+2) 187 #[_, _, _, _] (0, 0) _ rfl jj Tryz.underlying187 rfl infoS) rfl ?_
   exact ⟨rfl,(by repeat (first | exact hok | refine Ok.alloc ?_ _ | refine Ok.draws ?_ _ | fail))⟩
end
section
open Go.RowKit
def OpAt (f:Nat) (al ah bl bh:Int) (W:Int->Int->Int):Prop :=
 ∀ x y,(x=al\/x=ah)->(y=bl\/y=bh)->∀ w0 w,Ok w0 w->Calls Tryz.prog f #[.int .i64 x,.int .i64 y] w fun e w'=>e=.returned (.agg #[.int .i64 (tW (W x y)),.int .i64 (wrap64 (W x y))])/\Ok w0 w'
def rowS (lo hi:Int):Obj:=.cells #[.int .i64 (tW lo),.int .i64 (wrap64 lo),.int .i64 (tW hi),.int .i64 (wrap64 hi)] 187
def ThrInv (w wr:World) (g8:Nat) (lo hi:Int):Prop :=
 Ok w wr/\wr.heap[w.heap.size+2]?=some (.cells #[.int .i64 0,.int .i64 0,.int .i64 0,.int .i64 0] 187)/\wr.heap[g8]?=some (rowS lo hi)/\w.heap.size+2<g8
def cX (al ah:Int):Nat->Int
 | 0=>al
 | 1=>al
 | _=>ah
def cY (bl bh:Int):Nat->Int
 | 0=>bl
 | 1=>bh
 | 2=>bl
 | _=>bh
def cL (W:Int->Int->Int) (al ah bl bh:Int):Nat->Int
 | 0=>W al bl
 | k+1=>min (cL W al ah bl bh k) (W (cX al ah k) (cY bl bh k))
def cH (W:Int->Int->Int) (al ah bl bh:Int):Nat->Int
 | 0=>W al bl
 | k+1=>max (cH W al ah bl bh k) (W (cX al ah k) (cY bl bh k))
theorem row_facts4 {w:World} {g:Nat} {a b c d:Value} {t:TypeId} (h:w.heap[g]?=some (.cells #[a,b,c,d] t (0,0))) :
  (w.cell? ⟨g,0,none⟩=some a/\w.cell? ⟨g,1,none⟩=some b/\w.cell? ⟨g,2,none⟩=some c/\w.cell? ⟨g,3,none⟩=some d)/\w.frozen? ⟨g,0,none⟩=false/\w.frozen? ⟨g,1,none⟩=false/\w.frozen? ⟨g,2,none⟩=false/\w.frozen? ⟨g,3,none⟩=false:=by
 refine ⟨⟨?_,?_,?_,?_⟩,frozen_of_row _ _ _ _ _ h,frozen_of_row _ _ _ _ _ h,frozen_of_row _ _ _ _ _ h,frozen_of_row _ _ _ _ _ h⟩
 ·exact (cell_of_row _ _ 0 _ _ _ h).trans (by simp)
 ·exact (cell_of_row _ _ 1 _ _ _ h).trans (by simp)
 ·exact (cell_of_row _ _ 2 _ _ _ h).trans (by simp)
 ·exact (cell_of_row _ _ 3 _ _ _ h).trans (by simp)
theorem Jrow_set4 {w:World} {g:Nat} {a b c d:Value} {t:TypeId} (hg:w.heap[g]?=some (.cells #[a,b,c,d] t (0,0))) (x y z u:Value):((((w.setCell ⟨g,0,none⟩ x).setCell ⟨g,1,none⟩ y).setCell ⟨g,2,none⟩ z).setCell ⟨g,3,none⟩ u).heap[g]?=some (.cells #[x,y,z,u] t (0,0)):=by
 have h1:(w.setCell ⟨g,0,none⟩ x).heap[g]?=some (.cells #[x,b,c,d] t (0,0)):=by simpa using heap_setCell_same w g 0 _ t x hg
 have h2:((w.setCell ⟨g,0,none⟩ x).setCell ⟨g,1,none⟩ y).heap[g]?=some (.cells #[x,y,c,d] t (0,0)):=by simpa using heap_setCell_same _ g 1 _ t y h1
 have h3:(((w.setCell ⟨g,0,none⟩ x).setCell ⟨g,1,none⟩ y).setCell ⟨g,2,none⟩ z).heap[g]?=some (.cells #[x,y,z,d] t (0,0)):=by simpa using heap_setCell_same _ g 2 _ t z h2
 simpa using heap_setCell_same _ g 3 _ t u h3
theorem ThrInv.next {w wr w3:World} {g8:Nat} {lo hi l h:Int} (H:ThrInv w wr g8 lo hi) (hb:Ok wr w3) :
  ThrInv w ((((w3.setCell ⟨g8,0,none⟩ (.int .i64 (tW l))).setCell ⟨g8,1,none⟩ (.int .i64 (wrap64 l))).setCell ⟨g8,2,none⟩ (.int .i64 (tW h))).setCell ⟨g8,3,none⟩ (.int .i64 (wrap64 h))) g8 l h:=by
 obtain ⟨r1,r2,r3,r4⟩:=H
 have r3':=Ok.row' hb r3
 have hg:w.heap.size<=g8:=by omega
 refine ⟨((((r1.step hb).set hg _).set hg _).set hg _).set hg _,?_,Jrow_set4 r3' _ _ _ _,r4⟩
 rw [heap_setCell_other _ _ _ _ (show w.heap.size+2≠g8 by omega),heap_setCell_other _ _ _ _ (show w.heap.size+2≠g8 by omega),heap_setCell_other _ _ _ _ (show w.heap.size+2≠g8 by omega),heap_setCell_other _ _ _ _ (show w.heap.size+2≠g8 by omega)]
 exact Ok.row' hb r2
theorem pwith_is (lo hi z:Int) (w0 w:World) (hok:Ok w0 w) :
  Calls Tryz.prog 254 #[.agg #[.int .i64 (tW lo),.int .i64 (wrap64 lo),.int .i64 (tW hi),.int .i64 (wrap64 hi)],.agg #[.int .i64 (tW z),.int .i64 (wrap64 z)]] w fun e w'=>e=.returned (.agg #[.int .i64 (tW (min lo z)),.int .i64 (wrap64 (min lo z)),.int .i64 (tW (max hi z)),.int .i64 (wrap64 (max hi z))])/\Ok w0 w':=pwith_any lo hi z w0 w hok
theorem idx0 (a b c d e f g h:Int) (w:World):(Instr.index 199 (.agg #[.int .i64 a,.int .i64 b,.int .i64 c,.int .i64 d,.int .i64 e,.int .i64 f,.int .i64 g,.int .i64 h]) (.int .i64 0)).run Tryz.prog w=.ok (.agg #[.int .i64 a,.int .i64 b]) w:=by kernel_rfl
theorem idx1 (a b c d e f g h:Int) (w:World):(Instr.index 199 (.agg #[.int .i64 a,.int .i64 b,.int .i64 c,.int .i64 d,.int .i64 e,.int .i64 f,.int .i64 g,.int .i64 h]) (.int .i64 1)).run Tryz.prog w=.ok (.agg #[.int .i64 c,.int .i64 d]) w:=by kernel_rfl
theorem idx2 (a b c d e f g h:Int) (w:World):(Instr.index 199 (.agg #[.int .i64 a,.int .i64 b,.int .i64 c,.int .i64 d,.int .i64 e,.int .i64 f,.int .i64 g,.int .i64 h]) (.int .i64 2)).run Tryz.prog w=.ok (.agg #[.int .i64 e,.int .i64 f]) w:=by kernel_rfl
theorem idx3 (a b c d e f g h:Int) (w:World):(Instr.index 199 (.agg #[.int .i64 a,.int .i64 b,.int .i64 c,.int .i64 d,.int .i64 e,.int .i64 f,.int .i64 g,.int .i64 h]) (.int .i64 3)).run Tryz.prog w=.ok (.agg #[.int .i64 g,.int .i64 h]) w:=by kernel_rfl
end
section
open Go.RowKit
theorem pthrough_ex (f:Nat) (w:World) :
  Calls Tryz.prog 229 #[.func (.func f) #[] #[]] w fun e w'=>e=.returned (.func (.func 253) #[] #[.pointer (some ⟨w.heap.size,0,none⟩)])/\w'=w.alloc (.cells #[.func (.func f) #[] #[]] 183):=by
 have hmf:∀ (fn:Fn) (first cap:Array Value) (w:World),(Instr.makeFunc fn first cap).run Tryz.prog w=.ok (.func fn first cap) w:=fun _ _ _ _=>rfl
 go_enter Tryz.func229,Tryz.ntmps229
 go_wp2
 go_ret
 exact ⟨rfl,rfl⟩
theorem rowA {W w':World} {p o:Obj} (h:Ok ((W.drew.alloc o).alloc p) w'):w'.heap[W.heap.size]?=some o:=Ok.row' h (heap_past _ _ _ (by simp) (heap_new0 _ _))
theorem rowB {W w':World} {p o:Obj} (h:Ok ((W.drew.alloc p).alloc o) w'):w'.heap[W.heap.size+1]?=some o:=Ok.row' h (heap_at _ _ _ (by simp))
def Spn (W w1:World) (g:Nat) (L H:Int):Prop:=Ok W w1/\w1.heap[g]?=some (rowS L H)/\W.heap.size<=g
theorem thr_a {W w2:World} {L H:Int} (h:Ok W w2):Hid (Spn W (w2.alloc (.cells #[.int .i64 (tW L),.int .i64 (wrap64 L),.int .i64 (tW H),.int .i64 (wrap64 H)] 187)) w2.heap.size L H):=⟨h.alloc _,heap_new0 _ _,h.le⟩
theorem thr_b {W w2:World} {g:Nat} {a b c d:Value} {L H:Int} (h:Ok W w2) (e:w2.heap[g]?=some (.cells #[a,b,c,d] 187 (0,0))) (hg:W.heap.size<=g) :
  Hid (Spn W ((((w2.setCell ⟨g,0,none⟩ (.int .i64 (tW L))).setCell ⟨g,1,none⟩ (.int .i64 (wrap64 L))).setCell ⟨g,2,none⟩ (.int .i64 (tW H))).setCell ⟨g,3,none⟩ (.int .i64 (wrap64 H))) g L H) :=
 ⟨(((h.set hg _).set hg _).set hg _).set hg _,Jrow_set4 e _ _ _ _,hg⟩
def exW (lo hi:Int):Bool:=decide (In64 lo)&&decide (In64 hi)
theorem pexact_any (lo hi:Int) (w0 w:World) (hok:Ok w0 w) :
  Calls Tryz.prog 231 #[.agg #[.int .i64 (tW lo),.int .i64 (wrap64 lo),.int .i64 (tW hi),.int .i64 (wrap64 hi)]] w fun e w'=>e=.returned (.bool (exW lo hi))/\Ok w0 w':=by
 refine (pexact_ex lo hi w).mono ?_
 rintro e w' ⟨rfl,rfl⟩
 exact ⟨rfl,hok.alloc _⟩
theorem span_hullW {lo hi:Int} (h:lo<=hi):spanI lo hi=((hullW lo hi).1,(hullW lo hi).2,exW lo hi):=by
 unfold exW
 have e1:=tW_eq lo
 have e2:=tW_eq hi
 have w1:=wrap64_in lo
 have w2:=wrap64_in hi
 have t1:=tW_zero lo
 have t2:=tW_zero hi
 unfold hullW
 by_cases h0:In64 lo/\In64 hi
 ·have hL:tW lo=0:=by unfold tW;unfold In64 at h0;omega
  have hH:tW hi=0:=by unfold tW;unfold In64 at h0;omega
  rw [spanI,if_pos h0,if_pos (by omega),decide_eq_true h0.1,decide_eq_true h0.2,wrap64_id h0.1,wrap64_id h0.2];rfl
 ·have hd:(decide (In64 lo)&&decide (In64 hi))=false:=by
   by_cases h1:In64 lo
   ·rw [decide_eq_false (show ¬In64 hi from fun h2=>h0 ⟨h1,h2⟩),Bool.and_false]
   ·rw [decide_eq_false h1,Bool.false_and]
  rw [hd,spanI,if_neg h0]
  clear t1 t2 h0 hd
  unfold In64 at w1 w2
  by_cases ht:tW lo=tW hi
  ·rw [if_pos ht]
   by_cases hw:18446744073709551615<=hi-lo\/wrap64 hi<wrap64 lo
   ·rw [if_pos hw]
    have a1:wrap64 lo = -9223372036854775808:=by omega
    have a2:wrap64 hi=9223372036854775807:=by omega
    rw [a1,a2]
   ·rw [if_neg hw]
  ·rw [if_neg ht,if_pos (by omega)]
theorem cL_add {al ah bl bh:Int} (ha:al<=ah) (hb:bl<=bh):cL (fun x y=>x+y) al ah bl bh 4=al+bl/\cH (fun x y=>x+y) al ah bl bh 4=ah+bh:=by
 simp only [cL,cH,cX,cY];omega
theorem cL_sub {al ah bl bh:Int} (ha:al<=ah) (hb:bl<=bh):cL (fun x y=>x-y) al ah bl bh 4=al-bh/\cH (fun x y=>x-y) al ah bl bh 4=ah-bl:=by
 simp only [cL,cH,cX,cY];omega
theorem op_sum {al ah bl bh:Int} (ha1:In64 al) (ha2:In64 ah) (hb1:In64 bl) (hb2:In64 bh):OpAt 226 al ah bl bh (fun x y=>x+y):=by
 intro x y hx hy w0 w hok
 exact psum_any x y (by rcases hx with rfl | rfl<;>assumption) (by rcases hy with rfl | rfl<;>assumption) w0 w hok
theorem op_dif {al ah bl bh:Int} (ha1:In64 al) (ha2:In64 ah) (hb1:In64 bl) (hb2:In64 bh):OpAt 228 al ah bl bh (fun x y=>x-y):=by
 intro x y hx hy w0 w hok
 exact pdif_any x y (by rcases hx with rfl | rfl<;>assumption) (by rcases hy with rfl | rfl<;>assumption) w0 w hok
end
section
open Go.RowKit
theorem pdist_ex (v:Int) (hv:In64 v) (w:World) :
  Calls Tryz.prog 258 #[.int .i64 v] w fun e w'=>e=.returned (.int .u64 (farI v))/\w'=w:=by
 by_cases h:v<0
 ·have E:Hid _:=far_neg h hv
  clear hv
  go_enter Tryz.func258,Tryz.ntmps258
  go_wp2
  go_ret
  exact ⟨ret1u E.out,rfl⟩
 ·have E:Hid _:=far_pos (by omega) hv
  clear hv
  go_enter Tryz.func258,Tryz.ntmps258
  go_wp2
  go_ret
  exact ⟨ret1u E.out,rfl⟩
theorem pfarthest_any (l h:Int) (hl:In64 l) (hh:In64 h) (w0 w:World) (hok:Ok w0 w) :
  Calls Tryz.prog 247 #[.agg #[.int .i64 l,.int .i64 h]] w fun e w'=>e=.returned (.int .u64 (max (farI l) (farI h)))/\Ok w0 w':=by
 have HA:Hid (In64 l/\In64 h):=⟨hl,hh⟩
 clear hl hh
 have b0:=far_bd l HA.out.1
 have b1:=far_bd h HA.out.2
 by_cases hc:farI l<farI h
 ·have E:Hid (farI h=max (farI l) (farI h)):=by unfold Hid;omega
  go_enter Tryz.func247,Tryz.ntmps247
  go_wp2_with (first | (go_at_call 199;refine (pisnone_ex _ _ _).mono ?_;rintro e w' ⟨rfl,rfl⟩) | fail)
  go_region_held3 (fun w'=>w'.cell? ⟨w.heap.size,0,none⟩=some (.int .i64 l)/\w'.cell? ⟨w.heap.size,1,none⟩=some (.int .i64 h)) (go_keep)
   (first
   | (go_at_call 258;refine (pdist_ex _ (by first | exact HA.out.1 | exact HA.out.2) _).mono ?_;rintro e w' ⟨rfl,rfl⟩)
   | fail)
  go_wp2_with fail
  go_ret
  exact ⟨ret1u E.out,by repeat (first | exact hok | refine Ok.alloc ?_ _ | refine Below.drew ?_)⟩
 ·replace hc:farI h<=farI l:=by omega
  have E:Hid (farI l=max (farI l) (farI h)):=by unfold Hid;omega
  go_enter Tryz.func247,Tryz.ntmps247
  go_wp2_with (first | (go_at_call 199;refine (pisnone_ex _ _ _).mono ?_;rintro e w' ⟨rfl,rfl⟩) | fail)
  go_region_held3 (fun w'=>w'.cell? ⟨w.heap.size,0,none⟩=some (.int .i64 l)/\w'.cell? ⟨w.heap.size,1,none⟩=some (.int .i64 h)) (go_keep)
   (first
   | (go_at_call 258;refine (pdist_ex _ (by first | exact HA.out.1 | exact HA.out.2) _).mono ?_;rintro e w' ⟨rfl,rfl⟩)
   | fail)
  go_wp2_with fail
  go_ret
  exact ⟨ret1u E.out,by repeat (first | exact hok | refine Ok.alloc ?_ _ | refine Below.drew ?_)⟩
def nearF (l h:Int):Int:=if h<l then 18446744073709551615 else min (farI l) (farI h)
theorem pnearest_any (l h:Int) (hl:In64 l) (hh:In64 h) (w0 w:World) (hok:Ok w0 w) :
  Calls Tryz.prog 248 #[.agg #[.int .i64 l,.int .i64 h]] w fun e w'=>e=.returned (.int .u64 (nearF l h))/\Ok w0 w':=by
 have HA:Hid (In64 l/\In64 h):=⟨hl,hh⟩
 clear hl hh
 have b0:=far_bd l HA.out.1
 have b1:=far_bd h HA.out.2
 by_cases hn:h<l
 ·have E:Hid (18446744073709551615=nearF l h):=by unfold Hid nearF;rw [if_pos hn]
  have d:decide (h<l)=true:=decide_eq_true hn
  go_enter Tryz.func248,Tryz.ntmps248
  go_wp2_with (first | (go_at_call 199;refine (pisnone_ex _ _ _).mono ?_;rintro e w' ⟨rfl,rfl⟩) | fail)
  go_ret
  exact ⟨ret1u E.out,by repeat (first | exact hok | refine Ok.alloc ?_ _ | refine Below.drew ?_)⟩
 ·have d:decide (h<l)=false:=decide_eq_false hn
  by_cases hc:farI h<farI l
  ·have E:Hid (farI h=nearF l h):=by unfold Hid nearF;rw [if_neg hn];omega
   go_enter Tryz.func248,Tryz.ntmps248
   go_wp2_with (first | (go_at_call 199;refine (pisnone_ex _ _ _).mono ?_;rintro e w' ⟨rfl,rfl⟩) | fail)
   go_region_held3 (fun w'=>w'.cell? ⟨w.heap.size,0,none⟩=some (.int .i64 l)/\w'.cell? ⟨w.heap.size,1,none⟩=some (.int .i64 h)) (go_keep)
    (first
    | (go_at_call 258;refine (pdist_ex _ (by first | exact HA.out.1 | exact HA.out.2) _).mono ?_;rintro e w' ⟨rfl,rfl⟩)
    | fail)
   go_wp2_with fail
   go_ret
   exact ⟨ret1u E.out,by repeat (first | exact hok | refine Ok.alloc ?_ _ | refine Below.drew ?_)⟩
  ·replace hc:farI l<=farI h:=by omega
   have E:Hid (farI l=nearF l h):=by unfold Hid nearF;rw [if_neg hn];omega
   go_enter Tryz.func248,Tryz.ntmps248
   go_wp2_with (first | (go_at_call 199;refine (pisnone_ex _ _ _).mono ?_;rintro e w' ⟨rfl,rfl⟩) | fail)
   go_region_held3 (fun w'=>w'.cell? ⟨w.heap.size,0,none⟩=some (.int .i64 l)/\w'.cell? ⟨w.heap.size,1,none⟩=some (.int .i64 h)) (go_keep)
    (first
    | (go_at_call 258;refine (pdist_ex _ (by first | exact HA.out.1 | exact HA.out.2) _).mono ?_;rintro e w' ⟨rfl,rfl⟩)
    | fail)
   go_wp2_with fail
   go_ret
   exact ⟨ret1u E.out,by repeat (first | exact hok | refine Ok.alloc ?_ _ | refine Below.drew ?_)⟩
theorem pupto_ex (v:Int) (w:World) :
  Calls Tryz.prog 240 #[.int .i64 v] w fun e w'=>e=.returned (.agg #[.int .i64 (-9223372036854775808),.int .i64 v])/\w'=w.alloc (.cells #[.int .i64 (-9223372036854775808),.int .i64 v] 24):=by
 go_enter Tryz.func240,Tryz.ntmps240
 go_wp2
 (try simp only [Exit.inBlock, Exit.then]); refine bodyPost_ret (results_cell_row rfl _ _ (w.heap.size) 24 #[_, _] (0, 0) _ rfl jj Tryz.underlying24 rfl infoI) rfl ?_
 exact ⟨rfl,rfl⟩
theorem pfrom_ex (v:Int) (w:World) :
  Calls Tryz.prog 242 #[.int .i64 v] w fun e w'=>e=.returned (.agg #[.int .i64 v,.int .i64 9223372036854775807])/\w'=w.alloc (.cells #[.int .i64 v,.int .i64 9223372036854775807] 24):=by
 go_enter Tryz.func242,Tryz.ntmps242
 go_wp2
 (try simp only [Exit.inBlock, Exit.then]); refine bodyPost_ret (results_cell_row rfl _ _ (w.heap.size) 24 #[_, _] (0, 0) _ rfl jj Tryz.underlying24 rfl infoI) rfl ?_
 exact ⟨rfl,rfl⟩
theorem pwithin_any (al ah bl bh:Int) (w0 w:World) (hok:Ok w0 w) :
  Calls Tryz.prog 237 #[.agg #[.int .i64 al,.int .i64 ah],.agg #[.int .i64 bl,.int .i64 bh]] w fun e w'=>e=.returned (.agg #[.int .i64 (meetI al ah bl bh).1,.int .i64 (meetI al ah bl bh).2])/\Ok w0 w':=by
 have hle:=hok.le
 go_enter Tryz.func237,Tryz.ntmps237
 go_wp2_with fail
 refine (Jpmeet_any _ _ _ _ _ _ (Ok.refl _)).mono ?_
 rintro e w' ⟨rfl,hb⟩
 have hr:Hid _:=Ok.row' (g:=w.heap.size+2) (o:=.cells #[.int .i64 0,.int .i64 0] 24) hb jj
 obtain ⟨k0,k1,k2,k3⟩:=row_facts hr.out
 go_wp2_with fail
 (try simp only [Exit.inBlock,Exit.then])
 refine bodyPost_ret (results_cell_row rfl _ _ (w.heap.size+2) 24 #[_,_] (0,0) _ rfl (row_set2 hr.out _ _) Tryz.underlying24 rfl infoI) rfl ?_
 exact ⟨rfl,((Ok.step (by repeat (first | exact hok | refine Ok.alloc ?_ _ | refine Ok.draws ?_ _ | fail)) hb).set (show w0.heap.size<=w.heap.size+2 by omega) _).set (show w0.heap.size<=w.heap.size+2 by omega) _⟩
end
end Go.Proofs.YtnjmjnmhldhaoaaGreat
