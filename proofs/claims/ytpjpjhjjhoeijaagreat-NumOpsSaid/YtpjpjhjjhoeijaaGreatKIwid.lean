import Derived.Test.YtpjpjhjjhoeijaaGreatKIadd
set_option maxHeartbeats 8000000
set_option linter.all false
namespace Go.Proofs.YtpjpjhjjhoeijaaGreat
open Go.RowKit
theorem rmeet_any (al ah bl bh:Int) (w0 w:World) (hok:Ok w0 w) :
  Calls Tryz.prog 120 #[.agg #[.int .i64 al,.int .i64 ah],.agg #[.int .i64 bl,.int .i64 bh]] w fun e w'=>e=.returned (.agg #[.int .i64 (meetI al ah bl bh).1,.int .i64 (meetI al ah bl bh).2])/\Ok w0 w':=by
 by_cases h1:al<bl
 ·by_cases h2:bh<ah
  ·skip
   have E0:meetI al ah bl bh=normI bl bh:=by unfold meetI;rw [show max al bl=bl by omega,show min ah bh=bh by omega]
   by_cases hx:bh<bl
   ·have hb:bh<bl:=hx
    have E:Hid (meetI al ah bl bh=((normI bl bh).1,(normI bl bh).2)):=E0
    clear hx E0
    go_enter Tryz.func120,Tryz.ntmps120
    go_wp2_with (first | (go_at_call 132;refine (rnormal_yes _ _ _ hb).mono ?_;rintro e w' ⟨rfl,rfl⟩) | fail)
    (try simp only [Exit.inBlock, Exit.then]); refine bodyPost_ret (results_cell_row rfl _ _ (w.heap.size+2) 24 #[_, _] (0, 0) _ rfl jj Tryz.underlying24 rfl infoI) rfl ?_
    exact ⟨reti E.out,(by repeat (first | exact hok | refine Ok.alloc ?_ _ | refine Ok.draws ?_ _ | fail))⟩
   ·have hb:bl<=bh:=by omega
    have E:Hid (meetI al ah bl bh=((normI bl bh).1,(normI bl bh).2)):=E0
    clear hx E0
    go_enter Tryz.func120,Tryz.ntmps120
    go_wp2_with (first | (go_at_call 132;refine (rnormal_no _ _ _ hb).mono ?_;rintro e w' ⟨rfl,rfl⟩) | fail)
    (try simp only [Exit.inBlock, Exit.then]); refine bodyPost_ret (results_cell_row rfl _ _ (w.heap.size+2) 24 #[_, _] (0, 0) _ rfl jj Tryz.underlying24 rfl infoI) rfl ?_
    exact ⟨reti E.out,(by repeat (first | exact hok | refine Ok.alloc ?_ _ | refine Ok.draws ?_ _ | fail))⟩
  ·replace h2:ah<=bh:=by omega
   have E0:meetI al ah bl bh=normI bl ah:=by unfold meetI;rw [show max al bl=bl by omega,show min ah bh=ah by omega]
   by_cases hx:ah<bl
   ·have hb:ah<bl:=hx
    have E:Hid (meetI al ah bl bh=((normI bl ah).1,(normI bl ah).2)):=E0
    clear hx E0
    go_enter Tryz.func120,Tryz.ntmps120
    go_wp2_with (first | (go_at_call 132;refine (rnormal_yes _ _ _ hb).mono ?_;rintro e w' ⟨rfl,rfl⟩) | fail)
    (try simp only [Exit.inBlock, Exit.then]); refine bodyPost_ret (results_cell_row rfl _ _ (w.heap.size+2) 24 #[_, _] (0, 0) _ rfl jj Tryz.underlying24 rfl infoI) rfl ?_
    exact ⟨reti E.out,(by repeat (first | exact hok | refine Ok.alloc ?_ _ | refine Ok.draws ?_ _ | fail))⟩
   ·have hb:bl<=ah:=by omega
    have E:Hid (meetI al ah bl bh=((normI bl ah).1,(normI bl ah).2)):=E0
    clear hx E0
    go_enter Tryz.func120,Tryz.ntmps120
    go_wp2_with (first | (go_at_call 132;refine (rnormal_no _ _ _ hb).mono ?_;rintro e w' ⟨rfl,rfl⟩) | fail)
    (try simp only [Exit.inBlock, Exit.then]); refine bodyPost_ret (results_cell_row rfl _ _ (w.heap.size+2) 24 #[_, _] (0, 0) _ rfl jj Tryz.underlying24 rfl infoI) rfl ?_
    exact ⟨reti E.out,(by repeat (first | exact hok | refine Ok.alloc ?_ _ | refine Ok.draws ?_ _ | fail))⟩
 ·replace h1:bl<=al:=by omega
  by_cases h2:bh<ah
  ·skip
   have E0:meetI al ah bl bh=normI al bh:=by unfold meetI;rw [show max al bl=al by omega,show min ah bh=bh by omega]
   by_cases hx:bh<al
   ·have hb:bh<al:=hx
    have E:Hid (meetI al ah bl bh=((normI al bh).1,(normI al bh).2)):=E0
    clear hx E0
    go_enter Tryz.func120,Tryz.ntmps120
    go_wp2_with (first | (go_at_call 132;refine (rnormal_yes _ _ _ hb).mono ?_;rintro e w' ⟨rfl,rfl⟩) | fail)
    (try simp only [Exit.inBlock, Exit.then]); refine bodyPost_ret (results_cell_row rfl _ _ (w.heap.size+2) 24 #[_, _] (0, 0) _ rfl jj Tryz.underlying24 rfl infoI) rfl ?_
    exact ⟨reti E.out,(by repeat (first | exact hok | refine Ok.alloc ?_ _ | refine Ok.draws ?_ _ | fail))⟩
   ·have hb:al<=bh:=by omega
    have E:Hid (meetI al ah bl bh=((normI al bh).1,(normI al bh).2)):=E0
    clear hx E0
    go_enter Tryz.func120,Tryz.ntmps120
    go_wp2_with (first | (go_at_call 132;refine (rnormal_no _ _ _ hb).mono ?_;rintro e w' ⟨rfl,rfl⟩) | fail)
    (try simp only [Exit.inBlock, Exit.then]); refine bodyPost_ret (results_cell_row rfl _ _ (w.heap.size+2) 24 #[_, _] (0, 0) _ rfl jj Tryz.underlying24 rfl infoI) rfl ?_
    exact ⟨reti E.out,(by repeat (first | exact hok | refine Ok.alloc ?_ _ | refine Ok.draws ?_ _ | fail))⟩
  ·replace h2:ah<=bh:=by omega
   have E0:meetI al ah bl bh=normI al ah:=by unfold meetI;rw [show max al bl=al by omega,show min ah bh=ah by omega]
   by_cases hx:ah<al
   ·have hb:ah<al:=hx
    have E:Hid (meetI al ah bl bh=((normI al ah).1,(normI al ah).2)):=E0
    clear hx E0
    go_enter Tryz.func120,Tryz.ntmps120
    go_wp2_with (first | (go_at_call 132;refine (rnormal_yes _ _ _ hb).mono ?_;rintro e w' ⟨rfl,rfl⟩) | fail)
    (try simp only [Exit.inBlock, Exit.then]); refine bodyPost_ret (results_cell_row rfl _ _ (w.heap.size+2) 24 #[_, _] (0, 0) _ rfl jj Tryz.underlying24 rfl infoI) rfl ?_
    exact ⟨reti E.out,(by repeat (first | exact hok | refine Ok.alloc ?_ _ | refine Ok.draws ?_ _ | fail))⟩
   ·have hb:al<=ah:=by omega
    have E:Hid (meetI al ah bl bh=((normI al ah).1,(normI al ah).2)):=E0
    clear hx E0
    go_enter Tryz.func120,Tryz.ntmps120
    go_wp2_with (first | (go_at_call 132;refine (rnormal_no _ _ _ hb).mono ?_;rintro e w' ⟨rfl,rfl⟩) | fail)
    (try simp only [Exit.inBlock, Exit.then]); refine bodyPost_ret (results_cell_row rfl _ _ (w.heap.size+2) 24 #[_, _] (0, 0) _ rfl jj Tryz.underlying24 rfl infoI) rfl ?_
    exact ⟨reti E.out,(by repeat (first | exact hok | refine Ok.alloc ?_ _ | refine Ok.draws ?_ _ | fail))⟩
theorem lt_rowV {w:World} {g:Nat} {o:Obj} (e:w.heap[g]?=some o):g<w.heap.size:=(Array.getElem?_eq_some_iff.1 e).1
def stLo (bl m t:Int):Int:=if t<=bl/\m<t then t else m
def stHi (bh m t:Int):Int:=if bh<=t/\t<m then t else m
def wLo (bl:Int) (ts:List Int):Int:=ts.foldl (stLo bl) (-9223372036854775808)
def wHi (bh:Int) (ts:List Int):Int:=ts.foldl (stHi bh) 9223372036854775807
def widenI (al ah bl bh:Int) (ts:List Int):Int×Int :=
 if ah<al then normI bl bh else if bh<bl then (al,ah) else (if bl<al then wLo bl ts else al,if ah<bh then wHi bh ts else ah)
theorem fold_take {f:Int->Int->Int} {m:Int} {ts:List Int} {k:Nat} (h:k<ts.length):(ts.take (k+1)).foldl f m=f ((ts.take k).foldl f m) ts[k]:=by
 rw [List.take_succ_eq_append_getElem h,List.foldl_append];rfl
def IntsAt (w:World) (tb o:Nat) (ts:List Int):Prop:=(∀ i (h:i<ts.length),w.cell? ⟨tb,o+i,none⟩=some (.int .i64 ts[i]))/\tb<w.heap.size/\ts.length<=4611686018427387904
theorem IntsAt.ok {w w1:World} {tb o:Nat} {ts:List Int} (h:IntsAt w tb o ts) (hb:Ok w w1):IntsAt w1 tb o ts :=
 ⟨fun i hi=>Ok.cell hb h.2.1 (h.1 i hi),Nat.lt_of_lt_of_le h.2.1 hb.le,h.2.2⟩
def WidInv (w wr:World) (lo hi bl bh:Int):Prop :=
 Ok w wr/\wr.heap[w.heap.size]?=some (.cells #[.int .i64 lo,.int .i64 hi] 24)/\wr.heap[w.heap.size+1]?=some (.cells #[.int .i64 bl,.int .i64 bh] 24)/\wr.heap[w.heap.size+2]?=some (.cells #[.int .i64 0,.int .i64 0] 24)
theorem row_setA {w:World} {g:Nat} {u v:Value} {t:TypeId} (hg:w.heap[g]?=some (.cells #[u,v] t (0,0))) (x:Value):(w.setCell ⟨g,0,none⟩ x).heap[g]?=some (.cells #[x,v] t (0,0)):=by
 simpa using heap_setCell_same w g 0 _ t x hg
theorem row_setB {w:World} {g:Nat} {u v:Value} {t:TypeId} (hg:w.heap[g]?=some (.cells #[u,v] t (0,0))) (x:Value):(w.setCell ⟨g,1,none⟩ x).heap[g]?=some (.cells #[u,x] t (0,0)):=by
 simpa using heap_setCell_same w g 1 _ t x hg
theorem WidInv.setLo {w wr:World} {lo hi bl bh:Int} (h:WidInv w wr lo hi bl bh) (x:Int):WidInv w (wr.setCell ⟨w.heap.size,0,none⟩ (.int .i64 x)) x hi bl bh:=by
 obtain ⟨h1,h2,h3,h4⟩:=h
 refine ⟨h1.set (Nat.le_refl _) _,row_setA h2 _,?_,?_⟩
 ·rw [heap_setCell_other _ _ _ _ (by simp)];exact h3
 ·rw [heap_setCell_other _ _ _ _ (by simp)];exact h4
theorem WidInv.setHi {w wr:World} {lo hi bl bh:Int} (h:WidInv w wr lo hi bl bh) (x:Int):WidInv w (wr.setCell ⟨w.heap.size,1,none⟩ (.int .i64 x)) lo x bl bh:=by
 obtain ⟨h1,h2,h3,h4⟩:=h
 refine ⟨h1.set (Nat.le_refl _) _,row_setB h2 _,?_,?_⟩
 ·rw [heap_setCell_other _ _ _ _ (by simp)];exact h3
 ·rw [heap_setCell_other _ _ _ _ (by simp)];exact h4
theorem rwiden_x (al ah bl bh:Int) (tb o cap:Nat) (ts:List Int) (w:World) (hT:IntsAt w tb o ts) (ha:al<=ah) (hb:bl<=bh) (h1:bl<al) (h2:bh<=ah) :
  Calls Tryz.prog 52 #[.agg #[.int .i64 al,.int .i64 ah],.agg #[.int .i64 bl,.int .i64 bh],.slice (some ⟨tb,o,none⟩) ts.length cap] w fun e w'=>e=.returned (.agg #[.int .i64 (widenI al ah bl bh ts).1,.int .i64 (widenI al ah bl bh ts).2])/\Ok w w':=by
 have d:decide (ah<al)=false:=decide_eq_false (by omega)
 have d2:decide (bh<bl)=false:=decide_eq_false (by omega)
 have htl:(ts.length:Int)<=4611686018427387904:=by have:=hT.2.2;omega
 have HT:Hid _:=hT
 have E:Hid (widenI al ah bl bh ts=(wLo bl ts,ah)):=by unfold Hid widenI;rw [if_neg (by omega),if_neg (by omega),if_pos h1,if_neg (by omega)]
 clear hT
 go_enter Tryz.func52,Tryz.ntmps52
 go_wp2_with (first | (go_at_call 100;refine (rempty_ex _ _ _).mono ?_;rintro e w' ⟨rfl,rfl⟩) | fail)
 have HS:Hid (WidInv w (((((w.alloc (.cells #[.int .i64 (-9223372036854775808),.int .i64 ah] 24)).alloc (.cells #[.int .i64 bl,.int .i64 bh] 24)).alloc (.cells #[.int .i64 0,.int .i64 0] 24)).alloc (.cells #[.int .i64 al,.int .i64 ah] 24)).alloc (.cells #[.int .i64 bl,.int .i64 bh] 24)) (-9223372036854775808) ah bl bh):=⟨(by repeat (first | exact Ok.refl _ | refine Ok.alloc ?_ _ | fail)),jj,jj,jj⟩
 go_loopw [26] (fun i wr=>∃ (k:Nat) (lo:Int),k<=ts.length/\i=.int .i64 k/\Hid (lo=(ts.take k).foldl (stLo bl) (-9223372036854775808))/\Hid (WidInv w wr lo ah bl bh)) (fun i _=>(ts.length-intOf i).toNat)
 case atStart=>exact ⟨0,_,by omega,rfl,rfl,HS⟩
 case round =>
  obtain ⟨k,lo,hk,rfl,hval,HI⟩:=hrel
  clear HS
  obtain ⟨r0,r1,r2,r3⟩:=row_facts HI.out.2.1
  obtain ⟨q0,q1,q2,q3⟩:=row_facts HI.out.2.2.1
  obtain ⟨p0,p1,p2,p3⟩:=row_facts HI.out.2.2.2
  have hsz:=lt_rowV HI.out.2.2.2
  have htb:tb<wr.heap.size:=Nat.lt_of_lt_of_le HT.out.2.1 HI.out.1.le
  have hn1:¬tb=w.heap.size:=by have:=HT.out.2.1;omega
  have hn2:¬w.heap.size=tb:=by have:=HT.out.2.1;omega
  by_cases hk1:k<ts.length
  ·have hk2:(k:Int)<ts.length:=by omega
   have ct:=Ok.cell HI.out.1 HT.out.2.1 (HT.out.1 k hk1)
   have hst:Hid ((ts.take (k+1)).foldl (stLo bl) (-9223372036854775808)=stLo bl lo ts[k]):=by unfold Hid;rw [fold_take hk1,hval.out]
   generalize ts[k]=t at *
   by_cases c1:t<=bl
   ·by_cases c2:lo<t
    ·skip
     have hv:Hid (stLo bl lo t=t):=by unfold Hid stLo;rw [if_pos ⟨c1,c2⟩]
     go_wp2_with fail
     refine ⟨⟨k+1,t,by omega,rfl,?_,HI.out.setLo t⟩,by simp only [intOf];omega⟩
     unfold Hid;rw [hst.out,hv.out]
    ·replace c2:t<=lo:=by omega
     have hv:Hid (stLo bl lo t=lo):=by unfold Hid stLo;rw [if_neg (by omega)]
     go_wp2_with fail
     refine ⟨⟨k+1,lo,by omega,rfl,?_,HI⟩,by simp only [intOf];omega⟩
     unfold Hid;rw [hst.out,hv.out]
   ·replace c1:bl<t:=by omega
    have hv:Hid (stLo bl lo t=lo):=by unfold Hid stLo;rw [if_neg (by omega)]
    go_wp2_with fail
    refine ⟨⟨k+1,lo,by omega,rfl,?_,HI⟩,by simp only [intOf];omega⟩
    unfold Hid;rw [hst.out,hv.out]
  ·have hke:k=ts.length:=by omega
   have HV:Hid (lo=wLo bl ts):=by unfold Hid wLo;rw [hval.out,hke,List.take_length]
   subst hke
   clear hval
   have EE:Hid (widenI al ah bl bh ts=(lo,ah)):=by unfold Hid;rw [E.out,HV.out]
   go_wp2_with fail
   (try simp only [Exit.inBlock,Exit.then])
   refine bodyPost_ret (results_cell_row rfl _ _ (w.heap.size+2) 24 #[_,_] (0,0) _ rfl (row_set2 HI.out.2.2.2 _ _) Tryz.underlying24 rfl infoI) rfl ?_
   exact ⟨reti EE.out,(HI.out.1.set (show w.heap.size<=w.heap.size+2 by omega) _).set (show w.heap.size<=w.heap.size+2 by omega) _⟩
theorem rwiden_y (al ah bl bh:Int) (tb o cap:Nat) (ts:List Int) (w:World) (hT:IntsAt w tb o ts) (ha:al<=ah) (hb:bl<=bh) (h1:al<=bl) (h2:ah<bh) :
  Calls Tryz.prog 52 #[.agg #[.int .i64 al,.int .i64 ah],.agg #[.int .i64 bl,.int .i64 bh],.slice (some ⟨tb,o,none⟩) ts.length cap] w fun e w'=>e=.returned (.agg #[.int .i64 (widenI al ah bl bh ts).1,.int .i64 (widenI al ah bl bh ts).2])/\Ok w w':=by
 have d:decide (ah<al)=false:=decide_eq_false (by omega)
 have d2:decide (bh<bl)=false:=decide_eq_false (by omega)
 have htl:(ts.length:Int)<=4611686018427387904:=by have:=hT.2.2;omega
 have HT:Hid _:=hT
 have E:Hid (widenI al ah bl bh ts=(al,wHi bh ts)):=by unfold Hid widenI;rw [if_neg (by omega),if_neg (by omega),if_neg (by omega),if_pos h2]
 clear hT
 go_enter Tryz.func52,Tryz.ntmps52
 go_wp2_with (first | (go_at_call 100;refine (rempty_ex _ _ _).mono ?_;rintro e w' ⟨rfl,rfl⟩) | fail)
 have HS:Hid (WidInv w (((((w.alloc (.cells #[.int .i64 al,.int .i64 9223372036854775807] 24)).alloc (.cells #[.int .i64 bl,.int .i64 bh] 24)).alloc (.cells #[.int .i64 0,.int .i64 0] 24)).alloc (.cells #[.int .i64 al,.int .i64 ah] 24)).alloc (.cells #[.int .i64 bl,.int .i64 bh] 24)) al 9223372036854775807 bl bh):=⟨(by repeat (first | exact Ok.refl _ | refine Ok.alloc ?_ _ | fail)),jj,jj,jj⟩
 go_loopw [51] (fun i wr=>∃ (k:Nat) (hi:Int),k<=ts.length/\i=.int .i64 k/\Hid (hi=(ts.take k).foldl (stHi bh) 9223372036854775807)/\Hid (WidInv w wr al hi bl bh)) (fun i _=>(ts.length-intOf i).toNat)
 case atStart=>exact ⟨0,_,by omega,rfl,rfl,HS⟩
 case round =>
  obtain ⟨k,hi,hk,rfl,hval,HI⟩:=hrel
  clear HS
  obtain ⟨r0,r1,r2,r3⟩:=row_facts HI.out.2.1
  obtain ⟨q0,q1,q2,q3⟩:=row_facts HI.out.2.2.1
  obtain ⟨p0,p1,p2,p3⟩:=row_facts HI.out.2.2.2
  have hsz:=lt_rowV HI.out.2.2.2
  have htb:tb<wr.heap.size:=Nat.lt_of_lt_of_le HT.out.2.1 HI.out.1.le
  have hn1:¬tb=w.heap.size:=by have:=HT.out.2.1;omega
  have hn2:¬w.heap.size=tb:=by have:=HT.out.2.1;omega
  by_cases hk1:k<ts.length
  ·have hk2:(k:Int)<ts.length:=by omega
   have ct:=Ok.cell HI.out.1 HT.out.2.1 (HT.out.1 k hk1)
   have hst:Hid ((ts.take (k+1)).foldl (stHi bh) 9223372036854775807=stHi bh hi ts[k]):=by unfold Hid;rw [fold_take hk1,hval.out]
   generalize ts[k]=t at *
   by_cases c1:bh<=t
   ·by_cases c2:t<hi
    ·skip
     have hv:Hid (stHi bh hi t=t):=by unfold Hid stHi;rw [if_pos ⟨c1,c2⟩]
     go_wp2_with fail
     refine ⟨⟨k+1,t,by omega,rfl,?_,HI.out.setHi t⟩,by simp only [intOf];omega⟩
     unfold Hid;rw [hst.out,hv.out]
    ·replace c2:hi<=t:=by omega
     have hv:Hid (stHi bh hi t=hi):=by unfold Hid stHi;rw [if_neg (by omega)]
     go_wp2_with fail
     refine ⟨⟨k+1,hi,by omega,rfl,?_,HI⟩,by simp only [intOf];omega⟩
     unfold Hid;rw [hst.out,hv.out]
   ·replace c1:t<bh:=by omega
    have hv:Hid (stHi bh hi t=hi):=by unfold Hid stHi;rw [if_neg (by omega)]
    go_wp2_with fail
    refine ⟨⟨k+1,hi,by omega,rfl,?_,HI⟩,by simp only [intOf];omega⟩
    unfold Hid;rw [hst.out,hv.out]
  ·have hke:k=ts.length:=by omega
   have HV:Hid (hi=wHi bh ts):=by unfold Hid wHi;rw [hval.out,hke,List.take_length]
   subst hke
   clear hval
   have EE:Hid (widenI al ah bl bh ts=(al,hi)):=by unfold Hid;rw [E.out,HV.out]
   go_wp2_with fail
   (try simp only [Exit.inBlock,Exit.then])
   refine bodyPost_ret (results_cell_row rfl _ _ (w.heap.size+2) 24 #[_,_] (0,0) _ rfl (row_set2 HI.out.2.2.2 _ _) Tryz.underlying24 rfl infoI) rfl ?_
   exact ⟨reti EE.out,(HI.out.1.set (show w.heap.size<=w.heap.size+2 by omega) _).set (show w.heap.size<=w.heap.size+2 by omega) _⟩
theorem rwiden_v (al ah bl bh:Int) (tb o cap:Nat) (ts:List Int) (w:World) (hT:IntsAt w tb o ts) (ha:al<=ah) (hb:bl<=bh) (h1:bl<al) (h2:ah<bh) :
  Calls Tryz.prog 52 #[.agg #[.int .i64 al,.int .i64 ah],.agg #[.int .i64 bl,.int .i64 bh],.slice (some ⟨tb,o,none⟩) ts.length cap] w fun e w'=>e=.returned (.agg #[.int .i64 (widenI al ah bl bh ts).1,.int .i64 (widenI al ah bl bh ts).2])/\Ok w w':=by
 have d:decide (ah<al)=false:=decide_eq_false (by omega)
 have d2:decide (bh<bl)=false:=decide_eq_false (by omega)
 have htl:(ts.length:Int)<=4611686018427387904:=by have:=hT.2.2;omega
 have HT:Hid _:=hT
 have E:Hid (widenI al ah bl bh ts=(wLo bl ts,wHi bh ts)):=by unfold Hid widenI;rw [if_neg (by omega),if_neg (by omega),if_pos h1,if_pos h2]
 clear hT
 go_enter Tryz.func52,Tryz.ntmps52
 go_wp2_with (first | (go_at_call 100;refine (rempty_ex _ _ _).mono ?_;rintro e w' ⟨rfl,rfl⟩) | fail)
 have HS:Hid (WidInv w (((((w.alloc (.cells #[.int .i64 (-9223372036854775808),.int .i64 ah] 24)).alloc (.cells #[.int .i64 bl,.int .i64 bh] 24)).alloc (.cells #[.int .i64 0,.int .i64 0] 24)).alloc (.cells #[.int .i64 al,.int .i64 ah] 24)).alloc (.cells #[.int .i64 bl,.int .i64 bh] 24)) (-9223372036854775808) ah bl bh):=⟨(by repeat (first | exact Ok.refl _ | refine Ok.alloc ?_ _ | fail)),jj,jj,jj⟩
 go_loopw [26] (fun i wr=>∃ (k:Nat) (lo:Int),k<=ts.length/\i=.int .i64 k/\Hid (lo=(ts.take k).foldl (stLo bl) (-9223372036854775808))/\Hid (WidInv w wr lo ah bl bh)) (fun i _=>(ts.length-intOf i).toNat)
 case atStart=>exact ⟨0,_,by omega,rfl,rfl,HS⟩
 case round =>
  obtain ⟨k,lo,hk,rfl,hval,HI⟩:=hrel
  clear HS
  obtain ⟨r0,r1,r2,r3⟩:=row_facts HI.out.2.1
  obtain ⟨q0,q1,q2,q3⟩:=row_facts HI.out.2.2.1
  obtain ⟨p0,p1,p2,p3⟩:=row_facts HI.out.2.2.2
  have hsz:=lt_rowV HI.out.2.2.2
  have htb:tb<wr.heap.size:=Nat.lt_of_lt_of_le HT.out.2.1 HI.out.1.le
  have hn1:¬tb=w.heap.size:=by have:=HT.out.2.1;omega
  have hn2:¬w.heap.size=tb:=by have:=HT.out.2.1;omega
  by_cases hk1:k<ts.length
  ·have hk2:(k:Int)<ts.length:=by omega
   have ct:=Ok.cell HI.out.1 HT.out.2.1 (HT.out.1 k hk1)
   have hst:Hid ((ts.take (k+1)).foldl (stLo bl) (-9223372036854775808)=stLo bl lo ts[k]):=by unfold Hid;rw [fold_take hk1,hval.out]
   generalize ts[k]=t at *
   by_cases c1:t<=bl
   ·by_cases c2:lo<t
    ·skip
     have hv:Hid (stLo bl lo t=t):=by unfold Hid stLo;rw [if_pos ⟨c1,c2⟩]
     go_wp2_with fail
     refine ⟨⟨k+1,t,by omega,rfl,?_,HI.out.setLo t⟩,by simp only [intOf];omega⟩
     unfold Hid;rw [hst.out,hv.out]
    ·replace c2:t<=lo:=by omega
     have hv:Hid (stLo bl lo t=lo):=by unfold Hid stLo;rw [if_neg (by omega)]
     go_wp2_with fail
     refine ⟨⟨k+1,lo,by omega,rfl,?_,HI⟩,by simp only [intOf];omega⟩
     unfold Hid;rw [hst.out,hv.out]
   ·replace c1:bl<t:=by omega
    have hv:Hid (stLo bl lo t=lo):=by unfold Hid stLo;rw [if_neg (by omega)]
    go_wp2_with fail
    refine ⟨⟨k+1,lo,by omega,rfl,?_,HI⟩,by simp only [intOf];omega⟩
    unfold Hid;rw [hst.out,hv.out]
  ·have hke:k=ts.length:=by omega
   have HV:Hid (lo=wLo bl ts):=by unfold Hid wLo;rw [hval.out,hke,List.take_length]
   subst hke
   clear hval
   have HVL:Hid _:=HV
   have HS:Hid (WidInv w (wr.setCell ⟨w.heap.size,1,none⟩ (.int .i64 9223372036854775807)) lo 9223372036854775807 bl bh):=HI.out.setHi _
   go_wp2_with fail
   obtain ⟨W2,hW2⟩:∃ W2,W2=wr:=⟨_,rfl⟩
   subst hW2
   clear r0 r1 r2 r3 q0 q1 q2 q3 p0 p1 p2 p3 hsz htb hn1 hn2 HI HV hk hk1
   go_loopw [51] (fun i wr=>∃ (k:Nat) (hi:Int),k<=ts.length/\i=.int .i64 k/\Hid (hi=(ts.take k).foldl (stHi bh) 9223372036854775807)/\Hid (WidInv w wr lo hi bl bh)) (fun i _=>(ts.length-intOf i).toNat)
   case atStart=>exact ⟨0,_,by omega,rfl,rfl,HS⟩
   case round =>
    obtain ⟨k,hi,hk,rfl,hval,HI⟩:=hrel
    clear HS
    obtain ⟨r0,r1,r2,r3⟩:=row_facts HI.out.2.1
    obtain ⟨q0,q1,q2,q3⟩:=row_facts HI.out.2.2.1
    obtain ⟨p0,p1,p2,p3⟩:=row_facts HI.out.2.2.2
    have hsz:=lt_rowV HI.out.2.2.2
    have htb:tb<wr.heap.size:=Nat.lt_of_lt_of_le HT.out.2.1 HI.out.1.le
    have hn1:¬tb=w.heap.size:=by have:=HT.out.2.1;omega
    have hn2:¬w.heap.size=tb:=by have:=HT.out.2.1;omega
    by_cases hk1:k<ts.length
    ·have hk2:(k:Int)<ts.length:=by omega
     have ct:=Ok.cell HI.out.1 HT.out.2.1 (HT.out.1 k hk1)
     have hst:Hid ((ts.take (k+1)).foldl (stHi bh) 9223372036854775807=stHi bh hi ts[k]):=by unfold Hid;rw [fold_take hk1,hval.out]
     generalize ts[k]=t at *
     by_cases c1:bh<=t
     ·by_cases c2:t<hi
      ·skip
       have hv:Hid (stHi bh hi t=t):=by unfold Hid stHi;rw [if_pos ⟨c1,c2⟩]
       go_wp2_with fail
       refine ⟨⟨k+1,t,by omega,rfl,?_,HI.out.setHi t⟩,by simp only [intOf];omega⟩
       unfold Hid;rw [hst.out,hv.out]
      ·replace c2:hi<=t:=by omega
       have hv:Hid (stHi bh hi t=hi):=by unfold Hid stHi;rw [if_neg (by omega)]
       go_wp2_with fail
       refine ⟨⟨k+1,hi,by omega,rfl,?_,HI⟩,by simp only [intOf];omega⟩
       unfold Hid;rw [hst.out,hv.out]
     ·replace c1:t<bh:=by omega
      have hv:Hid (stHi bh hi t=hi):=by unfold Hid stHi;rw [if_neg (by omega)]
      go_wp2_with fail
      refine ⟨⟨k+1,hi,by omega,rfl,?_,HI⟩,by simp only [intOf];omega⟩
      unfold Hid;rw [hst.out,hv.out]
    ·have hke:k=ts.length:=by omega
     have HV:Hid (hi=wHi bh ts):=by unfold Hid wHi;rw [hval.out,hke,List.take_length]
     subst hke
     clear hval
     have EE:Hid (widenI al ah bl bh ts=(lo,hi)):=by unfold Hid;rw [E.out,HV.out,HVL.out]
     go_wp2_with fail
     (try simp only [Exit.inBlock,Exit.then])
     refine bodyPost_ret (results_cell_row rfl _ _ (w.heap.size+2) 24 #[_,_] (0,0) _ rfl (row_set2 HI.out.2.2.2 _ _) Tryz.underlying24 rfl infoI) rfl ?_
     exact ⟨reti EE.out,(HI.out.1.set (show w.heap.size<=w.heap.size+2 by omega) _).set (show w.heap.size<=w.heap.size+2 by omega) _⟩
theorem rwiden_z (al ah bl bh:Int) (tb o cap:Nat) (ts:List Int) (w:World) (hT:IntsAt w tb o ts) (ha:al<=ah) (hb:bl<=bh) (h1:al<=bl) (h2:bh<=ah) :
  Calls Tryz.prog 52 #[.agg #[.int .i64 al,.int .i64 ah],.agg #[.int .i64 bl,.int .i64 bh],.slice (some ⟨tb,o,none⟩) ts.length cap] w fun e w'=>e=.returned (.agg #[.int .i64 (widenI al ah bl bh ts).1,.int .i64 (widenI al ah bl bh ts).2])/\Ok w w':=by
 have d:decide (ah<al)=false:=decide_eq_false (by omega)
 have d2:decide (bh<bl)=false:=decide_eq_false (by omega)
 have htl:(ts.length:Int)<=4611686018427387904:=by have:=hT.2.2;omega
 have HT:Hid _:=hT
 have E:Hid (widenI al ah bl bh ts=(al,ah)):=by unfold Hid widenI;rw [if_neg (by omega),if_neg (by omega),if_neg (by omega),if_neg (by omega)]
 clear hT
 go_enter Tryz.func52,Tryz.ntmps52
 go_wp2_with (first | (go_at_call 100;refine (rempty_ex _ _ _).mono ?_;rintro e w' ⟨rfl,rfl⟩) | fail)
 (try simp only [Exit.inBlock, Exit.then]); refine bodyPost_ret (results_cell_row rfl _ _ (w.heap.size+2) 24 #[_, _] (0, 0) _ rfl jj Tryz.underlying24 rfl infoI) rfl ?_
 exact ⟨reti E.out,(by repeat (first | exact Ok.refl _ | refine Ok.alloc ?_ _ | fail))⟩
theorem rwiden_nx (al ah bl bh:Int) (ao:Option Addr) (cap:Nat) (w:World) (ha:al<=ah) (hb:bl<=bh) (h1:bl<al) (h2:bh<=ah) :
  Calls Tryz.prog 52 #[.agg #[.int .i64 al,.int .i64 ah],.agg #[.int .i64 bl,.int .i64 bh],.slice ao 0 cap] w fun e w'=>e=.returned (.agg #[.int .i64 (widenI al ah bl bh []).1,.int .i64 (widenI al ah bl bh []).2])/\Ok w w':=by
 have d:decide (ah<al)=false:=decide_eq_false (by omega)
 have d2:decide (bh<bl)=false:=decide_eq_false (by omega)
 have E:Hid (widenI al ah bl bh []=((-9223372036854775808),ah)):=by unfold Hid widenI;rw [if_neg (by omega),if_neg (by omega),if_pos h1,if_neg (by omega)];rfl
 go_enter Tryz.func52,Tryz.ntmps52
 go_wp2_with (first | (go_at_call 100;refine (rempty_ex _ _ _).mono ?_;rintro e w' ⟨rfl,rfl⟩) | fail)
 have HS:Hid (WidInv w (((((w.alloc (.cells #[.int .i64 (-9223372036854775808),.int .i64 ah] 24)).alloc (.cells #[.int .i64 bl,.int .i64 bh] 24)).alloc (.cells #[.int .i64 0,.int .i64 0] 24)).alloc (.cells #[.int .i64 al,.int .i64 ah] 24)).alloc (.cells #[.int .i64 bl,.int .i64 bh] 24)) (-9223372036854775808) ah bl bh):=⟨(by repeat (first | exact Ok.refl _ | refine Ok.alloc ?_ _ | fail)),jj,jj,jj⟩
 go_loopw [26] (fun i wr=>i=.int .i64 0/\Hid (WidInv w wr (-9223372036854775808) ah bl bh)) (fun _ _=>0)
 case atStart=>exact ⟨rfl,HS⟩
 case round =>
  obtain ⟨rfl,HI⟩:=hrel
  clear HS
  obtain ⟨r0,r1,r2,r3⟩:=row_facts HI.out.2.1
  obtain ⟨q0,q1,q2,q3⟩:=row_facts HI.out.2.2.1
  obtain ⟨p0,p1,p2,p3⟩:=row_facts HI.out.2.2.2
  have hsz:=lt_rowV HI.out.2.2.2
  go_wp2_with fail
  (try simp only [Exit.inBlock,Exit.then])
  refine bodyPost_ret (results_cell_row rfl _ _ (w.heap.size+2) 24 #[_,_] (0,0) _ rfl (row_set2 HI.out.2.2.2 _ _) Tryz.underlying24 rfl infoI) rfl ?_
  exact ⟨reti E.out,(HI.out.1.set (show w.heap.size<=w.heap.size+2 by omega) _).set (show w.heap.size<=w.heap.size+2 by omega) _⟩
theorem rwiden_ny (al ah bl bh:Int) (ao:Option Addr) (cap:Nat) (w:World) (ha:al<=ah) (hb:bl<=bh) (h1:al<=bl) (h2:ah<bh) :
  Calls Tryz.prog 52 #[.agg #[.int .i64 al,.int .i64 ah],.agg #[.int .i64 bl,.int .i64 bh],.slice ao 0 cap] w fun e w'=>e=.returned (.agg #[.int .i64 (widenI al ah bl bh []).1,.int .i64 (widenI al ah bl bh []).2])/\Ok w w':=by
 have d:decide (ah<al)=false:=decide_eq_false (by omega)
 have d2:decide (bh<bl)=false:=decide_eq_false (by omega)
 have E:Hid (widenI al ah bl bh []=(al,9223372036854775807)):=by unfold Hid widenI;rw [if_neg (by omega),if_neg (by omega),if_neg (by omega),if_pos h2];rfl
 go_enter Tryz.func52,Tryz.ntmps52
 go_wp2_with (first | (go_at_call 100;refine (rempty_ex _ _ _).mono ?_;rintro e w' ⟨rfl,rfl⟩) | fail)
 have HS:Hid (WidInv w (((((w.alloc (.cells #[.int .i64 al,.int .i64 9223372036854775807] 24)).alloc (.cells #[.int .i64 bl,.int .i64 bh] 24)).alloc (.cells #[.int .i64 0,.int .i64 0] 24)).alloc (.cells #[.int .i64 al,.int .i64 ah] 24)).alloc (.cells #[.int .i64 bl,.int .i64 bh] 24)) al 9223372036854775807 bl bh):=⟨(by repeat (first | exact Ok.refl _ | refine Ok.alloc ?_ _ | fail)),jj,jj,jj⟩
 go_loopw [51] (fun i wr=>i=.int .i64 0/\Hid (WidInv w wr al 9223372036854775807 bl bh)) (fun _ _=>0)
 case atStart=>exact ⟨rfl,HS⟩
 case round =>
  obtain ⟨rfl,HI⟩:=hrel
  clear HS
  obtain ⟨r0,r1,r2,r3⟩:=row_facts HI.out.2.1
  obtain ⟨q0,q1,q2,q3⟩:=row_facts HI.out.2.2.1
  obtain ⟨p0,p1,p2,p3⟩:=row_facts HI.out.2.2.2
  have hsz:=lt_rowV HI.out.2.2.2
  go_wp2_with fail
  (try simp only [Exit.inBlock,Exit.then])
  refine bodyPost_ret (results_cell_row rfl _ _ (w.heap.size+2) 24 #[_,_] (0,0) _ rfl (row_set2 HI.out.2.2.2 _ _) Tryz.underlying24 rfl infoI) rfl ?_
  exact ⟨reti E.out,(HI.out.1.set (show w.heap.size<=w.heap.size+2 by omega) _).set (show w.heap.size<=w.heap.size+2 by omega) _⟩
theorem rwiden_nv (al ah bl bh:Int) (ao:Option Addr) (cap:Nat) (w:World) (ha:al<=ah) (hb:bl<=bh) (h1:bl<al) (h2:ah<bh) :
  Calls Tryz.prog 52 #[.agg #[.int .i64 al,.int .i64 ah],.agg #[.int .i64 bl,.int .i64 bh],.slice ao 0 cap] w fun e w'=>e=.returned (.agg #[.int .i64 (widenI al ah bl bh []).1,.int .i64 (widenI al ah bl bh []).2])/\Ok w w':=by
 have d:decide (ah<al)=false:=decide_eq_false (by omega)
 have d2:decide (bh<bl)=false:=decide_eq_false (by omega)
 have E:Hid (widenI al ah bl bh []=((-9223372036854775808),9223372036854775807)):=by unfold Hid widenI;rw [if_neg (by omega),if_neg (by omega),if_pos h1,if_pos h2];rfl
 go_enter Tryz.func52,Tryz.ntmps52
 go_wp2_with (first | (go_at_call 100;refine (rempty_ex _ _ _).mono ?_;rintro e w' ⟨rfl,rfl⟩) | fail)
 have HS:Hid (WidInv w (((((w.alloc (.cells #[.int .i64 (-9223372036854775808),.int .i64 ah] 24)).alloc (.cells #[.int .i64 bl,.int .i64 bh] 24)).alloc (.cells #[.int .i64 0,.int .i64 0] 24)).alloc (.cells #[.int .i64 al,.int .i64 ah] 24)).alloc (.cells #[.int .i64 bl,.int .i64 bh] 24)) (-9223372036854775808) ah bl bh):=⟨(by repeat (first | exact Ok.refl _ | refine Ok.alloc ?_ _ | fail)),jj,jj,jj⟩
 go_loopw [26] (fun i wr=>i=.int .i64 0/\Hid (WidInv w wr (-9223372036854775808) ah bl bh)) (fun _ _=>0)
 case atStart=>exact ⟨rfl,HS⟩
 case round =>
  obtain ⟨rfl,HI⟩:=hrel
  clear HS
  obtain ⟨r0,r1,r2,r3⟩:=row_facts HI.out.2.1
  obtain ⟨q0,q1,q2,q3⟩:=row_facts HI.out.2.2.1
  obtain ⟨p0,p1,p2,p3⟩:=row_facts HI.out.2.2.2
  have hsz:=lt_rowV HI.out.2.2.2
  have HS:Hid (WidInv w (wr.setCell ⟨w.heap.size,1,none⟩ (.int .i64 9223372036854775807)) (-9223372036854775808) 9223372036854775807 bl bh):=HI.out.setHi _
  go_wp2_with fail
  obtain ⟨W2,hW2⟩:∃ W2,W2=wr:=⟨_,rfl⟩
  subst hW2
  clear r0 r1 r2 r3 q0 q1 q2 q3 p0 p1 p2 p3 hsz HI
  go_loopw [51] (fun i wr=>i=.int .i64 0/\Hid (WidInv w wr (-9223372036854775808) 9223372036854775807 bl bh)) (fun _ _=>0)
  case atStart=>exact ⟨rfl,HS⟩
  case round =>
   obtain ⟨rfl,HI⟩:=hrel
   clear HS
   obtain ⟨r0,r1,r2,r3⟩:=row_facts HI.out.2.1
   obtain ⟨q0,q1,q2,q3⟩:=row_facts HI.out.2.2.1
   obtain ⟨p0,p1,p2,p3⟩:=row_facts HI.out.2.2.2
   have hsz:=lt_rowV HI.out.2.2.2
   go_wp2_with fail
   (try simp only [Exit.inBlock,Exit.then])
   refine bodyPost_ret (results_cell_row rfl _ _ (w.heap.size+2) 24 #[_,_] (0,0) _ rfl (row_set2 HI.out.2.2.2 _ _) Tryz.underlying24 rfl infoI) rfl ?_
   exact ⟨reti E.out,(HI.out.1.set (show w.heap.size<=w.heap.size+2 by omega) _).set (show w.heap.size<=w.heap.size+2 by omega) _⟩
theorem rwiden_nz (al ah bl bh:Int) (ao:Option Addr) (cap:Nat) (w:World) (ha:al<=ah) (hb:bl<=bh) (h1:al<=bl) (h2:bh<=ah) :
  Calls Tryz.prog 52 #[.agg #[.int .i64 al,.int .i64 ah],.agg #[.int .i64 bl,.int .i64 bh],.slice ao 0 cap] w fun e w'=>e=.returned (.agg #[.int .i64 (widenI al ah bl bh []).1,.int .i64 (widenI al ah bl bh []).2])/\Ok w w':=by
 have d:decide (ah<al)=false:=decide_eq_false (by omega)
 have d2:decide (bh<bl)=false:=decide_eq_false (by omega)
 have E:Hid (widenI al ah bl bh []=(al,ah)):=by unfold Hid widenI;rw [if_neg (by omega),if_neg (by omega),if_neg (by omega),if_neg (by omega)]
 go_enter Tryz.func52,Tryz.ntmps52
 go_wp2_with (first | (go_at_call 100;refine (rempty_ex _ _ _).mono ?_;rintro e w' ⟨rfl,rfl⟩) | fail)
 (try simp only [Exit.inBlock, Exit.then]); refine bodyPost_ret (results_cell_row rfl _ _ (w.heap.size+2) 24 #[_, _] (0, 0) _ rfl jj Tryz.underlying24 rfl infoI) rfl ?_
 exact ⟨reti E.out,(by repeat (first | exact Ok.refl _ | refine Ok.alloc ?_ _ | fail))⟩
theorem rwiden_e1 (al ah bl bh:Int) (ao:Option Addr) (n cap:Nat) (ts:List Int) (w:World) (ha:ah<al) (hb:bh<bl) :
  Calls Tryz.prog 52 #[.agg #[.int .i64 al,.int .i64 ah],.agg #[.int .i64 bl,.int .i64 bh],.slice ao n cap] w fun e w'=>e=.returned (.agg #[.int .i64 (widenI al ah bl bh ts).1,.int .i64 (widenI al ah bl bh ts).2])/\Ok w w':=by
 have E:Hid (widenI al ah bl bh ts=((normI bl bh).1,(normI bl bh).2)):=by unfold Hid widenI;rw [if_pos ha]
 have d:decide (ah<al)=true:=decide_eq_true ha
 go_enter Tryz.func52,Tryz.ntmps52
 go_wp2_with (first | (go_at_call 100;refine (rempty_ex _ _ _).mono ?_;rintro e w' ⟨rfl,rfl⟩) | (go_at_call 132;refine (rnormal_yes _ _ _ hb).mono ?_;rintro e w' ⟨rfl,rfl⟩) | fail)
 (try simp only [Exit.inBlock, Exit.then]); refine bodyPost_ret (results_cell_row rfl _ _ (w.heap.size+2) 24 #[_, _] (0, 0) _ rfl jj Tryz.underlying24 rfl infoI) rfl ?_
 exact ⟨reti E.out,(by repeat (first | exact Ok.refl _ | refine Ok.alloc ?_ _ | fail))⟩
theorem rwiden_e2 (al ah bl bh:Int) (ao:Option Addr) (n cap:Nat) (ts:List Int) (w:World) (ha:ah<al) (hb:bl<=bh) :
  Calls Tryz.prog 52 #[.agg #[.int .i64 al,.int .i64 ah],.agg #[.int .i64 bl,.int .i64 bh],.slice ao n cap] w fun e w'=>e=.returned (.agg #[.int .i64 (widenI al ah bl bh ts).1,.int .i64 (widenI al ah bl bh ts).2])/\Ok w w':=by
 have E:Hid (widenI al ah bl bh ts=((normI bl bh).1,(normI bl bh).2)):=by unfold Hid widenI;rw [if_pos ha]
 have d:decide (ah<al)=true:=decide_eq_true ha
 go_enter Tryz.func52,Tryz.ntmps52
 go_wp2_with (first | (go_at_call 100;refine (rempty_ex _ _ _).mono ?_;rintro e w' ⟨rfl,rfl⟩) | (go_at_call 132;refine (rnormal_no _ _ _ hb).mono ?_;rintro e w' ⟨rfl,rfl⟩) | fail)
 (try simp only [Exit.inBlock, Exit.then]); refine bodyPost_ret (results_cell_row rfl _ _ (w.heap.size+2) 24 #[_, _] (0, 0) _ rfl jj Tryz.underlying24 rfl infoI) rfl ?_
 exact ⟨reti E.out,(by repeat (first | exact Ok.refl _ | refine Ok.alloc ?_ _ | fail))⟩
theorem rwiden_e3 (al ah bl bh:Int) (ao:Option Addr) (n cap:Nat) (ts:List Int) (w:World) (ha:al<=ah) (hb:bh<bl) :
  Calls Tryz.prog 52 #[.agg #[.int .i64 al,.int .i64 ah],.agg #[.int .i64 bl,.int .i64 bh],.slice ao n cap] w fun e w'=>e=.returned (.agg #[.int .i64 (widenI al ah bl bh ts).1,.int .i64 (widenI al ah bl bh ts).2])/\Ok w w':=by
 have E:Hid (widenI al ah bl bh ts=(al,ah)):=by unfold Hid widenI;rw [if_neg (by omega),if_pos hb]
 have d:decide (ah<al)=false:=decide_eq_false (by omega)
 have d2:decide (bh<bl)=true:=decide_eq_true hb
 go_enter Tryz.func52,Tryz.ntmps52
 go_wp2_with (first | (go_at_call 100;refine (rempty_ex _ _ _).mono ?_;rintro e w' ⟨rfl,rfl⟩) | fail)
 (try simp only [Exit.inBlock, Exit.then]); refine bodyPost_ret (results_cell_row rfl _ _ (w.heap.size+2) 24 #[_, _] (0, 0) _ rfl jj Tryz.underlying24 rfl infoI) rfl ?_
 exact ⟨reti E.out,(by repeat (first | exact Ok.refl _ | refine Ok.alloc ?_ _ | fail))⟩
def SInts (w:World) (v:Value) (ts:List Int):Prop:=(∃ tb o cap,v=.slice (some ⟨tb,o,none⟩) ts.length cap/\IntsAt w tb o ts)\/(∃ ao cap,v=.slice ao 0 cap/\ts=[])
theorem SInts.form {w:World} {v:Value} {ts:List Int} (h:SInts w v ts):∃ ao n cap,v=.slice ao n cap:=by
 rcases h with ⟨tb,o,cap,rfl,_⟩ | ⟨ao,cap,rfl,_⟩
 ·exact ⟨_,_,_,rfl⟩
 ·exact ⟨_,_,_,rfl⟩
theorem rwiden_any (al ah bl bh:Int) (v:Value) (ts:List Int) (w0 w:World) (hok:Ok w0 w) (hT:SInts w v ts) :
  Calls Tryz.prog 52 #[.agg #[.int .i64 al,.int .i64 ah],.agg #[.int .i64 bl,.int .i64 bh],v] w fun e w'=>e=.returned (.agg #[.int .i64 (widenI al ah bl bh ts).1,.int .i64 (widenI al ah bl bh ts).2])/\Ok w0 w':=by
 suffices h:Calls Tryz.prog 52 #[.agg #[.int .i64 al,.int .i64 ah],.agg #[.int .i64 bl,.int .i64 bh],v] w fun e w'=>e=.returned (.agg #[.int .i64 (widenI al ah bl bh ts).1,.int .i64 (widenI al ah bl bh ts).2])/\Ok w w' by
  exact h.mono (fun e w' h=>⟨h.1,hok.step h.2⟩)
 by_cases ha:ah<al
 ·obtain ⟨ao,n,cap,rfl⟩:=hT.form
  by_cases hb:bh<bl
  ·exact rwiden_e1 al ah bl bh ao n cap ts w ha hb
  ·exact rwiden_e2 al ah bl bh ao n cap ts w ha (by omega)
 ·by_cases hb:bh<bl
  ·obtain ⟨ao,n,cap,rfl⟩:=hT.form
   exact rwiden_e3 al ah bl bh ao n cap ts w (by omega) hb
  ·rcases hT with ⟨tb,o,cap,rfl,hT⟩ | ⟨ao,cap,rfl,rfl⟩
   ·by_cases h1:bl<al<;>by_cases h2:ah<bh
    ·exact rwiden_v al ah bl bh tb o cap ts w hT (by omega) (by omega) h1 h2
    ·exact rwiden_x al ah bl bh tb o cap ts w hT (by omega) (by omega) h1 (by omega)
    ·exact rwiden_y al ah bl bh tb o cap ts w hT (by omega) (by omega) (by omega) h2
    ·exact rwiden_z al ah bl bh tb o cap ts w hT (by omega) (by omega) (by omega) (by omega)
   ·by_cases h1:bl<al<;>by_cases h2:ah<bh
    ·exact rwiden_nv al ah bl bh ao cap w (by omega) (by omega) h1 h2
    ·exact rwiden_nx al ah bl bh ao cap w (by omega) (by omega) h1 (by omega)
    ·exact rwiden_ny al ah bl bh ao cap w (by omega) (by omega) (by omega) h2
    ·exact rwiden_nz al ah bl bh ao cap w (by omega) (by omega) (by omega) (by omega)
end Go.Proofs.YtpjpjhjjhoeijaaGreat
