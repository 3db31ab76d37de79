import Derived.Deep.CutRange
import Derived.Test.YtnjmjnmhldhaoaaGreatKJm
set_option maxHeartbeats 8000000
set_option linter.all false
namespace Go.Proofs.YtnjmjnmhldhaoaaGreat
open Go.RowKit Go.Shelf
def orI (p q:Int):Int:=if p≠0 then p else q
theorem vor_ok (p q:Int) (g:Nat) (w:World) (hr:w.heap[g]?=some (.cells #[.int .i64 p,.int .i64 q] 3 (0,0))) (w0:World) (hok:Ok w0 w) :
  Calls Tryz.prog 163 #[.slice (some ⟨g,0,none⟩) 2 2] w fun e w'=>e=.returned (.int .i64 (orI p q))/\Ok w0 w':=by
 obtain ⟨a0,a1,a2,a3⟩:=row_facts hr
 by_cases h:p=0
 ·have E:Hid (orI p q=q):=by unfold Hid orI;rw [if_neg (by simpa using h)]
  rw [E.out]
  clear E
  subst h
  by_cases h2:q=0
  ·subst h2
   go_enter Tryz.func163,Tryz.ntmps163
   go_wp2_with fail
   refine wp_loop_rounds 4 ?_
   rw [rounds_succ];go_wp2_with fail
   rw [rounds_succ];go_wp2_with fail
   rw [rounds_succ];go_wp2_with fail
   go_ret
   exact ⟨rfl,hok⟩
  ·have k:(q==0)=false:=by simpa using h2
   have k2:(q != 0)=true:=by simpa using h2
   go_enter Tryz.func163,Tryz.ntmps163
   go_wp2_with fail
   refine wp_loop_rounds 4 ?_
   rw [rounds_succ];go_wp2_with fail
   rw [rounds_succ];go_wp2_with fail
   go_ret
   exact ⟨rfl,hok⟩
 ·have E:Hid (orI p q=p):=by unfold Hid orI;rw [if_pos h]
  rw [E.out]
  clear E
  have k:(p==0)=false:=by simpa using h
  have k2:(p != 0)=true:=by simpa using h
  go_enter Tryz.func163,Tryz.ntmps163
  go_wp2_with fail
  refine wp_loop_rounds 4 ?_
  rw [rounds_succ];go_wp2_with fail
  go_ret
  exact ⟨rfl,hok⟩
theorem or_whole (a b:Int):orI (cmpI (hiW a) (hiW b)) (cmpI (loW a) (loW b))=cmpI a b:=cmp_whole a b
def clipN (a b:Int):Int×Int×Nat×Nat×Bool:=if 9223372036854775807<a\/b < -9223372036854775808 then botN else makeN (if a < -9223372036854775808 then -9223372036854775808 else a) (if 9223372036854775807<b then 9223372036854775807 else b) 1 0
theorem rows_put1w {w0 w1 Z:World} {g:Nat} {p0 p1:Value} {t:TypeId} (ra:w1.heap[g]?=some (.cells #[p0,p1] t (0,0))) (h0:Ok w0 w1) (hg:w0.heap.size<=g) (x0 x1:Value) (hZ:Z=((w1.setCell ⟨g,0,none⟩ x0).setCell ⟨g,1,none⟩ x1)) :
  Hid (Ok w0 Z/\Z.heap[g]?=some (.cells #[x0,x1] t (0,0))/\(∀ (h:Nat) (o:Obj),h≠g->w1.heap[h]?=some o->Z.heap[h]?=some o)):=by
 subst hZ
 refine ⟨Ok.set (Ok.set h0 hg _) hg _,row_set2 ra x0 x1,?_⟩
 intro h o h1 ho
 rw [heap_setCell_other _ _ _ _ h1,heap_setCell_other _ _ _ _ h1]
 exact ho
theorem cmp_gt {x y:Int} (h:y<x):0<cmpI x y:=by unfold cmpI;rw [if_neg (by omega),if_pos h];omega
theorem cmp_le {x y:Int} (h:x<=y):cmpI x y<=0:=by
 unfold cmpI
 by_cases k:x<y
 ·rw [if_pos k];omega
 ·rw [if_neg k,if_neg (by omega)];omega
theorem cmp_lt {x y:Int} (h:x<y):cmpI x y<0:=by unfold cmpI;rw [if_pos h];omega
theorem cmp_ge {x y:Int} (h:y<=x):0<=cmpI x y:=by
 unfold cmpI
 rw [if_neg (by omega)]
 by_cases k:y<x
 ·rw [if_pos k];omega
 ·rw [if_neg k];omega
theorem wlo_in {z:Int} (h:In64 z):wrap64 (loW z)=z:=by rw [wlo];exact wrap64_id h
set_option maxRecDepth 100000 in
theorem vcompare_any (a b:Int) (w0 w:World) (hok:Ok w0 w) :
  Calls Tryz.prog 95 #[wvv a,wvv b] w fun e w'=>e=.returned (.int .i64 (cmpI a b))/\Ok w0 w':=by
 have hle:=hok.le
 unfold wvv
 go_enter Tryz.func95,Tryz.ntmps95
 go_wp2_with fail
 obtain ⟨W,hW⟩:∃ W,W=((w).alloc (.cells #[.int .i64 (hiW a),.int .u64 (loW a)] 104)).alloc (.cells #[.int .i64 (hiW b),.int .u64 (loW b)] 104):=⟨_,rfl⟩
 have ra:Hid (W.heap[w.heap.size]?=some (.cells #[.int .i64 (hiW a),.int .u64 (loW a)] 104)):=by unfold Hid;rw [hW];exact jj
 have rb:Hid (W.heap[w.heap.size+1]?=some (.cells #[.int .i64 (hiW b),.int .u64 (loW b)] 104)):=by unfold Hid;rw [hW];exact jj
 have HW:Hid (Ok w0 W):=by unfold Hid;rw [hW];exact (by repeat (first | exact hok | refine Ok.alloc ?_ _ | refine Ok.draws ?_ _ | fail))
 rw [<-hW]
 clear hW
 obtain ⟨gb,egb⟩:∃ g,g=w.heap.size+1:=⟨_,rfl⟩
 rw [<-egb] at rb ⊢
 obtain ⟨ga,ega⟩:∃ g,g=w.heap.size:=⟨_,rfl⟩
 rw [<-ega] at ra ⊢
 have lga:w0.heap.size<=ga:=by omega
 have ngagb:¬ga=gb:=by omega
 have lgb:w0.heap.size<=gb:=by omega
 have ngbga:¬gb=ga:=by omega
 clear ega egb
 obtain ⟨a0,a1,a2,a3⟩:=row_facts ra.out
 obtain ⟨b0,b1,b2,b3⟩:=row_facts rb.out
 have za:=lt_row ra.out
 have zb:=lt_row rb.out
 have bz:Ok W W:=Ok.refl _
 go_region_held3 (fun w'=>w'.cell? ⟨ga,0,none⟩=some (.int .i64 (hiW a))/\w'.cell? ⟨ga,1,none⟩=some (.int .u64 (loW a))/\w'.cell? ⟨gb,0,none⟩=some (.int .i64 (hiW b))/\w'.cell? ⟨gb,1,none⟩=some (.int .u64 (loW b))) (go_keep)
  (first
  | (go_at_call 164;refine (vcmp _ _ W _ (by repeat (first | assumption | refine Ok.alloc ?_ _ | refine Below.drew ?_))).mono ?_;rintro e w' ⟨rfl,hb⟩;have q0:=Ok.cell hb za a0;have q1:=Ok.cell hb za a1;have q2:=Ok.cell hb zb b0;have q3:=Ok.cell hb zb b1)
  | (go_at_call 165;refine (vcmpu _ _ W _ (by repeat (first | assumption | refine Ok.alloc ?_ _ | refine Below.drew ?_))).mono ?_;rintro e w' ⟨rfl,hb⟩;have q0:=Ok.cell hb za a0;have q1:=Ok.cell hb za a1;have q2:=Ok.cell hb zb b0;have q3:=Ok.cell hb zb b1)
  | (go_at_call 163;refine (vor_ok _ _ _ _ (heap_new0 _ _) W (by repeat (first | assumption | refine Ok.alloc ?_ _ | refine Below.drew ?_))).mono ?_;rintro e w' ⟨rfl,hb⟩;rw [or_whole];have q0:=Ok.cell hb za a0;have q1:=Ok.cell hb za a1;have q2:=Ok.cell hb zb b0;have q3:=Ok.cell hb zb b1)
  | fail)
 go_wp2_with fail
 go_ret
 exact ⟨rfl,HW.out.step hb⟩
set_option maxRecDepth 100000 in
theorem vclipped_any (a b:Int) (w0 w:World) (hok:Ok w0 w) :
  Calls Tryz.prog 97 #[wvv a,wvv b] w fun e w'=>e=.returned (nv (clipN a b))/\Ok w0 w':=by
 have hle:=hok.le
 obtain ⟨mn,hmn⟩:∃ t:Int,t=(-9223372036854775808):=⟨_,rfl⟩
 obtain ⟨mx,hmx⟩:∃ t:Int,t=9223372036854775807:=⟨_,rfl⟩
 have HM:Hid (mn=(-9223372036854775808)/\mx=9223372036854775807):=⟨hmn,hmx⟩
 clear hmn hmx
 unfold wvv
 go_enter Tryz.func97,Tryz.ntmps97
 go_wp2_with fail
 obtain ⟨W,hW⟩:∃ W,W=(((w).alloc (.cells #[.int .i64 (hiW a),.int .u64 (loW a)] 104)).alloc (.cells #[.int .i64 (hiW b),.int .u64 (loW b)] 104)).alloc (.cells #[.bool false,.int .i64 0,.int .i64 0,.int .u64 0,.int .u64 0] 29):=⟨_,rfl⟩
 have ra:Hid (W.heap[w.heap.size]?=some (.cells #[.int .i64 (hiW a),.int .u64 (loW a)] 104)):=by unfold Hid;rw [hW];exact jj
 have rb:Hid (W.heap[w.heap.size+1]?=some (.cells #[.int .i64 (hiW b),.int .u64 (loW b)] 104)):=by unfold Hid;rw [hW];exact jj
 have rz:Hid (W.heap[w.heap.size+1+1]?=some (.cells #[.bool false,.int .i64 0,.int .i64 0,.int .u64 0,.int .u64 0] 29)):=by unfold Hid;rw [hW];exact jj
 have HW:Hid (Ok w0 W):=by unfold Hid;rw [hW];exact (by repeat (first | exact hok | refine Ok.alloc ?_ _ | refine Ok.draws ?_ _ | fail))
 rw [<-hW]
 clear hW
 obtain ⟨gz,egz⟩:∃ g,g=w.heap.size+1+1:=⟨_,rfl⟩
 rw [<-egz] at rz ⊢
 obtain ⟨gb,egb⟩:∃ g,g=w.heap.size+1:=⟨_,rfl⟩
 rw [<-egb] at rb ⊢
 obtain ⟨ga,ega⟩:∃ g,g=w.heap.size:=⟨_,rfl⟩
 rw [<-ega] at ra ⊢
 have lga:w0.heap.size<=ga:=by omega
 have ngagb:¬ga=gb:=by omega
 have ngagz:¬ga=gz:=by omega
 have lgb:w0.heap.size<=gb:=by omega
 have ngbga:¬gb=ga:=by omega
 have ngbgz:¬gb=gz:=by omega
 have lgz:w0.heap.size<=gz:=by omega
 have ngzga:¬gz=ga:=by omega
 have ngzgb:¬gz=gb:=by omega
 clear ega egb egz
 refine (vnumber_any (-9223372036854775808) min_in W _ (by repeat (first | exact Ok.refl _ | refine Ok.alloc ?_ _ | refine Ok.draws ?_ _ | fail))).mono ?_
 rintro e w1 ⟨rfl,hb⟩
 replace ra:Hid _:=Ok.row' hb ra.out
 replace rb:Hid _:=Ok.row' hb rb.out
 replace rz:Hid _:=Ok.row' hb rz.out
 have Hw1:Hid (Ok w0 w1):=HW.out.step hb
 clear hb
 rw [<-HM.out.1]
 unfold wvv
 go_wp2_with fail
 refine (vnumber_any 9223372036854775807 max_in w1 _ (by repeat (first | exact Ok.refl _ | refine Ok.alloc ?_ _ | refine Ok.draws ?_ _ | fail))).mono ?_
 rintro e w2 ⟨rfl,hb⟩
 replace ra:Hid _:=Ok.row' hb ra.out
 replace rb:Hid _:=Ok.row' hb rb.out
 replace rz:Hid _:=Ok.row' hb rz.out
 have Hw2:Hid (Ok w0 w2):=Hw1.out.step hb
 clear hb
 rw [<-HM.out.2]
 unfold wvv
 go_upto_region 2 with (fail)
 obtain ⟨Z,hZ⟩:∃ W,W=(w2.alloc (.cells #[.int .i64 (hiW mn),.int .u64 (loW mn)] 104)).alloc (.cells #[.int .i64 (hiW mx),.int .u64 (loW mx)] 104):=⟨_,rfl⟩
 have rn:Hid (Z.heap[w2.heap.size]?=some (.cells #[.int .i64 (hiW mn),.int .u64 (loW mn)] 104)):=by unfold Hid;rw [hZ];exact jj
 have rm:Hid (Z.heap[w2.heap.size+1]?=some (.cells #[.int .i64 (hiW mx),.int .u64 (loW mx)] 104)):=by unfold Hid;rw [hZ];exact jj
 have hO:Ok w2 Z:=by rw [hZ];exact ((Ok.refl _).alloc _).alloc _
 rw [<-hZ]
 clear hZ
 have q1:=lt_row ra.out
 have q2:=lt_row rb.out
 have q3:=lt_row rz.out
 obtain ⟨gm,egm⟩:∃ g,g=w2.heap.size+1:=⟨_,rfl⟩
 rw [<-egm] at rm ⊢
 obtain ⟨gn,egn⟩:∃ g,g=w2.heap.size:=⟨_,rfl⟩
 rw [<-egn] at rn ⊢
 have dgnga:¬gn=ga:=by omega
 have dgngb:¬gn=gb:=by omega
 have dgngz:¬gn=gz:=by omega
 have dgmga:¬gm=ga:=by omega
 have dgmgb:¬gm=gb:=by omega
 have dgmgz:¬gm=gz:=by omega
 have dgagn:¬ga=gn:=by omega
 have dgbgn:¬gb=gn:=by omega
 have dgzgn:¬gz=gn:=by omega
 have dgagm:¬ga=gm:=by omega
 have dgbgm:¬gb=gm:=by omega
 have dgzgm:¬gz=gm:=by omega
 clear egm egn q1 q2 q3
 replace ra:Hid _:=Ok.row' hO ra.out
 replace rb:Hid _:=Ok.row' hO rb.out
 replace rz:Hid _:=Ok.row' hO rz.out
 have HZ:Hid (Ok w0 Z):=Hw2.out.step hO
 clear hO Hw2
 obtain ⟨c1,hc1⟩:∃ t,t=cmpI a mx:=⟨_,rfl⟩
 have HC1:Hid _:=hc1
 clear hc1
 obtain ⟨c2,hc2⟩:∃ t,t=cmpI b mn:=⟨_,rfl⟩
 have HC2:Hid _:=hc2
 clear hc2
 obtain ⟨c3,hc3⟩:∃ t,t=cmpI a mn:=⟨_,rfl⟩
 have HC3:Hid _:=hc3
 clear hc3
 obtain ⟨c4,hc4⟩:∃ t,t=cmpI b mx:=⟨_,rfl⟩
 have HC4:Hid _:=hc4
 clear hc4
 obtain ⟨a0,a1,a2,a3⟩:=row_facts ra.out
 obtain ⟨b0,b1,b2,b3⟩:=row_facts rb.out
 obtain ⟨n0,n1,n2,n3⟩:=row_facts rn.out
 obtain ⟨m0,m1,m2,m3⟩:=row_facts rm.out
 obtain ⟨k0,k1,k2,k3,k4,k5,k6,k7,k8,k9⟩:=row5_facts rz.out
 go_wp2_with fail
 refine (vcompare_any a mx Z _ (Ok.refl _)).mono ?_
 rintro e z1 ⟨rfl,hb⟩
 rw [<-HC1.out]
 replace ra:Hid _:=Ok.row' hb ra.out
 replace rb:Hid _:=Ok.row' hb rb.out
 replace rz:Hid _:=Ok.row' hb rz.out
 replace rn:Hid _:=Ok.row' hb rn.out
 replace rm:Hid _:=Ok.row' hb rm.out
 have Hz1:Hid (Ok w0 z1):=HZ.out.step hb
 clear hb HZ
 clear a0 a1 a2 a3 b0 b1 b2 b3 n0 n1 n2 n3 m0 m1 m2 m3 k0 k1 k2 k3 k4 k5 k6 k7 k8 k9
 by_cases h1:mx<a
 ·have d1:0<c1:=by rw [HC1.out];exact cmp_gt h1
  have HA:Hid (clipN a b=botN):=by unfold Hid clipN;rw [if_pos (by have:=HM.out;omega)]
  obtain ⟨a0,a1,a2,a3⟩:=row_facts ra.out
  obtain ⟨b0,b1,b2,b3⟩:=row_facts rb.out
  obtain ⟨n0,n1,n2,n3⟩:=row_facts rn.out
  obtain ⟨m0,m1,m2,m3⟩:=row_facts rm.out
  obtain ⟨k0,k1,k2,k3,k4,k5,k6,k7,k8,k9⟩:=row5_facts rz.out
  go_wp2_with fail
  refine (nbot_any z1 _ (by repeat (first | exact Ok.refl _ | refine Ok.alloc ?_ _ | refine Ok.draws ?_ _ | fail))).mono ?_
  rintro e z9 ⟨rfl,hb⟩
  have hr:Hid _:=Ok.row' hb rz.out
  obtain ⟨k0,k1,k2,k3,k4,k5,k6,k7,k8,k9⟩:=row5_facts hr.out
  unfold nv botN
  go_wp2_with fail
  (try simp only [Exit.inBlock, Exit.then]); refine bodyPost_ret (results_cell_row rfl _ _ (gz) 29 #[_, _, _, _, _] (0, 0) _ rfl (row_set5 hr.out _ _ _ _ _) Tryz.underlying29 rfl infoN) rfl ?_
  exact ⟨(by rw [HA.out];rfl),Ok.set (Ok.set (Ok.set (Ok.set (Ok.set (Hz1.out.step hb) (show w0.heap.size<=gz by omega) _) (show w0.heap.size<=gz by omega) _) (show w0.heap.size<=gz by omega) _) (show w0.heap.size<=gz by omega) _) (show w0.heap.size<=gz by omega) _⟩
 have d1:c1<=0:=by rw [HC1.out];exact cmp_le (by omega)
 obtain ⟨a0,a1,a2,a3⟩:=row_facts ra.out
 obtain ⟨b0,b1,b2,b3⟩:=row_facts rb.out
 obtain ⟨n0,n1,n2,n3⟩:=row_facts rn.out
 obtain ⟨m0,m1,m2,m3⟩:=row_facts rm.out
 obtain ⟨k0,k1,k2,k3,k4,k5,k6,k7,k8,k9⟩:=row5_facts rz.out
 go_wp2_with fail
 refine (vcompare_any b mn z1 _ (Ok.refl _)).mono ?_
 rintro e z2 ⟨rfl,hb⟩
 rw [<-HC2.out]
 replace ra:Hid _:=Ok.row' hb ra.out
 replace rb:Hid _:=Ok.row' hb rb.out
 replace rz:Hid _:=Ok.row' hb rz.out
 replace rn:Hid _:=Ok.row' hb rn.out
 replace rm:Hid _:=Ok.row' hb rm.out
 have Hz2:Hid (Ok w0 z2):=Hz1.out.step hb
 clear hb Hz1
 clear a0 a1 a2 a3 b0 b1 b2 b3 n0 n1 n2 n3 m0 m1 m2 m3 k0 k1 k2 k3 k4 k5 k6 k7 k8 k9
 by_cases h2:b<mn
 ·have d2:c2<0:=by rw [HC2.out];exact cmp_lt h2
  have HA:Hid (clipN a b=botN):=by unfold Hid clipN;rw [if_pos (by have:=HM.out;omega)]
  obtain ⟨a0,a1,a2,a3⟩:=row_facts ra.out
  obtain ⟨b0,b1,b2,b3⟩:=row_facts rb.out
  obtain ⟨n0,n1,n2,n3⟩:=row_facts rn.out
  obtain ⟨m0,m1,m2,m3⟩:=row_facts rm.out
  obtain ⟨k0,k1,k2,k3,k4,k5,k6,k7,k8,k9⟩:=row5_facts rz.out
  go_wp2_with fail
  refine (nbot_any z2 _ (by repeat (first | exact Ok.refl _ | refine Ok.alloc ?_ _ | refine Ok.draws ?_ _ | fail))).mono ?_
  rintro e z9 ⟨rfl,hb⟩
  have hr:Hid _:=Ok.row' hb rz.out
  obtain ⟨k0,k1,k2,k3,k4,k5,k6,k7,k8,k9⟩:=row5_facts hr.out
  unfold nv botN
  go_wp2_with fail
  (try simp only [Exit.inBlock, Exit.then]); refine bodyPost_ret (results_cell_row rfl _ _ (gz) 29 #[_, _, _, _, _] (0, 0) _ rfl (row_set5 hr.out _ _ _ _ _) Tryz.underlying29 rfl infoN) rfl ?_
  exact ⟨(by rw [HA.out];rfl),Ok.set (Ok.set (Ok.set (Ok.set (Ok.set (Hz2.out.step hb) (show w0.heap.size<=gz by omega) _) (show w0.heap.size<=gz by omega) _) (show w0.heap.size<=gz by omega) _) (show w0.heap.size<=gz by omega) _) (show w0.heap.size<=gz by omega) _⟩
 have d2:0<=c2:=by rw [HC2.out];exact cmp_ge (by omega)
 obtain ⟨a0,a1,a2,a3⟩:=row_facts ra.out
 obtain ⟨b0,b1,b2,b3⟩:=row_facts rb.out
 obtain ⟨n0,n1,n2,n3⟩:=row_facts rn.out
 obtain ⟨m0,m1,m2,m3⟩:=row_facts rm.out
 obtain ⟨k0,k1,k2,k3,k4,k5,k6,k7,k8,k9⟩:=row5_facts rz.out
 go_wp2_with fail
 refine (vcompare_any a mn z2 _ (Ok.refl _)).mono ?_
 rintro e z3 ⟨rfl,hb⟩
 rw [<-HC3.out]
 replace ra:Hid _:=Ok.row' hb ra.out
 replace rb:Hid _:=Ok.row' hb rb.out
 replace rz:Hid _:=Ok.row' hb rz.out
 replace rn:Hid _:=Ok.row' hb rn.out
 replace rm:Hid _:=Ok.row' hb rm.out
 have Hz3:Hid (Ok w0 z3):=Hz2.out.step hb
 clear hb Hz2
 clear a0 a1 a2 a3 b0 b1 b2 b3 n0 n1 n2 n3 m0 m1 m2 m3 k0 k1 k2 k3 k4 k5 k6 k7 k8 k9
 have HN:Hid (¬(9223372036854775807<a\/b < -9223372036854775808)):=by have:=HM.out;unfold Hid;omega
 by_cases h3:a<mn
 ·have d3:c3<0:=by rw [HC3.out];exact cmp_lt h3
  obtain ⟨a0,a1,a2,a3⟩:=row_facts ra.out
  obtain ⟨b0,b1,b2,b3⟩:=row_facts rb.out
  obtain ⟨n0,n1,n2,n3⟩:=row_facts rn.out
  obtain ⟨m0,m1,m2,m3⟩:=row_facts rm.out
  obtain ⟨k0,k1,k2,k3,k4,k5,k6,k7,k8,k9⟩:=row5_facts rz.out
  go_upto_region 6 with (fail)
  clear a0 a1 a2 a3 b0 b1 b2 b3 n0 n1 n2 n3 m0 m1 m2 m3 k0 k1 k2 k3 k4 k5 k6 k7 k8 k9
  obtain ⟨X,hX⟩:∃ Z,Z=((z3.setCell ⟨ga,0,none⟩ (.int .i64 (hiW mn))).setCell ⟨ga,1,none⟩ (.int .u64 (loW mn))):=⟨_,rfl⟩
  have hrp:=(rows_put1w ra.out Hz3.out (by omega) _ _ hX).out
  have HX:Hid (Ok w0 X):=hrp.1
  replace rb:Hid _:=hrp.2.2 _ _ (by omega) rb.out
  replace rz:Hid _:=hrp.2.2 _ _ (by omega) rz.out
  replace rn:Hid _:=hrp.2.2 _ _ (by omega) rn.out
  replace rm:Hid _:=hrp.2.2 _ _ (by omega) rm.out
  replace ra:Hid _:=hrp.2.1
  rw [<-hX]
  clear hX hrp Hz3
  obtain ⟨a0,a1,a2,a3⟩:=row_facts ra.out
  obtain ⟨b0,b1,b2,b3⟩:=row_facts rb.out
  obtain ⟨n0,n1,n2,n3⟩:=row_facts rn.out
  obtain ⟨m0,m1,m2,m3⟩:=row_facts rm.out
  obtain ⟨k0,k1,k2,k3,k4,k5,k6,k7,k8,k9⟩:=row5_facts rz.out
  go_wp2_with fail
  refine (vcompare_any b mx X _ (Ok.refl _)).mono ?_
  rintro e y1 ⟨rfl,hb⟩
  rw [<-HC4.out]
  replace ra:Hid _:=Ok.row' hb ra.out
  replace rb:Hid _:=Ok.row' hb rb.out
  replace rz:Hid _:=Ok.row' hb rz.out
  replace rn:Hid _:=Ok.row' hb rn.out
  replace rm:Hid _:=Ok.row' hb rm.out
  have Hy1:Hid (Ok w0 y1):=HX.out.step hb
  clear hb HX
  clear a0 a1 a2 a3 b0 b1 b2 b3 n0 n1 n2 n3 m0 m1 m2 m3 k0 k1 k2 k3 k4 k5 k6 k7 k8 k9
  by_cases h4:mx<b
  ·have d4:0<c4:=by rw [HC4.out];exact cmp_gt h4
   obtain ⟨a0,a1,a2,a3⟩:=row_facts ra.out
   obtain ⟨b0,b1,b2,b3⟩:=row_facts rb.out
   obtain ⟨n0,n1,n2,n3⟩:=row_facts rn.out
   obtain ⟨m0,m1,m2,m3⟩:=row_facts rm.out
   obtain ⟨k0,k1,k2,k3,k4,k5,k6,k7,k8,k9⟩:=row5_facts rz.out
   go_upto_region 8 with (fail)
   clear a0 a1 a2 a3 b0 b1 b2 b3 n0 n1 n2 n3 m0 m1 m2 m3 k0 k1 k2 k3 k4 k5 k6 k7 k8 k9
   obtain ⟨Y,hY⟩:∃ Z,Z=((y1.setCell ⟨gb,0,none⟩ (.int .i64 (hiW mx))).setCell ⟨gb,1,none⟩ (.int .u64 (loW mx))):=⟨_,rfl⟩
   have hrp:=(rows_put1w rb.out Hy1.out (by omega) _ _ hY).out
   have HY:Hid (Ok w0 Y):=hrp.1
   replace ra:Hid _:=hrp.2.2 _ _ (by omega) ra.out
   replace rz:Hid _:=hrp.2.2 _ _ (by omega) rz.out
   replace rn:Hid _:=hrp.2.2 _ _ (by omega) rn.out
   replace rm:Hid _:=hrp.2.2 _ _ (by omega) rm.out
   replace rb:Hid _:=hrp.2.1
   rw [<-hY]
   clear hY hrp Hy1
   have IP:Hid (In64 mn/\In64 mx):=by have:=HM.out;unfold Hid In64;omega
   have HA:Hid (clipN a b=makeN mn mx 1 0):=by unfold Hid clipN;rw [if_neg HN.out];have:=HM.out;congr 1<;>(split<;>omega)
   obtain ⟨a0,a1,a2,a3⟩:=row_facts ra.out
   obtain ⟨b0,b1,b2,b3⟩:=row_facts rb.out
   obtain ⟨n0,n1,n2,n3⟩:=row_facts rn.out
   obtain ⟨m0,m1,m2,m3⟩:=row_facts rm.out
   obtain ⟨k0,k1,k2,k3,k4,k5,k6,k7,k8,k9⟩:=row5_facts rz.out
   go_wp2_with fail
   refine (nrange_any (wrap64 (loW mn)) (wrap64 (loW mx)) (wrap64_in _) (wrap64_in _) Y _ (by repeat (first | exact Ok.refl _ | refine Ok.alloc ?_ _ | refine Ok.draws ?_ _ | fail))).mono ?_
   rintro e z9 ⟨rfl,hb⟩
   have hr:Hid _:=Ok.row' hb rz.out
   obtain ⟨k0,k1,k2,k3,k4,k5,k6,k7,k8,k9⟩:=row5_facts hr.out
   rw [wlo_in IP.out.1,wlo_in IP.out.2]
   unfold nv
   go_wp2_with fail
   (try simp only [Exit.inBlock, Exit.then]); refine bodyPost_ret (results_cell_row rfl _ _ (gz) 29 #[_, _, _, _, _] (0, 0) _ rfl (row_set5 hr.out _ _ _ _ _) Tryz.underlying29 rfl infoN) rfl ?_
   exact ⟨(by rw [HA.out];rfl),Ok.set (Ok.set (Ok.set (Ok.set (Ok.set (HY.out.step hb) (show w0.heap.size<=gz by omega) _) (show w0.heap.size<=gz by omega) _) (show w0.heap.size<=gz by omega) _) (show w0.heap.size<=gz by omega) _) (show w0.heap.size<=gz by omega) _⟩
  ·have d4:c4<=0:=by rw [HC4.out];exact cmp_le (by omega)
   have IP:Hid (In64 mn/\In64 b):=by have:=HM.out;unfold Hid In64;omega
   have HA:Hid (clipN a b=makeN mn b 1 0):=by unfold Hid clipN;rw [if_neg HN.out];have:=HM.out;congr 1<;>(split<;>omega)
   obtain ⟨a0,a1,a2,a3⟩:=row_facts ra.out
   obtain ⟨b0,b1,b2,b3⟩:=row_facts rb.out
   obtain ⟨n0,n1,n2,n3⟩:=row_facts rn.out
   obtain ⟨m0,m1,m2,m3⟩:=row_facts rm.out
   obtain ⟨k0,k1,k2,k3,k4,k5,k6,k7,k8,k9⟩:=row5_facts rz.out
   go_wp2_with fail
   refine (nrange_any (wrap64 (loW mn)) (wrap64 (loW b)) (wrap64_in _) (wrap64_in _) y1 _ (by repeat (first | exact Ok.refl _ | refine Ok.alloc ?_ _ | refine Ok.draws ?_ _ | fail))).mono ?_
   rintro e z9 ⟨rfl,hb⟩
   have hr:Hid _:=Ok.row' hb rz.out
   obtain ⟨k0,k1,k2,k3,k4,k5,k6,k7,k8,k9⟩:=row5_facts hr.out
   rw [wlo_in IP.out.1,wlo_in IP.out.2]
   unfold nv
   go_wp2_with fail
   (try simp only [Exit.inBlock, Exit.then]); refine bodyPost_ret (results_cell_row rfl _ _ (gz) 29 #[_, _, _, _, _] (0, 0) _ rfl (row_set5 hr.out _ _ _ _ _) Tryz.underlying29 rfl infoN) rfl ?_
   exact ⟨(by rw [HA.out];rfl),Ok.set (Ok.set (Ok.set (Ok.set (Ok.set (Hy1.out.step hb) (show w0.heap.size<=gz by omega) _) (show w0.heap.size<=gz by omega) _) (show w0.heap.size<=gz by omega) _) (show w0.heap.size<=gz by omega) _) (show w0.heap.size<=gz by omega) _⟩
 ·have d3:0<=c3:=by rw [HC3.out];exact cmp_ge (by omega)
  obtain ⟨a0,a1,a2,a3⟩:=row_facts ra.out
  obtain ⟨b0,b1,b2,b3⟩:=row_facts rb.out
  obtain ⟨n0,n1,n2,n3⟩:=row_facts rn.out
  obtain ⟨m0,m1,m2,m3⟩:=row_facts rm.out
  obtain ⟨k0,k1,k2,k3,k4,k5,k6,k7,k8,k9⟩:=row5_facts rz.out
  go_wp2_with fail
  refine (vcompare_any b mx z3 _ (Ok.refl _)).mono ?_
  rintro e y1 ⟨rfl,hb⟩
  rw [<-HC4.out]
  replace ra:Hid _:=Ok.row' hb ra.out
  replace rb:Hid _:=Ok.row' hb rb.out
  replace rz:Hid _:=Ok.row' hb rz.out
  replace rn:Hid _:=Ok.row' hb rn.out
  replace rm:Hid _:=Ok.row' hb rm.out
  have Hy1:Hid (Ok w0 y1):=Hz3.out.step hb
  clear hb Hz3
  clear a0 a1 a2 a3 b0 b1 b2 b3 n0 n1 n2 n3 m0 m1 m2 m3 k0 k1 k2 k3 k4 k5 k6 k7 k8 k9
  by_cases h4:mx<b
  ·have d4:0<c4:=by rw [HC4.out];exact cmp_gt h4
   obtain ⟨a0,a1,a2,a3⟩:=row_facts ra.out
   obtain ⟨b0,b1,b2,b3⟩:=row_facts rb.out
   obtain ⟨n0,n1,n2,n3⟩:=row_facts rn.out
   obtain ⟨m0,m1,m2,m3⟩:=row_facts rm.out
   obtain ⟨k0,k1,k2,k3,k4,k5,k6,k7,k8,k9⟩:=row5_facts rz.out
   go_upto_region 8 with (fail)
   clear a0 a1 a2 a3 b0 b1 b2 b3 n0 n1 n2 n3 m0 m1 m2 m3 k0 k1 k2 k3 k4 k5 k6 k7 k8 k9
   obtain ⟨Y,hY⟩:∃ Z,Z=((y1.setCell ⟨gb,0,none⟩ (.int .i64 (hiW mx))).setCell ⟨gb,1,none⟩ (.int .u64 (loW mx))):=⟨_,rfl⟩
   have hrp:=(rows_put1w rb.out Hy1.out (by omega) _ _ hY).out
   have HY:Hid (Ok w0 Y):=hrp.1
   replace ra:Hid _:=hrp.2.2 _ _ (by omega) ra.out
   replace rz:Hid _:=hrp.2.2 _ _ (by omega) rz.out
   replace rn:Hid _:=hrp.2.2 _ _ (by omega) rn.out
   replace rm:Hid _:=hrp.2.2 _ _ (by omega) rm.out
   replace rb:Hid _:=hrp.2.1
   rw [<-hY]
   clear hY hrp Hy1
   have IP:Hid (In64 a/\In64 mx):=by have:=HM.out;unfold Hid In64;omega
   have HA:Hid (clipN a b=makeN a mx 1 0):=by unfold Hid clipN;rw [if_neg HN.out];have:=HM.out;congr 1<;>(split<;>omega)
   obtain ⟨a0,a1,a2,a3⟩:=row_facts ra.out
   obtain ⟨b0,b1,b2,b3⟩:=row_facts rb.out
   obtain ⟨n0,n1,n2,n3⟩:=row_facts rn.out
   obtain ⟨m0,m1,m2,m3⟩:=row_facts rm.out
   obtain ⟨k0,k1,k2,k3,k4,k5,k6,k7,k8,k9⟩:=row5_facts rz.out
   go_wp2_with fail
   refine (nrange_any (wrap64 (loW a)) (wrap64 (loW mx)) (wrap64_in _) (wrap64_in _) Y _ (by repeat (first | exact Ok.refl _ | refine Ok.alloc ?_ _ | refine Ok.draws ?_ _ | fail))).mono ?_
   rintro e z9 ⟨rfl,hb⟩
   have hr:Hid _:=Ok.row' hb rz.out
   obtain ⟨k0,k1,k2,k3,k4,k5,k6,k7,k8,k9⟩:=row5_facts hr.out
   rw [wlo_in IP.out.1,wlo_in IP.out.2]
   unfold nv
   go_wp2_with fail
   (try simp only [Exit.inBlock, Exit.then]); refine bodyPost_ret (results_cell_row rfl _ _ (gz) 29 #[_, _, _, _, _] (0, 0) _ rfl (row_set5 hr.out _ _ _ _ _) Tryz.underlying29 rfl infoN) rfl ?_
   exact ⟨(by rw [HA.out];rfl),Ok.set (Ok.set (Ok.set (Ok.set (Ok.set (HY.out.step hb) (show w0.heap.size<=gz by omega) _) (show w0.heap.size<=gz by omega) _) (show w0.heap.size<=gz by omega) _) (show w0.heap.size<=gz by omega) _) (show w0.heap.size<=gz by omega) _⟩
  ·have d4:c4<=0:=by rw [HC4.out];exact cmp_le (by omega)
   have IP:Hid (In64 a/\In64 b):=by have:=HM.out;unfold Hid In64;omega
   have HA:Hid (clipN a b=makeN a b 1 0):=by unfold Hid clipN;rw [if_neg HN.out];have:=HM.out;congr 1<;>(split<;>omega)
   obtain ⟨a0,a1,a2,a3⟩:=row_facts ra.out
   obtain ⟨b0,b1,b2,b3⟩:=row_facts rb.out
   obtain ⟨n0,n1,n2,n3⟩:=row_facts rn.out
   obtain ⟨m0,m1,m2,m3⟩:=row_facts rm.out
   obtain ⟨k0,k1,k2,k3,k4,k5,k6,k7,k8,k9⟩:=row5_facts rz.out
   go_wp2_with fail
   refine (nrange_any (wrap64 (loW a)) (wrap64 (loW b)) (wrap64_in _) (wrap64_in _) y1 _ (by repeat (first | exact Ok.refl _ | refine Ok.alloc ?_ _ | refine Ok.draws ?_ _ | fail))).mono ?_
   rintro e z9 ⟨rfl,hb⟩
   have hr:Hid _:=Ok.row' hb rz.out
   obtain ⟨k0,k1,k2,k3,k4,k5,k6,k7,k8,k9⟩:=row5_facts hr.out
   rw [wlo_in IP.out.1,wlo_in IP.out.2]
   unfold nv
   go_wp2_with fail
   (try simp only [Exit.inBlock, Exit.then]); refine bodyPost_ret (results_cell_row rfl _ _ (gz) 29 #[_, _, _, _, _] (0, 0) _ rfl (row_set5 hr.out _ _ _ _ _) Tryz.underlying29 rfl infoN) rfl ?_
   exact ⟨(by rw [HA.out];rfl),Ok.set (Ok.set (Ok.set (Ok.set (Ok.set (Hy1.out.step hb) (show w0.heap.size<=gz by omega) _) (show w0.heap.size<=gz by omega) _) (show w0.heap.size<=gz by omega) _) (show w0.heap.size<=gz by omega) _) (show w0.heap.size<=gz by omega) _⟩
end Go.Proofs.YtnjmjnmhldhaoaaGreat
