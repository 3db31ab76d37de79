import Derived.Deep.Slices
import Derived.Lib.SmallJoins
import Derived.ProofKit
import Derived.OpenShut
import Derived.Test.YtnjmjnmhldhaoaaGreatKJr
import Derived.Test.YtnjmjnmhldhaoaaGreatKKa
import Derived.Test.YtnjmjnmhldhaoaaGreatKNd
import Derived.Test.YtnjmjnmhldhaoaaGreatKNm
import Derived.Test.YtnjmjnmhldhaoaaGreatKNv
import Derived.Test.YtnjmjnmhldhaoaaGreatKRn
import Derived.Test.YtnjmjnmhldhaoaaGreatKSref
import Derived.Test.YtnjmjnmhldhaoaaGreatKVc
import Derived.Test.YtnjmjnmhldhaoaaGreatKVg
import Derived.Test.YtnjmjnmhldhaoaaGreatKXb
set_option maxHeartbeats 8000000
set_option linter.all false
namespace Go.Proofs.YtnjmjnmhldhaoaaGreat
section
open Go.RowKit Go.Shelf
set_option maxRecDepth 100000 in
theorem vapply_any (op:Int) (ho:Op6 op) (a b:Int×Int×Nat×Nat×Bool) (ha:RawN a) (hb:RawN b) (w0 w:World) (hok:Ok w0 w) :
  Calls Tryz.prog 42 #[.int .i64 op,nv a,nv b] w fun e w'=>e=.returned (nv (apN op a b))/\Ok w0 w':=by
 have hle:=hok.le
 have HU:Hid (RawN a/\RawN b):=⟨ha,hb⟩
 clear ha hb
 obtain ⟨g,hg⟩:∃ t,t=apN op a b:=⟨_,rfl⟩
 rw [<-hg]
 have HG:Hid _:=hg
 clear hg
 unfold nv
 go_enter Tryz.func42,Tryz.ntmps42
 go_wp2_with fail
 obtain ⟨W,hW⟩:∃ W,W=(((w).alloc (.cells #[.bool a.2.2.2.2,.int .i64 a.1,.int .i64 a.2.1,.int .u64 (a.2.2.1:Int),.int .u64 (a.2.2.2.1:Int)] 29)).alloc (.cells #[.bool b.2.2.2.2,.int .i64 b.1,.int .i64 b.2.1,.int .u64 (b.2.2.1:Int),.int .u64 (b.2.2.2.1:Int)] 29)).alloc (.cells #[.bool false,.int .i64 0,.int .i64 0,.int .u64 0,.int .u64 0] 29):=⟨_,rfl⟩
 have rz:Hid (W.heap[w.heap.size+1+1]?=some (.cells #[.bool false,.int .i64 0,.int .i64 0,.int .u64 0,.int .u64 0] 29)):=by unfold Hid;rw [hW];exact jj
 have HW:Hid (Ok w0 W):=by unfold Hid;rw [hW];exact (by repeat (first | exact hok | refine Ok.alloc ?_ _ | refine Ok.draws ?_ _ | fail))
 rw [<-hW]
 clear hW
 obtain ⟨gz,egz⟩:∃ g,g=w.heap.size+1+1:=⟨_,rfl⟩
 rw [<-egz] at rz ⊢
 obtain ⟨gb,egb⟩:∃ g,g=w.heap.size+1:=⟨_,rfl⟩
 rw [<-egb]
 obtain ⟨ga,ega⟩:∃ g,g=w.heap.size:=⟨_,rfl⟩
 rw [<-ega]
 have lga:w0.heap.size<=ga:=by omega
 have ngagb:¬ga=gb:=by omega
 have ngagz:¬ga=gz:=by omega
 have lgb:w0.heap.size<=gb:=by omega
 have ngbga:¬gb=ga:=by omega
 have ngbgz:¬gb=gz:=by omega
 have lgz:w0.heap.size<=gz:=by omega
 have ngzga:¬gz=ga:=by omega
 have ngzgb:¬gz=gb:=by omega
 clear ega egb egz
 refine (napply_op op ho a b HU.out.1 HU.out.2 W _ (Ok.refl _)).mono ?_
 rintro e w1 ⟨rfl,hb⟩
 rw [<-HG.out]
 unfold nv
 replace rz:Hid _:=Ok.row' hb rz.out
 have Hw1:Hid (Ok w0 w1):=HW.out.step hb
 clear hb HW
 go_upto_region 2 with (fail)
 obtain ⟨Z,hZ⟩:∃ W,W=w1.alloc (.cells #[.bool g.2.2.2.2,.int .i64 g.1,.int .i64 g.2.1,.int .u64 (g.2.2.1:Int),.int .u64 (g.2.2.2.1:Int)] 29):=⟨_,rfl⟩
 have rg:Hid (Z.heap[w1.heap.size]?=some (.cells #[.bool g.2.2.2.2,.int .i64 g.1,.int .i64 g.2.1,.int .u64 (g.2.2.1:Int),.int .u64 (g.2.2.2.1:Int)] 29)):=by unfold Hid;rw [hZ];exact heap_new0 _ _
 have hO:Ok w1 Z:=by rw [hZ];exact (Ok.refl _).alloc _
 rw [<-hZ]
 have q1:=lt_row rz.out
 obtain ⟨gg,egg⟩:∃ g,g=w1.heap.size:=⟨_,rfl⟩
 rw [<-egg] at rg ⊢
 have d1:¬gg=gz:=by omega
 have d2:¬gz=gg:=by omega
 clear hZ egg q1
 replace rz:Hid _:=Ok.row' hO rz.out
 have HZ:Hid (Ok w0 Z):=Hw1.out.step hO
 clear hO Hw1
 obtain ⟨a0,a1,a2,a3,a4,a5,a6,a7,a8,a9⟩:=row5_facts rg.out
 obtain ⟨k0,k1,k2,k3,k4,k5,k6,k7,k8,k9⟩:=row5_facts rz.out
 go_wp2_with fail
 have hr:Hid _:=rz
 (try simp only [Exit.inBlock, Exit.then]); refine bodyPost_ret (results_cell_row rfl _ _ (gz) 29 #[_, _, _, _, _] (0, 0) _ rfl (row_set5 hr.out _ _ _ _ _) Tryz.underlying29 rfl infoN) rfl ?_
 exact ⟨rfl,Ok.set (Ok.set (Ok.set (Ok.set (Ok.set (HZ.out) (show w0.heap.size<=gz by omega) _) (show w0.heap.size<=gz by omega) _) (show w0.heap.size<=gz by omega) _) (show w0.heap.size<=gz by omega) _) (show w0.heap.size<=gz by omega) _⟩
theorem vdistance_any (v:Int) (hv:In64 v) (w0 w:World) (hok:Ok w0 w) :
  Calls Tryz.prog 93 #[.int .i64 v] w fun e w'=>e=.returned (.int .u64 (absI v))/\Ok w0 w':=by
 have q:farI v=absI v:=rfl
 rw [<-q]
 clear q
 by_cases h:v<0
 ·have E:Hid _:=far_neg h hv
  clear hv
  go_enter Tryz.func93,Tryz.ntmps93
  go_wp2
  go_ret
  exact ⟨ret1u E.out,hok⟩
 ·have E:Hid _:=far_pos (by omega) hv
  clear hv
  go_enter Tryz.func93,Tryz.ntmps93
  go_wp2
  go_ret
  exact ⟨ret1u E.out,hok⟩
set_option maxRecDepth 100000 in
theorem vfactor_any (a o c:Int×Int×Nat×Nat×Bool) (wr:Bool) (ha:RawN a) (ho:RawN o) (hc:RawN c) (w0 w:World) (hok:Ok w0 w) :
  Calls Tryz.prog 92 #[nv a,nv o,nv c,.bool wr] w fun e w'=>e=.returned (nv (facN a o c wr))/\Ok w0 w':=by
 have hle:=hok.le
 have HU:Hid (RawN a/\RawN o/\RawN c):=⟨ha,ho,hc⟩
 clear ha ho hc
 obtain ⟨r,hr⟩:∃ t,t=facN a o c wr:=⟨_,rfl⟩
 rw [<-hr]
 have HR:Hid _:=hr
 clear hr
 obtain ⟨i,hi⟩:∃ t,t=insN o 0:=⟨_,rfl⟩
 have HI:Hid _:=hi
 clear hi
 obtain ⟨s,hs⟩:∃ t,t=oneN o:=⟨_,rfl⟩
 have HS:Hid _:=hs
 clear hs
 obtain ⟨v,hv⟩:∃ t,t=o.1:=⟨_,rfl⟩
 have HV:Hid _:=hv
 clear hv
 obtain ⟨x,hx⟩:∃ t,t=facA a o c:=⟨_,rfl⟩
 have RX:Hid (RawN x):=by rw [hx];exact facA_raw HU.out.1 HU.out.2.1 HU.out.2.2
 replace HR:Hid (r=if wr=false/\insN o 0=false then meetN x (apN 6 c o) else x):=by unfold Hid;rw [HR.out,hx];rfl
 have HX:Hid (x=if s=true/\v.tmod 2≠0 then meetN a (apN 5 c (constN (invV v))) else a):=by unfold Hid;rw [hx,HS.out,HV.out];rfl
 clear hx
 unfold nv
 go_enter Tryz.func92,Tryz.ntmps92
 go_wp2_with fail
 obtain ⟨W,hW⟩:∃ W,W=((((w).alloc (.cells #[.bool a.2.2.2.2,.int .i64 a.1,.int .i64 a.2.1,.int .u64 (a.2.2.1:Int),.int .u64 (a.2.2.2.1:Int)] 29)).alloc (.cells #[.bool o.2.2.2.2,.int .i64 o.1,.int .i64 o.2.1,.int .u64 (o.2.2.1:Int),.int .u64 (o.2.2.2.1:Int)] 29)).alloc (.cells #[.bool c.2.2.2.2,.int .i64 c.1,.int .i64 c.2.1,.int .u64 (c.2.2.1:Int),.int .u64 (c.2.2.2.1:Int)] 29)).alloc (.cells #[.bool false,.int .i64 0,.int .i64 0,.int .u64 0,.int .u64 0] 29):=⟨_,rfl⟩
 have ra:Hid (W.heap[w.heap.size]?=some (.cells #[.bool a.2.2.2.2,.int .i64 a.1,.int .i64 a.2.1,.int .u64 (a.2.2.1:Int),.int .u64 (a.2.2.2.1:Int)] 29)):=by unfold Hid;rw [hW];exact jj
 have rb:Hid (W.heap[w.heap.size+1]?=some (.cells #[.bool o.2.2.2.2,.int .i64 o.1,.int .i64 o.2.1,.int .u64 (o.2.2.1:Int),.int .u64 (o.2.2.2.1:Int)] 29)):=by unfold Hid;rw [hW];exact jj
 have rc:Hid (W.heap[w.heap.size+1+1]?=some (.cells #[.bool c.2.2.2.2,.int .i64 c.1,.int .i64 c.2.1,.int .u64 (c.2.2.1:Int),.int .u64 (c.2.2.2.1:Int)] 29)):=by unfold Hid;rw [hW];exact jj
 have rz:Hid (W.heap[w.heap.size+1+1+1]?=some (.cells #[.bool false,.int .i64 0,.int .i64 0,.int .u64 0,.int .u64 0] 29)):=by unfold Hid;rw [hW];exact jj
 have HW:Hid (Ok w0 W):=by unfold Hid;rw [hW];exact (by repeat (first | exact hok | refine Ok.alloc ?_ _ | refine Ok.draws ?_ _ | fail))
 rw [<-hW]
 clear hW
 obtain ⟨gz,egz⟩:∃ g,g=w.heap.size+1+1+1:=⟨_,rfl⟩
 rw [<-egz] at rz ⊢
 obtain ⟨gc,egc⟩:∃ g,g=w.heap.size+1+1:=⟨_,rfl⟩
 rw [<-egc] at rc ⊢
 obtain ⟨gb,egb⟩:∃ g,g=w.heap.size+1:=⟨_,rfl⟩
 rw [<-egb] at rb ⊢
 obtain ⟨ga,ega⟩:∃ g,g=w.heap.size:=⟨_,rfl⟩
 rw [<-ega] at ra ⊢
 have lga:w0.heap.size<=ga:=by omega
 have ngagb:¬ga=gb:=by omega
 have ngagc:¬ga=gc:=by omega
 have ngagz:¬ga=gz:=by omega
 have lgb:w0.heap.size<=gb:=by omega
 have ngbga:¬gb=ga:=by omega
 have ngbgc:¬gb=gc:=by omega
 have ngbgz:¬gb=gz:=by omega
 have lgc:w0.heap.size<=gc:=by omega
 have ngcga:¬gc=ga:=by omega
 have ngcgb:¬gc=gb:=by omega
 have ngcgz:¬gc=gz:=by omega
 have lgz:w0.heap.size<=gz:=by omega
 have ngzga:¬gz=ga:=by omega
 have ngzgb:¬gz=gb:=by omega
 have ngzgc:¬gz=gc:=by omega
 clear ega egb egc egz
 refine (vsingle_any o W _ (by repeat (first | exact Ok.refl _ | refine Ok.alloc ?_ _ | refine Ok.draws ?_ _ | fail))).mono ?_
 rintro e w1 ⟨rfl,hb⟩
 replace ra:Hid _:=Ok.row' hb ra.out
 replace rb:Hid _:=Ok.row' hb rb.out
 replace rc:Hid _:=Ok.row' hb rc.out
 replace rz:Hid _:=Ok.row' hb rz.out
 have Hw1:Hid (Ok w0 w1):=HW.out.step hb
 clear hb
 rw [<-HS.out,<-HV.out]
 cases s
 ·have HE:Hid (x=a):=by unfold Hid;rw [HX.out];simp
  have he:=HE.out
  clear HE HX
  subst he
  cases wr
  ·replace HR:Hid (r=if insN o 0=false then meetN x (apN 6 c o) else x):=by unfold Hid;rw [HR.out];simp
   obtain ⟨a0,a1,a2,a3,a4,a5,a6,a7,a8,a9⟩:=row5_facts ra.out
   obtain ⟨b0,b1,b2,b3,b4,b5,b6,b7,b8,b9⟩:=row5_facts rb.out
   obtain ⟨c0,c1,c2,c3,c4,c5,c6,c7,c8,c9⟩:=row5_facts rc.out
   obtain ⟨k0,k1,k2,k3,k4,k5,k6,k7,k8,k9⟩:=row5_facts rz.out
   go_wp2_with fail
   clear a0 a1 a2 a3 a4 a5 a6 a7 a8 a9 b0 b1 b2 b3 b4 b5 b6 b7 b8 b9 c0 c1 c2 c3 c4 c5 c6 c7 c8 c9 k0 k1 k2 k3 k4 k5 k6 k7 k8 k9
   refine (nhas_any o 0 HU.out.2.1 w1 _ (by repeat (first | exact Ok.refl _ | refine Ok.alloc ?_ _ | refine Ok.draws ?_ _ | fail))).mono ?_
   rintro e u2 ⟨rfl,hb⟩
   replace ra:Hid _:=Ok.row' hb ra.out
   replace rb:Hid _:=Ok.row' hb rb.out
   replace rc:Hid _:=Ok.row' hb rc.out
   replace rz:Hid _:=Ok.row' hb rz.out
   have Hu2:Hid (Ok w0 u2):=Hw1.out.step hb
   clear hb
   rw [<-HI.out]
   rw [<-HI.out] at HR
   clear HI
   cases i
   ·obtain ⟨d,hd⟩:∃ t,t=apN 6 c o:=⟨_,rfl⟩
    have HD:Hid _:=hd
    have RD:Hid (RawN d):=by rw [hd];exact apN_raw op6' HU.out.2.2 HU.out.2.1
    replace HR:Hid (r=meetN x d):=by unfold Hid;rw [HR.out,hd];simp
    clear hd
    obtain ⟨a0,a1,a2,a3,a4,a5,a6,a7,a8,a9⟩:=row5_facts ra.out
    obtain ⟨b0,b1,b2,b3,b4,b5,b6,b7,b8,b9⟩:=row5_facts rb.out
    obtain ⟨c0,c1,c2,c3,c4,c5,c6,c7,c8,c9⟩:=row5_facts rc.out
    obtain ⟨k0,k1,k2,k3,k4,k5,k6,k7,k8,k9⟩:=row5_facts rz.out
    go_wp2_with fail
    clear a0 a1 a2 a3 a4 a5 a6 a7 a8 a9 b0 b1 b2 b3 b4 b5 b6 b7 b8 b9 c0 c1 c2 c3 c4 c5 c6 c7 c8 c9 k0 k1 k2 k3 k4 k5 k6 k7 k8 k9
    have S0:Ok u2 u2.drew:=Below.drew (Ok.refl _)
    refine wp_region_L (fun Y=>Ok u2 Y) 5 (by kernel_rfl) ?_
    refine tL 0 (.agg #[.bool x.2.2.2.2,.int .i64 x.1,.int .i64 x.2.1,.int .u64 (x.2.2.1:Int),.int .u64 (x.2.2.2.1:Int)]) S0 ?_ ?_
    ·intro w' hS;obtain ⟨a0,a1,a2,a3,a4,a5,a6,a7,a8,a9⟩:=row5_facts (Ok.row' hS ra.out);go_simp
    simp only [Act.put,List.setIfInBounds_toArray,List.set_cons_zero,List.set_cons_succ]
    refine tL 1 (.agg #[.bool c.2.2.2.2,.int .i64 c.1,.int .i64 c.2.1,.int .u64 (c.2.2.1:Int),.int .u64 (c.2.2.2.1:Int)]) S0 ?_ ?_
    ·intro w' hS;obtain ⟨c0,c1,c2,c3,c4,c5,c6,c7,c8,c9⟩:=row5_facts (Ok.row' hS rc.out);go_simp
    simp only [Act.put,List.setIfInBounds_toArray,List.set_cons_zero,List.set_cons_succ]
    refine tL 2 (.agg #[.bool o.2.2.2.2,.int .i64 o.1,.int .i64 o.2.1,.int .u64 (o.2.2.1:Int),.int .u64 (o.2.2.2.1:Int)]) S0 ?_ ?_
    ·intro w' hS;obtain ⟨b0,b1,b2,b3,b4,b5,b6,b7,b8,b9⟩:=row5_facts (Ok.row' hS rb.out);go_simp
    simp only [Act.put,List.setIfInBounds_toArray,List.set_cons_zero,List.set_cons_succ]
    refine wpAnyL_step (i:=3) (by kernel_rfl) rfl (fun K hK=>?_)
    go_simp
    refine (vapply_any 6 op6' c o HU.out.2.2 HU.out.2.1 u2 _ S0).mono ?_
    rintro e yb0 ⟨rfl,hyb0⟩
    rw [<-HD.out]
    unfold nv
    go_wp2_with fail
    refine hK.out _ _ (fun _=>hyb0) ?_
    clear hK K
    refine wpAnyL_step (i:=4) (by kernel_rfl) rfl (fun K hK=>?_)
    go_simp
    refine (nmeet_any x d RX.out RD.out u2 _ hyb0).mono ?_
    rintro e yb1 ⟨rfl,hyb1⟩
    rw [<-HR.out]
    unfold nv
    go_wp2_with fail
    refine hK.out _ _ (fun _=>hyb1) ?_
    clear hK K
    refine wpAnyL_step (i:=5) (by kernel_rfl) rfl (fun K hK=>?_)
    replace ra:Hid _:=Ok.row' hyb1 ra.out
    replace rb:Hid _:=Ok.row' hyb1 rb.out
    replace rc:Hid _:=Ok.row' hyb1 rc.out
    replace rz:Hid _:=Ok.row' hyb1 rz.out
    have Hyb1:Hid (Ok w0 yb1):=Hu2.out.step hyb1
    obtain ⟨a0,a1,a2,a3,a4,a5,a6,a7,a8,a9⟩:=row5_facts ra.out
    go_simp
    refine hK.out _ _ (fun h=>absurd rfl h) ?_
    clear hK K
    refine wpAnyL_done (by kernel_rfl) ?_ _
    obtain ⟨Z2,hZ2⟩:∃ Z,Z=(((((yb1.setCell ⟨ga,0,none⟩ (.bool r.2.2.2.2)).setCell ⟨ga,1,none⟩ (.int .i64 r.1)).setCell ⟨ga,2,none⟩ (.int .i64 r.2.1)).setCell ⟨ga,3,none⟩ (.int .u64 (r.2.2.1:Int))).setCell ⟨ga,4,none⟩ (.int .u64 (r.2.2.2.1:Int))):=⟨_,rfl⟩
    obtain ⟨HZ2,raz,keep⟩:=(rows_put1 ra.out Hyb1.out (by omega) _ _ _ _ _ hZ2).out
    replace HZ2:Hid (Ok w0 Z2):=HZ2
    replace raz:Hid _:=raz
    replace rb:Hid _:=keep _ _ (by omega) rb.out
    replace rc:Hid _:=keep _ _ (by omega) rc.out
    replace rz:Hid _:=keep _ _ (by omega) rz.out
    rw [<-hZ2]
    clear hZ2 keep ra
    clear a0 a1 a2 a3 a4 a5 a6 a7 a8 a9
    have ra:Hid _:=raz
    clear raz
    obtain ⟨a0,a1,a2,a3,a4,a5,a6,a7,a8,a9⟩:=row5_facts ra.out
    obtain ⟨b0,b1,b2,b3,b4,b5,b6,b7,b8,b9⟩:=row5_facts rb.out
    obtain ⟨c0,c1,c2,c3,c4,c5,c6,c7,c8,c9⟩:=row5_facts rc.out
    obtain ⟨k0,k1,k2,k3,k4,k5,k6,k7,k8,k9⟩:=row5_facts rz.out
    go_wp2_with fail
    have hr:Hid _:=rz
    (try simp only [Exit.inBlock, Exit.then]); refine bodyPost_ret (results_cell_row rfl _ _ (gz) 29 #[_, _, _, _, _] (0, 0) _ rfl (row_set5 hr.out _ _ _ _ _) Tryz.underlying29 rfl infoN) rfl ?_
    exact ⟨rfl,Ok.set (Ok.set (Ok.set (Ok.set (Ok.set (HZ2.out) (show w0.heap.size<=gz by omega) _) (show w0.heap.size<=gz by omega) _) (show w0.heap.size<=gz by omega) _) (show w0.heap.size<=gz by omega) _) (show w0.heap.size<=gz by omega) _⟩
   ·have HA:Hid (r=x):=by unfold Hid;rw [HR.out];simp
    obtain ⟨a0,a1,a2,a3,a4,a5,a6,a7,a8,a9⟩:=row5_facts ra.out
    obtain ⟨b0,b1,b2,b3,b4,b5,b6,b7,b8,b9⟩:=row5_facts rb.out
    obtain ⟨c0,c1,c2,c3,c4,c5,c6,c7,c8,c9⟩:=row5_facts rc.out
    obtain ⟨k0,k1,k2,k3,k4,k5,k6,k7,k8,k9⟩:=row5_facts rz.out
    go_wp2_with fail
    have hr:Hid _:=rz
    (try simp only [Exit.inBlock, Exit.then]); refine bodyPost_ret (results_cell_row rfl _ _ (gz) 29 #[_, _, _, _, _] (0, 0) _ rfl (row_set5 hr.out _ _ _ _ _) Tryz.underlying29 rfl infoN) rfl ?_
    exact ⟨(by rw [HA.out]),Ok.set (Ok.set (Ok.set (Ok.set (Ok.set (Hu2.out) (show w0.heap.size<=gz by omega) _) (show w0.heap.size<=gz by omega) _) (show w0.heap.size<=gz by omega) _) (show w0.heap.size<=gz by omega) _) (show w0.heap.size<=gz by omega) _⟩
  ·have HA:Hid (r=x):=by unfold Hid;rw [HR.out];simp
   obtain ⟨a0,a1,a2,a3,a4,a5,a6,a7,a8,a9⟩:=row5_facts ra.out
   obtain ⟨b0,b1,b2,b3,b4,b5,b6,b7,b8,b9⟩:=row5_facts rb.out
   obtain ⟨c0,c1,c2,c3,c4,c5,c6,c7,c8,c9⟩:=row5_facts rc.out
   obtain ⟨k0,k1,k2,k3,k4,k5,k6,k7,k8,k9⟩:=row5_facts rz.out
   go_wp2_with fail
   have hr:Hid _:=rz
   (try simp only [Exit.inBlock, Exit.then]); refine bodyPost_ret (results_cell_row rfl _ _ (gz) 29 #[_, _, _, _, _] (0, 0) _ rfl (row_set5 hr.out _ _ _ _ _) Tryz.underlying29 rfl infoN) rfl ?_
   exact ⟨(by rw [HA.out]),Ok.set (Ok.set (Ok.set (Ok.set (Ok.set (Hw1.out) (show w0.heap.size<=gz by omega) _) (show w0.heap.size<=gz by omega) _) (show w0.heap.size<=gz by omega) _) (show w0.heap.size<=gz by omega) _) (show w0.heap.size<=gz by omega) _⟩
 ·by_cases hm2:v.tmod 2≠0
  ·obtain ⟨iv,hiv⟩:∃ t,t=invV v:=⟨_,rfl⟩
   have HIV:Hid _:=hiv
   obtain ⟨m,hm⟩:∃ t,t=constN iv:=⟨_,rfl⟩
   have HM:Hid _:=hm
   have RM:Hid (RawN m):=by rw [hm,hiv];exact const_raw (inv_in _)
   obtain ⟨p,hp⟩:∃ t,t=apN 5 c m:=⟨_,rfl⟩
   have HP:Hid _:=hp
   have RP:Hid (RawN p):=by rw [hp];exact apN_raw op5 HU.out.2.2 RM.out
   have HE:Hid (x=meetN a p):=by unfold Hid;rw [HX.out,if_pos ⟨rfl,hm2⟩,hp,hm,hiv]
   clear hiv hm hp HX
   have d1:(v.tmod 2 != 0)=true:=by simpa using hm2
   clear hm2
   obtain ⟨a0,a1,a2,a3,a4,a5,a6,a7,a8,a9⟩:=row5_facts ra.out
   obtain ⟨b0,b1,b2,b3,b4,b5,b6,b7,b8,b9⟩:=row5_facts rb.out
   obtain ⟨c0,c1,c2,c3,c4,c5,c6,c7,c8,c9⟩:=row5_facts rc.out
   obtain ⟨k0,k1,k2,k3,k4,k5,k6,k7,k8,k9⟩:=row5_facts rz.out
   go_wp2_with fail
   clear a0 a1 a2 a3 a4 a5 a6 a7 a8 a9 b0 b1 b2 b3 b4 b5 b6 b7 b8 b9 c0 c1 c2 c3 c4 c5 c6 c7 c8 c9 k0 k1 k2 k3 k4 k5 k6 k7 k8 k9
   have S0:Ok w1 w1.drew:=Below.drew (Ok.refl _)
   refine wp_region_L (fun Y=>Ok w1 Y) 7 (by kernel_rfl) ?_
   refine tL 0 (.agg #[.bool a.2.2.2.2,.int .i64 a.1,.int .i64 a.2.1,.int .u64 (a.2.2.1:Int),.int .u64 (a.2.2.2.1:Int)]) S0 ?_ ?_
   ·intro w' hS;obtain ⟨a0,a1,a2,a3,a4,a5,a6,a7,a8,a9⟩:=row5_facts (Ok.row' hS ra.out);go_simp
   simp only [Act.put,List.setIfInBounds_toArray,List.set_cons_zero,List.set_cons_succ]
   refine tL 1 (.agg #[.bool c.2.2.2.2,.int .i64 c.1,.int .i64 c.2.1,.int .u64 (c.2.2.1:Int),.int .u64 (c.2.2.2.1:Int)]) S0 ?_ ?_
   ·intro w' hS;obtain ⟨c0,c1,c2,c3,c4,c5,c6,c7,c8,c9⟩:=row5_facts (Ok.row' hS rc.out);go_simp
   simp only [Act.put,List.setIfInBounds_toArray,List.set_cons_zero,List.set_cons_succ]
   refine tL 2 (.int .i64 v) S0 ?_ ?_
   ·intro w' hS;go_simp
   simp only [Act.put,List.setIfInBounds_toArray,List.set_cons_zero,List.set_cons_succ]
   refine wpAnyL_step (i:=3) (by kernel_rfl) rfl (fun K hK=>?_)
   go_simp
   refine (vinverse_any v w1 _ S0).mono ?_
   rintro e ya0 ⟨rfl,hya0⟩
   rw [<-HIV.out]
   go_wp2_with fail
   refine hK.out _ _ (fun _=>hya0) ?_
   clear hK K
   refine wpAnyL_step (i:=4) (by kernel_rfl) rfl (fun K hK=>?_)
   go_simp
   refine (nconst_any iv w1 _ hya0).mono ?_
   rintro e ya1 ⟨rfl,hya1⟩
   rw [<-HM.out]
   unfold nv
   go_wp2_with fail
   refine hK.out _ _ (fun _=>hya1) ?_
   clear hK K
   refine wpAnyL_step (i:=5) (by kernel_rfl) rfl (fun K hK=>?_)
   go_simp
   refine (vapply_any 5 op5 c m HU.out.2.2 RM.out w1 _ hya1).mono ?_
   rintro e ya2 ⟨rfl,hya2⟩
   rw [<-HP.out]
   unfold nv
   go_wp2_with fail
   refine hK.out _ _ (fun _=>hya2) ?_
   clear hK K
   refine wpAnyL_step (i:=6) (by kernel_rfl) rfl (fun K hK=>?_)
   go_simp
   refine (nmeet_any a p HU.out.1 RP.out w1 _ hya2).mono ?_
   rintro e ya3 ⟨rfl,hya3⟩
   rw [<-HE.out]
   unfold nv
   go_wp2_with fail
   refine hK.out _ _ (fun _=>hya3) ?_
   clear hK K
   refine wpAnyL_step (i:=7) (by kernel_rfl) rfl (fun K hK=>?_)
   replace ra:Hid _:=Ok.row' hya3 ra.out
   replace rb:Hid _:=Ok.row' hya3 rb.out
   replace rc:Hid _:=Ok.row' hya3 rc.out
   replace rz:Hid _:=Ok.row' hya3 rz.out
   have Hya3:Hid (Ok w0 ya3):=Hw1.out.step hya3
   obtain ⟨a0,a1,a2,a3,a4,a5,a6,a7,a8,a9⟩:=row5_facts ra.out
   go_simp
   refine hK.out _ _ (fun h=>absurd rfl h) ?_
   clear hK K
   refine wpAnyL_done (by kernel_rfl) ?_ _
   obtain ⟨Z1,hZ1⟩:∃ Z,Z=(((((ya3.setCell ⟨ga,0,none⟩ (.bool x.2.2.2.2)).setCell ⟨ga,1,none⟩ (.int .i64 x.1)).setCell ⟨ga,2,none⟩ (.int .i64 x.2.1)).setCell ⟨ga,3,none⟩ (.int .u64 (x.2.2.1:Int))).setCell ⟨ga,4,none⟩ (.int .u64 (x.2.2.2.1:Int))):=⟨_,rfl⟩
   obtain ⟨HZ1,raz,keep⟩:=(rows_put1 ra.out Hya3.out (by omega) _ _ _ _ _ hZ1).out
   replace HZ1:Hid (Ok w0 Z1):=HZ1
   replace raz:Hid _:=raz
   replace rb:Hid _:=keep _ _ (by omega) rb.out
   replace rc:Hid _:=keep _ _ (by omega) rc.out
   replace rz:Hid _:=keep _ _ (by omega) rz.out
   rw [<-hZ1]
   clear hZ1 keep ra
   clear a0 a1 a2 a3 a4 a5 a6 a7 a8 a9
   have ra:Hid _:=raz
   clear raz
   cases wr
   ·replace HR:Hid (r=if insN o 0=false then meetN x (apN 6 c o) else x):=by unfold Hid;rw [HR.out];simp
    obtain ⟨a0,a1,a2,a3,a4,a5,a6,a7,a8,a9⟩:=row5_facts ra.out
    obtain ⟨b0,b1,b2,b3,b4,b5,b6,b7,b8,b9⟩:=row5_facts rb.out
    obtain ⟨c0,c1,c2,c3,c4,c5,c6,c7,c8,c9⟩:=row5_facts rc.out
    obtain ⟨k0,k1,k2,k3,k4,k5,k6,k7,k8,k9⟩:=row5_facts rz.out
    go_wp2_with fail
    clear a0 a1 a2 a3 a4 a5 a6 a7 a8 a9 b0 b1 b2 b3 b4 b5 b6 b7 b8 b9 c0 c1 c2 c3 c4 c5 c6 c7 c8 c9 k0 k1 k2 k3 k4 k5 k6 k7 k8 k9
    refine (nhas_any o 0 HU.out.2.1 Z1 _ (by repeat (first | exact Ok.refl _ | refine Ok.alloc ?_ _ | refine Ok.draws ?_ _ | fail))).mono ?_
    rintro e u2 ⟨rfl,hb⟩
    replace ra:Hid _:=Ok.row' hb ra.out
    replace rb:Hid _:=Ok.row' hb rb.out
    replace rc:Hid _:=Ok.row' hb rc.out
    replace rz:Hid _:=Ok.row' hb rz.out
    have Hu2:Hid (Ok w0 u2):=HZ1.out.step hb
    clear hb
    rw [<-HI.out]
    rw [<-HI.out] at HR
    clear HI
    cases i
    ·obtain ⟨d,hd⟩:∃ t,t=apN 6 c o:=⟨_,rfl⟩
     have HD:Hid _:=hd
     have RD:Hid (RawN d):=by rw [hd];exact apN_raw op6' HU.out.2.2 HU.out.2.1
     replace HR:Hid (r=meetN x d):=by unfold Hid;rw [HR.out,hd];simp
     clear hd
     obtain ⟨a0,a1,a2,a3,a4,a5,a6,a7,a8,a9⟩:=row5_facts ra.out
     obtain ⟨b0,b1,b2,b3,b4,b5,b6,b7,b8,b9⟩:=row5_facts rb.out
     obtain ⟨c0,c1,c2,c3,c4,c5,c6,c7,c8,c9⟩:=row5_facts rc.out
     obtain ⟨k0,k1,k2,k3,k4,k5,k6,k7,k8,k9⟩:=row5_facts rz.out
     go_wp2_with fail
     clear a0 a1 a2 a3 a4 a5 a6 a7 a8 a9 b0 b1 b2 b3 b4 b5 b6 b7 b8 b9 c0 c1 c2 c3 c4 c5 c6 c7 c8 c9 k0 k1 k2 k3 k4 k5 k6 k7 k8 k9
     have S0:Ok u2 u2.drew:=Below.drew (Ok.refl _)
     refine wp_region_L (fun Y=>Ok u2 Y) 5 (by kernel_rfl) ?_
     refine tL 0 (.agg #[.bool x.2.2.2.2,.int .i64 x.1,.int .i64 x.2.1,.int .u64 (x.2.2.1:Int),.int .u64 (x.2.2.2.1:Int)]) S0 ?_ ?_
     ·intro w' hS;obtain ⟨a0,a1,a2,a3,a4,a5,a6,a7,a8,a9⟩:=row5_facts (Ok.row' hS ra.out);go_simp
     simp only [Act.put,List.setIfInBounds_toArray,List.set_cons_zero,List.set_cons_succ]
     refine tL 1 (.agg #[.bool c.2.2.2.2,.int .i64 c.1,.int .i64 c.2.1,.int .u64 (c.2.2.1:Int),.int .u64 (c.2.2.2.1:Int)]) S0 ?_ ?_
     ·intro w' hS;obtain ⟨c0,c1,c2,c3,c4,c5,c6,c7,c8,c9⟩:=row5_facts (Ok.row' hS rc.out);go_simp
     simp only [Act.put,List.setIfInBounds_toArray,List.set_cons_zero,List.set_cons_succ]
     refine tL 2 (.agg #[.bool o.2.2.2.2,.int .i64 o.1,.int .i64 o.2.1,.int .u64 (o.2.2.1:Int),.int .u64 (o.2.2.2.1:Int)]) S0 ?_ ?_
     ·intro w' hS;obtain ⟨b0,b1,b2,b3,b4,b5,b6,b7,b8,b9⟩:=row5_facts (Ok.row' hS rb.out);go_simp
     simp only [Act.put,List.setIfInBounds_toArray,List.set_cons_zero,List.set_cons_succ]
     refine wpAnyL_step (i:=3) (by kernel_rfl) rfl (fun K hK=>?_)
     go_simp
     refine (vapply_any 6 op6' c o HU.out.2.2 HU.out.2.1 u2 _ S0).mono ?_
     rintro e yb0 ⟨rfl,hyb0⟩
     rw [<-HD.out]
     unfold nv
     go_wp2_with fail
     refine hK.out _ _ (fun _=>hyb0) ?_
     clear hK K
     refine wpAnyL_step (i:=4) (by kernel_rfl) rfl (fun K hK=>?_)
     go_simp
     refine (nmeet_any x d RX.out RD.out u2 _ hyb0).mono ?_
     rintro e yb1 ⟨rfl,hyb1⟩
     rw [<-HR.out]
     unfold nv
     go_wp2_with fail
     refine hK.out _ _ (fun _=>hyb1) ?_
     clear hK K
     refine wpAnyL_step (i:=5) (by kernel_rfl) rfl (fun K hK=>?_)
     replace ra:Hid _:=Ok.row' hyb1 ra.out
     replace rb:Hid _:=Ok.row' hyb1 rb.out
     replace rc:Hid _:=Ok.row' hyb1 rc.out
     replace rz:Hid _:=Ok.row' hyb1 rz.out
     have Hyb1:Hid (Ok w0 yb1):=Hu2.out.step hyb1
     obtain ⟨a0,a1,a2,a3,a4,a5,a6,a7,a8,a9⟩:=row5_facts ra.out
     go_simp
     refine hK.out _ _ (fun h=>absurd rfl h) ?_
     clear hK K
     refine wpAnyL_done (by kernel_rfl) ?_ _
     obtain ⟨Z2,hZ2⟩:∃ Z,Z=(((((yb1.setCell ⟨ga,0,none⟩ (.bool r.2.2.2.2)).setCell ⟨ga,1,none⟩ (.int .i64 r.1)).setCell ⟨ga,2,none⟩ (.int .i64 r.2.1)).setCell ⟨ga,3,none⟩ (.int .u64 (r.2.2.1:Int))).setCell ⟨ga,4,none⟩ (.int .u64 (r.2.2.2.1:Int))):=⟨_,rfl⟩
     obtain ⟨HZ2,raz,keep⟩:=(rows_put1 ra.out Hyb1.out (by omega) _ _ _ _ _ hZ2).out
     replace HZ2:Hid (Ok w0 Z2):=HZ2
     replace raz:Hid _:=raz
     replace rb:Hid _:=keep _ _ (by omega) rb.out
     replace rc:Hid _:=keep _ _ (by omega) rc.out
     replace rz:Hid _:=keep _ _ (by omega) rz.out
     rw [<-hZ2]
     clear hZ2 keep ra
     clear a0 a1 a2 a3 a4 a5 a6 a7 a8 a9
     have ra:Hid _:=raz
     clear raz
     obtain ⟨a0,a1,a2,a3,a4,a5,a6,a7,a8,a9⟩:=row5_facts ra.out
     obtain ⟨b0,b1,b2,b3,b4,b5,b6,b7,b8,b9⟩:=row5_facts rb.out
     obtain ⟨c0,c1,c2,c3,c4,c5,c6,c7,c8,c9⟩:=row5_facts rc.out
     obtain ⟨k0,k1,k2,k3,k4,k5,k6,k7,k8,k9⟩:=row5_facts rz.out
     go_wp2_with fail
     have hr:Hid _:=rz
     (try simp only [Exit.inBlock, Exit.then]); refine bodyPost_ret (results_cell_row rfl _ _ (gz) 29 #[_, _, _, _, _] (0, 0) _ rfl (row_set5 hr.out _ _ _ _ _) Tryz.underlying29 rfl infoN) rfl ?_
     exact ⟨rfl,Ok.set (Ok.set (Ok.set (Ok.set (Ok.set (HZ2.out) (show w0.heap.size<=gz by omega) _) (show w0.heap.size<=gz by omega) _) (show w0.heap.size<=gz by omega) _) (show w0.heap.size<=gz by omega) _) (show w0.heap.size<=gz by omega) _⟩
    ·have HA:Hid (r=x):=by unfold Hid;rw [HR.out];simp
     obtain ⟨a0,a1,a2,a3,a4,a5,a6,a7,a8,a9⟩:=row5_facts ra.out
     obtain ⟨b0,b1,b2,b3,b4,b5,b6,b7,b8,b9⟩:=row5_facts rb.out
     obtain ⟨c0,c1,c2,c3,c4,c5,c6,c7,c8,c9⟩:=row5_facts rc.out
     obtain ⟨k0,k1,k2,k3,k4,k5,k6,k7,k8,k9⟩:=row5_facts rz.out
     go_wp2_with fail
     have hr:Hid _:=rz
     (try simp only [Exit.inBlock, Exit.then]); refine bodyPost_ret (results_cell_row rfl _ _ (gz) 29 #[_, _, _, _, _] (0, 0) _ rfl (row_set5 hr.out _ _ _ _ _) Tryz.underlying29 rfl infoN) rfl ?_
     exact ⟨(by rw [HA.out]),Ok.set (Ok.set (Ok.set (Ok.set (Ok.set (Hu2.out) (show w0.heap.size<=gz by omega) _) (show w0.heap.size<=gz by omega) _) (show w0.heap.size<=gz by omega) _) (show w0.heap.size<=gz by omega) _) (show w0.heap.size<=gz by omega) _⟩
   ·have HA:Hid (r=x):=by unfold Hid;rw [HR.out];simp
    obtain ⟨a0,a1,a2,a3,a4,a5,a6,a7,a8,a9⟩:=row5_facts ra.out
    obtain ⟨b0,b1,b2,b3,b4,b5,b6,b7,b8,b9⟩:=row5_facts rb.out
    obtain ⟨c0,c1,c2,c3,c4,c5,c6,c7,c8,c9⟩:=row5_facts rc.out
    obtain ⟨k0,k1,k2,k3,k4,k5,k6,k7,k8,k9⟩:=row5_facts rz.out
    go_wp2_with fail
    have hr:Hid _:=rz
    (try simp only [Exit.inBlock, Exit.then]); refine bodyPost_ret (results_cell_row rfl _ _ (gz) 29 #[_, _, _, _, _] (0, 0) _ rfl (row_set5 hr.out _ _ _ _ _) Tryz.underlying29 rfl infoN) rfl ?_
    exact ⟨(by rw [HA.out]),Ok.set (Ok.set (Ok.set (Ok.set (Ok.set (HZ1.out) (show w0.heap.size<=gz by omega) _) (show w0.heap.size<=gz by omega) _) (show w0.heap.size<=gz by omega) _) (show w0.heap.size<=gz by omega) _) (show w0.heap.size<=gz by omega) _⟩
  ·have HE:Hid (x=a):=by unfold Hid;rw [HX.out,if_neg (fun h=>hm2 h.2)]
   have d1:(v.tmod 2 != 0)=false:=by simpa using hm2
   clear hm2
   have he:=HE.out
   clear HE HX
   subst he
   cases wr
   ·replace HR:Hid (r=if insN o 0=false then meetN x (apN 6 c o) else x):=by unfold Hid;rw [HR.out];simp
    obtain ⟨a0,a1,a2,a3,a4,a5,a6,a7,a8,a9⟩:=row5_facts ra.out
    obtain ⟨b0,b1,b2,b3,b4,b5,b6,b7,b8,b9⟩:=row5_facts rb.out
    obtain ⟨c0,c1,c2,c3,c4,c5,c6,c7,c8,c9⟩:=row5_facts rc.out
    obtain ⟨k0,k1,k2,k3,k4,k5,k6,k7,k8,k9⟩:=row5_facts rz.out
    go_wp2_with fail
    clear a0 a1 a2 a3 a4 a5 a6 a7 a8 a9 b0 b1 b2 b3 b4 b5 b6 b7 b8 b9 c0 c1 c2 c3 c4 c5 c6 c7 c8 c9 k0 k1 k2 k3 k4 k5 k6 k7 k8 k9
    refine (nhas_any o 0 HU.out.2.1 w1 _ (by repeat (first | exact Ok.refl _ | refine Ok.alloc ?_ _ | refine Ok.draws ?_ _ | fail))).mono ?_
    rintro e u2 ⟨rfl,hb⟩
    replace ra:Hid _:=Ok.row' hb ra.out
    replace rb:Hid _:=Ok.row' hb rb.out
    replace rc:Hid _:=Ok.row' hb rc.out
    replace rz:Hid _:=Ok.row' hb rz.out
    have Hu2:Hid (Ok w0 u2):=Hw1.out.step hb
    clear hb
    rw [<-HI.out]
    rw [<-HI.out] at HR
    clear HI
    cases i
    ·obtain ⟨d,hd⟩:∃ t,t=apN 6 c o:=⟨_,rfl⟩
     have HD:Hid _:=hd
     have RD:Hid (RawN d):=by rw [hd];exact apN_raw op6' HU.out.2.2 HU.out.2.1
     replace HR:Hid (r=meetN x d):=by unfold Hid;rw [HR.out,hd];simp
     clear hd
     obtain ⟨a0,a1,a2,a3,a4,a5,a6,a7,a8,a9⟩:=row5_facts ra.out
     obtain ⟨b0,b1,b2,b3,b4,b5,b6,b7,b8,b9⟩:=row5_facts rb.out
     obtain ⟨c0,c1,c2,c3,c4,c5,c6,c7,c8,c9⟩:=row5_facts rc.out
     obtain ⟨k0,k1,k2,k3,k4,k5,k6,k7,k8,k9⟩:=row5_facts rz.out
     go_wp2_with fail
     clear a0 a1 a2 a3 a4 a5 a6 a7 a8 a9 b0 b1 b2 b3 b4 b5 b6 b7 b8 b9 c0 c1 c2 c3 c4 c5 c6 c7 c8 c9 k0 k1 k2 k3 k4 k5 k6 k7 k8 k9
     have S0:Ok u2 u2.drew:=Below.drew (Ok.refl _)
     refine wp_region_L (fun Y=>Ok u2 Y) 5 (by kernel_rfl) ?_
     refine tL 0 (.agg #[.bool x.2.2.2.2,.int .i64 x.1,.int .i64 x.2.1,.int .u64 (x.2.2.1:Int),.int .u64 (x.2.2.2.1:Int)]) S0 ?_ ?_
     ·intro w' hS;obtain ⟨a0,a1,a2,a3,a4,a5,a6,a7,a8,a9⟩:=row5_facts (Ok.row' hS ra.out);go_simp
     simp only [Act.put,List.setIfInBounds_toArray,List.set_cons_zero,List.set_cons_succ]
     refine tL 1 (.agg #[.bool c.2.2.2.2,.int .i64 c.1,.int .i64 c.2.1,.int .u64 (c.2.2.1:Int),.int .u64 (c.2.2.2.1:Int)]) S0 ?_ ?_
     ·intro w' hS;obtain ⟨c0,c1,c2,c3,c4,c5,c6,c7,c8,c9⟩:=row5_facts (Ok.row' hS rc.out);go_simp
     simp only [Act.put,List.setIfInBounds_toArray,List.set_cons_zero,List.set_cons_succ]
     refine tL 2 (.agg #[.bool o.2.2.2.2,.int .i64 o.1,.int .i64 o.2.1,.int .u64 (o.2.2.1:Int),.int .u64 (o.2.2.2.1:Int)]) S0 ?_ ?_
     ·intro w' hS;obtain ⟨b0,b1,b2,b3,b4,b5,b6,b7,b8,b9⟩:=row5_facts (Ok.row' hS rb.out);go_simp
     simp only [Act.put,List.setIfInBounds_toArray,List.set_cons_zero,List.set_cons_succ]
     refine wpAnyL_step (i:=3) (by kernel_rfl) rfl (fun K hK=>?_)
     go_simp
     refine (vapply_any 6 op6' c o HU.out.2.2 HU.out.2.1 u2 _ S0).mono ?_
     rintro e yb0 ⟨rfl,hyb0⟩
     rw [<-HD.out]
     unfold nv
     go_wp2_with fail
     refine hK.out _ _ (fun _=>hyb0) ?_
     clear hK K
     refine wpAnyL_step (i:=4) (by kernel_rfl) rfl (fun K hK=>?_)
     go_simp
     refine (nmeet_any x d RX.out RD.out u2 _ hyb0).mono ?_
     rintro e yb1 ⟨rfl,hyb1⟩
     rw [<-HR.out]
     unfold nv
     go_wp2_with fail
     refine hK.out _ _ (fun _=>hyb1) ?_
     clear hK K
     refine wpAnyL_step (i:=5) (by kernel_rfl) rfl (fun K hK=>?_)
     replace ra:Hid _:=Ok.row' hyb1 ra.out
     replace rb:Hid _:=Ok.row' hyb1 rb.out
     replace rc:Hid _:=Ok.row' hyb1 rc.out
     replace rz:Hid _:=Ok.row' hyb1 rz.out
     have Hyb1:Hid (Ok w0 yb1):=Hu2.out.step hyb1
     obtain ⟨a0,a1,a2,a3,a4,a5,a6,a7,a8,a9⟩:=row5_facts ra.out
     go_simp
     refine hK.out _ _ (fun h=>absurd rfl h) ?_
     clear hK K
     refine wpAnyL_done (by kernel_rfl) ?_ _
     obtain ⟨Z2,hZ2⟩:∃ Z,Z=(((((yb1.setCell ⟨ga,0,none⟩ (.bool r.2.2.2.2)).setCell ⟨ga,1,none⟩ (.int .i64 r.1)).setCell ⟨ga,2,none⟩ (.int .i64 r.2.1)).setCell ⟨ga,3,none⟩ (.int .u64 (r.2.2.1:Int))).setCell ⟨ga,4,none⟩ (.int .u64 (r.2.2.2.1:Int))):=⟨_,rfl⟩
     obtain ⟨HZ2,raz,keep⟩:=(rows_put1 ra.out Hyb1.out (by omega) _ _ _ _ _ hZ2).out
     replace HZ2:Hid (Ok w0 Z2):=HZ2
     replace raz:Hid _:=raz
     replace rb:Hid _:=keep _ _ (by omega) rb.out
     replace rc:Hid _:=keep _ _ (by omega) rc.out
     replace rz:Hid _:=keep _ _ (by omega) rz.out
     rw [<-hZ2]
     clear hZ2 keep ra
     clear a0 a1 a2 a3 a4 a5 a6 a7 a8 a9
     have ra:Hid _:=raz
     clear raz
     obtain ⟨a0,a1,a2,a3,a4,a5,a6,a7,a8,a9⟩:=row5_facts ra.out
     obtain ⟨b0,b1,b2,b3,b4,b5,b6,b7,b8,b9⟩:=row5_facts rb.out
     obtain ⟨c0,c1,c2,c3,c4,c5,c6,c7,c8,c9⟩:=row5_facts rc.out
     obtain ⟨k0,k1,k2,k3,k4,k5,k6,k7,k8,k9⟩:=row5_facts rz.out
     go_wp2_with fail
     have hr:Hid _:=rz
     (try simp only [Exit.inBlock, Exit.then]); refine bodyPost_ret (results_cell_row rfl _ _ (gz) 29 #[_, _, _, _, _] (0, 0) _ rfl (row_set5 hr.out _ _ _ _ _) Tryz.underlying29 rfl infoN) rfl ?_
     exact ⟨rfl,Ok.set (Ok.set (Ok.set (Ok.set (Ok.set (HZ2.out) (show w0.heap.size<=gz by omega) _) (show w0.heap.size<=gz by omega) _) (show w0.heap.size<=gz by omega) _) (show w0.heap.size<=gz by omega) _) (show w0.heap.size<=gz by omega) _⟩
    ·have HA:Hid (r=x):=by unfold Hid;rw [HR.out];simp
     obtain ⟨a0,a1,a2,a3,a4,a5,a6,a7,a8,a9⟩:=row5_facts ra.out
     obtain ⟨b0,b1,b2,b3,b4,b5,b6,b7,b8,b9⟩:=row5_facts rb.out
     obtain ⟨c0,c1,c2,c3,c4,c5,c6,c7,c8,c9⟩:=row5_facts rc.out
     obtain ⟨k0,k1,k2,k3,k4,k5,k6,k7,k8,k9⟩:=row5_facts rz.out
     go_wp2_with fail
     have hr:Hid _:=rz
     (try simp only [Exit.inBlock, Exit.then]); refine bodyPost_ret (results_cell_row rfl _ _ (gz) 29 #[_, _, _, _, _] (0, 0) _ rfl (row_set5 hr.out _ _ _ _ _) Tryz.underlying29 rfl infoN) rfl ?_
     exact ⟨(by rw [HA.out]),Ok.set (Ok.set (Ok.set (Ok.set (Ok.set (Hu2.out) (show w0.heap.size<=gz by omega) _) (show w0.heap.size<=gz by omega) _) (show w0.heap.size<=gz by omega) _) (show w0.heap.size<=gz by omega) _) (show w0.heap.size<=gz by omega) _⟩
   ·have HA:Hid (r=x):=by unfold Hid;rw [HR.out];simp
    obtain ⟨a0,a1,a2,a3,a4,a5,a6,a7,a8,a9⟩:=row5_facts ra.out
    obtain ⟨b0,b1,b2,b3,b4,b5,b6,b7,b8,b9⟩:=row5_facts rb.out
    obtain ⟨c0,c1,c2,c3,c4,c5,c6,c7,c8,c9⟩:=row5_facts rc.out
    obtain ⟨k0,k1,k2,k3,k4,k5,k6,k7,k8,k9⟩:=row5_facts rz.out
    go_wp2_with fail
    have hr:Hid _:=rz
    (try simp only [Exit.inBlock, Exit.then]); refine bodyPost_ret (results_cell_row rfl _ _ (gz) 29 #[_, _, _, _, _] (0, 0) _ rfl (row_set5 hr.out _ _ _ _ _) Tryz.underlying29 rfl infoN) rfl ?_
    exact ⟨(by rw [HA.out]),Ok.set (Ok.set (Ok.set (Ok.set (Ok.set (Hw1.out) (show w0.heap.size<=gz by omega) _) (show w0.heap.size<=gz by omega) _) (show w0.heap.size<=gz by omega) _) (show w0.heap.size<=gz by omega) _) (show w0.heap.size<=gz by omega) _⟩
end
section
open Go.RowKit Go.Shelf
theorem w4_at {w:World} {g:Nat} {z0 z1 z2 z3:Int} (h:w.heap[g]?=some (wRow z0 z1 z2 z3)):∀ k (hk:k<[z0,z1,z2,z3].length),w.cell? ⟨g,k*2,none⟩=some (.int .i64 (hiW [z0,z1,z2,z3][k]))/\w.cell? ⟨g,k*2+1,none⟩=some (.int .u64 (loW [z0,z1,z2,z3][k]))/\g<w.heap.size:=by
 intro k hk
 have hg:=lt_row h
 unfold wRow at h
 have hk4:k=0\/k=1\/k=2\/k=3:=by simp only [List.length_cons,List.length_nil] at hk;omega
 rcases hk4 with rfl | rfl | rfl | rfl
 all_goals exact ⟨(cell_of_row w g _ _ _ _ h).trans (by simp),(cell_of_row w g _ _ _ _ h).trans (by simp),hg⟩
theorem wany_take {l:List Int} {k:Nat} (hk:k<l.length):(l.take (k+1)).any (fun x => !decide (In64 x))=((l.take k).any (fun x => !decide (In64 x)) || !decide (In64 l[k])):=by
 rw [List.take_succ_eq_append_getElem hk,List.any_append];simp
set_option maxRecDepth 100000 in
theorem vindex_any (z0 z1 z2 z3:Int) (g:Nat) (w:World) (hR:w.heap[g]?=some (wRow z0 z1 z2 z3)) :
  Calls Tryz.prog 160 #[.slice (some ⟨g,0,none⟩) 4 4,.func (Fn.func 90) #[] #[]] w fun e w'=>∃ z:Int,e=.returned (.int .i64 z)/\decide (0<=z)=[z0,z1,z2,z3].any (fun x => !decide (In64 x))/\Ok w w':=by
 obtain ⟨l,hl⟩:∃ l,l=[z0,z1,z2,z3]:=⟨_,rfl⟩
 have HR:Hid (∀ w1,Ok w w1->∀ k (hk:k<l.length),w1.cell? ⟨g,k*2,none⟩=some (.int .i64 (hiW l[k]))/\w1.cell? ⟨g,k*2+1,none⟩=some (.int .u64 (loW l[k]))/\g<w1.heap.size):=by
  intro w1 h1
  subst hl
  exact w4_at (Ok.row' h1 hR)
 obtain ⟨m,hmm⟩:∃ m,m=4:=⟨_,rfl⟩
 have HM:Hid (m=l.length):=by rw [hmm,hl];rfl
 rw [<-hl]
 clear hl
 obtain ⟨b,hbb⟩:∃ b,b=l.any (fun x => !decide (In64 x)):=⟨_,rfl⟩
 rw [<-hbb]
 have HBB:Hid _:=hbb
 clear hR hbb
 go_enter Tryz.func160,Tryz.ntmps160
 go_wp2_with fail
 go_loopw [8] (fun s8 wr=>∃ (k:Nat),k<=m/\s8=.int .i64 (k:Int)/\Hid ((l.take k).any (fun x => !decide (In64 x))=false)/\Hid (Ok w wr)) (fun s8 _=>m-(intOf s8).toNat)
 case atStart=>exact ⟨0,by omega,rfl,by unfold Hid;simp,Ok.refl w⟩
 case round =>
  obtain ⟨k,hk,rfl,HI,HK⟩:=hrel
  by_cases k3:k<m
  ·have k3i:(k:Int)<(m:Int):=by omega
   have k0i:(0:Int)<=(k:Int):=by omega
   obtain ⟨p0,p1,s2⟩:=HR.out wr HK.out k (by rw [<-HM.out];exact k3)
   obtain ⟨p,hp⟩:∃ p,p=(l[k]'(by rw [<-HM.out];exact k3)):=⟨_,rfl⟩
   have HT:Hid ((l.take (k+1)).any (fun x => !decide (In64 x))=(!decide (In64 p))):=by
    unfold Hid
    rw [wany_take (by rw [<-HM.out];exact k3),HI.out,hp];simp
   have HE:Hid ((!decide (In64 p))=true->b=true):=by
    intro h
    rw [HBB.out,List.any_eq_true]
    exact ⟨p,by rw [hp];exact List.getElem_mem _,h⟩
   rw [<-hp] at p0 p1
   clear hp
   have s0:=HK.out.le
   go_wp2_with fail
   refine (vfac1_any p wr _ (Ok.refl _)).mono ?_
   rintro e w4 ⟨rfl,hb⟩
   have Hw4:Hid (Ok w w4):=HK.out.step hb
   clear hb HK p0 p1 s0 s2
   rcases Bool.eq_false_or_eq_true (!decide (In64 p)) with hq | hq
   ·have HF:Hid (b=true):=HE.out hq
    rw [hq]
    clear HE HT hq
    go_wp2_with fail
    go_ret
    exact ⟨_,rfl,by rw [HF.out];exact decide_eq_true k0i,Hw4.out⟩
   ·have HF:Hid ((l.take (k+1)).any (fun x => !decide (In64 x))=false):=by unfold Hid;rw [HT.out];exact hq
    rw [hq]
    clear HE HT hq
    go_wp2_with fail
    exact ⟨⟨k+1,by omega,by simp,HF.out,Hw4.out⟩,by simp [intOf];omega⟩
  ·have k3e:k=m:=by omega
   subst k3e
   go_wp2_with fail
   go_ret
   refine ⟨_,rfl,?_,HK.out⟩
   rw [HBB.out]
   have h:=HI.out
   rw [List.take_of_length_le (by rw [<-HM.out];exact Nat.le_refl _)] at h
   rw [h];decide
set_option maxRecDepth 100000 in
theorem vcont_any (z0 z1 z2 z3:Int) (g:Nat) (w:World) (hR:w.heap[g]?=some (wRow z0 z1 z2 z3)) :
  Calls Tryz.prog 88 #[.slice (some ⟨g,0,none⟩) 4 4,.func (Fn.func 90) #[] #[]] w fun e w'=>e=.returned (.bool ([z0,z1,z2,z3].any (fun x => !decide (In64 x))))/\Ok w w':=by
 have HR:Hid (w.heap[g]?=some (wRow z0 z1 z2 z3)):=hR
 clear hR
 obtain ⟨b,hbb⟩:∃ b,b=[z0,z1,z2,z3].any (fun x => !decide (In64 x)):=⟨_,rfl⟩
 rw [<-hbb]
 have HBB:Hid _:=hbb
 clear hbb
 go_enter Tryz.func88,Tryz.ntmps88
 go_wp2_with fail
 refine (vindex_any z0 z1 z2 z3 g w HR.out).mono ?_
 rintro e w1 ⟨z,rfl,hz,hb⟩
 have HZ:Hid (decide (0<=z)=b):=by unfold Hid;rw [HBB.out];exact hz
 have Hb:Hid (Ok w w1):=hb
 clear hz hb
 go_wp2_with fail
 go_ret
 exact ⟨by rw [<-HZ.out];rfl,Hb.out⟩
end
section
open Go.RowKit Go.Deep Go.WideShapes Go.ChangeShapes
section
variable {H:Type} {enc:TypeId×Value->H} {w:World}
theorem ocellsU:Tryz.prog.cellsOf 25=1:=by kernel_rfl
theorem ocellsN:Tryz.prog.cellsOf 2=1:=by kernel_rfl
theorem ocellsB:Tryz.prog.cellsOf 4=1:=by kernel_rfl
theorem ocellsG:Tryz.prog.cellsOf 27=2:=by kernel_rfl
theorem ocellsI:Tryz.prog.cellsOf 24=2:=by kernel_rfl
theorem ocellsM:Tryz.prog.cellsOf 29=5:=by kernel_rfl
theorem owf64 {v:Int} (h:(Lit.int .i64 v).wf=true):In64 v:=by
 simp only [Lit.wf,IntKind.min,IntKind.max,Bool.and_eq_true,decide_eq_true_eq] at h
 exact ⟨by simpa [IntKind.signed,IntKind.bits] using h.1,by simpa [IntKind.signed,IntKind.bits] using h.2⟩
theorem owfU {v:Int} (h:(Lit.int .u64 v).wf=true):∃ n:Nat,v=(n:Int)/\U64 n:=by
 simp only [Lit.wf,IntKind.min,IntKind.max,Bool.and_eq_true,decide_eq_true_eq] at h
 have a:0<=v:=by simpa [IntKind.signed,IntKind.bits] using h.1
 have b:v<=18446744073709551615:=by simpa [IntKind.signed,IntKind.bits] using h.2
 exact ⟨v.toNat,by omega,by unfold U64;omega⟩
def ocgCells (M R:Nat):List Value:=[.int .u64 (M:Int),.int .u64 (R:Int)]
def oivCells (l h:Int):List Value:=[.int .i64 l,.int .i64 h]
def onCells (a:Int×Int×Nat×Nat×Bool):List Value:=[.bool a.2.2.2.2,.int .i64 a.1,.int .i64 a.2.1,.int .u64 (a.2.2.1:Int),.int .u64 (a.2.2.2.1:Int)]
def onData {H:Type} (a:Int×Int×Nat×Nat×Bool):DataW H:=.agg [.lit (.bool a.2.2.2.2),.agg [.lit (.int .i64 a.1),.lit (.int .i64 a.2.1)],.agg [.lit (.int .u64 (a.2.2.1:Int)),.lit (.int .u64 (a.2.2.2.1:Int))]]
set_option maxRecDepth 100000 in
theorem oopen_cgc {base fuel:Nat} {spare:Nat->Bool} {held:Bool} {cs:List Value} {x:DataW H×List MemPlace} (h:DataW.trod enc Tryz.prog w base spare held fuel 27 cs=some x) :
  ∃ M R:Nat,cs=ocgCells M R/\x=(.agg [.lit (.int .u64 (M:Int)),.lit (.int .u64 (R:Int))],[])/\U64 M/\U64 R:=by
 obtain ⟨xs,m,_,rfl,hl,hlen,hf⟩:=DataW.trod_struct Tryz.underlying27 h
 rw [ocellsG] at hl
 match xs,hlen,cs,hl with
 | [y0,y1],_,[c0,c1],_ =>
  have h0:DataW.trod enc Tryz.prog w base spare held m 25 (([c0,c1].drop 0).take (Tryz.prog.cellsOf 25))=some y0:=hf 0 _ rfl
  rw [ocellsU,show ([c0,c1].drop 0).take 1=[c0] from rfl] at h0
  have h1:DataW.trod enc Tryz.prog w base spare held m 25 (([c0,c1].drop 1).take (Tryz.prog.cellsOf 25))=some y1:=hf 1 _ rfl
  rw [ocellsU,show ([c0,c1].drop 1).take 1=[c1] from rfl] at h1
  obtain ⟨d,e0,r0,w0⟩:=DataW.trod_int Tryz.underlying25 h0
  obtain ⟨k,e1,r1,w1⟩:=DataW.trod_int Tryz.underlying25 h1
  simp only [List.cons.injEq,and_true] at e0 e1
  obtain ⟨M,rfl,u0⟩:=owfU w0
  obtain ⟨R,rfl,u1⟩:=owfU w1
  subst e0 e1 r0 r1
  exact ⟨M,R,rfl,rfl,u0,u1⟩
set_option maxRecDepth 100000 in
theorem oopen_ivc {base fuel:Nat} {spare:Nat->Bool} {held:Bool} {cs:List Value} {x:DataW H×List MemPlace} (h:DataW.trod enc Tryz.prog w base spare held fuel 24 cs=some x) :
  ∃ l h:Int,cs=oivCells l h/\x=(.agg [.lit (.int .i64 l),.lit (.int .i64 h)],[])/\In64 l/\In64 h:=by
 obtain ⟨xs,m,_,rfl,hl,hlen,hf⟩:=DataW.trod_struct Tryz.underlying24 h
 rw [ocellsI] at hl
 match xs,hlen,cs,hl with
 | [y0,y1],_,[c0,c1],_ =>
  have h0:DataW.trod enc Tryz.prog w base spare held m 2 (([c0,c1].drop 0).take (Tryz.prog.cellsOf 2))=some y0:=hf 0 _ rfl
  rw [ocellsN,show ([c0,c1].drop 0).take 1=[c0] from rfl] at h0
  have h1:DataW.trod enc Tryz.prog w base spare held m 2 (([c0,c1].drop 1).take (Tryz.prog.cellsOf 2))=some y1:=hf 1 _ rfl
  rw [ocellsN,show ([c0,c1].drop 1).take 1=[c1] from rfl] at h1
  obtain ⟨d,e0,r0,w0⟩:=DataW.trod_int Tryz.underlying2 h0
  obtain ⟨k,e1,r1,w1⟩:=DataW.trod_int Tryz.underlying2 h1
  simp only [List.cons.injEq,and_true] at e0 e1
  subst e0 e1 r0 r1
  exact ⟨d,k,rfl,rfl,owf64 w0,owf64 w1⟩
set_option maxRecDepth 100000 in
theorem oopen_nc {base fuel:Nat} {spare:Nat->Bool} {held:Bool} {cs:List Value} {x:DataW H×List MemPlace} (h:DataW.trod enc Tryz.prog w base spare held fuel 29 cs=some x) :
  ∃ a:Int×Int×Nat×Nat×Bool,cs=onCells a/\x=(onData a,[])/\RawN a:=by
 obtain ⟨xs,m,_,rfl,hl,hlen,hf⟩:=DataW.trod_struct Tryz.underlying29 h
 rw [ocellsM] at hl
 match xs,hlen,cs,hl with
 | [y0,y1,y2],_,[c0,c1,c2,c3,c4],_ =>
  have h0:DataW.trod enc Tryz.prog w base spare held m 4 (([c0,c1,c2,c3,c4].drop 0).take (Tryz.prog.cellsOf 4))=some y0:=hf 0 _ rfl
  have h1:DataW.trod enc Tryz.prog w base spare held m 24 (([c0,c1,c2,c3,c4].drop (Tryz.prog.cellsOf 4)).take (Tryz.prog.cellsOf 24))=some y1:=hf 1 _ rfl
  have h2:DataW.trod enc Tryz.prog w base spare held m 27 (([c0,c1,c2,c3,c4].drop (Tryz.prog.cellsOf 4+Tryz.prog.cellsOf 24)).take (Tryz.prog.cellsOf 27))=some y2:=hf 2 _ rfl
  rw [ocellsB,show ([c0,c1,c2,c3,c4].drop 0).take 1=[c0] from rfl] at h0
  rw [ocellsB,ocellsI,show ([c0,c1,c2,c3,c4].drop 1).take 2=[c1,c2] from rfl] at h1
  rw [ocellsB,ocellsI,ocellsG,show ([c0,c1,c2,c3,c4].drop (1+2)).take 2=[c3,c4] from rfl] at h2
  obtain ⟨b,e0,r0⟩:=DataW.trod_bool Tryz.underlying4 h0
  obtain ⟨lo,hi,e1,r1,i1,i2⟩:=oopen_ivc h1
  obtain ⟨M,R,e2,r2,u1,u2⟩:=oopen_cgc h2
  simp only [oivCells,ocgCells,List.cons.injEq,and_true] at e0 e1 e2
  obtain ⟨rfl,rfl⟩:=e1
  obtain ⟨rfl,rfl⟩:=e2
  subst e0 r0 r1 r2
  exact ⟨(lo,hi,M,R,b),rfl,rfl,i1,i2,u1,u2⟩
set_option maxRecDepth 100000 in
theorem open_num {r:Reach} {b0 base:Nat} {spare:Nat->Bool} {held:Bool} {v:Value} {d:DataW H} {ps:List MemPlace} (hval:Value.okWide Tryz.prog w r b0 29 v) (hd:DataW.Trod enc Tryz.prog w base spare held 29 v d ps) :
  ∃ a:Int×Int×Nat×Nat×Bool,v=nv a/\RawN a:=by
 obtain ⟨cs,rfl,_⟩:=okWide_struct Tryz.underlying29 hval
 obtain ⟨fuel,hf⟩:=hd
 obtain ⟨a,hp,_,h1⟩:=oopen_nc hf
 refine ⟨a,?_,h1⟩
 have:cs.toList=onCells a:=by simpa [Value.cells] using hp
 rw [show cs=(onCells a).toArray by rw [<-this]]
 rfl
end
end
section
open Go.RowKit Go.Deep Go.WideShapes Go.ChangeShapes
section
variable {H:Type} {enc:TypeId×Value->H} {w:World}
theorem ocellsP14:Tryz.prog.cellsOf 31=17:=by kernel_rfl
set_option maxRecDepth 100000 in
theorem oopen_case14 {r:Reach} {b0 base:Nat} {spare:Nat->Bool} {held:Bool} {v:Value} {d:DataW H} {ps:List MemPlace} (hval:Value.okWide Tryz.prog w r b0 31 v) (hd:DataW.Trod enc Tryz.prog w base spare held 31 v d ps) :
  ∃ (a b c:Int×Int×Nat×Nat×Bool) (x y:Int),v=.agg #[.bool a.2.2.2.2,.int .i64 a.1,.int .i64 a.2.1,.int .u64 (a.2.2.1:Int),.int .u64 (a.2.2.2.1:Int),.bool b.2.2.2.2,.int .i64 b.1,.int .i64 b.2.1,.int .u64 (b.2.2.1:Int),.int .u64 (b.2.2.2.1:Int),.bool c.2.2.2.2,.int .i64 c.1,.int .i64 c.2.1,.int .u64 (c.2.2.1:Int),.int .u64 (c.2.2.2.1:Int),.int .i64 x,.int .i64 y]/\RawN a/\RawN b/\RawN c/\In64 x/\In64 y:=by
 obtain ⟨cs,rfl,hcs⟩:=okWide_struct Tryz.underlying31 hval
 obtain ⟨fuel,hf⟩:=hd
 obtain ⟨xs,m,_,hxx,hl,hlen,hg⟩:=DataW.trod_struct Tryz.underlying31 hf
 have hl2:cs.toList.length=17:=by rw [ocellsP14] at hcs;simpa using hcs
 have hcc:(Value.agg cs).cells.toList=cs.toList:=by simp [Value.cells]
 obtain ⟨L,hL⟩:∃ L,L=cs.toList:=⟨_,rfl⟩
 have hca:cs=L.toArray:=by rw [hL]
 rw [<-hL] at hl2 hcc
 match xs,hlen,L,hl2 with
 | [y0,y1,y2,y3,y4],_,[c0,c1,c2,c3,c4,c5,c6,c7,c8,c9,c10,c11,c12,c13,c14,c15,c16],_ =>
  have h0:DataW.trod enc Tryz.prog w base spare held m 29 (((Value.agg cs).cells.toList.drop 0).take (Tryz.prog.cellsOf 29))=some y0:=hg 0 _ rfl
  have h1:DataW.trod enc Tryz.prog w base spare held m 29 (((Value.agg cs).cells.toList.drop (Tryz.prog.cellsOf 29)).take (Tryz.prog.cellsOf 29))=some y1:=hg 1 _ rfl
  have h2:DataW.trod enc Tryz.prog w base spare held m 29 (((Value.agg cs).cells.toList.drop (Tryz.prog.cellsOf 29+Tryz.prog.cellsOf 29)).take (Tryz.prog.cellsOf 29))=some y2:=hg 2 _ rfl
  have h3:DataW.trod enc Tryz.prog w base spare held m 2 (((Value.agg cs).cells.toList.drop (Tryz.prog.cellsOf 29+Tryz.prog.cellsOf 29+Tryz.prog.cellsOf 29)).take (Tryz.prog.cellsOf 2))=some y3:=hg 3 _ rfl
  have h4:DataW.trod enc Tryz.prog w base spare held m 2 (((Value.agg cs).cells.toList.drop (Tryz.prog.cellsOf 29+Tryz.prog.cellsOf 29+Tryz.prog.cellsOf 29+Tryz.prog.cellsOf 2)).take (Tryz.prog.cellsOf 2))=some y4:=hg 4 _ rfl
  rw [hcc,ocellsM] at h0 h1 h2
  rw [hcc,ocellsM,ocellsN] at h3 h4
  obtain ⟨a,e0,_,a1⟩:=oopen_nc h0
  obtain ⟨b,e1,_,a2⟩:=oopen_nc h1
  obtain ⟨c,e2,_,a3⟩:=oopen_nc h2
  obtain ⟨x,e3,_,w3⟩:=DataW.trod_int Tryz.underlying2 h3
  obtain ⟨y,e4,_,w4⟩:=DataW.trod_int Tryz.underlying2 h4
  simp [onCells] at e0 e1 e2 e3 e4
  obtain ⟨rfl,rfl,rfl,rfl,rfl⟩:=e0
  obtain ⟨rfl,rfl,rfl,rfl,rfl⟩:=e1
  obtain ⟨rfl,rfl,rfl,rfl,rfl⟩:=e2
  subst e3 e4
  refine ⟨a,b,c,x,y,?_,a1,a2,a3,owf64 w3,owf64 w4⟩
  rw [hca]
end
end
section
theorem xroot:True:=trivial
end
end Go.Proofs.YtnjmjnmhldhaoaaGreat
