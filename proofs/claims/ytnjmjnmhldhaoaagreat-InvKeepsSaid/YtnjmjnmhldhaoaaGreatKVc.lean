import Derived.Test.YtnjmjnmhldhaoaaGreatKNm
import Derived.Test.YtnjmjnmhldhaoaaGreatKVb
set_option maxHeartbeats 8000000
set_option linter.all false
namespace Go.Proofs.YtnjmjnmhldhaoaaGreat
section
open Go.RowKit Go.Shelf
theorem clip_raw (a b:Int):RawN (clipN a b):=by
 unfold clipN
 split
 ·exact bot_raw
 ·rename_i h
  refine make_raw ?_ ?_ u_one u_zero
  ·unfold In64;split<;>omega
  ·unfold In64;split<;>omega
theorem v126_in {z:Int} (h:In64 z):V126 z:=by unfold In64 at h;unfold V126;omega
def belN (a:Int×Int×Nat×Nat×Bool) (v:Int):Int×Int×Nat×Nat×Bool:=meetN a (clipN (-9223372036854775808) (v + -1))
def aboN (a:Int×Int×Nat×Nat×Bool) (v:Int):Int×Int×Nat×Nat×Bool:=meetN a (clipN (v+1) 9223372036854775807)
theorem bel_raw {a:Int×Int×Nat×Nat×Bool} (ha:RawN a) (v:Int):RawN (belN a v):=meetN_raw ha (clip_raw _ _)
theorem abo_raw {a:Int×Int×Nat×Nat×Bool} (ha:RawN a) (v:Int):RawN (aboN a v):=meetN_raw ha (clip_raw _ _)
def oneN (a:Int×Int×Nat×Nat×Bool):Bool := !a.2.2.2.2&&decide (a.1=a.2.1)
set_option maxRecDepth 100000 in
theorem vfrom_any (z:Int) (w0 w:World) (hok:Ok w0 w) :
  Calls Tryz.prog 99 #[wvv z] w fun e w'=>e=.returned (nv (clipN z 9223372036854775807))/\Ok w0 w':=by
 have hle:=hok.le
 obtain ⟨c,hc⟩:∃ t,t=clipN z 9223372036854775807:=⟨_,rfl⟩
 rw [<-hc]
 have HC:Hid _:=hc
 clear hc
 obtain ⟨m,hm⟩:∃ t:Int,t=9223372036854775807:=⟨_,rfl⟩
 have HM:Hid _:=hm
 clear hm
 unfold wvv
 go_enter Tryz.func99,Tryz.ntmps99
 go_wp2_with fail
 obtain ⟨W,hW⟩:∃ W,W=((w).alloc (.cells #[.int .i64 (hiW z),.int .u64 (loW z)] 104)).alloc (.cells #[.bool false,.int .i64 0,.int .i64 0,.int .u64 0,.int .u64 0] 29):=⟨_,rfl⟩
 have ra:Hid (W.heap[w.heap.size]?=some (.cells #[.int .i64 (hiW z),.int .u64 (loW z)] 104)):=by unfold Hid;rw [hW];exact jj
 have rz:Hid (W.heap[w.heap.size+1]?=some (.cells #[.bool false,.int .i64 0,.int .i64 0,.int .u64 0,.int .u64 0] 29)):=by unfold Hid;rw [hW];exact jj
 have HW:Hid (Ok w0 W):=by unfold Hid;rw [hW];exact (by repeat (first | exact hok | refine Ok.alloc ?_ _ | refine Ok.draws ?_ _ | fail))
 rw [<-hW]
 clear hW
 obtain ⟨gz,egz⟩:∃ g,g=w.heap.size+1:=⟨_,rfl⟩
 rw [<-egz] at rz ⊢
 obtain ⟨ga,ega⟩:∃ g,g=w.heap.size:=⟨_,rfl⟩
 rw [<-ega] at ra ⊢
 have lga:w0.heap.size<=ga:=by omega
 have ngagz:¬ga=gz:=by omega
 have lgz:w0.heap.size<=gz:=by omega
 have ngzga:¬gz=ga:=by omega
 clear ega egz
 obtain ⟨a0,a1,a2,a3⟩:=row_facts ra.out
 obtain ⟨k0,k1,k2,k3,k4,k5,k6,k7,k8,k9⟩:=row5_facts rz.out
 have za:=lt_row ra.out
 have bz:Ok W W:=Ok.refl _
 go_region_held3 (fun w'=>w'.cell? ⟨ga,0,none⟩=some (.int .i64 (hiW z))/\w'.cell? ⟨ga,1,none⟩=some (.int .u64 (loW z))) (go_keep)
  (first
  | (go_at_call 100;refine (vnumber_any _ max_in W _ (by repeat (first | assumption | refine Ok.alloc ?_ _ | refine Below.drew ?_))).mono ?_;rintro e w' ⟨rfl,hb⟩;rw [<-HM.out];unfold wvv;have q0:=Ok.cell hb za a0;have q1:=Ok.cell hb za a1;obtain ⟨k0,k1,k2,k3,k4,k5,k6,k7,k8,k9⟩:=row5_facts (Ok.row' hb rz.out))
  | (go_at_call 97;refine (vclipped_any z m W _ (by repeat (first | assumption | refine Ok.alloc ?_ _ | refine Below.drew ?_))).mono ?_;rintro e w' ⟨rfl,hb⟩;rw [show clipN z m=c by rw [HC.out,HM.out]];unfold nv;have q0:=Ok.cell hb za a0;have q1:=Ok.cell hb za a1;obtain ⟨k0,k1,k2,k3,k4,k5,k6,k7,k8,k9⟩:=row5_facts (Ok.row' hb rz.out))
  | fail)
 go_wp2_with fail
 have hr:Hid _:=Ok.row' hb rz.out
 (try simp only [Exit.inBlock, Exit.then]); refine bodyPost_ret (results_cell_row rfl _ _ (gz) 29 #[_, _, _, _, _] (0, 0) _ rfl (row_set5 hr.out _ _ _ _ _) Tryz.underlying29 rfl infoN) rfl ?_
 exact ⟨rfl,Ok.set (Ok.set (Ok.set (Ok.set (Ok.set (HW.out.step hb) (show w0.heap.size<=gz by omega) _) (show w0.heap.size<=gz by omega) _) (show w0.heap.size<=gz by omega) _) (show w0.heap.size<=gz by omega) _) (show w0.heap.size<=gz by omega) _⟩
set_option maxRecDepth 100000 in
theorem vupto_any (z:Int) (w0 w:World) (hok:Ok w0 w) :
  Calls Tryz.prog 102 #[wvv z] w fun e w'=>e=.returned (nv (clipN (-9223372036854775808) z))/\Ok w0 w':=by
 have hle:=hok.le
 obtain ⟨c,hc⟩:∃ t,t=clipN (-9223372036854775808) z:=⟨_,rfl⟩
 rw [<-hc]
 have HC:Hid _:=hc
 clear hc
 obtain ⟨m,hm⟩:∃ t:Int,t=(-9223372036854775808):=⟨_,rfl⟩
 have HM:Hid _:=hm
 clear hm
 unfold wvv
 go_enter Tryz.func102,Tryz.ntmps102
 go_wp2_with fail
 obtain ⟨W,hW⟩:∃ W,W=((w).alloc (.cells #[.int .i64 (hiW z),.int .u64 (loW z)] 104)).alloc (.cells #[.bool false,.int .i64 0,.int .i64 0,.int .u64 0,.int .u64 0] 29):=⟨_,rfl⟩
 have ra:Hid (W.heap[w.heap.size]?=some (.cells #[.int .i64 (hiW z),.int .u64 (loW z)] 104)):=by unfold Hid;rw [hW];exact jj
 have rz:Hid (W.heap[w.heap.size+1]?=some (.cells #[.bool false,.int .i64 0,.int .i64 0,.int .u64 0,.int .u64 0] 29)):=by unfold Hid;rw [hW];exact jj
 have HW:Hid (Ok w0 W):=by unfold Hid;rw [hW];exact (by repeat (first | exact hok | refine Ok.alloc ?_ _ | refine Ok.draws ?_ _ | fail))
 rw [<-hW]
 clear hW
 obtain ⟨gz,egz⟩:∃ g,g=w.heap.size+1:=⟨_,rfl⟩
 rw [<-egz] at rz ⊢
 obtain ⟨ga,ega⟩:∃ g,g=w.heap.size:=⟨_,rfl⟩
 rw [<-ega] at ra ⊢
 have lga:w0.heap.size<=ga:=by omega
 have ngagz:¬ga=gz:=by omega
 have lgz:w0.heap.size<=gz:=by omega
 have ngzga:¬gz=ga:=by omega
 clear ega egz
 obtain ⟨a0,a1,a2,a3⟩:=row_facts ra.out
 obtain ⟨k0,k1,k2,k3,k4,k5,k6,k7,k8,k9⟩:=row5_facts rz.out
 have za:=lt_row ra.out
 have bz:Ok W W:=Ok.refl _
 go_region_held3 (fun w'=>w'.cell? ⟨ga,0,none⟩=some (.int .i64 (hiW z))/\w'.cell? ⟨ga,1,none⟩=some (.int .u64 (loW z))) (go_keep)
  (first
  | (go_at_call 100;refine (vnumber_any _ min_in W _ (by repeat (first | assumption | refine Ok.alloc ?_ _ | refine Below.drew ?_))).mono ?_;rintro e w' ⟨rfl,hb⟩;rw [<-HM.out];unfold wvv;have q0:=Ok.cell hb za a0;have q1:=Ok.cell hb za a1;obtain ⟨k0,k1,k2,k3,k4,k5,k6,k7,k8,k9⟩:=row5_facts (Ok.row' hb rz.out))
  | (go_at_call 97;refine (vclipped_any m z W _ (by repeat (first | assumption | refine Ok.alloc ?_ _ | refine Below.drew ?_))).mono ?_;rintro e w' ⟨rfl,hb⟩;rw [show clipN m z=c by rw [HC.out,HM.out]];unfold nv;have q0:=Ok.cell hb za a0;have q1:=Ok.cell hb za a1;obtain ⟨k0,k1,k2,k3,k4,k5,k6,k7,k8,k9⟩:=row5_facts (Ok.row' hb rz.out))
  | fail)
 go_wp2_with fail
 have hr:Hid _:=Ok.row' hb rz.out
 (try simp only [Exit.inBlock, Exit.then]); refine bodyPost_ret (results_cell_row rfl _ _ (gz) 29 #[_, _, _, _, _] (0, 0) _ rfl (row_set5 hr.out _ _ _ _ _) Tryz.underlying29 rfl infoN) rfl ?_
 exact ⟨rfl,Ok.set (Ok.set (Ok.set (Ok.set (Ok.set (HW.out.step hb) (show w0.heap.size<=gz by omega) _) (show w0.heap.size<=gz by omega) _) (show w0.heap.size<=gz by omega) _) (show w0.heap.size<=gz by omega) _) (show w0.heap.size<=gz by omega) _⟩
set_option maxRecDepth 100000 in
theorem vbelow_any (a:Int×Int×Nat×Nat×Bool) (v:Int) (ha:RawN a) (hv:In64 v) (w0 w:World) (hok:Ok w0 w) :
  Calls Tryz.prog 110 #[nv a,.int .i64 v] w fun e w'=>e=.returned (nv (belN a v))/\Ok w0 w':=by
 have hle:=hok.le
 have HU:Hid (RawN a/\In64 v):=⟨ha,hv⟩
 clear ha hv
 unfold belN
 obtain ⟨c,hc⟩:∃ t,t=clipN (-9223372036854775808) (v + -1):=⟨_,rfl⟩
 have RC:Hid (RawN c):=by rw [hc];exact clip_raw _ _
 rw [<-hc]
 obtain ⟨m,hm⟩:∃ t,t=meetN a c:=⟨_,rfl⟩
 rw [<-hm]
 have HC:Hid _:=hc
 have HM:Hid _:=hm
 clear hc hm
 obtain ⟨s,hs⟩:∃ t,t=v + -1:=⟨_,rfl⟩
 have HS:Hid _:=hs
 clear hs
 unfold nv
 go_enter Tryz.func110,Tryz.ntmps110
 go_wp2_with fail
 obtain ⟨W,hW⟩:∃ W,W=((w).alloc (.cells #[.bool a.2.2.2.2,.int .i64 a.1,.int .i64 a.2.1,.int .u64 (a.2.2.1:Int),.int .u64 (a.2.2.2.1:Int)] 29)).alloc (.cells #[.bool false,.int .i64 0,.int .i64 0,.int .u64 0,.int .u64 0] 29):=⟨_,rfl⟩
 have ra:Hid (W.heap[w.heap.size]?=some (.cells #[.bool a.2.2.2.2,.int .i64 a.1,.int .i64 a.2.1,.int .u64 (a.2.2.1:Int),.int .u64 (a.2.2.2.1:Int)] 29)):=by unfold Hid;rw [hW];exact jj
 have rz:Hid (W.heap[w.heap.size+1]?=some (.cells #[.bool false,.int .i64 0,.int .i64 0,.int .u64 0,.int .u64 0] 29)):=by unfold Hid;rw [hW];exact jj
 have HW:Hid (Ok w0 W):=by unfold Hid;rw [hW];exact (by repeat (first | exact hok | refine Ok.alloc ?_ _ | refine Ok.draws ?_ _ | fail))
 rw [<-hW]
 clear hW
 obtain ⟨gz,egz⟩:∃ g,g=w.heap.size+1:=⟨_,rfl⟩
 rw [<-egz] at rz ⊢
 obtain ⟨ga,ega⟩:∃ g,g=w.heap.size:=⟨_,rfl⟩
 rw [<-ega] at ra ⊢
 have lga:w0.heap.size<=ga:=by omega
 have ngagz:¬ga=gz:=by omega
 have lgz:w0.heap.size<=gz:=by omega
 have ngzga:¬gz=ga:=by omega
 clear ega egz
 obtain ⟨a0,a1,a2,a3,a4,a5,a6,a7,a8,a9⟩:=row5_facts ra.out
 obtain ⟨k0,k1,k2,k3,k4,k5,k6,k7,k8,k9⟩:=row5_facts rz.out
 have za:=lt_row ra.out
 have bz:Ok W W:=Ok.refl _
 go_region_held3 (fun w'=>w'.cell? ⟨ga,0,none⟩=some (.bool a.2.2.2.2)/\w'.cell? ⟨ga,1,none⟩=some (.int .i64 a.1)/\w'.cell? ⟨ga,2,none⟩=some (.int .i64 a.2.1)/\w'.cell? ⟨ga,3,none⟩=some (.int .u64 (a.2.2.1:Int))/\w'.cell? ⟨ga,4,none⟩=some (.int .u64 (a.2.2.2.1:Int))) (go_keep)
  (first
  | (go_at_call 100;refine (vnumber_any v HU.out.2 W _ (by repeat (first | assumption | refine Ok.alloc ?_ _ | refine Below.drew ?_))).mono ?_;rintro e w' ⟨rfl,hb⟩;unfold wvv;have q0:=Ok.cell hb za a0;have q1:=Ok.cell hb za a1;have q2:=Ok.cell hb za a2;have q3:=Ok.cell hb za a3;have q4:=Ok.cell hb za a4;obtain ⟨k0,k1,k2,k3,k4,k5,k6,k7,k8,k9⟩:=row5_facts (Ok.row' hb rz.out))
  | (go_at_call 98;refine (vplus_any v (-1) (v126_in HU.out.2) mone_in W _ (by repeat (first | assumption | refine Ok.alloc ?_ _ | refine Below.drew ?_))).mono ?_;rintro e w' ⟨rfl,hb⟩;rw [<-HS.out];unfold wvv;have q0:=Ok.cell hb za a0;have q1:=Ok.cell hb za a1;have q2:=Ok.cell hb za a2;have q3:=Ok.cell hb za a3;have q4:=Ok.cell hb za a4;obtain ⟨k0,k1,k2,k3,k4,k5,k6,k7,k8,k9⟩:=row5_facts (Ok.row' hb rz.out))
  | (go_at_call 102;refine (vupto_any s W _ (by repeat (first | assumption | refine Ok.alloc ?_ _ | refine Below.drew ?_))).mono ?_;rintro e w' ⟨rfl,hb⟩;rw [show clipN (-9223372036854775808) s=c by rw [HC.out,HS.out]];unfold nv;have q0:=Ok.cell hb za a0;have q1:=Ok.cell hb za a1;have q2:=Ok.cell hb za a2;have q3:=Ok.cell hb za a3;have q4:=Ok.cell hb za a4;obtain ⟨k0,k1,k2,k3,k4,k5,k6,k7,k8,k9⟩:=row5_facts (Ok.row' hb rz.out))
  | (go_at_call 41;refine (nmeet_any a c HU.out.1 RC.out W _ (by repeat (first | assumption | refine Ok.alloc ?_ _ | refine Below.drew ?_))).mono ?_;rintro e w' ⟨rfl,hb⟩;rw [<-HM.out];unfold nv;have q0:=Ok.cell hb za a0;have q1:=Ok.cell hb za a1;have q2:=Ok.cell hb za a2;have q3:=Ok.cell hb za a3;have q4:=Ok.cell hb za a4;obtain ⟨k0,k1,k2,k3,k4,k5,k6,k7,k8,k9⟩:=row5_facts (Ok.row' hb rz.out))
  | fail)
 go_wp2_with fail
 have hr:Hid _:=Ok.row' hb rz.out
 (try simp only [Exit.inBlock, Exit.then]); refine bodyPost_ret (results_cell_row rfl _ _ (gz) 29 #[_, _, _, _, _] (0, 0) _ rfl (row_set5 hr.out _ _ _ _ _) Tryz.underlying29 rfl infoN) rfl ?_
 exact ⟨rfl,Ok.set (Ok.set (Ok.set (Ok.set (Ok.set (HW.out.step hb) (show w0.heap.size<=gz by omega) _) (show w0.heap.size<=gz by omega) _) (show w0.heap.size<=gz by omega) _) (show w0.heap.size<=gz by omega) _) (show w0.heap.size<=gz by omega) _⟩
set_option maxRecDepth 100000 in
theorem vabove_any (a:Int×Int×Nat×Nat×Bool) (v:Int) (ha:RawN a) (hv:In64 v) (w0 w:World) (hok:Ok w0 w) :
  Calls Tryz.prog 111 #[nv a,.int .i64 v] w fun e w'=>e=.returned (nv (aboN a v))/\Ok w0 w':=by
 have hle:=hok.le
 have HU:Hid (RawN a/\In64 v):=⟨ha,hv⟩
 clear ha hv
 unfold aboN
 obtain ⟨c,hc⟩:∃ t,t=clipN (v+1) 9223372036854775807:=⟨_,rfl⟩
 have RC:Hid (RawN c):=by rw [hc];exact clip_raw _ _
 rw [<-hc]
 obtain ⟨m,hm⟩:∃ t,t=meetN a c:=⟨_,rfl⟩
 rw [<-hm]
 have HC:Hid _:=hc
 have HM:Hid _:=hm
 clear hc hm
 obtain ⟨s,hs⟩:∃ t,t=v+1:=⟨_,rfl⟩
 have HS:Hid _:=hs
 clear hs
 unfold nv
 go_enter Tryz.func111,Tryz.ntmps111
 go_wp2_with fail
 obtain ⟨W,hW⟩:∃ W,W=((w).alloc (.cells #[.bool a.2.2.2.2,.int .i64 a.1,.int .i64 a.2.1,.int .u64 (a.2.2.1:Int),.int .u64 (a.2.2.2.1:Int)] 29)).alloc (.cells #[.bool false,.int .i64 0,.int .i64 0,.int .u64 0,.int .u64 0] 29):=⟨_,rfl⟩
 have ra:Hid (W.heap[w.heap.size]?=some (.cells #[.bool a.2.2.2.2,.int .i64 a.1,.int .i64 a.2.1,.int .u64 (a.2.2.1:Int),.int .u64 (a.2.2.2.1:Int)] 29)):=by unfold Hid;rw [hW];exact jj
 have rz:Hid (W.heap[w.heap.size+1]?=some (.cells #[.bool false,.int .i64 0,.int .i64 0,.int .u64 0,.int .u64 0] 29)):=by unfold Hid;rw [hW];exact jj
 have HW:Hid (Ok w0 W):=by unfold Hid;rw [hW];exact (by repeat (first | exact hok | refine Ok.alloc ?_ _ | refine Ok.draws ?_ _ | fail))
 rw [<-hW]
 clear hW
 obtain ⟨gz,egz⟩:∃ g,g=w.heap.size+1:=⟨_,rfl⟩
 rw [<-egz] at rz ⊢
 obtain ⟨ga,ega⟩:∃ g,g=w.heap.size:=⟨_,rfl⟩
 rw [<-ega] at ra ⊢
 have lga:w0.heap.size<=ga:=by omega
 have ngagz:¬ga=gz:=by omega
 have lgz:w0.heap.size<=gz:=by omega
 have ngzga:¬gz=ga:=by omega
 clear ega egz
 obtain ⟨a0,a1,a2,a3,a4,a5,a6,a7,a8,a9⟩:=row5_facts ra.out
 obtain ⟨k0,k1,k2,k3,k4,k5,k6,k7,k8,k9⟩:=row5_facts rz.out
 have za:=lt_row ra.out
 have bz:Ok W W:=Ok.refl _
 go_region_held3 (fun w'=>w'.cell? ⟨ga,0,none⟩=some (.bool a.2.2.2.2)/\w'.cell? ⟨ga,1,none⟩=some (.int .i64 a.1)/\w'.cell? ⟨ga,2,none⟩=some (.int .i64 a.2.1)/\w'.cell? ⟨ga,3,none⟩=some (.int .u64 (a.2.2.1:Int))/\w'.cell? ⟨ga,4,none⟩=some (.int .u64 (a.2.2.2.1:Int))) (go_keep)
  (first
  | (go_at_call 100;refine (vnumber_any v HU.out.2 W _ (by repeat (first | assumption | refine Ok.alloc ?_ _ | refine Below.drew ?_))).mono ?_;rintro e w' ⟨rfl,hb⟩;unfold wvv;have q0:=Ok.cell hb za a0;have q1:=Ok.cell hb za a1;have q2:=Ok.cell hb za a2;have q3:=Ok.cell hb za a3;have q4:=Ok.cell hb za a4;obtain ⟨k0,k1,k2,k3,k4,k5,k6,k7,k8,k9⟩:=row5_facts (Ok.row' hb rz.out))
  | (go_at_call 98;refine (vplus_any v 1 (v126_in HU.out.2) one_in W _ (by repeat (first | assumption | refine Ok.alloc ?_ _ | refine Below.drew ?_))).mono ?_;rintro e w' ⟨rfl,hb⟩;rw [<-HS.out];unfold wvv;have q0:=Ok.cell hb za a0;have q1:=Ok.cell hb za a1;have q2:=Ok.cell hb za a2;have q3:=Ok.cell hb za a3;have q4:=Ok.cell hb za a4;obtain ⟨k0,k1,k2,k3,k4,k5,k6,k7,k8,k9⟩:=row5_facts (Ok.row' hb rz.out))
  | (go_at_call 99;refine (vfrom_any s W _ (by repeat (first | assumption | refine Ok.alloc ?_ _ | refine Below.drew ?_))).mono ?_;rintro e w' ⟨rfl,hb⟩;rw [show clipN s 9223372036854775807=c by rw [HC.out,HS.out]];unfold nv;have q0:=Ok.cell hb za a0;have q1:=Ok.cell hb za a1;have q2:=Ok.cell hb za a2;have q3:=Ok.cell hb za a3;have q4:=Ok.cell hb za a4;obtain ⟨k0,k1,k2,k3,k4,k5,k6,k7,k8,k9⟩:=row5_facts (Ok.row' hb rz.out))
  | (go_at_call 41;refine (nmeet_any a c HU.out.1 RC.out W _ (by repeat (first | assumption | refine Ok.alloc ?_ _ | refine Below.drew ?_))).mono ?_;rintro e w' ⟨rfl,hb⟩;rw [<-HM.out];unfold nv;have q0:=Ok.cell hb za a0;have q1:=Ok.cell hb za a1;have q2:=Ok.cell hb za a2;have q3:=Ok.cell hb za a3;have q4:=Ok.cell hb za a4;obtain ⟨k0,k1,k2,k3,k4,k5,k6,k7,k8,k9⟩:=row5_facts (Ok.row' hb rz.out))
  | fail)
 go_wp2_with fail
 have hr:Hid _:=Ok.row' hb rz.out
 (try simp only [Exit.inBlock, Exit.then]); refine bodyPost_ret (results_cell_row rfl _ _ (gz) 29 #[_, _, _, _, _] (0, 0) _ rfl (row_set5 hr.out _ _ _ _ _) Tryz.underlying29 rfl infoN) rfl ?_
 exact ⟨rfl,Ok.set (Ok.set (Ok.set (Ok.set (Ok.set (HW.out.step hb) (show w0.heap.size<=gz by omega) _) (show w0.heap.size<=gz by omega) _) (show w0.heap.size<=gz by omega) _) (show w0.heap.size<=gz by omega) _) (show w0.heap.size<=gz by omega) _⟩
set_option maxRecDepth 100000 in
theorem vsingle_any (a:Int×Int×Nat×Nat×Bool) (w0 w:World) (hok:Ok w0 w) :
  Calls Tryz.prog 103 #[nv a] w fun e w'=>e=.returned (.tuple #[.int .i64 a.1,.bool (oneN a)])/\Ok w0 w':=by
 have hle:=hok.le
 obtain ⟨l,h,M,R,B⟩:=a
 obtain ⟨o,ho⟩:∃ t,t=oneN (l,h,M,R,B):=⟨_,rfl⟩
 rw [<-ho]
 have HO:Hid _:=ho
 clear ho
 unfold nv
 simp only
 cases B
 ·by_cases he:l=h
  ·have E:Hid (o=true):=by unfold Hid;rw [HO.out];unfold oneN;simp [he]
   clear HO
   have k:decide (l=h)=true:=by simpa using he
   have k2:(l==h)=true:=by simpa using he
   clear he
   go_enter Tryz.func103,Tryz.ntmps103
   go_wp2_with fail
   obtain ⟨W,hW⟩:∃ W,W=(w).alloc (.cells #[.bool false,.int .i64 l,.int .i64 h,.int .u64 (M:Int),.int .u64 (R:Int)] 29):=⟨_,rfl⟩
   have ra:Hid (W.heap[w.heap.size]?=some (.cells #[.bool false,.int .i64 l,.int .i64 h,.int .u64 (M:Int),.int .u64 (R:Int)] 29)):=by unfold Hid;rw [hW];exact jj
   have HW:Hid (Ok w0 W):=by unfold Hid;rw [hW];exact (by repeat (first | exact hok | refine Ok.alloc ?_ _ | refine Ok.draws ?_ _ | fail))
   rw [<-hW]
   clear hW
   obtain ⟨ga,ega⟩:∃ g,g=w.heap.size:=⟨_,rfl⟩
   rw [<-ega] at ra ⊢
   have lga:w0.heap.size<=ga:=by omega
   clear ega
   obtain ⟨a0,a1,a2,a3,a4,a5,a6,a7,a8,a9⟩:=row5_facts ra.out
   go_region
   all_goals (go_wp2_with fail)
   all_goals (refine bodyPost_ret (results_tmp2 rfl _ _ _) rfl ?_)
   all_goals (refine ⟨?_,?_⟩)
   all_goals first | (rw [E.out];done) | (rw [E.out];rfl) | exact HW.out.step (Below.drew (Ok.refl W)) | exact HW.out
  ·have E:Hid (o=false):=by unfold Hid;rw [HO.out];unfold oneN;simp [he]
   clear HO
   have k:decide (l=h)=false:=by simpa using he
   have k2:(l==h)=false:=by simpa using he
   clear he
   go_enter Tryz.func103,Tryz.ntmps103
   go_wp2_with fail
   obtain ⟨W,hW⟩:∃ W,W=(w).alloc (.cells #[.bool false,.int .i64 l,.int .i64 h,.int .u64 (M:Int),.int .u64 (R:Int)] 29):=⟨_,rfl⟩
   have ra:Hid (W.heap[w.heap.size]?=some (.cells #[.bool false,.int .i64 l,.int .i64 h,.int .u64 (M:Int),.int .u64 (R:Int)] 29)):=by unfold Hid;rw [hW];exact jj
   have HW:Hid (Ok w0 W):=by unfold Hid;rw [hW];exact (by repeat (first | exact hok | refine Ok.alloc ?_ _ | refine Ok.draws ?_ _ | fail))
   rw [<-hW]
   clear hW
   obtain ⟨ga,ega⟩:∃ g,g=w.heap.size:=⟨_,rfl⟩
   rw [<-ega] at ra ⊢
   have lga:w0.heap.size<=ga:=by omega
   clear ega
   obtain ⟨a0,a1,a2,a3,a4,a5,a6,a7,a8,a9⟩:=row5_facts ra.out
   go_region
   all_goals (go_wp2_with fail)
   all_goals (refine bodyPost_ret (results_tmp2 rfl _ _ _) rfl ?_)
   all_goals (refine ⟨?_,?_⟩)
   all_goals first | (rw [E.out];done) | (rw [E.out];rfl) | exact HW.out.step (Below.drew (Ok.refl W)) | exact HW.out
 ·have E:Hid (o=false):=by unfold Hid;rw [HO.out];unfold oneN;simp
  clear HO
  go_enter Tryz.func103,Tryz.ntmps103
  go_wp2_with fail
  obtain ⟨W,hW⟩:∃ W,W=(w).alloc (.cells #[.bool true,.int .i64 l,.int .i64 h,.int .u64 (M:Int),.int .u64 (R:Int)] 29):=⟨_,rfl⟩
  have ra:Hid (W.heap[w.heap.size]?=some (.cells #[.bool true,.int .i64 l,.int .i64 h,.int .u64 (M:Int),.int .u64 (R:Int)] 29)):=by unfold Hid;rw [hW];exact jj
  have HW:Hid (Ok w0 W):=by unfold Hid;rw [hW];exact (by repeat (first | exact hok | refine Ok.alloc ?_ _ | refine Ok.draws ?_ _ | fail))
  rw [<-hW]
  clear hW
  obtain ⟨ga,ega⟩:∃ g,g=w.heap.size:=⟨_,rfl⟩
  rw [<-ega] at ra ⊢
  have lga:w0.heap.size<=ga:=by omega
  clear ega
  obtain ⟨a0,a1,a2,a3,a4,a5,a6,a7,a8,a9⟩:=row5_facts ra.out
  go_region
  all_goals (go_wp2_with fail)
  all_goals (refine bodyPost_ret (results_tmp2 rfl _ _ _) rfl ?_)
  all_goals (refine ⟨?_,?_⟩)
  all_goals first | (rw [E.out];done) | (rw [E.out];rfl) | exact HW.out.step (Below.drew (Ok.refl W)) | exact HW.out
def unlN (a b:Int×Int×Nat×Nat×Bool):Int×Int×Nat×Nat×Bool :=
 if oneN b=true then (if (if a.1=b.1 then aboN a b.1 else a).2.1=b.1 then belN (if a.1=b.1 then aboN a b.1 else a) b.1 else (if a.1=b.1 then aboN a b.1 else a)) else a
end
end Go.Proofs.YtnjmjnmhldhaoaaGreat
