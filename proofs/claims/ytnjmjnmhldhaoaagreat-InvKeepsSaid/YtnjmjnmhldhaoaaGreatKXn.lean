import Derived.Deep.Cut
import Derived.Deep.CutRange
import Derived.Test.YtnjmjnmhldhaoaaGreatKXi
import Derived.Test.YtnjmjnmhldhaoaaGreatKXk
set_option maxHeartbeats 8000000
set_option linter.all false
namespace Go.Proofs.YtnjmjnmhldhaoaaGreat
open Go.RowKit Go.Shelf
theorem nz_lo {y:Int×Int×Nat×Nat×Bool} (hy:RawN y) (h:(nonZeroN y).2.2.2.2=false):(nonZeroN y).1≠0:=by
 intro e
 rcases nonZeroN_norm hy with c | n
 ·rw [c] at h;cases h
 ·have m:MemN (nonZeroN y) (nonZeroN y).1:=⟨n.1,Int.le_refl _,n.2.2.2.1,n.2.2.2.2.1⟩
  rw [e] at m
  have k:=(nzRaw_mem (normN_raw hy) in_zero).1 m
  have f:=k.2 rfl
  rcases normN_norm hy with c | q
  ·have:=k.1.1;rw [c] at this;cases this
  ·have m1:MemN (normN y) (normN y).1:=⟨q.1,Int.le_refl _,q.2.2.2.1,q.2.2.2.2.1⟩
   have m2:MemN (nonZeroN y) (normN y).1:=(nzRaw_mem (normN_raw hy) q.2.1).2 ⟨m1,fun h=>absurd h f.1⟩
   have a1:=m2.2.1;have a2:=k.1.2.1
   rw [e] at a1
   exact f.1 (by omega)
set_option maxRecDepth 100000 in
theorem vsol1 (x y z:Int×Int×Nat×Nat×Bool) (hx:RawN x) (hy:RawN y) (hz:RawN z) (ga gc:Nat) (w:World) (ra0:w.heap[ga]?=some (.cells #[.bool x.2.2.2.2,.int .i64 x.1,.int .i64 x.2.1,.int .u64 (x.2.2.1:Int),.int .u64 (x.2.2.2.1:Int)] 29)) (rc0:w.heap[gc]?=some (.cells #[.bool z.2.2.2.2,.int .i64 z.1,.int .i64 z.2.1,.int .u64 (z.2.2.1:Int),.int .u64 (z.2.2.2.1:Int)] 29)) :
  Calls Tryz.prog 40 #[.pointer (some ⟨ga,0,none⟩),.pointer (some ⟨gc,0,none⟩)] w fun e w'=>e=.returned (.tuple #[nv (meetN x (apN 1 z z)),nv (topN)])/\Ok w w':=by
 have HU:Hid (RawN x/\RawN y/\RawN z):=⟨hx,hy,hz⟩
 clear hx hy hz
 obtain ⟨l,hl⟩:∃ t,t=meetN x (apN 1 z z):=⟨_,rfl⟩
 have HL:Hid _:=hl
 clear hl
 obtain ⟨r,hr⟩:∃ t,t=topN:=⟨_,rfl⟩
 have HR:Hid _:=hr
 clear hr
 rw [<-HL.out,<-HR.out]
 have ra:Hid _:=ra0
 have ha:=lt_row ra0
 have rc:Hid _:=rc0
 have hc:=lt_row rc0
 clear ra0 rc0
 have hle:=Nat.le_refl w.heap.size
 unfold nv
 go_enter Tryz.func40,Tryz.ntmps40
 go_upto_region 1 with (fail)
 obtain ⟨W,hW⟩:∃ W,W=((w).alloc (.cells #[.bool false,.int .i64 0,.int .i64 0,.int .u64 0,.int .u64 0] 29)).alloc (.cells #[.bool false,.int .i64 0,.int .i64 0,.int .u64 0,.int .u64 0] 29):=⟨_,rfl⟩
 have rl:Hid (W.heap[w.heap.size]?=some (.cells #[.bool false,.int .i64 0,.int .i64 0,.int .u64 0,.int .u64 0] 29)):=by unfold Hid;rw [hW];exact jj
 have rr:Hid (W.heap[w.heap.size+1]?=some (.cells #[.bool false,.int .i64 0,.int .i64 0,.int .u64 0,.int .u64 0] 29)):=by unfold Hid;rw [hW];exact jj
 have HW:Hid (Ok w W):=by unfold Hid;rw [hW];exact ((Ok.refl _).alloc _).alloc _
 rw [<-hW]
 clear hW
 replace ra:Hid _:=Ok.row' HW.out ra.out
 replace rc:Hid _:=Ok.row' HW.out rc.out
 obtain ⟨gr,egr⟩:∃ g,g=w.heap.size+1:=⟨_,rfl⟩
 rw [<-egr] at rr ⊢
 obtain ⟨gl,egl⟩:∃ g,g=w.heap.size:=⟨_,rfl⟩
 rw [<-egl] at rl ⊢
 have lgl:w.heap.size<=gl:=by omega
 have nglgr:¬gl=gr:=by omega
 have lgr:w.heap.size<=gr:=by omega
 have ngrgl:¬gr=gl:=by omega
 have ngagl:¬ga=gl:=by omega
 have ngagr:¬ga=gr:=by omega
 have ngcgl:¬gc=gl:=by omega
 have ngcgr:¬gc=gr:=by omega
 clear egl egr
 obtain ⟨p,hp⟩:∃ t,t=apN 1 z z:=⟨_,rfl⟩
 have HP:Hid _:=hp
 clear hp
 have RP:Hid (RawN p):=by rw [HP.out];exact apN_raw op1 HU.out.2.2 HU.out.2.2
 rw [<-HP.out] at HL
 obtain ⟨D,hD⟩:∃ z,z=W.drew:=⟨_,rfl⟩
 have S0:Ok W D:=by rw [hD];exact Below.drew (Ok.refl _)
 refine wp_region_T (fun Y=>Ok W Y) 6 (by kernel_rfl) ?_
 rw [<-hD]
 clear hD
 refine tT 0 (.agg #[.bool x.2.2.2.2,.int .i64 x.1,.int .i64 x.2.1,.int .u64 (x.2.2.1:Int),.int .u64 (x.2.2.2.1:Int)]) S0 ?_ ?_
 ·exact fun w' hS=>yN (Ok.row' hS ra.out)
 refine tT 1 (.agg #[.bool z.2.2.2.2,.int .i64 z.1,.int .i64 z.2.1,.int .u64 (z.2.2.1:Int),.int .u64 (z.2.2.2.1:Int)]) S0 ?_ ?_
 ·exact fun w' hS=>yN (Ok.row' hS rc.out)
 refine tT 2 (.agg #[.bool z.2.2.2.2,.int .i64 z.1,.int .i64 z.2.1,.int .u64 (z.2.2.1:Int),.int .u64 (z.2.2.2.1:Int)]) S0 ?_ ?_
 ·exact fun w' hS=>yN (Ok.row' hS rc.out)
 simp only [Act.put,List.setIfInBounds_toArray,List.set_cons_zero,List.set_cons_succ]
 refine sT (i:=3) (by kernel_rfl) rfl (fun K hK=>?_)
 go_simp
 refine (vapply_any 1 op1 z z HU.out.2.2 HU.out.2.2 W _ S0).mono ?_
 rintro e y1 ⟨rfl,hy1⟩
 rw [<-HP.out]
 unfold nv
 go_wp2_with fail
 refine hK.out _ _ (fun _=>hy1) ?_
 clear hK K
 refine sT (i:=4) (by kernel_rfl) rfl (fun K hK=>?_)
 go_simp
 refine (nmeet_any x p HU.out.1 RP.out W _ hy1).mono ?_
 rintro e y2 ⟨rfl,hy2⟩
 rw [<-HL.out]
 unfold nv
 go_wp2_with fail
 refine hK.out _ _ (fun _=>hy2) ?_
 clear hK K
 refine sT (i:=5) (by kernel_rfl) rfl (fun K hK=>?_)
 go_simp
 refine (ntop_any W _ hy2).mono ?_
 rintro e y3 ⟨rfl,hy3⟩
 rw [<-HR.out]
 unfold nv
 go_wp2_with fail
 refine hK.out _ _ (fun _=>hy3) ?_
 clear hK K
 refine sT (i:=6) (by kernel_rfl) rfl (fun K hK=>?_)
 replace rl:Hid _:=Ok.row' hy3 rl.out
 replace rr:Hid _:=Ok.row' hy3 rr.out
 have Hy3:Hid (Ok w y3):=HW.out.step hy3
 clear S0
 obtain ⟨a0,a1,a2,a3,a4,a5,a6,a7,a8,a9⟩:=row5_facts rl.out
 go_simp
 refine hK.out _ _ (fun h=>absurd h (by decide)) ?_
 clear hK K
 obtain ⟨Z1,hZ1⟩:∃ Z,Z=(((((y3.setCell ⟨gl,0,none⟩ (.bool l.2.2.2.2)).setCell ⟨gl,1,none⟩ (.int .i64 l.1)).setCell ⟨gl,2,none⟩ (.int .i64 l.2.1)).setCell ⟨gl,3,none⟩ (.int .u64 (l.2.2.1:Int))).setCell ⟨gl,4,none⟩ (.int .u64 (l.2.2.2.1:Int))):=⟨_,rfl⟩
 obtain ⟨HZ1,rlz,keep⟩:=(rows_put1 rl.out Hy3.out (by omega) _ _ _ _ _ hZ1).out
 replace HZ1:Hid (Ok w Z1):=HZ1
 replace rlz:Hid _:=rlz
 replace rr:Hid _:=keep _ _ (by omega) rr.out
 rw [<-hZ1]
 clear hZ1 keep rl
 clear a0 a1 a2 a3 a4 a5 a6 a7 a8 a9
 have rl:Hid _:=rlz
 clear rlz
 refine sT (i:=7) (by kernel_rfl) rfl (fun K hK=>?_)
 obtain ⟨a0,a1,a2,a3,a4,a5,a6,a7,a8,a9⟩:=row5_facts rr.out
 go_simp
 refine hK.out _ _ (fun h=>absurd h (by decide)) ?_
 clear hK K
 obtain ⟨Z2,hZ2⟩:∃ Z,Z=(((((Z1.setCell ⟨gr,0,none⟩ (.bool r.2.2.2.2)).setCell ⟨gr,1,none⟩ (.int .i64 r.1)).setCell ⟨gr,2,none⟩ (.int .i64 r.2.1)).setCell ⟨gr,3,none⟩ (.int .u64 (r.2.2.1:Int))).setCell ⟨gr,4,none⟩ (.int .u64 (r.2.2.2.1:Int))):=⟨_,rfl⟩
 obtain ⟨HZ2,rrz,keep⟩:=(rows_put1 rr.out HZ1.out (by omega) _ _ _ _ _ hZ2).out
 replace HZ2:Hid (Ok w Z2):=HZ2
 replace rrz:Hid _:=rrz
 replace rl:Hid _:=keep _ _ (by omega) rl.out
 rw [<-hZ2]
 clear hZ2 keep rr
 clear a0 a1 a2 a3 a4 a5 a6 a7 a8 a9
 have rr:Hid _:=rrz
 clear rrz
 refine wpAnyT_done (by kernel_rfl) ?_ _
 go_wp2_with fail
 refine bodyPost_ret (results_2c rfl _ _ gl gr 29 #[_,_,_,_,_] #[_,_,_,_,_] (0,0) _ rfl rfl rl.out rr.out Tryz.underlying29 rfl infoN infoN) rfl ?_
 exact ⟨rfl,HZ2.out⟩
set_option maxRecDepth 100000 in
theorem vsol2n (x y z:Int×Int×Nat×Nat×Bool) (hx:RawN x) (hy:RawN y) (hz:RawN z) (ga gc gb:Nat) (w:World) (ra0:w.heap[ga]?=some (.cells #[.bool x.2.2.2.2,.int .i64 x.1,.int .i64 x.2.1,.int .u64 (x.2.2.1:Int),.int .u64 (x.2.2.2.1:Int)] 29)) (rc0:w.heap[gc]?=some (.cells #[.bool z.2.2.2.2,.int .i64 z.1,.int .i64 z.2.1,.int .u64 (z.2.2.1:Int),.int .u64 (z.2.2.2.1:Int)] 29)) (rb0:w.heap[gb]?=some (.cells #[.bool y.2.2.2.2,.int .i64 y.1,.int .i64 y.2.1,.int .u64 (y.2.2.1:Int),.int .u64 (y.2.2.2.1:Int)] 29)) :
  Calls Tryz.prog 44 #[.pointer (some ⟨ga,0,none⟩),.pointer (some ⟨gc,0,none⟩),.pointer (some ⟨gb,0,none⟩)] w fun e w'=>e=.returned (.tuple #[nv (meetN x (apN 4 z y)),nv (meetN y (apN 4 z x))])/\Ok w w':=by
 have HU:Hid (RawN x/\RawN y/\RawN z):=⟨hx,hy,hz⟩
 clear hx hy hz
 obtain ⟨l,hl⟩:∃ t,t=meetN x (apN 4 z y):=⟨_,rfl⟩
 have HL:Hid _:=hl
 clear hl
 obtain ⟨r,hr⟩:∃ t,t=meetN y (apN 4 z x):=⟨_,rfl⟩
 have HR:Hid _:=hr
 clear hr
 rw [<-HL.out,<-HR.out]
 have ra:Hid _:=ra0
 have ha:=lt_row ra0
 have rc:Hid _:=rc0
 have hc:=lt_row rc0
 have rb:Hid _:=rb0
 have hb:=lt_row rb0
 clear ra0 rc0 rb0
 have hle:=Nat.le_refl w.heap.size
 unfold nv
 go_enter Tryz.func44,Tryz.ntmps44
 go_upto_region 1 with (fail)
 obtain ⟨W,hW⟩:∃ W,W=((w).alloc (.cells #[.bool false,.int .i64 0,.int .i64 0,.int .u64 0,.int .u64 0] 29)).alloc (.cells #[.bool false,.int .i64 0,.int .i64 0,.int .u64 0,.int .u64 0] 29):=⟨_,rfl⟩
 have rl:Hid (W.heap[w.heap.size]?=some (.cells #[.bool false,.int .i64 0,.int .i64 0,.int .u64 0,.int .u64 0] 29)):=by unfold Hid;rw [hW];exact jj
 have rr:Hid (W.heap[w.heap.size+1]?=some (.cells #[.bool false,.int .i64 0,.int .i64 0,.int .u64 0,.int .u64 0] 29)):=by unfold Hid;rw [hW];exact jj
 have HW:Hid (Ok w W):=by unfold Hid;rw [hW];exact ((Ok.refl _).alloc _).alloc _
 rw [<-hW]
 clear hW
 replace ra:Hid _:=Ok.row' HW.out ra.out
 replace rc:Hid _:=Ok.row' HW.out rc.out
 replace rb:Hid _:=Ok.row' HW.out rb.out
 obtain ⟨gr,egr⟩:∃ g,g=w.heap.size+1:=⟨_,rfl⟩
 rw [<-egr] at rr ⊢
 obtain ⟨gl,egl⟩:∃ g,g=w.heap.size:=⟨_,rfl⟩
 rw [<-egl] at rl ⊢
 have lgl:w.heap.size<=gl:=by omega
 have nglgr:¬gl=gr:=by omega
 have lgr:w.heap.size<=gr:=by omega
 have ngrgl:¬gr=gl:=by omega
 have ngagl:¬ga=gl:=by omega
 have ngagr:¬ga=gr:=by omega
 have ngcgl:¬gc=gl:=by omega
 have ngcgr:¬gc=gr:=by omega
 have ngbgl:¬gb=gl:=by omega
 have ngbgr:¬gb=gr:=by omega
 clear egl egr
 obtain ⟨p,hp⟩:∃ t,t=apN 4 z y:=⟨_,rfl⟩
 have HP:Hid _:=hp
 clear hp
 obtain ⟨q,hq⟩:∃ t,t=apN 4 z x:=⟨_,rfl⟩
 have HQ:Hid _:=hq
 clear hq
 have RP:Hid (RawN p):=by rw [HP.out];exact apN_raw op4 HU.out.2.2 HU.out.2.1
 have RQ:Hid (RawN q):=by rw [HQ.out];exact apN_raw op4 HU.out.2.2 HU.out.1
 rw [<-HP.out] at HL
 rw [<-HQ.out] at HR
 obtain ⟨D,hD⟩:∃ z,z=W.drew:=⟨_,rfl⟩
 have S0:Ok W D:=by rw [hD];exact Below.drew (Ok.refl _)
 refine wp_region_T (fun Y=>Ok W Y) 10 (by kernel_rfl) ?_
 rw [<-hD]
 clear hD
 refine tT 0 (.agg #[.bool x.2.2.2.2,.int .i64 x.1,.int .i64 x.2.1,.int .u64 (x.2.2.1:Int),.int .u64 (x.2.2.2.1:Int)]) S0 ?_ ?_
 ·exact fun w' hS=>yN (Ok.row' hS ra.out)
 refine tT 1 (.agg #[.bool z.2.2.2.2,.int .i64 z.1,.int .i64 z.2.1,.int .u64 (z.2.2.1:Int),.int .u64 (z.2.2.2.1:Int)]) S0 ?_ ?_
 ·exact fun w' hS=>yN (Ok.row' hS rc.out)
 refine tT 2 (.agg #[.bool y.2.2.2.2,.int .i64 y.1,.int .i64 y.2.1,.int .u64 (y.2.2.1:Int),.int .u64 (y.2.2.2.1:Int)]) S0 ?_ ?_
 ·exact fun w' hS=>yN (Ok.row' hS rb.out)
 refine tT 5 (.agg #[.bool y.2.2.2.2,.int .i64 y.1,.int .i64 y.2.1,.int .u64 (y.2.2.1:Int),.int .u64 (y.2.2.2.1:Int)]) S0 ?_ ?_
 ·exact fun w' hS=>yN (Ok.row' hS rb.out)
 refine tT 6 (.agg #[.bool z.2.2.2.2,.int .i64 z.1,.int .i64 z.2.1,.int .u64 (z.2.2.1:Int),.int .u64 (z.2.2.2.1:Int)]) S0 ?_ ?_
 ·exact fun w' hS=>yN (Ok.row' hS rc.out)
 refine tT 7 (.agg #[.bool x.2.2.2.2,.int .i64 x.1,.int .i64 x.2.1,.int .u64 (x.2.2.1:Int),.int .u64 (x.2.2.2.1:Int)]) S0 ?_ ?_
 ·exact fun w' hS=>yN (Ok.row' hS ra.out)
 simp only [Act.put,List.setIfInBounds_toArray,List.set_cons_zero,List.set_cons_succ]
 refine sT (i:=3) (by kernel_rfl) rfl (fun K hK=>?_)
 go_simp
 refine (vapply_any 4 op4 z y HU.out.2.2 HU.out.2.1 W _ S0).mono ?_
 rintro e y1 ⟨rfl,hy1⟩
 rw [<-HP.out]
 unfold nv
 go_wp2_with fail
 refine hK.out _ _ (fun _=>hy1) ?_
 clear hK K
 refine sT (i:=4) (by kernel_rfl) rfl (fun K hK=>?_)
 go_simp
 refine (nmeet_any x p HU.out.1 RP.out W _ hy1).mono ?_
 rintro e y2 ⟨rfl,hy2⟩
 rw [<-HL.out]
 unfold nv
 go_wp2_with fail
 refine hK.out _ _ (fun _=>hy2) ?_
 clear hK K
 refine sT (i:=8) (by kernel_rfl) rfl (fun K hK=>?_)
 go_simp
 refine (vapply_any 4 op4 z x HU.out.2.2 HU.out.1 W _ hy2).mono ?_
 rintro e y3 ⟨rfl,hy3⟩
 rw [<-HQ.out]
 unfold nv
 go_wp2_with fail
 refine hK.out _ _ (fun _=>hy3) ?_
 clear hK K
 refine sT (i:=9) (by kernel_rfl) rfl (fun K hK=>?_)
 go_simp
 refine (nmeet_any y q HU.out.2.1 RQ.out W _ hy3).mono ?_
 rintro e y4 ⟨rfl,hy4⟩
 rw [<-HR.out]
 unfold nv
 go_wp2_with fail
 refine hK.out _ _ (fun _=>hy4) ?_
 clear hK K
 refine sT (i:=10) (by kernel_rfl) rfl (fun K hK=>?_)
 replace rl:Hid _:=Ok.row' hy4 rl.out
 replace rr:Hid _:=Ok.row' hy4 rr.out
 have Hy4:Hid (Ok w y4):=HW.out.step hy4
 clear S0
 obtain ⟨a0,a1,a2,a3,a4,a5,a6,a7,a8,a9⟩:=row5_facts rl.out
 go_simp
 refine hK.out _ _ (fun h=>absurd h (by decide)) ?_
 clear hK K
 obtain ⟨Z1,hZ1⟩:∃ Z,Z=(((((y4.setCell ⟨gl,0,none⟩ (.bool l.2.2.2.2)).setCell ⟨gl,1,none⟩ (.int .i64 l.1)).setCell ⟨gl,2,none⟩ (.int .i64 l.2.1)).setCell ⟨gl,3,none⟩ (.int .u64 (l.2.2.1:Int))).setCell ⟨gl,4,none⟩ (.int .u64 (l.2.2.2.1:Int))):=⟨_,rfl⟩
 obtain ⟨HZ1,rlz,keep⟩:=(rows_put1 rl.out Hy4.out (by omega) _ _ _ _ _ hZ1).out
 replace HZ1:Hid (Ok w Z1):=HZ1
 replace rlz:Hid _:=rlz
 replace rr:Hid _:=keep _ _ (by omega) rr.out
 rw [<-hZ1]
 clear hZ1 keep rl
 clear a0 a1 a2 a3 a4 a5 a6 a7 a8 a9
 have rl:Hid _:=rlz
 clear rlz
 refine sT (i:=11) (by kernel_rfl) rfl (fun K hK=>?_)
 obtain ⟨a0,a1,a2,a3,a4,a5,a6,a7,a8,a9⟩:=row5_facts rr.out
 go_simp
 refine hK.out _ _ (fun h=>absurd h (by decide)) ?_
 clear hK K
 obtain ⟨Z2,hZ2⟩:∃ Z,Z=(((((Z1.setCell ⟨gr,0,none⟩ (.bool r.2.2.2.2)).setCell ⟨gr,1,none⟩ (.int .i64 r.1)).setCell ⟨gr,2,none⟩ (.int .i64 r.2.1)).setCell ⟨gr,3,none⟩ (.int .u64 (r.2.2.1:Int))).setCell ⟨gr,4,none⟩ (.int .u64 (r.2.2.2.1:Int))):=⟨_,rfl⟩
 obtain ⟨HZ2,rrz,keep⟩:=(rows_put1 rr.out HZ1.out (by omega) _ _ _ _ _ hZ2).out
 replace HZ2:Hid (Ok w Z2):=HZ2
 replace rrz:Hid _:=rrz
 replace rl:Hid _:=keep _ _ (by omega) rl.out
 rw [<-hZ2]
 clear hZ2 keep rr
 clear a0 a1 a2 a3 a4 a5 a6 a7 a8 a9
 have rr:Hid _:=rrz
 clear rrz
 refine wpAnyT_done (by kernel_rfl) ?_ _
 go_wp2_with fail
 refine bodyPost_ret (results_2c rfl _ _ gl gr 29 #[_,_,_,_,_] #[_,_,_,_,_] (0,0) _ rfl rfl rl.out rr.out Tryz.underlying29 rfl infoN infoN) rfl ?_
 exact ⟨rfl,HZ2.out⟩
set_option maxRecDepth 100000 in
theorem vsol3n (x y z:Int×Int×Nat×Nat×Bool) (hx:RawN x) (hy:RawN y) (hz:RawN z) (ga gc gb:Nat) (w:World) (ra0:w.heap[ga]?=some (.cells #[.bool x.2.2.2.2,.int .i64 x.1,.int .i64 x.2.1,.int .u64 (x.2.2.1:Int),.int .u64 (x.2.2.2.1:Int)] 29)) (rc0:w.heap[gc]?=some (.cells #[.bool z.2.2.2.2,.int .i64 z.1,.int .i64 z.2.1,.int .u64 (z.2.2.1:Int),.int .u64 (z.2.2.2.1:Int)] 29)) (rb0:w.heap[gb]?=some (.cells #[.bool y.2.2.2.2,.int .i64 y.1,.int .i64 y.2.1,.int .u64 (y.2.2.1:Int),.int .u64 (y.2.2.2.1:Int)] 29)) :
  Calls Tryz.prog 45 #[.pointer (some ⟨ga,0,none⟩),.pointer (some ⟨gc,0,none⟩),.pointer (some ⟨gb,0,none⟩)] w fun e w'=>e=.returned (.tuple #[nv (meetN x (apN 3 z y)),nv (meetN y (apN 4 x z))])/\Ok w w':=by
 have HU:Hid (RawN x/\RawN y/\RawN z):=⟨hx,hy,hz⟩
 clear hx hy hz
 obtain ⟨l,hl⟩:∃ t,t=meetN x (apN 3 z y):=⟨_,rfl⟩
 have HL:Hid _:=hl
 clear hl
 obtain ⟨r,hr⟩:∃ t,t=meetN y (apN 4 x z):=⟨_,rfl⟩
 have HR:Hid _:=hr
 clear hr
 rw [<-HL.out,<-HR.out]
 have ra:Hid _:=ra0
 have ha:=lt_row ra0
 have rc:Hid _:=rc0
 have hc:=lt_row rc0
 have rb:Hid _:=rb0
 have hb:=lt_row rb0
 clear ra0 rc0 rb0
 have hle:=Nat.le_refl w.heap.size
 unfold nv
 go_enter Tryz.func45,Tryz.ntmps45
 go_upto_region 1 with (fail)
 obtain ⟨W,hW⟩:∃ W,W=((w).alloc (.cells #[.bool false,.int .i64 0,.int .i64 0,.int .u64 0,.int .u64 0] 29)).alloc (.cells #[.bool false,.int .i64 0,.int .i64 0,.int .u64 0,.int .u64 0] 29):=⟨_,rfl⟩
 have rl:Hid (W.heap[w.heap.size]?=some (.cells #[.bool false,.int .i64 0,.int .i64 0,.int .u64 0,.int .u64 0] 29)):=by unfold Hid;rw [hW];exact jj
 have rr:Hid (W.heap[w.heap.size+1]?=some (.cells #[.bool false,.int .i64 0,.int .i64 0,.int .u64 0,.int .u64 0] 29)):=by unfold Hid;rw [hW];exact jj
 have HW:Hid (Ok w W):=by unfold Hid;rw [hW];exact ((Ok.refl _).alloc _).alloc _
 rw [<-hW]
 clear hW
 replace ra:Hid _:=Ok.row' HW.out ra.out
 replace rc:Hid _:=Ok.row' HW.out rc.out
 replace rb:Hid _:=Ok.row' HW.out rb.out
 obtain ⟨gr,egr⟩:∃ g,g=w.heap.size+1:=⟨_,rfl⟩
 rw [<-egr] at rr ⊢
 obtain ⟨gl,egl⟩:∃ g,g=w.heap.size:=⟨_,rfl⟩
 rw [<-egl] at rl ⊢
 have lgl:w.heap.size<=gl:=by omega
 have nglgr:¬gl=gr:=by omega
 have lgr:w.heap.size<=gr:=by omega
 have ngrgl:¬gr=gl:=by omega
 have ngagl:¬ga=gl:=by omega
 have ngagr:¬ga=gr:=by omega
 have ngcgl:¬gc=gl:=by omega
 have ngcgr:¬gc=gr:=by omega
 have ngbgl:¬gb=gl:=by omega
 have ngbgr:¬gb=gr:=by omega
 clear egl egr
 obtain ⟨p,hp⟩:∃ t,t=apN 3 z y:=⟨_,rfl⟩
 have HP:Hid _:=hp
 clear hp
 obtain ⟨q,hq⟩:∃ t,t=apN 4 x z:=⟨_,rfl⟩
 have HQ:Hid _:=hq
 clear hq
 have RP:Hid (RawN p):=by rw [HP.out];exact apN_raw op3 HU.out.2.2 HU.out.2.1
 have RQ:Hid (RawN q):=by rw [HQ.out];exact apN_raw op4 HU.out.1 HU.out.2.2
 rw [<-HP.out] at HL
 rw [<-HQ.out] at HR
 obtain ⟨D,hD⟩:∃ z,z=W.drew:=⟨_,rfl⟩
 have S0:Ok W D:=by rw [hD];exact Below.drew (Ok.refl _)
 refine wp_region_T (fun Y=>Ok W Y) 10 (by kernel_rfl) ?_
 rw [<-hD]
 clear hD
 refine tT 0 (.agg #[.bool x.2.2.2.2,.int .i64 x.1,.int .i64 x.2.1,.int .u64 (x.2.2.1:Int),.int .u64 (x.2.2.2.1:Int)]) S0 ?_ ?_
 ·exact fun w' hS=>yN (Ok.row' hS ra.out)
 refine tT 1 (.agg #[.bool z.2.2.2.2,.int .i64 z.1,.int .i64 z.2.1,.int .u64 (z.2.2.1:Int),.int .u64 (z.2.2.2.1:Int)]) S0 ?_ ?_
 ·exact fun w' hS=>yN (Ok.row' hS rc.out)
 refine tT 2 (.agg #[.bool y.2.2.2.2,.int .i64 y.1,.int .i64 y.2.1,.int .u64 (y.2.2.1:Int),.int .u64 (y.2.2.2.1:Int)]) S0 ?_ ?_
 ·exact fun w' hS=>yN (Ok.row' hS rb.out)
 refine tT 5 (.agg #[.bool y.2.2.2.2,.int .i64 y.1,.int .i64 y.2.1,.int .u64 (y.2.2.1:Int),.int .u64 (y.2.2.2.1:Int)]) S0 ?_ ?_
 ·exact fun w' hS=>yN (Ok.row' hS rb.out)
 refine tT 6 (.agg #[.bool x.2.2.2.2,.int .i64 x.1,.int .i64 x.2.1,.int .u64 (x.2.2.1:Int),.int .u64 (x.2.2.2.1:Int)]) S0 ?_ ?_
 ·exact fun w' hS=>yN (Ok.row' hS ra.out)
 refine tT 7 (.agg #[.bool z.2.2.2.2,.int .i64 z.1,.int .i64 z.2.1,.int .u64 (z.2.2.1:Int),.int .u64 (z.2.2.2.1:Int)]) S0 ?_ ?_
 ·exact fun w' hS=>yN (Ok.row' hS rc.out)
 simp only [Act.put,List.setIfInBounds_toArray,List.set_cons_zero,List.set_cons_succ]
 refine sT (i:=3) (by kernel_rfl) rfl (fun K hK=>?_)
 go_simp
 refine (vapply_any 3 op3 z y HU.out.2.2 HU.out.2.1 W _ S0).mono ?_
 rintro e y1 ⟨rfl,hy1⟩
 rw [<-HP.out]
 unfold nv
 go_wp2_with fail
 refine hK.out _ _ (fun _=>hy1) ?_
 clear hK K
 refine sT (i:=4) (by kernel_rfl) rfl (fun K hK=>?_)
 go_simp
 refine (nmeet_any x p HU.out.1 RP.out W _ hy1).mono ?_
 rintro e y2 ⟨rfl,hy2⟩
 rw [<-HL.out]
 unfold nv
 go_wp2_with fail
 refine hK.out _ _ (fun _=>hy2) ?_
 clear hK K
 refine sT (i:=8) (by kernel_rfl) rfl (fun K hK=>?_)
 go_simp
 refine (vapply_any 4 op4 x z HU.out.1 HU.out.2.2 W _ hy2).mono ?_
 rintro e y3 ⟨rfl,hy3⟩
 rw [<-HQ.out]
 unfold nv
 go_wp2_with fail
 refine hK.out _ _ (fun _=>hy3) ?_
 clear hK K
 refine sT (i:=9) (by kernel_rfl) rfl (fun K hK=>?_)
 go_simp
 refine (nmeet_any y q HU.out.2.1 RQ.out W _ hy3).mono ?_
 rintro e y4 ⟨rfl,hy4⟩
 rw [<-HR.out]
 unfold nv
 go_wp2_with fail
 refine hK.out _ _ (fun _=>hy4) ?_
 clear hK K
 refine sT (i:=10) (by kernel_rfl) rfl (fun K hK=>?_)
 replace rl:Hid _:=Ok.row' hy4 rl.out
 replace rr:Hid _:=Ok.row' hy4 rr.out
 have Hy4:Hid (Ok w y4):=HW.out.step hy4
 clear S0
 obtain ⟨a0,a1,a2,a3,a4,a5,a6,a7,a8,a9⟩:=row5_facts rl.out
 go_simp
 refine hK.out _ _ (fun h=>absurd h (by decide)) ?_
 clear hK K
 obtain ⟨Z1,hZ1⟩:∃ Z,Z=(((((y4.setCell ⟨gl,0,none⟩ (.bool l.2.2.2.2)).setCell ⟨gl,1,none⟩ (.int .i64 l.1)).setCell ⟨gl,2,none⟩ (.int .i64 l.2.1)).setCell ⟨gl,3,none⟩ (.int .u64 (l.2.2.1:Int))).setCell ⟨gl,4,none⟩ (.int .u64 (l.2.2.2.1:Int))):=⟨_,rfl⟩
 obtain ⟨HZ1,rlz,keep⟩:=(rows_put1 rl.out Hy4.out (by omega) _ _ _ _ _ hZ1).out
 replace HZ1:Hid (Ok w Z1):=HZ1
 replace rlz:Hid _:=rlz
 replace rr:Hid _:=keep _ _ (by omega) rr.out
 rw [<-hZ1]
 clear hZ1 keep rl
 clear a0 a1 a2 a3 a4 a5 a6 a7 a8 a9
 have rl:Hid _:=rlz
 clear rlz
 refine sT (i:=11) (by kernel_rfl) rfl (fun K hK=>?_)
 obtain ⟨a0,a1,a2,a3,a4,a5,a6,a7,a8,a9⟩:=row5_facts rr.out
 go_simp
 refine hK.out _ _ (fun h=>absurd h (by decide)) ?_
 clear hK K
 obtain ⟨Z2,hZ2⟩:∃ Z,Z=(((((Z1.setCell ⟨gr,0,none⟩ (.bool r.2.2.2.2)).setCell ⟨gr,1,none⟩ (.int .i64 r.1)).setCell ⟨gr,2,none⟩ (.int .i64 r.2.1)).setCell ⟨gr,3,none⟩ (.int .u64 (r.2.2.1:Int))).setCell ⟨gr,4,none⟩ (.int .u64 (r.2.2.2.1:Int))):=⟨_,rfl⟩
 obtain ⟨HZ2,rrz,keep⟩:=(rows_put1 rr.out HZ1.out (by omega) _ _ _ _ _ hZ2).out
 replace HZ2:Hid (Ok w Z2):=HZ2
 replace rrz:Hid _:=rrz
 replace rl:Hid _:=keep _ _ (by omega) rl.out
 rw [<-hZ2]
 clear hZ2 keep rr
 clear a0 a1 a2 a3 a4 a5 a6 a7 a8 a9
 have rr:Hid _:=rrz
 clear rrz
 refine wpAnyT_done (by kernel_rfl) ?_ _
 go_wp2_with fail
 refine bodyPost_ret (results_2c rfl _ _ gl gr 29 #[_,_,_,_,_] #[_,_,_,_,_] (0,0) _ rfl rfl rl.out rr.out Tryz.underlying29 rfl infoN infoN) rfl ?_
 exact ⟨rfl,HZ2.out⟩
set_option maxRecDepth 100000 in
theorem vsol4 (x y z:Int×Int×Nat×Nat×Bool) (hx:RawN x) (hy:RawN y) (hz:RawN z) (ga gb gc:Nat) (w:World) (ra0:w.heap[ga]?=some (.cells #[.bool x.2.2.2.2,.int .i64 x.1,.int .i64 x.2.1,.int .u64 (x.2.2.1:Int),.int .u64 (x.2.2.2.1:Int)] 29)) (rb0:w.heap[gb]?=some (.cells #[.bool y.2.2.2.2,.int .i64 y.1,.int .i64 y.2.1,.int .u64 (y.2.2.1:Int),.int .u64 (y.2.2.2.1:Int)] 29)) (rc0:w.heap[gc]?=some (.cells #[.bool z.2.2.2.2,.int .i64 z.1,.int .i64 z.2.1,.int .u64 (z.2.2.1:Int),.int .u64 (z.2.2.2.1:Int)] 29)) :
  Calls Tryz.prog 46 #[.pointer (some ⟨ga,0,none⟩),.pointer (some ⟨gb,0,none⟩),.pointer (some ⟨gc,0,none⟩)] w fun e w'=>e=.returned (.tuple #[nv ((factsN x y z).1),nv ((factsN x y z).2)])/\Ok w w':=by
 have HU:Hid (RawN x/\RawN y/\RawN z):=⟨hx,hy,hz⟩
 clear hx hy hz
 obtain ⟨l,hl⟩:∃ t,t=(factsN x y z).1:=⟨_,rfl⟩
 have HL:Hid _:=hl
 clear hl
 obtain ⟨r,hr⟩:∃ t,t=(factsN x y z).2:=⟨_,rfl⟩
 have HR:Hid _:=hr
 clear hr
 rw [<-HL.out,<-HR.out]
 have ra:Hid _:=ra0
 have ha:=lt_row ra0
 have rb:Hid _:=rb0
 have hb:=lt_row rb0
 have rc:Hid _:=rc0
 have hc:=lt_row rc0
 clear ra0 rb0 rc0
 have hle:=Nat.le_refl w.heap.size
 unfold nv
 go_enter Tryz.func46,Tryz.ntmps46
 go_upto_region 1 with (fail)
 obtain ⟨W,hW⟩:∃ W,W=((w).alloc (.cells #[.bool false,.int .i64 0,.int .i64 0,.int .u64 0,.int .u64 0] 29)).alloc (.cells #[.bool false,.int .i64 0,.int .i64 0,.int .u64 0,.int .u64 0] 29):=⟨_,rfl⟩
 have rl:Hid (W.heap[w.heap.size]?=some (.cells #[.bool false,.int .i64 0,.int .i64 0,.int .u64 0,.int .u64 0] 29)):=by unfold Hid;rw [hW];exact jj
 have rr:Hid (W.heap[w.heap.size+1]?=some (.cells #[.bool false,.int .i64 0,.int .i64 0,.int .u64 0,.int .u64 0] 29)):=by unfold Hid;rw [hW];exact jj
 have HW:Hid (Ok w W):=by unfold Hid;rw [hW];exact ((Ok.refl _).alloc _).alloc _
 rw [<-hW]
 clear hW
 replace ra:Hid _:=Ok.row' HW.out ra.out
 replace rb:Hid _:=Ok.row' HW.out rb.out
 replace rc:Hid _:=Ok.row' HW.out rc.out
 obtain ⟨gr,egr⟩:∃ g,g=w.heap.size+1:=⟨_,rfl⟩
 rw [<-egr] at rr ⊢
 obtain ⟨gl,egl⟩:∃ g,g=w.heap.size:=⟨_,rfl⟩
 rw [<-egl] at rl ⊢
 have lgl:w.heap.size<=gl:=by omega
 have nglgr:¬gl=gr:=by omega
 have lgr:w.heap.size<=gr:=by omega
 have ngrgl:¬gr=gl:=by omega
 have ngagl:¬ga=gl:=by omega
 have ngagr:¬ga=gr:=by omega
 have ngbgl:¬gb=gl:=by omega
 have ngbgr:¬gb=gr:=by omega
 have ngcgl:¬gc=gl:=by omega
 have ngcgr:¬gc=gr:=by omega
 clear egl egr
 obtain ⟨a0,a1,a2,a3,a4,a5,a6,a7,a8,a9⟩:=row5_facts ra.out
 obtain ⟨b0,b1,b2,b3,b4,b5,b6,b7,b8,b9⟩:=row5_facts rb.out
 obtain ⟨c0,c1,c2,c3,c4,c5,c6,c7,c8,c9⟩:=row5_facts rc.out
 go_wp2_with fail
 clear a0 a1 a2 a3 a4 a5 a6 a7 a8 a9 b0 b1 b2 b3 b4 b5 b6 b7 b8 b9 c0 c1 c2 c3 c4 c5 c6 c7 c8 c9
 refine (vfactors_any x y z HU.out.1 HU.out.2.1 HU.out.2.2 W _ (Ok.refl _)).mono ?_
 rintro e u ⟨rfl,hb⟩
 rw [<-HL.out,<-HR.out]
 unfold nv
 replace rl:Hid _:=Ok.row' hb rl.out
 replace rr:Hid _:=Ok.row' hb rr.out
 have Hu:Hid (Ok w u):=HW.out.step hb
 clear hb HW
 obtain ⟨k0,k1,k2,k3,k4,k5,k6,k7,k8,k9⟩:=row5_facts rl.out
 obtain ⟨j0,j1,j2,j3,j4,j5,j6,j7,j8,j9⟩:=row5_facts rr.out
 go_wp2_with fail
 obtain ⟨Z,hZ⟩:∃ Z,Z=((((((((((u.setCell ⟨gl,0,none⟩ (.bool l.2.2.2.2)).setCell ⟨gl,1,none⟩ (.int .i64 l.1)).setCell ⟨gl,2,none⟩ (.int .i64 l.2.1)).setCell ⟨gl,3,none⟩ (.int .u64 (l.2.2.1:Int))).setCell ⟨gl,4,none⟩ (.int .u64 (l.2.2.2.1:Int))).setCell ⟨gr,0,none⟩ (.bool r.2.2.2.2)).setCell ⟨gr,1,none⟩ (.int .i64 r.1)).setCell ⟨gr,2,none⟩ (.int .i64 r.2.1)).setCell ⟨gr,3,none⟩ (.int .u64 (r.2.2.1:Int))).setCell ⟨gr,4,none⟩ (.int .u64 (r.2.2.2.1:Int))):=⟨_,rfl⟩
 have hp:=rows_putr nglgr rl.out rr.out Hu.out (by omega) (by omega) _ _ _ _ _ _ _ _ _ _ hZ
 rw [<-hZ]
 clear hZ
 refine bodyPost_ret (results_2c rfl _ _ gl gr 29 #[_,_,_,_,_] #[_,_,_,_,_] (0,0) _ rfl rfl hp.2.1 hp.2.2 Tryz.underlying29 rfl infoN infoN) rfl ?_
 exact ⟨rfl,hp.1⟩
set_option maxRecDepth 100000 in
theorem vsol5 (x y z:Int×Int×Nat×Nat×Bool) (hx:RawN x) (hy:RawN y) (hz:RawN z) (ga gb gc:Nat) (w:World) (ra0:w.heap[ga]?=some (.cells #[.bool x.2.2.2.2,.int .i64 x.1,.int .i64 x.2.1,.int .u64 (x.2.2.1:Int),.int .u64 (x.2.2.2.1:Int)] 29)) (rb0:w.heap[gb]?=some (.cells #[.bool y.2.2.2.2,.int .i64 y.1,.int .i64 y.2.1,.int .u64 (y.2.2.1:Int),.int .u64 (y.2.2.2.1:Int)] 29)) (rc0:w.heap[gc]?=some (.cells #[.bool z.2.2.2.2,.int .i64 z.1,.int .i64 z.2.1,.int .u64 (z.2.2.1:Int),.int .u64 (z.2.2.2.1:Int)] 29)) :
  Calls Tryz.prog 48 #[.pointer (some ⟨ga,0,none⟩),.pointer (some ⟨gb,0,none⟩),.pointer (some ⟨gc,0,none⟩)] w fun e w'=>e=.returned (.tuple #[nv ((divdN x (nonZeroN y) z).1),nv ((divdN x (nonZeroN y) z).2)])/\Ok w w':=by
 have HU:Hid (RawN x/\RawN y/\RawN z):=⟨hx,hy,hz⟩
 clear hx hy hz
 obtain ⟨l,hl⟩:∃ t,t=(divdN x (nonZeroN y) z).1:=⟨_,rfl⟩
 have HL:Hid _:=hl
 clear hl
 obtain ⟨r,hr⟩:∃ t,t=(divdN x (nonZeroN y) z).2:=⟨_,rfl⟩
 have HR:Hid _:=hr
 clear hr
 rw [<-HL.out,<-HR.out]
 have ra:Hid _:=ra0
 have ha:=lt_row ra0
 have rb:Hid _:=rb0
 have hb:=lt_row rb0
 have rc:Hid _:=rc0
 have hc:=lt_row rc0
 clear ra0 rb0 rc0
 have hle:=Nat.le_refl w.heap.size
 unfold nv
 go_enter Tryz.func48,Tryz.ntmps48
 go_upto_region 1 with (fail)
 obtain ⟨W,hW⟩:∃ W,W=((w).alloc (.cells #[.bool false,.int .i64 0,.int .i64 0,.int .u64 0,.int .u64 0] 29)).alloc (.cells #[.bool false,.int .i64 0,.int .i64 0,.int .u64 0,.int .u64 0] 29):=⟨_,rfl⟩
 have rl:Hid (W.heap[w.heap.size]?=some (.cells #[.bool false,.int .i64 0,.int .i64 0,.int .u64 0,.int .u64 0] 29)):=by unfold Hid;rw [hW];exact jj
 have rr:Hid (W.heap[w.heap.size+1]?=some (.cells #[.bool false,.int .i64 0,.int .i64 0,.int .u64 0,.int .u64 0] 29)):=by unfold Hid;rw [hW];exact jj
 have HW:Hid (Ok w W):=by unfold Hid;rw [hW];exact ((Ok.refl _).alloc _).alloc _
 rw [<-hW]
 clear hW
 replace ra:Hid _:=Ok.row' HW.out ra.out
 replace rb:Hid _:=Ok.row' HW.out rb.out
 replace rc:Hid _:=Ok.row' HW.out rc.out
 obtain ⟨gr,egr⟩:∃ g,g=w.heap.size+1:=⟨_,rfl⟩
 rw [<-egr] at rr ⊢
 obtain ⟨gl,egl⟩:∃ g,g=w.heap.size:=⟨_,rfl⟩
 rw [<-egl] at rl ⊢
 have lgl:w.heap.size<=gl:=by omega
 have nglgr:¬gl=gr:=by omega
 have lgr:w.heap.size<=gr:=by omega
 have ngrgl:¬gr=gl:=by omega
 have ngagl:¬ga=gl:=by omega
 have ngagr:¬ga=gr:=by omega
 have ngbgl:¬gb=gl:=by omega
 have ngbgr:¬gb=gr:=by omega
 have ngcgl:¬gc=gl:=by omega
 have ngcgr:¬gc=gr:=by omega
 clear egl egr
 obtain ⟨n,hn⟩:∃ t,t=nonZeroN y:=⟨_,rfl⟩
 have HN:Hid _:=hn
 clear hn
 have RN:Hid (RawN n):=by rw [HN.out];exact nonZeroN_raw HU.out.2.1
 have NZ:Hid (n.2.2.2.2=false->n.1≠0\/n.2.1≠0):=by rw [HN.out];exact fun h=>Or.inl (nz_lo HU.out.2.1 h)
 rw [<-HN.out] at HL HR
 obtain ⟨D,hD⟩:∃ z,z=W.drew:=⟨_,rfl⟩
 have S0:Ok W D:=by rw [hD];exact Below.drew (Ok.refl _)
 refine wp_region_T (fun Y=>Ok W Y) 7 (by kernel_rfl) ?_
 rw [<-hD]
 clear hD
 refine tT 0 (.agg #[.bool x.2.2.2.2,.int .i64 x.1,.int .i64 x.2.1,.int .u64 (x.2.2.1:Int),.int .u64 (x.2.2.2.1:Int)]) S0 ?_ ?_
 ·exact fun w' hS=>yN (Ok.row' hS ra.out)
 refine tT 1 (.agg #[.bool y.2.2.2.2,.int .i64 y.1,.int .i64 y.2.1,.int .u64 (y.2.2.1:Int),.int .u64 (y.2.2.2.1:Int)]) S0 ?_ ?_
 ·exact fun w' hS=>yN (Ok.row' hS rb.out)
 refine tT 3 (.agg #[.bool z.2.2.2.2,.int .i64 z.1,.int .i64 z.2.1,.int .u64 (z.2.2.1:Int),.int .u64 (z.2.2.2.1:Int)]) S0 ?_ ?_
 ·exact fun w' hS=>yN (Ok.row' hS rc.out)
 simp only [Act.put,List.setIfInBounds_toArray,List.set_cons_zero,List.set_cons_succ]
 refine sT (i:=2) (by kernel_rfl) rfl (fun K hK=>?_)
 go_simp
 refine (nnz_any y HU.out.2.1 W _ S0).mono ?_
 rintro e y1 ⟨rfl,hy1⟩
 rw [<-HN.out]
 unfold nv
 go_wp2_with fail
 refine hK.out _ _ (fun _=>hy1) ?_
 clear hK K
 refine sT (i:=4) (by kernel_rfl) rfl (fun K hK=>?_)
 go_simp
 refine (vdivided_any x n z HU.out.1 RN.out HU.out.2.2 NZ.out W _ hy1).mono ?_
 rintro e y2 ⟨rfl,hy2⟩
 rw [<-HL.out,<-HR.out]
 unfold nv
 go_wp2_with fail
 refine hK.out _ _ (fun _=>hy2) ?_
 clear hK K
 refine tT 5 (.agg #[.bool l.2.2.2.2,.int .i64 l.1,.int .i64 l.2.1,.int .u64 (l.2.2.1:Int),.int .u64 (l.2.2.2.1:Int)]) hy2 ?_ ?_
 ·intro w' hS;kernel_rfl
 refine tT 6 (.agg #[.bool r.2.2.2.2,.int .i64 r.1,.int .i64 r.2.1,.int .u64 (r.2.2.1:Int),.int .u64 (r.2.2.2.1:Int)]) hy2 ?_ ?_
 ·intro w' hS;kernel_rfl
 refine sT (i:=7) (by kernel_rfl) rfl (fun K hK=>?_)
 replace rl:Hid _:=Ok.row' hy2 rl.out
 replace rr:Hid _:=Ok.row' hy2 rr.out
 have Hy2:Hid (Ok w y2):=HW.out.step hy2
 clear S0
 obtain ⟨a0,a1,a2,a3,a4,a5,a6,a7,a8,a9⟩:=row5_facts rl.out
 go_simp
 refine hK.out _ _ (fun h=>absurd h (by decide)) ?_
 clear hK K
 obtain ⟨Z1,hZ1⟩:∃ Z,Z=(((((y2.setCell ⟨gl,0,none⟩ (.bool l.2.2.2.2)).setCell ⟨gl,1,none⟩ (.int .i64 l.1)).setCell ⟨gl,2,none⟩ (.int .i64 l.2.1)).setCell ⟨gl,3,none⟩ (.int .u64 (l.2.2.1:Int))).setCell ⟨gl,4,none⟩ (.int .u64 (l.2.2.2.1:Int))):=⟨_,rfl⟩
 obtain ⟨HZ1,rlz,keep⟩:=(rows_put1 rl.out Hy2.out (by omega) _ _ _ _ _ hZ1).out
 replace HZ1:Hid (Ok w Z1):=HZ1
 replace rlz:Hid _:=rlz
 replace rr:Hid _:=keep _ _ (by omega) rr.out
 rw [<-hZ1]
 clear hZ1 keep rl
 clear a0 a1 a2 a3 a4 a5 a6 a7 a8 a9
 have rl:Hid _:=rlz
 clear rlz
 refine sT (i:=8) (by kernel_rfl) rfl (fun K hK=>?_)
 obtain ⟨a0,a1,a2,a3,a4,a5,a6,a7,a8,a9⟩:=row5_facts rr.out
 go_simp
 refine hK.out _ _ (fun h=>absurd h (by decide)) ?_
 clear hK K
 obtain ⟨Z2,hZ2⟩:∃ Z,Z=(((((Z1.setCell ⟨gr,0,none⟩ (.bool r.2.2.2.2)).setCell ⟨gr,1,none⟩ (.int .i64 r.1)).setCell ⟨gr,2,none⟩ (.int .i64 r.2.1)).setCell ⟨gr,3,none⟩ (.int .u64 (r.2.2.1:Int))).setCell ⟨gr,4,none⟩ (.int .u64 (r.2.2.2.1:Int))):=⟨_,rfl⟩
 obtain ⟨HZ2,rrz,keep⟩:=(rows_put1 rr.out HZ1.out (by omega) _ _ _ _ _ hZ2).out
 replace HZ2:Hid (Ok w Z2):=HZ2
 replace rrz:Hid _:=rrz
 replace rl:Hid _:=keep _ _ (by omega) rl.out
 rw [<-hZ2]
 clear hZ2 keep rr
 clear a0 a1 a2 a3 a4 a5 a6 a7 a8 a9
 have rr:Hid _:=rrz
 clear rrz
 refine wpAnyT_done (by kernel_rfl) ?_ _
 go_wp2_with fail
 refine bodyPost_ret (results_2c rfl _ _ gl gr 29 #[_,_,_,_,_] #[_,_,_,_,_] (0,0) _ rfl rfl rl.out rr.out Tryz.underlying29 rfl infoN infoN) rfl ?_
 exact ⟨rfl,HZ2.out⟩
set_option maxRecDepth 100000 in
theorem vsol6 (x y z:Int×Int×Nat×Nat×Bool) (hx:RawN x) (hy:RawN y) (hz:RawN z) (ga gb gc:Nat) (w:World) (ra0:w.heap[ga]?=some (.cells #[.bool x.2.2.2.2,.int .i64 x.1,.int .i64 x.2.1,.int .u64 (x.2.2.1:Int),.int .u64 (x.2.2.2.1:Int)] 29)) (rb0:w.heap[gb]?=some (.cells #[.bool y.2.2.2.2,.int .i64 y.1,.int .i64 y.2.1,.int .u64 (y.2.2.1:Int),.int .u64 (y.2.2.2.1:Int)] 29)) (rc0:w.heap[gc]?=some (.cells #[.bool z.2.2.2.2,.int .i64 z.1,.int .i64 z.2.1,.int .u64 (z.2.2.1:Int),.int .u64 (z.2.2.2.1:Int)] 29)) :
  Calls Tryz.prog 51 #[.pointer (some ⟨ga,0,none⟩),.pointer (some ⟨gb,0,none⟩),.pointer (some ⟨gc,0,none⟩)] w fun e w'=>e=.returned (.tuple #[nv ((leavN x (nonZeroN y) z).1),nv ((leavN x (nonZeroN y) z).2)])/\Ok w w':=by
 have HU:Hid (RawN x/\RawN y/\RawN z):=⟨hx,hy,hz⟩
 clear hx hy hz
 obtain ⟨l,hl⟩:∃ t,t=(leavN x (nonZeroN y) z).1:=⟨_,rfl⟩
 have HL:Hid _:=hl
 clear hl
 obtain ⟨r,hr⟩:∃ t,t=(leavN x (nonZeroN y) z).2:=⟨_,rfl⟩
 have HR:Hid _:=hr
 clear hr
 rw [<-HL.out,<-HR.out]
 have ra:Hid _:=ra0
 have ha:=lt_row ra0
 have rb:Hid _:=rb0
 have hb:=lt_row rb0
 have rc:Hid _:=rc0
 have hc:=lt_row rc0
 clear ra0 rb0 rc0
 have hle:=Nat.le_refl w.heap.size
 unfold nv
 go_enter Tryz.func51,Tryz.ntmps51
 go_upto_region 1 with (fail)
 obtain ⟨W,hW⟩:∃ W,W=((w).alloc (.cells #[.bool false,.int .i64 0,.int .i64 0,.int .u64 0,.int .u64 0] 29)).alloc (.cells #[.bool false,.int .i64 0,.int .i64 0,.int .u64 0,.int .u64 0] 29):=⟨_,rfl⟩
 have rl:Hid (W.heap[w.heap.size]?=some (.cells #[.bool false,.int .i64 0,.int .i64 0,.int .u64 0,.int .u64 0] 29)):=by unfold Hid;rw [hW];exact jj
 have rr:Hid (W.heap[w.heap.size+1]?=some (.cells #[.bool false,.int .i64 0,.int .i64 0,.int .u64 0,.int .u64 0] 29)):=by unfold Hid;rw [hW];exact jj
 have HW:Hid (Ok w W):=by unfold Hid;rw [hW];exact ((Ok.refl _).alloc _).alloc _
 rw [<-hW]
 clear hW
 replace ra:Hid _:=Ok.row' HW.out ra.out
 replace rb:Hid _:=Ok.row' HW.out rb.out
 replace rc:Hid _:=Ok.row' HW.out rc.out
 obtain ⟨gr,egr⟩:∃ g,g=w.heap.size+1:=⟨_,rfl⟩
 rw [<-egr] at rr ⊢
 obtain ⟨gl,egl⟩:∃ g,g=w.heap.size:=⟨_,rfl⟩
 rw [<-egl] at rl ⊢
 have lgl:w.heap.size<=gl:=by omega
 have nglgr:¬gl=gr:=by omega
 have lgr:w.heap.size<=gr:=by omega
 have ngrgl:¬gr=gl:=by omega
 have ngagl:¬ga=gl:=by omega
 have ngagr:¬ga=gr:=by omega
 have ngbgl:¬gb=gl:=by omega
 have ngbgr:¬gb=gr:=by omega
 have ngcgl:¬gc=gl:=by omega
 have ngcgr:¬gc=gr:=by omega
 clear egl egr
 obtain ⟨n,hn⟩:∃ t,t=nonZeroN y:=⟨_,rfl⟩
 have HN:Hid _:=hn
 clear hn
 have RN:Hid (RawN n):=by rw [HN.out];exact nonZeroN_raw HU.out.2.1
 have NN:Hid (NormN n/\(n.2.2.2.2=false->n.1≠0)):=by rw [HN.out];exact ⟨nonZeroN_norm HU.out.2.1,nz_lo HU.out.2.1⟩
 rw [<-HN.out] at HL HR
 obtain ⟨D,hD⟩:∃ z,z=W.drew:=⟨_,rfl⟩
 have S0:Ok W D:=by rw [hD];exact Below.drew (Ok.refl _)
 refine wp_region_T (fun Y=>Ok W Y) 7 (by kernel_rfl) ?_
 rw [<-hD]
 clear hD
 refine tT 0 (.agg #[.bool x.2.2.2.2,.int .i64 x.1,.int .i64 x.2.1,.int .u64 (x.2.2.1:Int),.int .u64 (x.2.2.2.1:Int)]) S0 ?_ ?_
 ·exact fun w' hS=>yN (Ok.row' hS ra.out)
 refine tT 1 (.agg #[.bool y.2.2.2.2,.int .i64 y.1,.int .i64 y.2.1,.int .u64 (y.2.2.1:Int),.int .u64 (y.2.2.2.1:Int)]) S0 ?_ ?_
 ·exact fun w' hS=>yN (Ok.row' hS rb.out)
 refine tT 3 (.agg #[.bool z.2.2.2.2,.int .i64 z.1,.int .i64 z.2.1,.int .u64 (z.2.2.1:Int),.int .u64 (z.2.2.2.1:Int)]) S0 ?_ ?_
 ·exact fun w' hS=>yN (Ok.row' hS rc.out)
 simp only [Act.put,List.setIfInBounds_toArray,List.set_cons_zero,List.set_cons_succ]
 refine sT (i:=2) (by kernel_rfl) rfl (fun K hK=>?_)
 go_simp
 refine (nnz_any y HU.out.2.1 W _ S0).mono ?_
 rintro e y1 ⟨rfl,hy1⟩
 rw [<-HN.out]
 unfold nv
 go_wp2_with fail
 refine hK.out _ _ (fun _=>hy1) ?_
 clear hK K
 refine sT (i:=4) (by kernel_rfl) rfl (fun K hK=>?_)
 go_simp
 refine (vleaving_any x n z HU.out.1 RN.out HU.out.2.2 NN.out.1 NN.out.2 W _ hy1).mono ?_
 rintro e y2 ⟨rfl,hy2⟩
 rw [<-HL.out,<-HR.out]
 unfold nv
 go_wp2_with fail
 refine hK.out _ _ (fun _=>hy2) ?_
 clear hK K
 refine tT 5 (.agg #[.bool l.2.2.2.2,.int .i64 l.1,.int .i64 l.2.1,.int .u64 (l.2.2.1:Int),.int .u64 (l.2.2.2.1:Int)]) hy2 ?_ ?_
 ·intro w' hS;kernel_rfl
 refine tT 6 (.agg #[.bool r.2.2.2.2,.int .i64 r.1,.int .i64 r.2.1,.int .u64 (r.2.2.1:Int),.int .u64 (r.2.2.2.1:Int)]) hy2 ?_ ?_
 ·intro w' hS;kernel_rfl
 refine sT (i:=7) (by kernel_rfl) rfl (fun K hK=>?_)
 replace rl:Hid _:=Ok.row' hy2 rl.out
 replace rr:Hid _:=Ok.row' hy2 rr.out
 have Hy2:Hid (Ok w y2):=HW.out.step hy2
 clear S0
 obtain ⟨a0,a1,a2,a3,a4,a5,a6,a7,a8,a9⟩:=row5_facts rl.out
 go_simp
 refine hK.out _ _ (fun h=>absurd h (by decide)) ?_
 clear hK K
 obtain ⟨Z1,hZ1⟩:∃ Z,Z=(((((y2.setCell ⟨gl,0,none⟩ (.bool l.2.2.2.2)).setCell ⟨gl,1,none⟩ (.int .i64 l.1)).setCell ⟨gl,2,none⟩ (.int .i64 l.2.1)).setCell ⟨gl,3,none⟩ (.int .u64 (l.2.2.1:Int))).setCell ⟨gl,4,none⟩ (.int .u64 (l.2.2.2.1:Int))):=⟨_,rfl⟩
 obtain ⟨HZ1,rlz,keep⟩:=(rows_put1 rl.out Hy2.out (by omega) _ _ _ _ _ hZ1).out
 replace HZ1:Hid (Ok w Z1):=HZ1
 replace rlz:Hid _:=rlz
 replace rr:Hid _:=keep _ _ (by omega) rr.out
 rw [<-hZ1]
 clear hZ1 keep rl
 clear a0 a1 a2 a3 a4 a5 a6 a7 a8 a9
 have rl:Hid _:=rlz
 clear rlz
 refine sT (i:=8) (by kernel_rfl) rfl (fun K hK=>?_)
 obtain ⟨a0,a1,a2,a3,a4,a5,a6,a7,a8,a9⟩:=row5_facts rr.out
 go_simp
 refine hK.out _ _ (fun h=>absurd h (by decide)) ?_
 clear hK K
 obtain ⟨Z2,hZ2⟩:∃ Z,Z=(((((Z1.setCell ⟨gr,0,none⟩ (.bool r.2.2.2.2)).setCell ⟨gr,1,none⟩ (.int .i64 r.1)).setCell ⟨gr,2,none⟩ (.int .i64 r.2.1)).setCell ⟨gr,3,none⟩ (.int .u64 (r.2.2.1:Int))).setCell ⟨gr,4,none⟩ (.int .u64 (r.2.2.2.1:Int))):=⟨_,rfl⟩
 obtain ⟨HZ2,rrz,keep⟩:=(rows_put1 rr.out HZ1.out (by omega) _ _ _ _ _ hZ2).out
 replace HZ2:Hid (Ok w Z2):=HZ2
 replace rrz:Hid _:=rrz
 replace rl:Hid _:=keep _ _ (by omega) rl.out
 rw [<-hZ2]
 clear hZ2 keep rr
 clear a0 a1 a2 a3 a4 a5 a6 a7 a8 a9
 have rr:Hid _:=rrz
 clear rrz
 refine wpAnyT_done (by kernel_rfl) ?_ _
 go_wp2_with fail
 refine bodyPost_ret (results_2c rfl _ _ gl gr 29 #[_,_,_,_,_] #[_,_,_,_,_] (0,0) _ rfl rfl rl.out rr.out Tryz.underlying29 rfl infoN infoN) rfl ?_
 exact ⟨rfl,HZ2.out⟩
end Go.Proofs.YtnjmjnmhldhaoaaGreat
