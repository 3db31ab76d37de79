import Derived.Test.YtnjmjnmhldhaoaaGreatKCprog
import Derived.Test.YtnjmjnmhldhaoaaGreatKJm
import Derived.Test.YtnjmjnmhldhaoaaGreatKJn
import Derived.Test.YtnjmjnmhldhaoaaGreatKJq
import Derived.Test.YtnjmjnmhldhaoaaGreatKNa
import Derived.Test.YtnjmjnmhldhaoaaGreatKNo
set_option maxHeartbeats 8000000
set_option linter.all false
namespace Go.Proofs.YtnjmjnmhldhaoaaGreat
open Go.RowKit
attribute [local go_sem] run_store_fun
set_option maxRecDepth 100000 in
theorem ndivC_any (cM cR dM dR:Nat) (ex:Bool) (h1:U64 cM) (h2:U64 cR) (h3:U64 dM) (h4:U64 dR) (w0 w:World) (hok:Ok w0 w) :
  Calls Tryz.prog 209 #[cv cM cR,cv dM dR,.bool ex] w fun e w'=>e=.returned (cv (divC cM cR dM dR).1 (divC cM cR dM dR).2)/\Ok w0 w':=by
 have hle:=hok.le
 unfold cv
 go_enter Tryz.func209,Tryz.ntmps209
 go_wp2_with fail
 obtain ⟨W,hW⟩:∃ W,W=(((w).alloc (.cells #[.int .u64 (cM:Int),.int .u64 (cR:Int)] 27)).alloc (.cells #[.int .u64 (dM:Int),.int .u64 (dR:Int)] 27)).alloc (.cells #[.int .u64 0,.int .u64 0] 27):=⟨_,rfl⟩
 have rz:Hid (W.heap[w.heap.size+1+1]?=some (.cells #[.int .u64 0,.int .u64 0] 27)):=by unfold Hid;rw [hW];exact jj
 have HW:Hid (Ok w0 W):=by unfold Hid;rw [hW];exact (by repeat (first | exact hok | refine Ok.alloc ?_ _ | refine Ok.draws ?_ _ | fail))
 rw [<-hW]
 clear hW
 obtain ⟨gz,ez⟩:∃ g,g=w.heap.size+1+1:=⟨_,rfl⟩
 rw [<-ez] at rz ⊢
 have lgz:w0.heap.size<=gz:=by omega
 clear ez
 refine (pdiv_any cM cR dM dR h1 h2 h3 h4 W _ (Ok.refl _)).mono ?_
 rintro e w' ⟨rfl,hb⟩
 have hr:Hid _:=Ok.row' hb rz.out
 obtain ⟨k0,k1,k2,k3⟩:=row_facts hr.out
 unfold cv
 go_wp2_with fail
 (try simp only [Exit.inBlock, Exit.then]); refine bodyPost_ret (results_cell_row rfl _ _ (gz) 27 #[_, _] (0, 0) _ rfl (row_set2 hr.out _ _) Tryz.underlying27 rfl infoCg) rfl ?_
 exact ⟨rfl,Ok.set (Ok.set (HW.out.step hb) lgz _) lgz _⟩
set_option maxRecDepth 100000 in
theorem nremC_any (cM cR dM dR:Nat) (ex:Bool) (h1:U64 cM) (h2:U64 cR) (h3:U64 dM) (h4:U64 dR) (w0 w:World) (hok:Ok w0 w) :
  Calls Tryz.prog 211 #[cv cM cR,cv dM dR,.bool ex] w fun e w'=>e=.returned (cv (remC cM cR dM dR).1 (remC cM cR dM dR).2)/\Ok w0 w':=by
 have hle:=hok.le
 unfold cv
 go_enter Tryz.func211,Tryz.ntmps211
 go_wp2_with fail
 obtain ⟨W,hW⟩:∃ W,W=(((w).alloc (.cells #[.int .u64 (cM:Int),.int .u64 (cR:Int)] 27)).alloc (.cells #[.int .u64 (dM:Int),.int .u64 (dR:Int)] 27)).alloc (.cells #[.int .u64 0,.int .u64 0] 27):=⟨_,rfl⟩
 have rz:Hid (W.heap[w.heap.size+1+1]?=some (.cells #[.int .u64 0,.int .u64 0] 27)):=by unfold Hid;rw [hW];exact jj
 have HW:Hid (Ok w0 W):=by unfold Hid;rw [hW];exact (by repeat (first | exact hok | refine Ok.alloc ?_ _ | refine Ok.draws ?_ _ | fail))
 rw [<-hW]
 clear hW
 obtain ⟨gz,ez⟩:∃ g,g=w.heap.size+1+1:=⟨_,rfl⟩
 rw [<-ez] at rz ⊢
 have lgz:w0.heap.size<=gz:=by omega
 clear ez
 refine (prem_any cM cR dM dR h1 h2 h3 h4 W _ (Ok.refl _)).mono ?_
 rintro e w' ⟨rfl,hb⟩
 have hr:Hid _:=Ok.row' hb rz.out
 obtain ⟨k0,k1,k2,k3⟩:=row_facts hr.out
 unfold cv
 go_wp2_with fail
 (try simp only [Exit.inBlock, Exit.then]); refine bodyPost_ret (results_cell_row rfl _ _ (gz) 27 #[_, _] (0, 0) _ rfl (row_set2 hr.out _ _) Tryz.underlying27 rfl infoCg) rfl ?_
 exact ⟨rfl,Ok.set (Ok.set (HW.out.step hb) lgz _) lgz _⟩
set_option maxRecDepth 100000 in
theorem napply_div (a b:Int×Int×Nat×Nat×Bool) (ha:RawN a) (hb:RawN b) (w0 w:World) (hok:Ok w0 w) :
  Calls Tryz.prog 85 #[.int .i64 6,nv a,nv b] w fun e w'=>e=.returned (.tuple #[nv (ap2 divN (normN a) (nonZeroN b)),.int .i64 0])/\Ok w0 w':=by
 have hle:=hok.le
 have HU:Hid _:=And.intro ha hb
 obtain ⟨x,hx⟩:∃ x,x=normN a:=⟨_,rfl⟩
 obtain ⟨y,hy⟩:∃ y,y=nonZeroN b:=⟨_,rfl⟩
 have RX:Hid (RawN x/\RawN y):=by rw [hx,hy];exact ⟨normN_raw ha,nonZeroN_raw hb⟩
 have HX:Hid _:=hx
 have HY:Hid _:=hy
 rw [<-hx,<-hy]
 clear hx hy ha hb
 unfold nv
 go_enter Tryz.func85,Tryz.ntmps85
 go_wp2_with fail
 obtain ⟨W,hW⟩:∃ W,W=(((w).alloc (.cells #[.bool a.2.2.2.2,.int .i64 a.1,.int .i64 a.2.1,.int .u64 (a.2.2.1:Int),.int .u64 (a.2.2.2.1:Int)] 29)).alloc (.cells #[.bool b.2.2.2.2,.int .i64 b.1,.int .i64 b.2.1,.int .u64 (b.2.2.1:Int),.int .u64 (b.2.2.2.1:Int)] 29)).alloc (.cells #[.bool false,.int .i64 0,.int .i64 0,.int .u64 0,.int .u64 0] 29):=⟨_,rfl⟩
 have ra:Hid (W.heap[w.heap.size]?=some (.cells #[.bool a.2.2.2.2,.int .i64 a.1,.int .i64 a.2.1,.int .u64 (a.2.2.1:Int),.int .u64 (a.2.2.2.1:Int)] 29)):=by unfold Hid;rw [hW];exact jj
 have rb:Hid (W.heap[w.heap.size+1]?=some (.cells #[.bool b.2.2.2.2,.int .i64 b.1,.int .i64 b.2.1,.int .u64 (b.2.2.1:Int),.int .u64 (b.2.2.2.1:Int)] 29)):=by unfold Hid;rw [hW];exact jj
 have rz:Hid (W.heap[w.heap.size+1+1]?=some (.cells #[.bool false,.int .i64 0,.int .i64 0,.int .u64 0,.int .u64 0] 29)):=by unfold Hid;rw [hW];exact jj
 have HW:Hid (Ok w0 W):=by unfold Hid;rw [hW];exact (by repeat (first | exact hok | refine Ok.alloc ?_ _ | refine Ok.draws ?_ _ | fail))
 rw [<-hW]
 clear hW
 obtain ⟨gz,egz⟩:∃ g,g=w.heap.size+1+1:=⟨_,rfl⟩
 rw [<-egz] at rz ⊢
 obtain ⟨gb,egb⟩:∃ g,g=w.heap.size+1:=⟨_,rfl⟩
 rw [<-egb] at rb ⊢
 obtain ⟨ga,ega⟩:∃ g,g=w.heap.size:=⟨_,rfl⟩
 rw [<-ega] at ra ⊢
 have lga:w0.heap.size<=ga:=by omega
 have ngagb:¬ga=gb:=by omega
 have ngagz:¬ga=gz:=by omega
 have lgb:w0.heap.size<=gb:=by omega
 have ngbga:¬gb=ga:=by omega
 have ngbgz:¬gb=gz:=by omega
 have lgz:w0.heap.size<=gz:=by omega
 have ngzga:¬gz=ga:=by omega
 have ngzgb:¬gz=gb:=by omega
 clear ega egb egz
 refine (find_div W _ (Ok.refl _)).mono ?_
 rintro e w1 ⟨rfl,hb⟩
 replace ra:Hid _:=Ok.row' hb ra.out
 replace rb:Hid _:=Ok.row' hb rb.out
 replace rz:Hid _:=Ok.row' hb rz.out
 have Hw1:Hid (Ok w0 w1):=HW.out.step hb
 clear hb
 obtain ⟨a0,a1,a2,a3,a4,a5,a6,a7,a8,a9⟩:=row5_facts ra.out
 obtain ⟨b0,b1,b2,b3,b4,b5,b6,b7,b8,b9⟩:=row5_facts rb.out
 obtain ⟨k0,k1,k2,k3,k4,k5,k6,k7,k8,k9⟩:=row5_facts rz.out
 have s1:=lt_row ra.out
 have s2:=lt_row rb.out
 have s3:=lt_row rz.out
 have mga1:¬w1.heap.size=ga:=by omega
 have mgb1:¬w1.heap.size=gb:=by omega
 have mgz1:¬w1.heap.size=gz:=by omega
 have mga2:¬ga=w1.heap.size:=by omega
 have mgb2:¬gb=w1.heap.size:=by omega
 have mgz2:¬gz=w1.heap.size:=by omega
 go_wp2_with fail
 obtain ⟨W1,hW1⟩:∃ W,W=w1.alloc (.cells #[.int .i64 6,.bool false,.bool true,.func (.func 208) #[] #[],.func (.func 209) #[] #[]] 142):=⟨_,rfl⟩
 have OY:Ok w1 W1:=by rw [hW1];exact (Ok.refl _).alloc _
 have rr:Hid (W1.heap[w1.heap.size]?=some (.cells #[.int .i64 6,.bool false,.bool true,.func (.func 208) #[] #[],.func (.func 209) #[] #[]] 142)):=by unfold Hid;rw [hW1];exact heap_new0 _ _
 rw [<-hW1]
 have HW1:Hid (Ok w0 W1):=Hw1.out.step OY
 replace ra:Hid _:=Ok.row' OY ra.out
 replace rb:Hid _:=Ok.row' OY rb.out
 replace rz:Hid _:=Ok.row' OY rz.out
 have lgr:w0.heap.size<=w1.heap.size:=Hw1.out.le
 obtain ⟨gr,egr⟩:∃ g,g=w1.heap.size:=⟨_,rfl⟩
 rw [<-egr] at rr mga1 mgb1 mgz1 mga2 mgb2 mgz2 lgr ⊢
 clear hW1 OY egr s1 s2 s3 a0 a1 a2 a3 a4 a5 a6 a7 a8 a9 b0 b1 b2 b3 b4 b5 b6 b7 b8 b9 k0 k1 k2 k3 k4 k5 k6 k7 k8 k9
 refine (opnd_div 6 a b HU.out.1 HU.out.2 W1 _ (Ok.refl _)).mono ?_
 rintro e w2 ⟨rfl,hb⟩
 replace ra:Hid _:=Ok.row' hb ra.out
 replace rb:Hid _:=Ok.row' hb rb.out
 replace rz:Hid _:=Ok.row' hb rz.out
 replace rr:Hid _:=Ok.row' hb rr.out
 have Hw2:Hid (Ok w0 w2):=HW1.out.step hb
 clear hb
 rw [<-HX.out,<-HY.out]
 unfold nv
 obtain ⟨a0,a1,a2,a3,a4,a5,a6,a7,a8,a9⟩:=row5_facts ra.out
 obtain ⟨b0,b1,b2,b3,b4,b5,b6,b7,b8,b9⟩:=row5_facts rb.out
 obtain ⟨k0,k1,k2,k3,k4,k5,k6,k7,k8,k9⟩:=row5_facts rz.out
 obtain ⟨p0,p1,p2,p3,p4,p5,p6,p7,p8,p9⟩:=row5_facts rr.out
 cases hxb:x.2.2.2.2
 ·cases hyb:y.2.2.2.2
  ·have HA:Hid (ap2 divN x y=divN x y):=ap2_some hxb hyb
   obtain ⟨q,hq⟩:∃ q,q=divI x.1 x.2.1 y.1 y.2.1:=⟨_,rfl⟩
   obtain ⟨m,hm⟩:∃ m,m=divC x.2.2.1 x.2.2.2.1 y.2.2.1 y.2.2.2.1:=⟨_,rfl⟩
   have IQ:Hid (In64 q.1/\In64 q.2.1):=by rw [hq];exact divI_in RX.out.1.1 RX.out.1.2.1 RX.out.2.1 RX.out.2.2.1
   have IM:Hid (U64 m.1/\U64 m.2):=by rw [hm];exact ndiv_u64 RX.out.1.2.2.1
   have HF:Hid (divN x y=makeN q.1 q.2.1 m.1 m.2):=by unfold Hid;rw [hm,hq];rfl
   have HQ:Hid _:=hq
   have HM:Hid _:=hm
   clear hq hm
   go_wp2_with fail
   obtain ⟨Z,hZ⟩:∃ Z,Z=((((((((((w2.setCell ⟨ga,0,none⟩ (.bool false)).setCell ⟨ga,1,none⟩ (.int .i64 x.1)).setCell ⟨ga,2,none⟩ (.int .i64 x.2.1)).setCell ⟨ga,3,none⟩ (.int .u64 (x.2.2.1:Int))).setCell ⟨ga,4,none⟩ (.int .u64 (x.2.2.2.1:Int))).setCell ⟨gb,0,none⟩ (.bool false)).setCell ⟨gb,1,none⟩ (.int .i64 y.1)).setCell ⟨gb,2,none⟩ (.int .i64 y.2.1)).setCell ⟨gb,3,none⟩ (.int .u64 (y.2.2.1:Int))).setCell ⟨gb,4,none⟩ (.int .u64 (y.2.2.2.1:Int))):=⟨_,rfl⟩
   obtain ⟨HZ,raz,rbz,keep⟩:=(rows_put2 (g:=ga) (k:=gb) (by omega) ra.out rb.out (Ok.refl w2) Hw2.out (by omega) (by omega) (.bool false) (.int .i64 x.1) (.int .i64 x.2.1) (.int .u64 (x.2.2.1:Int)) (.int .u64 (x.2.2.2.1:Int)) (.bool false) (.int .i64 y.1) (.int .i64 y.2.1) (.int .u64 (y.2.2.1:Int)) (.int .u64 (y.2.2.2.1:Int))).out
   rw [<-hZ] at HZ raz rbz keep
   replace HZ:Hid (Ok w0 Z):=HZ
   replace raz:Hid _:=raz
   replace rbz:Hid _:=rbz
   replace rz:Hid _:=keep _ _ (by omega) (by omega) rz.out
   replace rr:Hid _:=keep _ _ (by omega) (by omega) rr.out
   rw [<-hZ]
   clear hZ keep ra rb
   clear a0 a1 a2 a3 a4 a5 a6 a7 a8 a9 b0 b1 b2 b3 b4 b5 b6 b7 b8 b9 k0 k1 k2 k3 k4 k5 k6 k7 k8 k9 p0 p1 p2 p3 p4 p5 p6 p7 p8 p9
   refine (Jpdiv_any _ _ _ _ Z _ (Ok.refl _) RX.out.1.1 RX.out.1.2.1 RX.out.2.1 RX.out.2.2.1).mono ?_
   rintro e w3 ⟨rfl,hb⟩
   rw [<-HQ.out]
   replace raz:Hid _:=Ok.row' hb raz.out
   replace rbz:Hid _:=Ok.row' hb rbz.out
   replace rz:Hid _:=Ok.row' hb rz.out
   replace rr:Hid _:=Ok.row' hb rr.out
   have Hw3:Hid (Ok w0 w3):=HZ.out.step hb
   clear hb
   obtain ⟨a0,a1,a2,a3,a4,a5,a6,a7,a8,a9⟩:=row5_facts raz.out
   obtain ⟨b0,b1,b2,b3,b4,b5,b6,b7,b8,b9⟩:=row5_facts rbz.out
   obtain ⟨k0,k1,k2,k3,k4,k5,k6,k7,k8,k9⟩:=row5_facts rz.out
   obtain ⟨p0,p1,p2,p3,p4,p5,p6,p7,p8,p9⟩:=row5_facts rr.out
   have s1:=lt_row raz.out
   have s2:=lt_row rbz.out
   have s3:=lt_row rz.out
   have s4:=lt_row rr.out
   have vga1:¬w3.heap.size=ga:=by omega
   have vgb1:¬w3.heap.size=gb:=by omega
   have vgz1:¬w3.heap.size=gz:=by omega
   have vgr1:¬w3.heap.size=gr:=by omega
   have vga2:¬ga=w3.heap.size:=by omega
   have vgb2:¬gb=w3.heap.size:=by omega
   have vgz2:¬gz=w3.heap.size:=by omega
   have vgr2:¬gr=w3.heap.size:=by omega
   go_wp2_with fail
   obtain ⟨Y0,hY0⟩:∃ W,W=w3.alloc (.cells #[.int .i64 q.1,.int .i64 q.2.1] 24):=⟨_,rfl⟩
   have OY:Ok w3 Y0:=by rw [hY0];exact (Ok.refl _).alloc _
   have rc:Hid (Y0.heap[w3.heap.size]?=some (.cells #[.int .i64 q.1,.int .i64 q.2.1] 24)):=by unfold Hid;rw [hY0];exact heap_new0 _ _
   rw [<-hY0]
   have HY0:Hid (Ok w0 Y0):=Hw3.out.step OY
   replace raz:Hid _:=Ok.row' OY raz.out
   replace rbz:Hid _:=Ok.row' OY rbz.out
   replace rz:Hid _:=Ok.row' OY rz.out
   replace rr:Hid _:=Ok.row' OY rr.out
   obtain ⟨gc,egc⟩:∃ g,g=w3.heap.size:=⟨_,rfl⟩
   rw [<-egc] at rc vga1 vgb1 vgz1 vgr1 vga2 vgb2 vgz2 vgr2 ⊢
   clear hY0 OY egc s1 s2 s3 s4
   clear a0 a1 a2 a3 a4 a5 a6 a7 a8 a9 b0 b1 b2 b3 b4 b5 b6 b7 b8 b9 k0 k1 k2 k3 k4 k5 k6 k7 k8 k9 p0 p1 p2 p3 p4 p5 p6 p7 p8 p9
   obtain ⟨a0,a1,a2,a3,a4,a5,a6,a7,a8,a9⟩:=row5_facts raz.out
   obtain ⟨b0,b1,b2,b3,b4,b5,b6,b7,b8,b9⟩:=row5_facts rbz.out
   obtain ⟨k0,k1,k2,k3,k4,k5,k6,k7,k8,k9⟩:=row5_facts rz.out
   obtain ⟨c0,c1,c2,c3⟩:=row_facts rc.out
   obtain ⟨p0,p1,p2,p3,p4,p5,p6,p7,p8,p9⟩:=row5_facts rr.out
   have za:=lt_row raz.out
   have zb:=lt_row rbz.out
   have zc:=lt_row rc.out
   have zr:=lt_row rr.out
   have bz:Ok Y0 Y0:=Ok.refl _
   go_region_held3 (fun w'=>w'.cell? ⟨ga,3,none⟩=some (.int .u64 (x.2.2.1:Int))/\w'.cell? ⟨ga,4,none⟩=some (.int .u64 (x.2.2.2.1:Int))/\w'.cell? ⟨gb,3,none⟩=some (.int .u64 (y.2.2.1:Int))/\w'.cell? ⟨gb,4,none⟩=some (.int .u64 (y.2.2.2.1:Int))/\w'.cell? ⟨gc,0,none⟩=some (.int .i64 q.1)/\w'.cell? ⟨gc,1,none⟩=some (.int .i64 q.2.1)/\w'.cell? ⟨gr,4,none⟩=some (.func (.func 209) #[] #[])) (go_keep)
    (first
    | (go_at_call 209;refine (ndivC_any _ _ _ _ _ RX.out.1.2.2.1 RX.out.1.2.2.2 RX.out.2.2.2.1 RX.out.2.2.2.2 Y0 _ (by repeat (first | assumption | refine Ok.alloc ?_ _ | refine Below.drew ?_))).mono ?_;rintro e w' ⟨rfl,hb⟩;rw [<-HM.out];unfold cv;have q0:=Ok.cell hb za a3;have q1:=Ok.cell hb za a4;have q2:=Ok.cell hb zb b3;have q3:=Ok.cell hb zb b4;have q4:=Ok.cell hb zc c0;have q5:=Ok.cell hb zc c1;have q6:=Ok.cell hb zr p4;obtain ⟨k0,k1,k2,k3,k4,k5,k6,k7,k8,k9⟩:=row5_facts (Ok.row' hb rz.out))
    | (go_at_call 19;refine (nmake_any _ _ _ _ IQ.out.1 IQ.out.2 IM.out.1 IM.out.2 Y0 _ (by repeat (first | assumption | refine Ok.alloc ?_ _ | refine Below.drew ?_))).mono ?_;rintro e w' ⟨rfl,hb⟩;rw [<-HF.out,<-HA.out];unfold nv;have q0:=Ok.cell hb za a3;have q1:=Ok.cell hb za a4;have q2:=Ok.cell hb zb b3;have q3:=Ok.cell hb zb b4;have q4:=Ok.cell hb zc c0;have q5:=Ok.cell hb zc c1;have q6:=Ok.cell hb zr p4;obtain ⟨k0,k1,k2,k3,k4,k5,k6,k7,k8,k9⟩:=row5_facts (Ok.row' hb rz.out))
    | fail)
   go_wp2_with fail
   have hr:Hid _:=Ok.row' hb rz.out
   (try simp only [Exit.inBlock, Exit.then]); refine bodyPost_ret (results_iv rfl _ _ (gz) 29 #[_, _, _, _, _] (0, 0) _ rfl (row_set5 hr.out _ _ _ _ _) Tryz.underlying29 rfl infoN) rfl ?_
   exact ⟨rfl,Ok.set (Ok.set (Ok.set (Ok.set (Ok.set (HY0.out.step hb) (show w0.heap.size<=gz by omega) _) (show w0.heap.size<=gz by omega) _) (show w0.heap.size<=gz by omega) _) (show w0.heap.size<=gz by omega) _) (show w0.heap.size<=gz by omega) _⟩
  ·have HA:Hid (ap2 divN x y=botN):=ap2_right hyb
   go_wp2_with fail
   obtain ⟨Z,hZ⟩:∃ Z,Z=((((((((((w2.setCell ⟨ga,0,none⟩ (.bool false)).setCell ⟨ga,1,none⟩ (.int .i64 x.1)).setCell ⟨ga,2,none⟩ (.int .i64 x.2.1)).setCell ⟨ga,3,none⟩ (.int .u64 (x.2.2.1:Int))).setCell ⟨ga,4,none⟩ (.int .u64 (x.2.2.2.1:Int))).setCell ⟨gb,0,none⟩ (.bool true)).setCell ⟨gb,1,none⟩ (.int .i64 y.1)).setCell ⟨gb,2,none⟩ (.int .i64 y.2.1)).setCell ⟨gb,3,none⟩ (.int .u64 (y.2.2.1:Int))).setCell ⟨gb,4,none⟩ (.int .u64 (y.2.2.2.1:Int))):=⟨_,rfl⟩
   obtain ⟨HZ,raz,rbz,keep⟩:=(rows_put2 (g:=ga) (k:=gb) (by omega) ra.out rb.out (Ok.refl w2) Hw2.out (by omega) (by omega) (.bool false) (.int .i64 x.1) (.int .i64 x.2.1) (.int .u64 (x.2.2.1:Int)) (.int .u64 (x.2.2.2.1:Int)) (.bool true) (.int .i64 y.1) (.int .i64 y.2.1) (.int .u64 (y.2.2.1:Int)) (.int .u64 (y.2.2.2.1:Int))).out
   rw [<-hZ] at HZ raz rbz keep
   replace HZ:Hid (Ok w0 Z):=HZ
   replace raz:Hid _:=raz
   replace rbz:Hid _:=rbz
   replace rz:Hid _:=keep _ _ (by omega) (by omega) rz.out
   replace rr:Hid _:=keep _ _ (by omega) (by omega) rr.out
   rw [<-hZ]
   clear hZ keep ra rb
   clear a0 a1 a2 a3 a4 a5 a6 a7 a8 a9 b0 b1 b2 b3 b4 b5 b6 b7 b8 b9 k0 k1 k2 k3 k4 k5 k6 k7 k8 k9 p0 p1 p2 p3 p4 p5 p6 p7 p8 p9
   refine (nbot_any Z _ (Ok.refl _)).mono ?_
   rintro e w3 ⟨rfl,hb⟩
   unfold nv botN
   replace rz:Hid _:=Ok.row' hb rz.out
   have Hw3:Hid (Ok w0 w3):=HZ.out.step hb
   clear hb
   obtain ⟨k0,k1,k2,k3,k4,k5,k6,k7,k8,k9⟩:=row5_facts rz.out
   have hr:Hid _:=rz
   go_wp2_with fail
   (try simp only [Exit.inBlock, Exit.then]); refine bodyPost_ret (results_iv rfl _ _ (gz) 29 #[_, _, _, _, _] (0, 0) _ rfl (row_set5 hr.out _ _ _ _ _) Tryz.underlying29 rfl infoN) rfl ?_
   exact ⟨by rw [HA.out];rfl,Ok.set (Ok.set (Ok.set (Ok.set (Ok.set (Hw3.out) (show w0.heap.size<=gz by omega) _) (show w0.heap.size<=gz by omega) _) (show w0.heap.size<=gz by omega) _) (show w0.heap.size<=gz by omega) _) (show w0.heap.size<=gz by omega) _⟩
 ·have HA:Hid (ap2 divN x y=botN):=ap2_left hxb
  go_wp2_with fail
  obtain ⟨Z,hZ⟩:∃ Z,Z=((((((((((w2.setCell ⟨ga,0,none⟩ (.bool true)).setCell ⟨ga,1,none⟩ (.int .i64 x.1)).setCell ⟨ga,2,none⟩ (.int .i64 x.2.1)).setCell ⟨ga,3,none⟩ (.int .u64 (x.2.2.1:Int))).setCell ⟨ga,4,none⟩ (.int .u64 (x.2.2.2.1:Int))).setCell ⟨gb,0,none⟩ (.bool y.2.2.2.2)).setCell ⟨gb,1,none⟩ (.int .i64 y.1)).setCell ⟨gb,2,none⟩ (.int .i64 y.2.1)).setCell ⟨gb,3,none⟩ (.int .u64 (y.2.2.1:Int))).setCell ⟨gb,4,none⟩ (.int .u64 (y.2.2.2.1:Int))):=⟨_,rfl⟩
  obtain ⟨HZ,raz,rbz,keep⟩:=(rows_put2 (g:=ga) (k:=gb) (by omega) ra.out rb.out (Ok.refl w2) Hw2.out (by omega) (by omega) (.bool true) (.int .i64 x.1) (.int .i64 x.2.1) (.int .u64 (x.2.2.1:Int)) (.int .u64 (x.2.2.2.1:Int)) (.bool y.2.2.2.2) (.int .i64 y.1) (.int .i64 y.2.1) (.int .u64 (y.2.2.1:Int)) (.int .u64 (y.2.2.2.1:Int))).out
  rw [<-hZ] at HZ raz rbz keep
  replace HZ:Hid (Ok w0 Z):=HZ
  replace raz:Hid _:=raz
  replace rbz:Hid _:=rbz
  replace rz:Hid _:=keep _ _ (by omega) (by omega) rz.out
  replace rr:Hid _:=keep _ _ (by omega) (by omega) rr.out
  rw [<-hZ]
  clear hZ keep ra rb
  clear a0 a1 a2 a3 a4 a5 a6 a7 a8 a9 b0 b1 b2 b3 b4 b5 b6 b7 b8 b9 k0 k1 k2 k3 k4 k5 k6 k7 k8 k9 p0 p1 p2 p3 p4 p5 p6 p7 p8 p9
  refine (nbot_any Z _ (Ok.refl _)).mono ?_
  rintro e w3 ⟨rfl,hb⟩
  unfold nv botN
  replace rz:Hid _:=Ok.row' hb rz.out
  have Hw3:Hid (Ok w0 w3):=HZ.out.step hb
  clear hb
  obtain ⟨k0,k1,k2,k3,k4,k5,k6,k7,k8,k9⟩:=row5_facts rz.out
  have hr:Hid _:=rz
  go_wp2_with fail
  (try simp only [Exit.inBlock, Exit.then]); refine bodyPost_ret (results_iv rfl _ _ (gz) 29 #[_, _, _, _, _] (0, 0) _ rfl (row_set5 hr.out _ _ _ _ _) Tryz.underlying29 rfl infoN) rfl ?_
  exact ⟨by rw [HA.out];rfl,Ok.set (Ok.set (Ok.set (Ok.set (Ok.set (Hw3.out) (show w0.heap.size<=gz by omega) _) (show w0.heap.size<=gz by omega) _) (show w0.heap.size<=gz by omega) _) (show w0.heap.size<=gz by omega) _) (show w0.heap.size<=gz by omega) _⟩
set_option maxRecDepth 100000 in
theorem napply_rem (a b:Int×Int×Nat×Nat×Bool) (ha:RawN a) (hb:RawN b) (w0 w:World) (hok:Ok w0 w) :
  Calls Tryz.prog 85 #[.int .i64 7,nv a,nv b] w fun e w'=>e=.returned (.tuple #[nv (ap2 remN (normN a) (nonZeroN b)),.int .i64 0])/\Ok w0 w':=by
 have hle:=hok.le
 have HU:Hid _:=And.intro ha hb
 obtain ⟨x,hx⟩:∃ x,x=normN a:=⟨_,rfl⟩
 obtain ⟨y,hy⟩:∃ y,y=nonZeroN b:=⟨_,rfl⟩
 have RX:Hid (RawN x/\RawN y):=by rw [hx,hy];exact ⟨normN_raw ha,nonZeroN_raw hb⟩
 have HX:Hid _:=hx
 have HY:Hid _:=hy
 rw [<-hx,<-hy]
 clear hx hy ha hb
 unfold nv
 go_enter Tryz.func85,Tryz.ntmps85
 go_wp2_with fail
 obtain ⟨W,hW⟩:∃ W,W=(((w).alloc (.cells #[.bool a.2.2.2.2,.int .i64 a.1,.int .i64 a.2.1,.int .u64 (a.2.2.1:Int),.int .u64 (a.2.2.2.1:Int)] 29)).alloc (.cells #[.bool b.2.2.2.2,.int .i64 b.1,.int .i64 b.2.1,.int .u64 (b.2.2.1:Int),.int .u64 (b.2.2.2.1:Int)] 29)).alloc (.cells #[.bool false,.int .i64 0,.int .i64 0,.int .u64 0,.int .u64 0] 29):=⟨_,rfl⟩
 have ra:Hid (W.heap[w.heap.size]?=some (.cells #[.bool a.2.2.2.2,.int .i64 a.1,.int .i64 a.2.1,.int .u64 (a.2.2.1:Int),.int .u64 (a.2.2.2.1:Int)] 29)):=by unfold Hid;rw [hW];exact jj
 have rb:Hid (W.heap[w.heap.size+1]?=some (.cells #[.bool b.2.2.2.2,.int .i64 b.1,.int .i64 b.2.1,.int .u64 (b.2.2.1:Int),.int .u64 (b.2.2.2.1:Int)] 29)):=by unfold Hid;rw [hW];exact jj
 have rz:Hid (W.heap[w.heap.size+1+1]?=some (.cells #[.bool false,.int .i64 0,.int .i64 0,.int .u64 0,.int .u64 0] 29)):=by unfold Hid;rw [hW];exact jj
 have HW:Hid (Ok w0 W):=by unfold Hid;rw [hW];exact (by repeat (first | exact hok | refine Ok.alloc ?_ _ | refine Ok.draws ?_ _ | fail))
 rw [<-hW]
 clear hW
 obtain ⟨gz,egz⟩:∃ g,g=w.heap.size+1+1:=⟨_,rfl⟩
 rw [<-egz] at rz ⊢
 obtain ⟨gb,egb⟩:∃ g,g=w.heap.size+1:=⟨_,rfl⟩
 rw [<-egb] at rb ⊢
 obtain ⟨ga,ega⟩:∃ g,g=w.heap.size:=⟨_,rfl⟩
 rw [<-ega] at ra ⊢
 have lga:w0.heap.size<=ga:=by omega
 have ngagb:¬ga=gb:=by omega
 have ngagz:¬ga=gz:=by omega
 have lgb:w0.heap.size<=gb:=by omega
 have ngbga:¬gb=ga:=by omega
 have ngbgz:¬gb=gz:=by omega
 have lgz:w0.heap.size<=gz:=by omega
 have ngzga:¬gz=ga:=by omega
 have ngzgb:¬gz=gb:=by omega
 clear ega egb egz
 refine (find_rem W _ (Ok.refl _)).mono ?_
 rintro e w1 ⟨rfl,hb⟩
 replace ra:Hid _:=Ok.row' hb ra.out
 replace rb:Hid _:=Ok.row' hb rb.out
 replace rz:Hid _:=Ok.row' hb rz.out
 have Hw1:Hid (Ok w0 w1):=HW.out.step hb
 clear hb
 obtain ⟨a0,a1,a2,a3,a4,a5,a6,a7,a8,a9⟩:=row5_facts ra.out
 obtain ⟨b0,b1,b2,b3,b4,b5,b6,b7,b8,b9⟩:=row5_facts rb.out
 obtain ⟨k0,k1,k2,k3,k4,k5,k6,k7,k8,k9⟩:=row5_facts rz.out
 have s1:=lt_row ra.out
 have s2:=lt_row rb.out
 have s3:=lt_row rz.out
 have mga1:¬w1.heap.size=ga:=by omega
 have mgb1:¬w1.heap.size=gb:=by omega
 have mgz1:¬w1.heap.size=gz:=by omega
 have mga2:¬ga=w1.heap.size:=by omega
 have mgb2:¬gb=w1.heap.size:=by omega
 have mgz2:¬gz=w1.heap.size:=by omega
 go_wp2_with fail
 obtain ⟨W1,hW1⟩:∃ W,W=w1.alloc (.cells #[.int .i64 7,.bool false,.bool true,.func (.func 210) #[] #[],.func (.func 211) #[] #[]] 142):=⟨_,rfl⟩
 have OY:Ok w1 W1:=by rw [hW1];exact (Ok.refl _).alloc _
 have rr:Hid (W1.heap[w1.heap.size]?=some (.cells #[.int .i64 7,.bool false,.bool true,.func (.func 210) #[] #[],.func (.func 211) #[] #[]] 142)):=by unfold Hid;rw [hW1];exact heap_new0 _ _
 rw [<-hW1]
 have HW1:Hid (Ok w0 W1):=Hw1.out.step OY
 replace ra:Hid _:=Ok.row' OY ra.out
 replace rb:Hid _:=Ok.row' OY rb.out
 replace rz:Hid _:=Ok.row' OY rz.out
 have lgr:w0.heap.size<=w1.heap.size:=Hw1.out.le
 obtain ⟨gr,egr⟩:∃ g,g=w1.heap.size:=⟨_,rfl⟩
 rw [<-egr] at rr mga1 mgb1 mgz1 mga2 mgb2 mgz2 lgr ⊢
 clear hW1 OY egr s1 s2 s3 a0 a1 a2 a3 a4 a5 a6 a7 a8 a9 b0 b1 b2 b3 b4 b5 b6 b7 b8 b9 k0 k1 k2 k3 k4 k5 k6 k7 k8 k9
 refine (opnd_div 7 a b HU.out.1 HU.out.2 W1 _ (Ok.refl _)).mono ?_
 rintro e w2 ⟨rfl,hb⟩
 replace ra:Hid _:=Ok.row' hb ra.out
 replace rb:Hid _:=Ok.row' hb rb.out
 replace rz:Hid _:=Ok.row' hb rz.out
 replace rr:Hid _:=Ok.row' hb rr.out
 have Hw2:Hid (Ok w0 w2):=HW1.out.step hb
 clear hb
 rw [<-HX.out,<-HY.out]
 unfold nv
 obtain ⟨a0,a1,a2,a3,a4,a5,a6,a7,a8,a9⟩:=row5_facts ra.out
 obtain ⟨b0,b1,b2,b3,b4,b5,b6,b7,b8,b9⟩:=row5_facts rb.out
 obtain ⟨k0,k1,k2,k3,k4,k5,k6,k7,k8,k9⟩:=row5_facts rz.out
 obtain ⟨p0,p1,p2,p3,p4,p5,p6,p7,p8,p9⟩:=row5_facts rr.out
 cases hxb:x.2.2.2.2
 ·cases hyb:y.2.2.2.2
  ·have HA:Hid (ap2 remN x y=remN x y):=ap2_some hxb hyb
   obtain ⟨q,hq⟩:∃ q,q=remI x.1 x.2.1 y.1 y.2.1:=⟨_,rfl⟩
   obtain ⟨m,hm⟩:∃ m,m=remC x.2.2.1 x.2.2.2.1 y.2.2.1 y.2.2.2.1:=⟨_,rfl⟩
   have IQ:Hid (In64 q.1/\In64 q.2.1):=by rw [hq];exact remI_in RX.out.1.1 RX.out.1.2.1 RX.out.2.1 RX.out.2.2.1
   have IM:Hid (U64 m.1/\U64 m.2):=by rw [hm];exact nrem_u64 RX.out.1.2.2.1 RX.out.2.2.2.1
   have HF:Hid (remN x y=makeN q.1 q.2.1 m.1 m.2):=by unfold Hid;rw [hm,hq];rfl
   have HQ:Hid _:=hq
   have HM:Hid _:=hm
   clear hq hm
   go_wp2_with fail
   obtain ⟨Z,hZ⟩:∃ Z,Z=((((((((((w2.setCell ⟨ga,0,none⟩ (.bool false)).setCell ⟨ga,1,none⟩ (.int .i64 x.1)).setCell ⟨ga,2,none⟩ (.int .i64 x.2.1)).setCell ⟨ga,3,none⟩ (.int .u64 (x.2.2.1:Int))).setCell ⟨ga,4,none⟩ (.int .u64 (x.2.2.2.1:Int))).setCell ⟨gb,0,none⟩ (.bool false)).setCell ⟨gb,1,none⟩ (.int .i64 y.1)).setCell ⟨gb,2,none⟩ (.int .i64 y.2.1)).setCell ⟨gb,3,none⟩ (.int .u64 (y.2.2.1:Int))).setCell ⟨gb,4,none⟩ (.int .u64 (y.2.2.2.1:Int))):=⟨_,rfl⟩
   obtain ⟨HZ,raz,rbz,keep⟩:=(rows_put2 (g:=ga) (k:=gb) (by omega) ra.out rb.out (Ok.refl w2) Hw2.out (by omega) (by omega) (.bool false) (.int .i64 x.1) (.int .i64 x.2.1) (.int .u64 (x.2.2.1:Int)) (.int .u64 (x.2.2.2.1:Int)) (.bool false) (.int .i64 y.1) (.int .i64 y.2.1) (.int .u64 (y.2.2.1:Int)) (.int .u64 (y.2.2.2.1:Int))).out
   rw [<-hZ] at HZ raz rbz keep
   replace HZ:Hid (Ok w0 Z):=HZ
   replace raz:Hid _:=raz
   replace rbz:Hid _:=rbz
   replace rz:Hid _:=keep _ _ (by omega) (by omega) rz.out
   replace rr:Hid _:=keep _ _ (by omega) (by omega) rr.out
   rw [<-hZ]
   clear hZ keep ra rb
   clear a0 a1 a2 a3 a4 a5 a6 a7 a8 a9 b0 b1 b2 b3 b4 b5 b6 b7 b8 b9 k0 k1 k2 k3 k4 k5 k6 k7 k8 k9 p0 p1 p2 p3 p4 p5 p6 p7 p8 p9
   refine (Jprem_any _ _ _ _ Z _ (Ok.refl _) RX.out.1.1 RX.out.1.2.1 RX.out.2.1 RX.out.2.2.1).mono ?_
   rintro e w3 ⟨rfl,hb⟩
   rw [<-HQ.out]
   replace raz:Hid _:=Ok.row' hb raz.out
   replace rbz:Hid _:=Ok.row' hb rbz.out
   replace rz:Hid _:=Ok.row' hb rz.out
   replace rr:Hid _:=Ok.row' hb rr.out
   have Hw3:Hid (Ok w0 w3):=HZ.out.step hb
   clear hb
   obtain ⟨a0,a1,a2,a3,a4,a5,a6,a7,a8,a9⟩:=row5_facts raz.out
   obtain ⟨b0,b1,b2,b3,b4,b5,b6,b7,b8,b9⟩:=row5_facts rbz.out
   obtain ⟨k0,k1,k2,k3,k4,k5,k6,k7,k8,k9⟩:=row5_facts rz.out
   obtain ⟨p0,p1,p2,p3,p4,p5,p6,p7,p8,p9⟩:=row5_facts rr.out
   have s1:=lt_row raz.out
   have s2:=lt_row rbz.out
   have s3:=lt_row rz.out
   have s4:=lt_row rr.out
   have vga1:¬w3.heap.size=ga:=by omega
   have vgb1:¬w3.heap.size=gb:=by omega
   have vgz1:¬w3.heap.size=gz:=by omega
   have vgr1:¬w3.heap.size=gr:=by omega
   have vga2:¬ga=w3.heap.size:=by omega
   have vgb2:¬gb=w3.heap.size:=by omega
   have vgz2:¬gz=w3.heap.size:=by omega
   have vgr2:¬gr=w3.heap.size:=by omega
   go_wp2_with fail
   obtain ⟨Y0,hY0⟩:∃ W,W=w3.alloc (.cells #[.int .i64 q.1,.int .i64 q.2.1] 24):=⟨_,rfl⟩
   have OY:Ok w3 Y0:=by rw [hY0];exact (Ok.refl _).alloc _
   have rc:Hid (Y0.heap[w3.heap.size]?=some (.cells #[.int .i64 q.1,.int .i64 q.2.1] 24)):=by unfold Hid;rw [hY0];exact heap_new0 _ _
   rw [<-hY0]
   have HY0:Hid (Ok w0 Y0):=Hw3.out.step OY
   replace raz:Hid _:=Ok.row' OY raz.out
   replace rbz:Hid _:=Ok.row' OY rbz.out
   replace rz:Hid _:=Ok.row' OY rz.out
   replace rr:Hid _:=Ok.row' OY rr.out
   obtain ⟨gc,egc⟩:∃ g,g=w3.heap.size:=⟨_,rfl⟩
   rw [<-egc] at rc vga1 vgb1 vgz1 vgr1 vga2 vgb2 vgz2 vgr2 ⊢
   clear hY0 OY egc s1 s2 s3 s4
   clear a0 a1 a2 a3 a4 a5 a6 a7 a8 a9 b0 b1 b2 b3 b4 b5 b6 b7 b8 b9 k0 k1 k2 k3 k4 k5 k6 k7 k8 k9 p0 p1 p2 p3 p4 p5 p6 p7 p8 p9
   obtain ⟨a0,a1,a2,a3,a4,a5,a6,a7,a8,a9⟩:=row5_facts raz.out
   obtain ⟨b0,b1,b2,b3,b4,b5,b6,b7,b8,b9⟩:=row5_facts rbz.out
   obtain ⟨k0,k1,k2,k3,k4,k5,k6,k7,k8,k9⟩:=row5_facts rz.out
   obtain ⟨c0,c1,c2,c3⟩:=row_facts rc.out
   obtain ⟨p0,p1,p2,p3,p4,p5,p6,p7,p8,p9⟩:=row5_facts rr.out
   have za:=lt_row raz.out
   have zb:=lt_row rbz.out
   have zc:=lt_row rc.out
   have zr:=lt_row rr.out
   have bz:Ok Y0 Y0:=Ok.refl _
   go_region_held3 (fun w'=>w'.cell? ⟨ga,3,none⟩=some (.int .u64 (x.2.2.1:Int))/\w'.cell? ⟨ga,4,none⟩=some (.int .u64 (x.2.2.2.1:Int))/\w'.cell? ⟨gb,3,none⟩=some (.int .u64 (y.2.2.1:Int))/\w'.cell? ⟨gb,4,none⟩=some (.int .u64 (y.2.2.2.1:Int))/\w'.cell? ⟨gc,0,none⟩=some (.int .i64 q.1)/\w'.cell? ⟨gc,1,none⟩=some (.int .i64 q.2.1)/\w'.cell? ⟨gr,4,none⟩=some (.func (.func 211) #[] #[])) (go_keep)
    (first
    | (go_at_call 211;refine (nremC_any _ _ _ _ _ RX.out.1.2.2.1 RX.out.1.2.2.2 RX.out.2.2.2.1 RX.out.2.2.2.2 Y0 _ (by repeat (first | assumption | refine Ok.alloc ?_ _ | refine Below.drew ?_))).mono ?_;rintro e w' ⟨rfl,hb⟩;rw [<-HM.out];unfold cv;have q0:=Ok.cell hb za a3;have q1:=Ok.cell hb za a4;have q2:=Ok.cell hb zb b3;have q3:=Ok.cell hb zb b4;have q4:=Ok.cell hb zc c0;have q5:=Ok.cell hb zc c1;have q6:=Ok.cell hb zr p4;obtain ⟨k0,k1,k2,k3,k4,k5,k6,k7,k8,k9⟩:=row5_facts (Ok.row' hb rz.out))
    | (go_at_call 19;refine (nmake_any _ _ _ _ IQ.out.1 IQ.out.2 IM.out.1 IM.out.2 Y0 _ (by repeat (first | assumption | refine Ok.alloc ?_ _ | refine Below.drew ?_))).mono ?_;rintro e w' ⟨rfl,hb⟩;rw [<-HF.out,<-HA.out];unfold nv;have q0:=Ok.cell hb za a3;have q1:=Ok.cell hb za a4;have q2:=Ok.cell hb zb b3;have q3:=Ok.cell hb zb b4;have q4:=Ok.cell hb zc c0;have q5:=Ok.cell hb zc c1;have q6:=Ok.cell hb zr p4;obtain ⟨k0,k1,k2,k3,k4,k5,k6,k7,k8,k9⟩:=row5_facts (Ok.row' hb rz.out))
    | fail)
   go_wp2_with fail
   have hr:Hid _:=Ok.row' hb rz.out
   (try simp only [Exit.inBlock, Exit.then]); refine bodyPost_ret (results_iv rfl _ _ (gz) 29 #[_, _, _, _, _] (0, 0) _ rfl (row_set5 hr.out _ _ _ _ _) Tryz.underlying29 rfl infoN) rfl ?_
   exact ⟨rfl,Ok.set (Ok.set (Ok.set (Ok.set (Ok.set (HY0.out.step hb) (show w0.heap.size<=gz by omega) _) (show w0.heap.size<=gz by omega) _) (show w0.heap.size<=gz by omega) _) (show w0.heap.size<=gz by omega) _) (show w0.heap.size<=gz by omega) _⟩
  ·have HA:Hid (ap2 remN x y=botN):=ap2_right hyb
   go_wp2_with fail
   obtain ⟨Z,hZ⟩:∃ Z,Z=((((((((((w2.setCell ⟨ga,0,none⟩ (.bool false)).setCell ⟨ga,1,none⟩ (.int .i64 x.1)).setCell ⟨ga,2,none⟩ (.int .i64 x.2.1)).setCell ⟨ga,3,none⟩ (.int .u64 (x.2.2.1:Int))).setCell ⟨ga,4,none⟩ (.int .u64 (x.2.2.2.1:Int))).setCell ⟨gb,0,none⟩ (.bool true)).setCell ⟨gb,1,none⟩ (.int .i64 y.1)).setCell ⟨gb,2,none⟩ (.int .i64 y.2.1)).setCell ⟨gb,3,none⟩ (.int .u64 (y.2.2.1:Int))).setCell ⟨gb,4,none⟩ (.int .u64 (y.2.2.2.1:Int))):=⟨_,rfl⟩
   obtain ⟨HZ,raz,rbz,keep⟩:=(rows_put2 (g:=ga) (k:=gb) (by omega) ra.out rb.out (Ok.refl w2) Hw2.out (by omega) (by omega) (.bool false) (.int .i64 x.1) (.int .i64 x.2.1) (.int .u64 (x.2.2.1:Int)) (.int .u64 (x.2.2.2.1:Int)) (.bool true) (.int .i64 y.1) (.int .i64 y.2.1) (.int .u64 (y.2.2.1:Int)) (.int .u64 (y.2.2.2.1:Int))).out
   rw [<-hZ] at HZ raz rbz keep
   replace HZ:Hid (Ok w0 Z):=HZ
   replace raz:Hid _:=raz
   replace rbz:Hid _:=rbz
   replace rz:Hid _:=keep _ _ (by omega) (by omega) rz.out
   replace rr:Hid _:=keep _ _ (by omega) (by omega) rr.out
   rw [<-hZ]
   clear hZ keep ra rb
   clear a0 a1 a2 a3 a4 a5 a6 a7 a8 a9 b0 b1 b2 b3 b4 b5 b6 b7 b8 b9 k0 k1 k2 k3 k4 k5 k6 k7 k8 k9 p0 p1 p2 p3 p4 p5 p6 p7 p8 p9
   refine (nbot_any Z _ (Ok.refl _)).mono ?_
   rintro e w3 ⟨rfl,hb⟩
   unfold nv botN
   replace rz:Hid _:=Ok.row' hb rz.out
   have Hw3:Hid (Ok w0 w3):=HZ.out.step hb
   clear hb
   obtain ⟨k0,k1,k2,k3,k4,k5,k6,k7,k8,k9⟩:=row5_facts rz.out
   have hr:Hid _:=rz
   go_wp2_with fail
   (try simp only [Exit.inBlock, Exit.then]); refine bodyPost_ret (results_iv rfl _ _ (gz) 29 #[_, _, _, _, _] (0, 0) _ rfl (row_set5 hr.out _ _ _ _ _) Tryz.underlying29 rfl infoN) rfl ?_
   exact ⟨by rw [HA.out];rfl,Ok.set (Ok.set (Ok.set (Ok.set (Ok.set (Hw3.out) (show w0.heap.size<=gz by omega) _) (show w0.heap.size<=gz by omega) _) (show w0.heap.size<=gz by omega) _) (show w0.heap.size<=gz by omega) _) (show w0.heap.size<=gz by omega) _⟩
 ·have HA:Hid (ap2 remN x y=botN):=ap2_left hxb
  go_wp2_with fail
  obtain ⟨Z,hZ⟩:∃ Z,Z=((((((((((w2.setCell ⟨ga,0,none⟩ (.bool true)).setCell ⟨ga,1,none⟩ (.int .i64 x.1)).setCell ⟨ga,2,none⟩ (.int .i64 x.2.1)).setCell ⟨ga,3,none⟩ (.int .u64 (x.2.2.1:Int))).setCell ⟨ga,4,none⟩ (.int .u64 (x.2.2.2.1:Int))).setCell ⟨gb,0,none⟩ (.bool y.2.2.2.2)).setCell ⟨gb,1,none⟩ (.int .i64 y.1)).setCell ⟨gb,2,none⟩ (.int .i64 y.2.1)).setCell ⟨gb,3,none⟩ (.int .u64 (y.2.2.1:Int))).setCell ⟨gb,4,none⟩ (.int .u64 (y.2.2.2.1:Int))):=⟨_,rfl⟩
  obtain ⟨HZ,raz,rbz,keep⟩:=(rows_put2 (g:=ga) (k:=gb) (by omega) ra.out rb.out (Ok.refl w2) Hw2.out (by omega) (by omega) (.bool true) (.int .i64 x.1) (.int .i64 x.2.1) (.int .u64 (x.2.2.1:Int)) (.int .u64 (x.2.2.2.1:Int)) (.bool y.2.2.2.2) (.int .i64 y.1) (.int .i64 y.2.1) (.int .u64 (y.2.2.1:Int)) (.int .u64 (y.2.2.2.1:Int))).out
  rw [<-hZ] at HZ raz rbz keep
  replace HZ:Hid (Ok w0 Z):=HZ
  replace raz:Hid _:=raz
  replace rbz:Hid _:=rbz
  replace rz:Hid _:=keep _ _ (by omega) (by omega) rz.out
  replace rr:Hid _:=keep _ _ (by omega) (by omega) rr.out
  rw [<-hZ]
  clear hZ keep ra rb
  clear a0 a1 a2 a3 a4 a5 a6 a7 a8 a9 b0 b1 b2 b3 b4 b5 b6 b7 b8 b9 k0 k1 k2 k3 k4 k5 k6 k7 k8 k9 p0 p1 p2 p3 p4 p5 p6 p7 p8 p9
  refine (nbot_any Z _ (Ok.refl _)).mono ?_
  rintro e w3 ⟨rfl,hb⟩
  unfold nv botN
  replace rz:Hid _:=Ok.row' hb rz.out
  have Hw3:Hid (Ok w0 w3):=HZ.out.step hb
  clear hb
  obtain ⟨k0,k1,k2,k3,k4,k5,k6,k7,k8,k9⟩:=row5_facts rz.out
  have hr:Hid _:=rz
  go_wp2_with fail
  (try simp only [Exit.inBlock, Exit.then]); refine bodyPost_ret (results_iv rfl _ _ (gz) 29 #[_, _, _, _, _] (0, 0) _ rfl (row_set5 hr.out _ _ _ _ _) Tryz.underlying29 rfl infoN) rfl ?_
  exact ⟨by rw [HA.out];rfl,Ok.set (Ok.set (Ok.set (Ok.set (Ok.set (Hw3.out) (show w0.heap.size<=gz by omega) _) (show w0.heap.size<=gz by omega) _) (show w0.heap.size<=gz by omega) _) (show w0.heap.size<=gz by omega) _) (show w0.heap.size<=gz by omega) _⟩
end Go.Proofs.YtnjmjnmhldhaoaaGreat
