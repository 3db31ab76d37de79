import Derived.Test.YtnjmjnmhldhaoaaGreatKKd
import Derived.Test.YtnjmjnmhldhaoaaGreatKKf
set_option maxHeartbeats 8000000
set_option linter.all false
namespace Go.Proofs.YtnjmjnmhldhaoaaGreat
open Go.RowKit
theorem pisone_ok (M R:Nat) (w0 w:World) (hok:Ok w0 w) :
  Calls Tryz.prog 149 #[cv M R] w fun e w'=>e=.returned (.bool (decide (M=0)))/\Ok w0 w':=by
 refine (pisone_ex M R w).mono ?_
 rintro e w' ⟨rfl,rfl⟩
 exact ⟨rfl,hok.alloc _⟩
theorem wrem_ok (a b:Int) (hb:b≠0) (w0 w:World) (hok:Ok w0 w) :
  Calls Tryz.prog 246 #[.int .i64 a,.int .i64 b] w fun e w'=>e=.returned (.tuple #[.int .i64 (a.tmod b),.bool true])/\Ok w0 w':=by
 refine (wrem_any a b hb w).mono ?_
 rintro e w' ⟨rfl,rfl⟩
 exact ⟨rfl,hok⟩
theorem wdiv_ok (a b:Int) (hb:b≠0) (w0 w:World) (hok:Ok w0 w) :
  Calls Tryz.prog 256 #[.int .i64 a,.int .i64 b] w fun e w'=>e=.returned (.tuple #[.int .i64 (wrap64 (a.tdiv b)),.bool true])/\Ok w0 w':=by
 refine (wdiv_any a b hb w).mono ?_
 rintro e w' ⟨rfl,rfl⟩
 exact ⟨rfl,hok⟩
theorem wrap_ne {R:Nat} (h:U64 R) (h0:R≠0):wrap64 (R:Int)≠0:=by unfold U64 at h;unfold wrap64;omega
theorem rem_ones {cR dR:Nat} (hd:U64 dR) (h0:dR≠0):remC 0 cR 0 dR=(0,bitsN ((wrap64 (cR:Int)).tmod (wrap64 (dR:Int)))):=by
 unfold remC
 rw [if_neg (by omega),if_pos ⟨rfl,rfl⟩]
 congr 2
 split
 ·rename_i c;rw [c,Int.tmod_neg,Int.tmod_one]
 ·rfl
theorem rem_more {cM cR dM dR:Nat} (hc:U64 cR) (hd:U64 dR) (h0:¬(dM=0/\dR=0)) (h1:¬(cM=0/\dM=0)):remC cM cR dM dR=(remG cM dM dR,restL cM cR (remG cM dM dR)):=by
 unfold remC
 rw [if_neg h0,if_neg h1]
 have hg:0<remG cM dM dR:=rem_gcd (cR:=cR) hd h0
 rw [restL_restN hc hg]
set_option maxRecDepth 100000 in
theorem prem_zero (cM cR:Nat) (w0 w:World) (hok:Ok w0 w) :
  Calls Tryz.prog 249 #[cv cM cR,cv 0 0] w fun e w'=>e=.returned (cv (remC cM cR 0 0).1 (remC cM cR 0 0).2)/\Ok w0 w':=by
 have hle:=hok.le
 rw [show remC cM cR 0 0=(1,0) by unfold remC;rw [if_pos ⟨rfl,rfl⟩]]
 have HZ:Hid (bitsN 0=0):=rfl
 unfold cv
 go_enter Tryz.func249,Tryz.ntmps249
 go_wp2_with fail
 obtain ⟨W,hW⟩:∃ W,W=(((w.alloc (.cells #[.int .u64 (cM:Int),.int .u64 (cR:Int)] 27)).alloc (.cells #[.int .u64 0,.int .u64 0] 27)).alloc (.cells #[.int .u64 0,.int .u64 0] 27)):=⟨_,rfl⟩
 have ra0:W.heap[w.heap.size]?=some (.cells #[.int .u64 (cM:Int),.int .u64 (cR:Int)] 27):=by rw [hW];exact jj
 have ra1:W.heap[w.heap.size+1]?=some (.cells #[.int .u64 0,.int .u64 0] 27):=by rw [hW];exact jj
 have ra2:W.heap[w.heap.size+2]?=some (.cells #[.int .u64 0,.int .u64 0] 27):=by rw [hW];exact jj
 have HW:Hid (Ok w0 W):=by rw [hW];exact (by repeat (first | exact hok | refine Ok.alloc ?_ _ | refine Ok.draws ?_ _ | fail))
 rw [<-hW]
 clear hW hok
 have z0:=lt_row ra0
 have HR0:Hid _:=ra0
 obtain ⟨g00,g01,f00,f01⟩:=row_facts ra0
 have z1:=lt_row ra1
 have HR1:Hid _:=ra1
 obtain ⟨g10,g11,f10,f11⟩:=row_facts ra1
 have z2:=lt_row ra2
 have HR2:Hid _:=ra2
 obtain ⟨g20,g21,f20,f21⟩:=row_facts ra2
 clear ra0 ra1 ra2
 have bz:Ok W W:=Ok.refl _
 go_region_held3 (fun w'=>w'.cell? ⟨w.heap.size+1,0,none⟩=some (.int .u64 0)/\w'.cell? ⟨w.heap.size+1,1,none⟩=some (.int .u64 0)) (go_keep)
  (first
  | (go_at_call 123;refine (pconst_any 0 W _ (by repeat (first | assumption | refine Ok.alloc ?_ _ | refine Below.drew ?_))).mono ?_;rintro e w' ⟨rfl,hb⟩;rw [HZ.out];unfold cv;have q10:=Ok.cell hb z1 g10;have q11:=Ok.cell hb z1 g11)
  | fail)
 have HB1:Hid (Ok W w'):=hb
 clear hb
 go_wp2_with fail
 refine (pall_ex _).mono ?_
 rintro e u ⟨rfl,hu⟩
 have hb:Ok W u:=by rw [hu];exact HB1.out.alloc _
 clear hu
 have hr:Hid _:=Ok.row' hb HR2.out
 obtain ⟨k0,k1,k2,k3⟩:=row_facts hr.out
 have HB2:Hid (Ok w0 u):=HW.out.step hb
 unfold cv
 go_wp2_with fail
 (try simp only [Exit.inBlock, Exit.then]); refine bodyPost_ret (results_cell_row rfl _ _ (w.heap.size+2) 27 #[_, _] (0, 0) _ rfl (row_set2 hr.out _ _) Tryz.underlying27 rfl infoCg) rfl ?_
 exact ⟨rfl,(HB2.out.set (show w0.heap.size<=w.heap.size+2 by omega) _).set (show w0.heap.size<=w.heap.size+2 by omega) _⟩
set_option maxRecDepth 100000 in
theorem prem_one (cR dR:Nat) (h4:U64 dR) (h0:dR≠0) (w0 w:World) (hok:Ok w0 w) :
  Calls Tryz.prog 249 #[cv 0 cR,cv 0 dR] w fun e w'=>e=.returned (cv (remC 0 cR 0 dR).1 (remC 0 cR 0 dR).2)/\Ok w0 w':=by
 have hle:=hok.le
 rw [rem_ones h4 h0]
 have HK:Hid _:=wrap_ne h4 h0
 obtain ⟨v,hv⟩:∃ v,v=wrap64 (cR:Int):=⟨_,rfl⟩
 obtain ⟨z,hz⟩:∃ z,z=wrap64 (dR:Int):=⟨_,rfl⟩
 rw [<-hv,<-hz]
 rw [<-hz] at HK
 obtain ⟨p,hp⟩:∃ p,p=v.tmod z:=⟨_,rfl⟩
 rw [<-hp]
 obtain ⟨B,hB⟩:∃ B,B=bitsN p:=⟨_,rfl⟩
 rw [<-hB]
 have HE:Hid _:=And.intro hv (And.intro hz (And.intro hp hB))
 have HZ:Hid (bitsN 0=0):=rfl
 have r1:¬(dR:Int)=0:=by omega
 have r2:((dR:Int)==0)=false:=by simp;omega
 have r3:¬dR=0:=by omega
 clear hv hz hp hB h0 h4
 unfold cv
 go_enter Tryz.func249,Tryz.ntmps249
 go_wp2_with fail
 obtain ⟨W,hW⟩:∃ W,W=(((w.alloc (.cells #[.int .u64 0,.int .u64 (cR:Int)] 27)).alloc (.cells #[.int .u64 0,.int .u64 (dR:Int)] 27)).alloc (.cells #[.int .u64 0,.int .u64 0] 27)):=⟨_,rfl⟩
 have ra0:W.heap[w.heap.size]?=some (.cells #[.int .u64 0,.int .u64 (cR:Int)] 27):=by rw [hW];exact jj
 have ra1:W.heap[w.heap.size+1]?=some (.cells #[.int .u64 0,.int .u64 (dR:Int)] 27):=by rw [hW];exact jj
 have ra2:W.heap[w.heap.size+2]?=some (.cells #[.int .u64 0,.int .u64 0] 27):=by rw [hW];exact jj
 have HW:Hid (Ok w0 W):=by rw [hW];exact (by repeat (first | exact hok | refine Ok.alloc ?_ _ | refine Ok.draws ?_ _ | fail))
 rw [<-hW]
 clear hW hok
 have z0:=lt_row ra0
 have HR0:Hid _:=ra0
 obtain ⟨g00,g01,f00,f01⟩:=row_facts ra0
 have z1:=lt_row ra1
 have HR1:Hid _:=ra1
 obtain ⟨g10,g11,f10,f11⟩:=row_facts ra1
 have z2:=lt_row ra2
 have HR2:Hid _:=ra2
 obtain ⟨g20,g21,f20,f21⟩:=row_facts ra2
 clear ra0 ra1 ra2
 have bz:Ok W W:=Ok.refl _
 go_region_held3 (fun w'=>w'.cell? ⟨w.heap.size+1,0,none⟩=some (.int .u64 0)/\w'.cell? ⟨w.heap.size+1,1,none⟩=some (.int .u64 (dR:Int))) (go_keep)
  (first
  | (go_at_call 123;refine (pconst_any 0 W _ (by repeat (first | assumption | refine Ok.alloc ?_ _ | refine Below.drew ?_))).mono ?_;rintro e w' ⟨rfl,hb⟩;rw [HZ.out];unfold cv;have q10:=Ok.cell hb z1 g10;have q11:=Ok.cell hb z1 g11)
  | fail)
 have q00:=Ok.cell hb z0 g00;have q01:=Ok.cell hb z0 g01
 go_wp2_with (first | (go_at_call 149;(first | refine (pisone_ok 0 cR W _ (by assumption)).mono ?_ | refine (pisone_ok 0 dR W _ (by assumption)).mono ?_);rintro e w' ⟨rfl,hb⟩;have q00:=Ok.cell hb z0 g00;have q01:=Ok.cell hb z0 g01;have q10:=Ok.cell hb z1 g10;have q11:=Ok.cell hb z1 g11) | fail)
 go_region_held3 (fun w'=>w'.cell? ⟨w.heap.size,0,none⟩=some (.int .u64 0)/\w'.cell? ⟨w.heap.size,1,none⟩=some (.int .u64 (cR:Int))/\w'.cell? ⟨w.heap.size+1,0,none⟩=some (.int .u64 0)/\w'.cell? ⟨w.heap.size+1,1,none⟩=some (.int .u64 (dR:Int))) (go_keep)
  (first
  | (go_at_call 218;refine (pnumber_ok 0 _ W _ (by repeat (first | assumption | refine Ok.alloc ?_ _ | refine Below.drew ?_))).mono ?_;rintro e w' ⟨rfl,hb⟩;(first | rw [<-HE.out.1] | rw [<-HE.out.2.1]);have q00:=Ok.cell hb z0 g00;have q01:=Ok.cell hb z0 g01;have q10:=Ok.cell hb z1 g10;have q11:=Ok.cell hb z1 g11)
  | (go_at_call 246;refine (wrem_ok v z HK.out W _ (by repeat (first | assumption | refine Ok.alloc ?_ _ | refine Below.drew ?_))).mono ?_;rintro e w' ⟨rfl,hb⟩;rw [<-HE.out.2.2.1];have q00:=Ok.cell hb z0 g00;have q01:=Ok.cell hb z0 g01;have q10:=Ok.cell hb z1 g10;have q11:=Ok.cell hb z1 g11)
  | fail)
 go_wp2_with fail
 refine (pconst_any p W _ hb).mono ?_
 rintro e u ⟨rfl,hb⟩
 rw [<-HE.out.2.2.2]
 have hr:Hid _:=Ok.row' hb HR2.out
 obtain ⟨k0,k1,k2,k3⟩:=row_facts hr.out
 have HB2:Hid (Ok w0 u):=HW.out.step hb
 unfold cv
 go_wp2_with fail
 (try simp only [Exit.inBlock, Exit.then]); refine bodyPost_ret (results_cell_row rfl _ _ (w.heap.size+2) 27 #[_, _] (0, 0) _ rfl (row_set2 hr.out _ _) Tryz.underlying27 rfl infoCg) rfl ?_
 exact ⟨rfl,(HB2.out.set (show w0.heap.size<=w.heap.size+2 by omega) _).set (show w0.heap.size<=w.heap.size+2 by omega) _⟩
set_option maxRecDepth 100000 in
theorem prem_more (cM cR dM dR:Nat) (h0:¬(dM=0/\dR=0)) (h5:¬(cM=0/\dM=0)) (h1:U64 cM) (h2:U64 cR) (h3:U64 dM) (h4:U64 dR) (w0 w:World) (hok:Ok w0 w) :
  Calls Tryz.prog 249 #[cv cM cR,cv dM dR] w fun e w'=>e=.returned (cv (remC cM cR dM dR).1 (remC cM cR dM dR).2)/\Ok w0 w':=by
 have hle:=hok.le
 rw [rem_more h2 h4 h0 h5]
 have HU:Hid _:=And.intro h1 (And.intro h2 (And.intro h3 h4))
 have HZ:Hid (bitsN 0=0):=rfl
 have HY:Hid _:=rF_rng h3 h4
 have hg0:0<remG cM dM dR:=rem_gcd (cR:=cR) h4 h0
 have hgu:U64 (remG cM dM dR):=gcd_u64 (gcd_u64 h1 h3) HY.out
 obtain ⟨g,hg⟩:∃ g,g=remG cM dM dR:=⟨_,rfl⟩
 rw [<-hg] at hg0 hgu ⊢
 have HG:Hid _:=And.intro hg0 hgu
 obtain ⟨y,hy⟩:∃ y,y=rF dM dR:=⟨_,rfl⟩
 rw [<-hy] at HY
 have hg2:g=Nat.gcd (Nat.gcd cM dM) y:=by rw [hg,hy];rfl
 have HE:Hid _:=And.intro hy hg2
 clear hg hy hg2 hg0 hgu
 by_cases hz:cM=0
 ·have d1:decide (cM=0)=true:=decide_eq_true hz
  have d2:decide (dM=0)=false:=decide_eq_false (fun h=>h5 ⟨hz,h⟩)
  have r1:¬(dM:Int)=0:=by omega
  have r2:((dM:Int)==0)=false:=by simp;omega
  have r3:¬dM=0:=by omega
  clear h0 h5 h1 h2 h3 h4 hz
  unfold cv
  go_enter Tryz.func249,Tryz.ntmps249
  go_wp2_with fail
  obtain ⟨W,hW⟩:∃ W,W=(((w.alloc (.cells #[.int .u64 (cM:Int),.int .u64 (cR:Int)] 27)).alloc (.cells #[.int .u64 (dM:Int),.int .u64 (dR:Int)] 27)).alloc (.cells #[.int .u64 0,.int .u64 0] 27)):=⟨_,rfl⟩
  have ra0:W.heap[w.heap.size]?=some (.cells #[.int .u64 (cM:Int),.int .u64 (cR:Int)] 27):=by rw [hW];exact jj
  have ra1:W.heap[w.heap.size+1]?=some (.cells #[.int .u64 (dM:Int),.int .u64 (dR:Int)] 27):=by rw [hW];exact jj
  have ra2:W.heap[w.heap.size+2]?=some (.cells #[.int .u64 0,.int .u64 0] 27):=by rw [hW];exact jj
  have HW:Hid (Ok w0 W):=by rw [hW];exact (by repeat (first | exact hok | refine Ok.alloc ?_ _ | refine Ok.draws ?_ _ | fail))
  rw [<-hW]
  clear hW hok
  have z0:=lt_row ra0
  have HR0:Hid _:=ra0
  obtain ⟨g00,g01,f00,f01⟩:=row_facts ra0
  have z1:=lt_row ra1
  have HR1:Hid _:=ra1
  obtain ⟨g10,g11,f10,f11⟩:=row_facts ra1
  have z2:=lt_row ra2
  have HR2:Hid _:=ra2
  obtain ⟨g20,g21,f20,f21⟩:=row_facts ra2
  clear ra0 ra1 ra2
  have bz:Ok W W:=Ok.refl _
  have n1:¬w.heap.size+1+1=w.heap.size:=by omega
  have n2:¬w.heap.size+1+1=w.heap.size+1:=by omega
  go_region_held3 (fun w'=>w'.cell? ⟨w.heap.size+1,0,none⟩=some (.int .u64 (dM:Int))/\w'.cell? ⟨w.heap.size+1,1,none⟩=some (.int .u64 (dR:Int))) (go_keep)
   (first
   | (go_at_call 123;refine (pconst_any 0 W _ (by repeat (first | assumption | refine Ok.alloc ?_ _ | refine Below.drew ?_))).mono ?_;rintro e w' ⟨rfl,hb⟩;rw [HZ.out];unfold cv;have q10:=Ok.cell hb z1 g10;have q11:=Ok.cell hb z1 g11)
   | fail)
  have q00:=Ok.cell hb z0 g00;have q01:=Ok.cell hb z0 g01
  go_wp2_with (first | (go_at_call 149;(first | refine (pisone_ok cM cR W _ (by assumption)).mono ?_ | refine (pisone_ok dM dR W _ (by assumption)).mono ?_);rintro e w' ⟨rfl,hb⟩;have q00:=Ok.cell hb z0 g00;have q01:=Ok.cell hb z0 g01;have q10:=Ok.cell hb z1 g10;have q11:=Ok.cell hb z1 g11) | fail)
  go_region_held3 (fun w'=>w'.cell? ⟨w.heap.size,0,none⟩=some (.int .u64 (cM:Int))/\w'.cell? ⟨w.heap.size,1,none⟩=some (.int .u64 (cR:Int))/\w'.cell? ⟨w.heap.size+1,0,none⟩=some (.int .u64 (dM:Int))/\w'.cell? ⟨w.heap.size+1,1,none⟩=some (.int .u64 (dR:Int))) (go_keep)
   (first
   | (go_at_call 255;refine (psize_any dM dR HU.out.2.2.1 HU.out.2.2.2 W _ (by repeat (first | assumption | refine Ok.alloc ?_ _ | refine Below.drew ?_))).mono ?_;rintro e w' ⟨rfl,hb⟩;rw [<-HE.out.1];have q00:=Ok.cell hb z0 g00;have q01:=Ok.cell hb z0 g01;have q10:=Ok.cell hb z1 g10;have q11:=Ok.cell hb z1 g11;obtain ⟨c0,c1,c2,c3⟩:=row_facts (Ok.row' hb HR2.out))
   | (go_at_call 152;refine (pgcd3_any cM dM y _ W _ (by repeat (first | assumption | refine Ok.alloc ?_ _ | refine Below.drew ?_)) HU.out.1 HU.out.2.2.1 HY.out (heap_new0 _ _)).mono ?_;rintro e w' ⟨rfl,hb⟩;rw [<-HE.out.2];have q00:=Ok.cell hb z0 g00;have q01:=Ok.cell hb z0 g01;have q10:=Ok.cell hb z1 g10;have q11:=Ok.cell hb z1 g11;obtain ⟨c0,c1,c2,c3⟩:=row_facts (Ok.row' hb HR2.out))
   | (go_at_call 124;refine (pclass_any cM cR g HU.out.1 HU.out.2.1 HG.out.2 (Or.inr HG.out.1) W _ (by repeat (first | assumption | refine Ok.alloc ?_ _ | refine Below.drew ?_))).mono ?_;rintro e w' ⟨rfl,hb⟩;unfold cv;have q00:=Ok.cell hb z0 g00;have q01:=Ok.cell hb z0 g01;have q10:=Ok.cell hb z1 g10;have q11:=Ok.cell hb z1 g11;obtain ⟨c0,c1,c2,c3⟩:=row_facts (Ok.row' hb HR2.out))
   | fail)
  have hr:Hid _:=Ok.row' hb HR2.out
  have HB2:Hid (Ok w0 w'):=HW.out.step hb
  go_wp2_with fail
  (try simp only [Exit.inBlock, Exit.then]); refine bodyPost_ret (results_cell_row rfl _ _ (w.heap.size+2) 27 #[_, _] (0, 0) _ rfl (row_set2 hr.out _ _) Tryz.underlying27 rfl infoCg) rfl ?_
  exact ⟨rfl,(HB2.out.set (show w0.heap.size<=w.heap.size+2 by omega) _).set (show w0.heap.size<=w.heap.size+2 by omega) _⟩
 ·have d1:decide (cM=0)=false:=decide_eq_false hz
  by_cases hy:dM=0
  ·have r1:¬(dR:Int)=0:=by omega
   have r2:((dR:Int)==0)=false:=by simp;omega
   have r3:¬dR=0:=by omega
   clear h0 h5 h1 h2 h3 h4 hz hy
   unfold cv
   go_enter Tryz.func249,Tryz.ntmps249
   go_wp2_with fail
   obtain ⟨W,hW⟩:∃ W,W=(((w.alloc (.cells #[.int .u64 (cM:Int),.int .u64 (cR:Int)] 27)).alloc (.cells #[.int .u64 (dM:Int),.int .u64 (dR:Int)] 27)).alloc (.cells #[.int .u64 0,.int .u64 0] 27)):=⟨_,rfl⟩
   have ra0:W.heap[w.heap.size]?=some (.cells #[.int .u64 (cM:Int),.int .u64 (cR:Int)] 27):=by rw [hW];exact jj
   have ra1:W.heap[w.heap.size+1]?=some (.cells #[.int .u64 (dM:Int),.int .u64 (dR:Int)] 27):=by rw [hW];exact jj
   have ra2:W.heap[w.heap.size+2]?=some (.cells #[.int .u64 0,.int .u64 0] 27):=by rw [hW];exact jj
   have HW:Hid (Ok w0 W):=by rw [hW];exact (by repeat (first | exact hok | refine Ok.alloc ?_ _ | refine Ok.draws ?_ _ | fail))
   rw [<-hW]
   clear hW hok
   have z0:=lt_row ra0
   have HR0:Hid _:=ra0
   obtain ⟨g00,g01,f00,f01⟩:=row_facts ra0
   have z1:=lt_row ra1
   have HR1:Hid _:=ra1
   obtain ⟨g10,g11,f10,f11⟩:=row_facts ra1
   have z2:=lt_row ra2
   have HR2:Hid _:=ra2
   obtain ⟨g20,g21,f20,f21⟩:=row_facts ra2
   clear ra0 ra1 ra2
   have bz:Ok W W:=Ok.refl _
   have n1:¬w.heap.size+1+1=w.heap.size:=by omega
   have n2:¬w.heap.size+1+1=w.heap.size+1:=by omega
   go_region_held3 (fun w'=>w'.cell? ⟨w.heap.size+1,0,none⟩=some (.int .u64 (dM:Int))/\w'.cell? ⟨w.heap.size+1,1,none⟩=some (.int .u64 (dR:Int))) (go_keep)
    (first
    | (go_at_call 123;refine (pconst_any 0 W _ (by repeat (first | assumption | refine Ok.alloc ?_ _ | refine Below.drew ?_))).mono ?_;rintro e w' ⟨rfl,hb⟩;rw [HZ.out];unfold cv;have q10:=Ok.cell hb z1 g10;have q11:=Ok.cell hb z1 g11)
    | fail)
   have q00:=Ok.cell hb z0 g00;have q01:=Ok.cell hb z0 g01
   go_wp2_with (first | (go_at_call 149;refine (pisone_ok cM cR W _ (by assumption)).mono ?_;rintro e w' ⟨rfl,hb⟩;have q00:=Ok.cell hb z0 g00;have q01:=Ok.cell hb z0 g01;have q10:=Ok.cell hb z1 g10;have q11:=Ok.cell hb z1 g11) | fail)
   go_region_held3 (fun w'=>w'.cell? ⟨w.heap.size,0,none⟩=some (.int .u64 (cM:Int))/\w'.cell? ⟨w.heap.size,1,none⟩=some (.int .u64 (cR:Int))/\w'.cell? ⟨w.heap.size+1,0,none⟩=some (.int .u64 (dM:Int))/\w'.cell? ⟨w.heap.size+1,1,none⟩=some (.int .u64 (dR:Int))) (go_keep)
    (first
    | (go_at_call 255;refine (psize_any dM dR HU.out.2.2.1 HU.out.2.2.2 W _ (by repeat (first | assumption | refine Ok.alloc ?_ _ | refine Below.drew ?_))).mono ?_;rintro e w' ⟨rfl,hb⟩;rw [<-HE.out.1];have q00:=Ok.cell hb z0 g00;have q01:=Ok.cell hb z0 g01;have q10:=Ok.cell hb z1 g10;have q11:=Ok.cell hb z1 g11;obtain ⟨c0,c1,c2,c3⟩:=row_facts (Ok.row' hb HR2.out))
    | (go_at_call 152;refine (pgcd3_any cM dM y _ W _ (by repeat (first | assumption | refine Ok.alloc ?_ _ | refine Below.drew ?_)) HU.out.1 HU.out.2.2.1 HY.out (heap_new0 _ _)).mono ?_;rintro e w' ⟨rfl,hb⟩;rw [<-HE.out.2];have q00:=Ok.cell hb z0 g00;have q01:=Ok.cell hb z0 g01;have q10:=Ok.cell hb z1 g10;have q11:=Ok.cell hb z1 g11;obtain ⟨c0,c1,c2,c3⟩:=row_facts (Ok.row' hb HR2.out))
    | (go_at_call 124;refine (pclass_any cM cR g HU.out.1 HU.out.2.1 HG.out.2 (Or.inr HG.out.1) W _ (by repeat (first | assumption | refine Ok.alloc ?_ _ | refine Below.drew ?_))).mono ?_;rintro e w' ⟨rfl,hb⟩;unfold cv;have q00:=Ok.cell hb z0 g00;have q01:=Ok.cell hb z0 g01;have q10:=Ok.cell hb z1 g10;have q11:=Ok.cell hb z1 g11;obtain ⟨c0,c1,c2,c3⟩:=row_facts (Ok.row' hb HR2.out))
    | fail)
   have hr:Hid _:=Ok.row' hb HR2.out
   have HB2:Hid (Ok w0 w'):=HW.out.step hb
   go_wp2_with fail
   (try simp only [Exit.inBlock, Exit.then]); refine bodyPost_ret (results_cell_row rfl _ _ (w.heap.size+2) 27 #[_, _] (0, 0) _ rfl (row_set2 hr.out _ _) Tryz.underlying27 rfl infoCg) rfl ?_
   exact ⟨rfl,(HB2.out.set (show w0.heap.size<=w.heap.size+2 by omega) _).set (show w0.heap.size<=w.heap.size+2 by omega) _⟩
  ·have r1:¬(dM:Int)=0:=by omega
   have r2:((dM:Int)==0)=false:=by simp;omega
   have r3:¬dM=0:=by omega
   clear h0 h5 h1 h2 h3 h4 hz hy
   unfold cv
   go_enter Tryz.func249,Tryz.ntmps249
   go_wp2_with fail
   obtain ⟨W,hW⟩:∃ W,W=(((w.alloc (.cells #[.int .u64 (cM:Int),.int .u64 (cR:Int)] 27)).alloc (.cells #[.int .u64 (dM:Int),.int .u64 (dR:Int)] 27)).alloc (.cells #[.int .u64 0,.int .u64 0] 27)):=⟨_,rfl⟩
   have ra0:W.heap[w.heap.size]?=some (.cells #[.int .u64 (cM:Int),.int .u64 (cR:Int)] 27):=by rw [hW];exact jj
   have ra1:W.heap[w.heap.size+1]?=some (.cells #[.int .u64 (dM:Int),.int .u64 (dR:Int)] 27):=by rw [hW];exact jj
   have ra2:W.heap[w.heap.size+2]?=some (.cells #[.int .u64 0,.int .u64 0] 27):=by rw [hW];exact jj
   have HW:Hid (Ok w0 W):=by rw [hW];exact (by repeat (first | exact hok | refine Ok.alloc ?_ _ | refine Ok.draws ?_ _ | fail))
   rw [<-hW]
   clear hW hok
   have z0:=lt_row ra0
   have HR0:Hid _:=ra0
   obtain ⟨g00,g01,f00,f01⟩:=row_facts ra0
   have z1:=lt_row ra1
   have HR1:Hid _:=ra1
   obtain ⟨g10,g11,f10,f11⟩:=row_facts ra1
   have z2:=lt_row ra2
   have HR2:Hid _:=ra2
   obtain ⟨g20,g21,f20,f21⟩:=row_facts ra2
   clear ra0 ra1 ra2
   have bz:Ok W W:=Ok.refl _
   have n1:¬w.heap.size+1+1=w.heap.size:=by omega
   have n2:¬w.heap.size+1+1=w.heap.size+1:=by omega
   go_region_held3 (fun w'=>w'.cell? ⟨w.heap.size+1,0,none⟩=some (.int .u64 (dM:Int))/\w'.cell? ⟨w.heap.size+1,1,none⟩=some (.int .u64 (dR:Int))) (go_keep)
    (first
    | (go_at_call 123;refine (pconst_any 0 W _ (by repeat (first | assumption | refine Ok.alloc ?_ _ | refine Below.drew ?_))).mono ?_;rintro e w' ⟨rfl,hb⟩;rw [HZ.out];unfold cv;have q10:=Ok.cell hb z1 g10;have q11:=Ok.cell hb z1 g11)
    | fail)
   have q00:=Ok.cell hb z0 g00;have q01:=Ok.cell hb z0 g01
   go_wp2_with (first | (go_at_call 149;refine (pisone_ok cM cR W _ (by assumption)).mono ?_;rintro e w' ⟨rfl,hb⟩;have q00:=Ok.cell hb z0 g00;have q01:=Ok.cell hb z0 g01;have q10:=Ok.cell hb z1 g10;have q11:=Ok.cell hb z1 g11) | fail)
   go_region_held3 (fun w'=>w'.cell? ⟨w.heap.size,0,none⟩=some (.int .u64 (cM:Int))/\w'.cell? ⟨w.heap.size,1,none⟩=some (.int .u64 (cR:Int))/\w'.cell? ⟨w.heap.size+1,0,none⟩=some (.int .u64 (dM:Int))/\w'.cell? ⟨w.heap.size+1,1,none⟩=some (.int .u64 (dR:Int))) (go_keep)
    (first
    | (go_at_call 255;refine (psize_any dM dR HU.out.2.2.1 HU.out.2.2.2 W _ (by repeat (first | assumption | refine Ok.alloc ?_ _ | refine Below.drew ?_))).mono ?_;rintro e w' ⟨rfl,hb⟩;rw [<-HE.out.1];have q00:=Ok.cell hb z0 g00;have q01:=Ok.cell hb z0 g01;have q10:=Ok.cell hb z1 g10;have q11:=Ok.cell hb z1 g11;obtain ⟨c0,c1,c2,c3⟩:=row_facts (Ok.row' hb HR2.out))
    | (go_at_call 152;refine (pgcd3_any cM dM y _ W _ (by repeat (first | assumption | refine Ok.alloc ?_ _ | refine Below.drew ?_)) HU.out.1 HU.out.2.2.1 HY.out (heap_new0 _ _)).mono ?_;rintro e w' ⟨rfl,hb⟩;rw [<-HE.out.2];have q00:=Ok.cell hb z0 g00;have q01:=Ok.cell hb z0 g01;have q10:=Ok.cell hb z1 g10;have q11:=Ok.cell hb z1 g11;obtain ⟨c0,c1,c2,c3⟩:=row_facts (Ok.row' hb HR2.out))
    | (go_at_call 124;refine (pclass_any cM cR g HU.out.1 HU.out.2.1 HG.out.2 (Or.inr HG.out.1) W _ (by repeat (first | assumption | refine Ok.alloc ?_ _ | refine Below.drew ?_))).mono ?_;rintro e w' ⟨rfl,hb⟩;unfold cv;have q00:=Ok.cell hb z0 g00;have q01:=Ok.cell hb z0 g01;have q10:=Ok.cell hb z1 g10;have q11:=Ok.cell hb z1 g11;obtain ⟨c0,c1,c2,c3⟩:=row_facts (Ok.row' hb HR2.out))
    | fail)
   have hr:Hid _:=Ok.row' hb HR2.out
   have HB2:Hid (Ok w0 w'):=HW.out.step hb
   go_wp2_with fail
   (try simp only [Exit.inBlock, Exit.then]); refine bodyPost_ret (results_cell_row rfl _ _ (w.heap.size+2) 27 #[_, _] (0, 0) _ rfl (row_set2 hr.out _ _) Tryz.underlying27 rfl infoCg) rfl ?_
   exact ⟨rfl,(HB2.out.set (show w0.heap.size<=w.heap.size+2 by omega) _).set (show w0.heap.size<=w.heap.size+2 by omega) _⟩
theorem prem_any (cM cR dM dR:Nat) (h1:U64 cM) (h2:U64 cR) (h3:U64 dM) (h4:U64 dR) (w0 w:World) (hok:Ok w0 w) :
  Calls Tryz.prog 249 #[cv cM cR,cv dM dR] w fun e w'=>e=.returned (cv (remC cM cR dM dR).1 (remC cM cR dM dR).2)/\Ok w0 w':=by
 by_cases h:dM=0/\dR=0
 ·obtain ⟨rfl,rfl⟩:=h
  exact prem_zero cM cR w0 w hok
 ·by_cases h5:cM=0/\dM=0
  ·obtain ⟨rfl,rfl⟩:=h5
   exact prem_one cR dR h4 (by omega) w0 w hok
  ·exact prem_more cM cR dM dR h h5 h1 h2 h3 h4 w0 w hok
end Go.Proofs.YtnjmjnmhldhaoaaGreat
namespace Go.Proofs.YtnjmjnmhldhaoaaGreat
open Go.RowKit
theorem knew_ne {W w':World} {a:Nat} (hb:Ok W w') (h:a<W.heap.size):¬w'.heap.size=a:=by have:=hb.le;omega
theorem quo_word {a b:Int} (ha:In64 a):wrap64 (a.tdiv b)=if b = -1 then wrap64 (-a) else a.tdiv b:=by
 split
 ·rename_i h;rw [h,Int.tdiv_neg,Int.tdiv_one]
 ·rename_i h;exact wrap64_id (tdiv_in64 ha h)
theorem div_ones {cR dR:Nat} (hd:U64 dR) (h0:dR≠0):divC 0 cR 0 dR=(0,bitsN (wrap64 ((wrap64 (cR:Int)).tdiv (wrap64 (dR:Int))))):=by
 unfold divC
 rw [if_neg (by have:=wrap_ne hd h0;omega),if_pos rfl,quo_word (wrap64_in _)]
theorem div_cases {cM cR dR:Nat} (hcu:U64 cM) (hd:U64 dR) (h0:dR≠0) (hc:cM≠0) :
  ((dR=18446744073709551615\/cM%rF 0 dR≠0\/rF cM cR%rF 0 dR≠0)->divC cM cR 0 dR=(1,0)) /\
  (¬dR=18446744073709551615->cM%rF 0 dR=0->rF cM cR%rF 0 dR=0->divC cM cR 0 dR=if wrap64 (dR:Int)<0 then negC (cM/rF 0 dR) (rF cM cR/rF 0 dR) true else (cM/rF 0 dR,rF cM cR/rF 0 dR)):=by
 have e1:rF 0 dR=(wrap64 (dR:Int)).natAbs:=by unfold rF;rw [if_pos rfl]
 have e2:rF cM cR=cR%cM:=by unfold rF;rw [if_neg hc]
 have e3:(wrap64 (dR:Int) = -1)↔dR=18446744073709551615:=by unfold U64 at hd;unfold wrap64;omega
 have hn:=wrap_ne hd h0
 unfold divC
 rw [if_neg (by omega),if_neg hc,<-e1,<-e2]
 constructor
 ·intro h
  rw [if_pos (h.imp e3.2 id)]
 ·intro h1 h2 h3
  rw [if_neg (fun c=>c.elim (fun c=>h1 (e3.1 c)) (fun c=>c.elim (fun c=>c h2) (fun c=>c h3)))]
  have hk:0<rF 0 dR:=by rw [e1];omega
  have hr:rF cM cR<cM:=by rw [e2];exact Nat.mod_lt _ (by omega)
  have hl:=quo_lt hr hk h2
  by_cases c:wrap64 (dR:Int)<0
  ·rw [if_pos c,decide_eq_true c,div_neg hl (by have:=Nat.div_le_self cM (rF 0 dR);unfold U64 at *;omega)]
  ·rw [if_neg c,decide_eq_false c,div_pos hl]
set_option maxRecDepth 100000 in
theorem pdiv_class (cM cR dM dR:Nat) (hd:dM≠0) (w0 w:World) (hok:Ok w0 w) :
  Calls Tryz.prog 245 #[cv cM cR,cv dM dR] w fun e w'=>e=.returned (cv (divC cM cR dM dR).1 (divC cM cR dM dR).2)/\Ok w0 w':=by
 have hle:=hok.le
 rw [show divC cM cR dM dR=(1,0) by unfold divC;rw [if_pos (Or.inl (by omega))]]
 have d1:decide (dM=0)=false:=decide_eq_false hd
 clear hd
 unfold cv
 go_enter Tryz.func245,Tryz.ntmps245
 go_wp2_with fail
 obtain ⟨W,hW⟩:∃ W,W=(((w.alloc (.cells #[.int .u64 (cM:Int),.int .u64 (cR:Int)] 27)).alloc (.cells #[.int .u64 (dM:Int),.int .u64 (dR:Int)] 27)).alloc (.cells #[.int .u64 0,.int .u64 0] 27)):=⟨_,rfl⟩
 have ra0:W.heap[w.heap.size]?=some (.cells #[.int .u64 (cM:Int),.int .u64 (cR:Int)] 27):=by rw [hW];exact jj
 have ra1:W.heap[w.heap.size+1]?=some (.cells #[.int .u64 (dM:Int),.int .u64 (dR:Int)] 27):=by rw [hW];exact jj
 have ra2:W.heap[w.heap.size+2]?=some (.cells #[.int .u64 0,.int .u64 0] 27):=by rw [hW];exact jj
 have HW:Hid (Ok w0 W):=by rw [hW];exact (by repeat (first | exact hok | refine Ok.alloc ?_ _ | refine Ok.draws ?_ _ | fail))
 rw [<-hW]
 clear hW hok
 have z0:=lt_row ra0
 have HR0:Hid _:=ra0
 obtain ⟨g00,g01,f00,f01⟩:=row_facts ra0
 have z1:=lt_row ra1
 have HR1:Hid _:=ra1
 obtain ⟨g10,g11,f10,f11⟩:=row_facts ra1
 have z2:=lt_row ra2
 have HR2:Hid _:=ra2
 obtain ⟨g20,g21,f20,f21⟩:=row_facts ra2
 clear ra0 ra1 ra2
 have bz:Ok W W:=Ok.refl _
 refine wp_region_held_drew (S:=(fun w'=>w'.cell? ⟨w.heap.size+1,0,none⟩=some (.int .u64 (dM:Int))/\w'.cell? ⟨w.heap.size+1,1,none⟩=some (.int .u64 (dR:Int)))) (by kernel_rfl) (by (try dsimp only);go_keep) (fun hHeld=>?_)
 refine wpAnyH_take (i:=0) (v:=?_) rfl (by kernel_rfl) (by kernel_rfl) (by kernel_rfl) (fun _ _ _ h=>h) (Or.inl ⟨by rfl,?_⟩) (by assumption) ?_
 rotate_left
 ·intro w hSw;(try dsimp only at hSw);first | (go_simp;done) | (go_simp;with_reducible rfl)
 (try simp only [Act.put,List.getElem_toArray,List.getElem_cons_succ,List.getElem_cons_zero,List.setIfInBounds_toArray,List.set_cons_zero,List.set_cons_succ])
 refine wpAnyH_ready (rs:=[1]) (by kernel_rfl) (by simp) ?_
 refine AllReadyH.cons rfl (fun K hK=>?_) AllReadyH.nil
 go_simp
 refine (pisone_ok dM dR W _ (by repeat (first | assumption | refine Ok.alloc ?_ _ | refine Below.drew ?_))).mono ?_
 rintro e w1 ⟨rfl,hb1⟩
 rw [d1]
 have q1c:=Ok.cell hb1 z1 g10;have q1d:=Ok.cell hb1 z1 g11
 go_wp2_with fail
 refine hK.out _ _ (by (try dsimp only);go_keep) (fun hHeld=>?_)
 clear hK K
 (try simp only [Act.put,List.getElem_toArray,List.getElem_cons_succ,List.getElem_cons_zero,List.setIfInBounds_toArray,List.set_cons_zero,List.set_cons_succ])
 refine wpAnyH_take (i:=2) (v:=?_) rfl (by kernel_rfl) (by kernel_rfl) (by kernel_rfl) (fun _ _ _ h=>h) (Or.inl ⟨by rfl,?_⟩) (by assumption) ?_
 rotate_left
 ·intro w hSw;(try dsimp only at hSw);first | (go_simp;done) | (go_simp;with_reducible rfl)
 (try simp only [Act.put,List.getElem_toArray,List.getElem_cons_succ,List.getElem_cons_zero,List.setIfInBounds_toArray,List.set_cons_zero,List.set_cons_succ])
 refine wpAnyH_take (i:=3) (v:=?_) rfl (by kernel_rfl) (by kernel_rfl) (by kernel_rfl) (fun _ _ _ h=>h) (Or.inl ⟨by rfl,?_⟩) (by assumption) ?_
 rotate_left
 ·intro w hSw;(try dsimp only at hSw);first | (go_simp;done) | (go_simp;with_reducible rfl)
 (try simp only [Act.put,List.getElem_toArray,List.getElem_cons_succ,List.getElem_cons_zero,List.setIfInBounds_toArray,List.set_cons_zero,List.set_cons_succ])
 refine wpAnyH_take (i:=4) (v:=undef) rfl (by kernel_rfl) (by kernel_rfl) (by kernel_rfl) (fun _ _ _ h=>h) (Or.inr ⟨by rfl,rfl⟩) (by assumption) ?_
 (try simp only [Act.put,List.getElem_toArray,List.getElem_cons_succ,List.getElem_cons_zero,List.setIfInBounds_toArray,List.set_cons_zero,List.set_cons_succ])
 refine wpAnyH_take (i:=5) (v:=undef) rfl (by kernel_rfl) (by kernel_rfl) (by kernel_rfl) (fun _ _ _ h=>h) (Or.inr ⟨by rfl,rfl⟩) (by assumption) ?_
 (try simp only [Act.put,List.getElem_toArray,List.getElem_cons_succ,List.getElem_cons_zero,List.setIfInBounds_toArray,List.set_cons_zero,List.set_cons_succ])
 refine wpAnyH_take (i:=6) (v:=undef) rfl (by kernel_rfl) (by kernel_rfl) (by kernel_rfl) (fun _ _ _ h=>h) (Or.inr ⟨by rfl,rfl⟩) (by assumption) ?_
 (try simp only [Act.put,List.getElem_toArray,List.getElem_cons_succ,List.getElem_cons_zero,List.setIfInBounds_toArray,List.set_cons_zero,List.set_cons_succ])
 refine wpAnyH_take (i:=7) (v:=?_) rfl (by kernel_rfl) (by kernel_rfl) (by kernel_rfl) (fun _ _ _ h=>h) (Or.inl ⟨by rfl,?_⟩) (by assumption) ?_
 rotate_left
 ·intro w hSw;(try dsimp only at hSw);first | (go_simp;done) | (go_simp;with_reducible rfl)
 (try simp only [Act.put,List.getElem_toArray,List.getElem_cons_succ,List.getElem_cons_zero,List.setIfInBounds_toArray,List.set_cons_zero,List.set_cons_succ])
 refine wpAnyH_done (by kernel_rfl) ?_ _
 go_wp2_with fail
 refine (pall_ex _).mono ?_
 rintro e u ⟨rfl,hu⟩
 have hbu:Ok W u:=by rw [hu];exact Ok.alloc (by assumption) _
 clear hu
 have hr:Hid _:=Ok.row' hbu HR2.out
 obtain ⟨k0,k1,k2,k3⟩:=row_facts hr.out
 have HB2:Hid (Ok w0 u):=HW.out.step hbu
 unfold cv
 go_wp2_with fail
 (try simp only [Exit.inBlock, Exit.then]); refine bodyPost_ret (results_cell_row rfl _ _ (w.heap.size+2) 27 #[_, _] (0, 0) _ rfl (row_set2 hr.out _ _) Tryz.underlying27 rfl infoCg) rfl ?_
 exact ⟨rfl,(HB2.out.set (show w0.heap.size<=w.heap.size+2 by omega) _).set (show w0.heap.size<=w.heap.size+2 by omega) _⟩
set_option maxRecDepth 100000 in
theorem pdiv_zero (cM cR:Nat) (w0 w:World) (hok:Ok w0 w) :
  Calls Tryz.prog 245 #[cv cM cR,cv 0 0] w fun e w'=>e=.returned (cv (divC cM cR 0 0).1 (divC cM cR 0 0).2)/\Ok w0 w':=by
 have hle:=hok.le
 rw [show divC cM cR 0 0=(1,0) by unfold divC;rw [if_pos (Or.inr wrap_zero)]]
 have HZ:Hid (bitsN 0=0):=rfl
 unfold cv
 go_enter Tryz.func245,Tryz.ntmps245
 go_wp2_with fail
 obtain ⟨W,hW⟩:∃ W,W=(((w.alloc (.cells #[.int .u64 (cM:Int),.int .u64 (cR:Int)] 27)).alloc (.cells #[.int .u64 0,.int .u64 0] 27)).alloc (.cells #[.int .u64 0,.int .u64 0] 27)):=⟨_,rfl⟩
 have ra0:W.heap[w.heap.size]?=some (.cells #[.int .u64 (cM:Int),.int .u64 (cR:Int)] 27):=by rw [hW];exact jj
 have ra1:W.heap[w.heap.size+1]?=some (.cells #[.int .u64 0,.int .u64 0] 27):=by rw [hW];exact jj
 have ra2:W.heap[w.heap.size+2]?=some (.cells #[.int .u64 0,.int .u64 0] 27):=by rw [hW];exact jj
 have HW:Hid (Ok w0 W):=by rw [hW];exact (by repeat (first | exact hok | refine Ok.alloc ?_ _ | refine Ok.draws ?_ _ | fail))
 rw [<-hW]
 clear hW hok
 have z0:=lt_row ra0
 have HR0:Hid _:=ra0
 obtain ⟨g00,g01,f00,f01⟩:=row_facts ra0
 have z1:=lt_row ra1
 have HR1:Hid _:=ra1
 obtain ⟨g10,g11,f10,f11⟩:=row_facts ra1
 have z2:=lt_row ra2
 have HR2:Hid _:=ra2
 obtain ⟨g20,g21,f20,f21⟩:=row_facts ra2
 clear ra0 ra1 ra2
 have bz:Ok W W:=Ok.refl _
 go_region_held3 (fun w'=>w'.cell? ⟨w.heap.size+1,0,none⟩=some (.int .u64 0)/\w'.cell? ⟨w.heap.size+1,1,none⟩=some (.int .u64 0)) (go_keep)
  (first
  | (go_at_call 149;refine (pisone_ok 0 0 W _ (by repeat (first | assumption | refine Ok.alloc ?_ _ | refine Below.drew ?_))).mono ?_;rintro e w' ⟨rfl,hb⟩;have q10:=Ok.cell hb z1 g10;have q11:=Ok.cell hb z1 g11)
  | (go_at_call 123;refine (pconst_any 0 W _ (by repeat (first | assumption | refine Ok.alloc ?_ _ | refine Below.drew ?_))).mono ?_;rintro e w' ⟨rfl,hb⟩;rw [HZ.out];unfold cv;have q10:=Ok.cell hb z1 g10;have q11:=Ok.cell hb z1 g11)
  | fail)
 go_wp2_with fail
 refine (pall_ex _).mono ?_
 rintro e u ⟨rfl,hu⟩
 have hbu:Ok W u:=by rw [hu];exact Ok.alloc (by assumption) _
 clear hu
 have hr:Hid _:=Ok.row' hbu HR2.out
 obtain ⟨k0,k1,k2,k3⟩:=row_facts hr.out
 have HB2:Hid (Ok w0 u):=HW.out.step hbu
 unfold cv
 go_wp2_with fail
 (try simp only [Exit.inBlock, Exit.then]); refine bodyPost_ret (results_cell_row rfl _ _ (w.heap.size+2) 27 #[_, _] (0, 0) _ rfl (row_set2 hr.out _ _) Tryz.underlying27 rfl infoCg) rfl ?_
 exact ⟨rfl,(HB2.out.set (show w0.heap.size<=w.heap.size+2 by omega) _).set (show w0.heap.size<=w.heap.size+2 by omega) _⟩
set_option maxRecDepth 100000 in
theorem pdiv_one (cR dR:Nat) (h4:U64 dR) (h0:dR≠0) (w0 w:World) (hok:Ok w0 w) :
  Calls Tryz.prog 245 #[cv 0 cR,cv 0 dR] w fun e w'=>e=.returned (cv (divC 0 cR 0 dR).1 (divC 0 cR 0 dR).2)/\Ok w0 w':=by
 have hle:=hok.le
 rw [div_ones h4 h0]
 have HK:Hid _:=wrap_ne h4 h0
 obtain ⟨v,hv⟩:∃ v,v=wrap64 (cR:Int):=⟨_,rfl⟩
 obtain ⟨z,hz⟩:∃ z,z=wrap64 (dR:Int):=⟨_,rfl⟩
 rw [<-hv,<-hz]
 rw [<-hz] at HK
 obtain ⟨p,hp⟩:∃ p,p=wrap64 (v.tdiv z):=⟨_,rfl⟩
 rw [<-hp]
 obtain ⟨B,hB⟩:∃ B,B=bitsN p:=⟨_,rfl⟩
 rw [<-hB]
 have HE:Hid _:=And.intro hv (And.intro hz (And.intro hp hB))
 have HZ:Hid (bitsN 0=0):=rfl
 have r1:¬(dR:Int)=0:=by omega
 have r2:((dR:Int)==0)=false:=by simp;omega
 have r3:¬dR=0:=by omega
 clear hv hz hp hB h0 h4
 unfold cv
 go_enter Tryz.func245,Tryz.ntmps245
 go_wp2_with fail
 obtain ⟨W,hW⟩:∃ W,W=(((w.alloc (.cells #[.int .u64 0,.int .u64 (cR:Int)] 27)).alloc (.cells #[.int .u64 0,.int .u64 (dR:Int)] 27)).alloc (.cells #[.int .u64 0,.int .u64 0] 27)):=⟨_,rfl⟩
 have ra0:W.heap[w.heap.size]?=some (.cells #[.int .u64 0,.int .u64 (cR:Int)] 27):=by rw [hW];exact jj
 have ra1:W.heap[w.heap.size+1]?=some (.cells #[.int .u64 0,.int .u64 (dR:Int)] 27):=by rw [hW];exact jj
 have ra2:W.heap[w.heap.size+2]?=some (.cells #[.int .u64 0,.int .u64 0] 27):=by rw [hW];exact jj
 have HW:Hid (Ok w0 W):=by rw [hW];exact (by repeat (first | exact hok | refine Ok.alloc ?_ _ | refine Ok.draws ?_ _ | fail))
 rw [<-hW]
 clear hW hok
 have z0:=lt_row ra0
 have HR0:Hid _:=ra0
 obtain ⟨g00,g01,f00,f01⟩:=row_facts ra0
 have z1:=lt_row ra1
 have HR1:Hid _:=ra1
 obtain ⟨g10,g11,f10,f11⟩:=row_facts ra1
 have z2:=lt_row ra2
 have HR2:Hid _:=ra2
 obtain ⟨g20,g21,f20,f21⟩:=row_facts ra2
 clear ra0 ra1 ra2
 have bz:Ok W W:=Ok.refl _
 go_region_held3 (fun w'=>w'.cell? ⟨w.heap.size+1,0,none⟩=some (.int .u64 0)/\w'.cell? ⟨w.heap.size+1,1,none⟩=some (.int .u64 (dR:Int))) (go_keep)
  (first
  | (go_at_call 149;refine (pisone_ok 0 dR W _ (by repeat (first | assumption | refine Ok.alloc ?_ _ | refine Below.drew ?_))).mono ?_;rintro e w' ⟨rfl,hb⟩;have q10:=Ok.cell hb z1 g10;have q11:=Ok.cell hb z1 g11)
  | (go_at_call 123;refine (pconst_any 0 W _ (by repeat (first | assumption | refine Ok.alloc ?_ _ | refine Below.drew ?_))).mono ?_;rintro e w' ⟨rfl,hb⟩;rw [HZ.out];unfold cv;have q10:=Ok.cell hb z1 g10;have q11:=Ok.cell hb z1 g11)
  | fail)
 have q00:=Ok.cell hb z0 g00;have q01:=Ok.cell hb z0 g01
 go_wp2_with (first | (go_at_call 149;refine (pisone_ok 0 cR W _ (by assumption)).mono ?_;rintro e w' ⟨rfl,hb⟩;have q00:=Ok.cell hb z0 g00;have q01:=Ok.cell hb z0 g01;have q10:=Ok.cell hb z1 g10;have q11:=Ok.cell hb z1 g11) | fail)
 go_region_held3 (fun w'=>w'.cell? ⟨w.heap.size,0,none⟩=some (.int .u64 0)/\w'.cell? ⟨w.heap.size,1,none⟩=some (.int .u64 (cR:Int))/\w'.cell? ⟨w.heap.size+1,0,none⟩=some (.int .u64 0)/\w'.cell? ⟨w.heap.size+1,1,none⟩=some (.int .u64 (dR:Int))) (go_keep)
  (first
  | (go_at_call 218;refine (pnumber_ok 0 _ W _ (by repeat (first | assumption | refine Ok.alloc ?_ _ | refine Below.drew ?_))).mono ?_;rintro e w' ⟨rfl,hb⟩;(first | rw [<-HE.out.1] | rw [<-HE.out.2.1]);have q00:=Ok.cell hb z0 g00;have q01:=Ok.cell hb z0 g01;have q10:=Ok.cell hb z1 g10;have q11:=Ok.cell hb z1 g11)
  | (go_at_call 256;refine (wdiv_ok v z HK.out W _ (by repeat (first | assumption | refine Ok.alloc ?_ _ | refine Below.drew ?_))).mono ?_;rintro e w' ⟨rfl,hb⟩;rw [<-HE.out.2.2.1];have q00:=Ok.cell hb z0 g00;have q01:=Ok.cell hb z0 g01;have q10:=Ok.cell hb z1 g10;have q11:=Ok.cell hb z1 g11)
  | fail)
 go_wp2_with fail
 refine (pconst_any p W _ hb).mono ?_
 rintro e u ⟨rfl,hb⟩
 rw [<-HE.out.2.2.2]
 have hr:Hid _:=Ok.row' hb HR2.out
 obtain ⟨k0,k1,k2,k3⟩:=row_facts hr.out
 have HB2:Hid (Ok w0 u):=HW.out.step hb
 unfold cv
 go_wp2_with fail
 (try simp only [Exit.inBlock, Exit.then]); refine bodyPost_ret (results_cell_row rfl _ _ (w.heap.size+2) 27 #[_, _] (0, 0) _ rfl (row_set2 hr.out _ _) Tryz.underlying27 rfl infoCg) rfl ?_
 exact ⟨rfl,(HB2.out.set (show w0.heap.size<=w.heap.size+2 by omega) _).set (show w0.heap.size<=w.heap.size+2 by omega) _⟩
end Go.Proofs.YtnjmjnmhldhaoaaGreat
namespace Go.Proofs.YtnjmjnmhldhaoaaGreat
open Go.RowKit
set_option maxRecDepth 100000 in
theorem pdiv_more (cM cR dR:Nat) (h0:dR≠0) (hc:cM≠0) (h1:U64 cM) (h2:U64 cR) (h4:U64 dR) (w0 w:World) (hok:Ok w0 w) :
  Calls Tryz.prog 245 #[cv cM cR,cv 0 dR] w fun e w'=>e=.returned (cv (divC cM cR 0 dR).1 (divC cM cR 0 dR).2)/\Ok w0 w':=by
 have hle:=hok.le
 have DC:=div_cases (cR:=cR) h1 h4 h0 hc
 have hnu:U64 (rF 0 dR):=rF_rng (by unfold U64;omega) h4
 have hfu:U64 (rF cM cR):=rF_rng h1 h2
 have hn0:0<rF 0 dR:=rF_ne h4 (by omega) rfl
 obtain ⟨n,hn⟩:∃ n,n=rF 0 dR:=⟨_,rfl⟩
 obtain ⟨f,hf⟩:∃ f,f=rF cM cR:=⟨_,rfl⟩
 rw [<-hn] at DC hnu hn0
 rw [<-hf] at DC hfu
 have HN:Hid _:=And.intro hn (And.intro hf (And.intro hnu (And.intro hfu hn0)))
 have HU:Hid _:=And.intro h1 (And.intro h2 (And.intro h4 (show U64 0 by unfold U64;omega)))
 have HZ:Hid (bitsN 0=0):=rfl
 have HZ1:Hid (bitsN (-1)=18446744073709551615):=by unfold Hid bitsN;omega
 have r1:¬(dR:Int)=0:=by omega
 have r2:((dR:Int)==0)=false:=by simp;omega
 have r3:¬dR=0:=by omega
 have d1:decide (cM=0)=false:=decide_eq_false hc
 have b1:¬(n:Int)=0:=by omega
 have b2:((n:Int)==0)=false:=by simp;omega
 have b3:¬n=0:=by omega
 have b4:(n==0)=false:=by simp;omega
 have b5:(0:Int)<=(n:Int):=by omega
 have b6:(0:Int)<=(cM:Int):=by omega
 have b7:(0:Int)<=(f:Int):=by omega
 have b8:(cM:Int).tmod (n:Int)=(cM:Int)%(n:Int):=Int.tmod_eq_emod_of_nonneg b6
 have b9:(f:Int).tmod (n:Int)=(f:Int)%(n:Int):=Int.tmod_eq_emod_of_nonneg b7
 clear hn hf hnu hfu hn0 h1 h2 h4
 by_cases hA:dR=18446744073709551615
 ·rw [DC.1 (Or.inl hA)]
  subst hA
  clear DC h0 hc
  unfold cv
  go_enter Tryz.func245,Tryz.ntmps245
  go_wp2_with fail
  obtain ⟨W,hW⟩:∃ W,W=(((w.alloc (.cells #[.int .u64 (cM:Int),.int .u64 (cR:Int)] 27)).alloc (.cells #[.int .u64 0,.int .u64 18446744073709551615] 27)).alloc (.cells #[.int .u64 0,.int .u64 0] 27)):=⟨_,rfl⟩
  have ra0:W.heap[w.heap.size]?=some (.cells #[.int .u64 (cM:Int),.int .u64 (cR:Int)] 27):=by rw [hW];exact jj
  have ra1:W.heap[w.heap.size+1]?=some (.cells #[.int .u64 0,.int .u64 18446744073709551615] 27):=by rw [hW];exact jj
  have ra2:W.heap[w.heap.size+2]?=some (.cells #[.int .u64 0,.int .u64 0] 27):=by rw [hW];exact jj
  have HW:Hid (Ok w0 W):=by rw [hW];exact (by repeat (first | exact hok | refine Ok.alloc ?_ _ | refine Ok.draws ?_ _ | fail))
  rw [<-hW]
  clear hW hok
  have z0:=lt_row ra0
  have HR0:Hid _:=ra0
  obtain ⟨g00,g01,f00,f01⟩:=row_facts ra0
  have z1:=lt_row ra1
  have HR1:Hid _:=ra1
  obtain ⟨g10,g11,f10,f11⟩:=row_facts ra1
  have z2:=lt_row ra2
  have HR2:Hid _:=ra2
  obtain ⟨g20,g21,f20,f21⟩:=row_facts ra2
  clear ra0 ra1 ra2
  have bz:Ok W W:=Ok.refl _
  go_region_held3 (fun w'=>w'.cell? ⟨w.heap.size+1,0,none⟩=some (.int .u64 0)/\w'.cell? ⟨w.heap.size+1,1,none⟩=some (.int .u64 18446744073709551615)) (go_keep)
   (first
   | (go_at_call 149;refine (pisone_ok 0 18446744073709551615 W _ (by repeat (first | assumption | refine Ok.alloc ?_ _ | refine Below.drew ?_))).mono ?_;rintro e w' ⟨rfl,hb⟩;have q10:=Ok.cell hb z1 g10;have q11:=Ok.cell hb z1 g11)
   | (go_at_call 123;refine (pconst_any 0 W _ (by repeat (first | assumption | refine Ok.alloc ?_ _ | refine Below.drew ?_))).mono ?_;rintro e w' ⟨rfl,hb⟩;rw [HZ.out];unfold cv;have q10:=Ok.cell hb z1 g10;have q11:=Ok.cell hb z1 g11)
   | fail)
  have q00:=Ok.cell hb z0 g00;have q01:=Ok.cell hb z0 g01
  go_wp2_with (first | (go_at_call 149;refine (pisone_ok cM cR W _ (by assumption)).mono ?_;rintro e w' ⟨rfl,hb⟩;have q00:=Ok.cell hb z0 g00;have q01:=Ok.cell hb z0 g01;have q10:=Ok.cell hb z1 g10;have q11:=Ok.cell hb z1 g11) | (go_at_call 255;refine (psize_any 0 18446744073709551615 HU.out.2.2.2 HU.out.2.2.1 W _ (by assumption)).mono ?_;rintro e w' ⟨rfl,hb⟩;rw [<-HN.out.1];have q00:=Ok.cell hb z0 g00;have q01:=Ok.cell hb z0 g01;have q10:=Ok.cell hb z1 g10;have q11:=Ok.cell hb z1 g11) | fail)
  refine wp_region_held_drew (S:=(fun w'=>w'.cell? ⟨w.heap.size,0,none⟩=some (.int .u64 (cM:Int))/\w'.cell? ⟨w.heap.size,1,none⟩=some (.int .u64 (cR:Int))/\w'.cell? ⟨w.heap.size+1,0,none⟩=some (.int .u64 0)/\w'.cell? ⟨w.heap.size+1,1,none⟩=some (.int .u64 18446744073709551615))) (by kernel_rfl) (by (try dsimp only);go_keep) (fun hHeld=>?_)
  refine wpAnyH_take (i:=0) (v:=?_) rfl (by kernel_rfl) (by kernel_rfl) (by kernel_rfl) (fun _ _ _ h=>h) (Or.inl ⟨by rfl,?_⟩) (by assumption) ?_
  rotate_left
  ·intro w hSw;(try dsimp only at hSw);first | (go_simp;done) | (go_simp;with_reducible rfl)
  (try simp only [Act.put,List.getElem_toArray,List.getElem_cons_succ,List.getElem_cons_zero,List.setIfInBounds_toArray,List.set_cons_zero,List.set_cons_succ])
  refine wpAnyH_ready (rs:=[1]) (by kernel_rfl) (by simp) ?_
  refine AllReadyH.cons rfl (fun K hK=>?_) AllReadyH.nil
  go_simp
  refine (pconst_any (-1) W _ (by repeat (first | assumption | refine Ok.alloc ?_ _ | refine Below.drew ?_))).mono ?_
  rintro e w1 ⟨rfl,hb1⟩
  rw [HZ1.out]
  unfold cv
  have q1a:=Ok.cell hb1 z0 g00;have q1b:=Ok.cell hb1 z0 g01;have q1c:=Ok.cell hb1 z1 g10;have q1d:=Ok.cell hb1 z1 g11
  go_wp2_with fail
  refine hK.out _ _ (by (try dsimp only);go_keep) (fun hHeld=>?_)
  clear hK K
  (try simp only [Act.put,List.getElem_toArray,List.getElem_cons_succ,List.getElem_cons_zero,List.setIfInBounds_toArray,List.set_cons_zero,List.set_cons_succ])
  refine wpAnyH_take (i:=2) (v:=?_) rfl (by kernel_rfl) (by kernel_rfl) (by kernel_rfl) (fun _ _ _ h=>h) (Or.inl ⟨by rfl,?_⟩) (by assumption) ?_
  rotate_left
  ·intro w hSw;(try dsimp only at hSw);first | (go_simp;done) | (go_simp;with_reducible rfl)
  (try simp only [Act.put,List.getElem_toArray,List.getElem_cons_succ,List.getElem_cons_zero,List.setIfInBounds_toArray,List.set_cons_zero,List.set_cons_succ])
  refine wpAnyH_take (i:=3) (v:=?_) rfl (by kernel_rfl) (by kernel_rfl) (by kernel_rfl) (fun _ _ _ h=>h) (Or.inl ⟨by rfl,?_⟩) (by assumption) ?_
  rotate_left
  ·intro w hSw;(try dsimp only at hSw);first | (go_simp;done) | (go_simp;with_reducible rfl)
  (try simp only [Act.put,List.getElem_toArray,List.getElem_cons_succ,List.getElem_cons_zero,List.setIfInBounds_toArray,List.set_cons_zero,List.set_cons_succ])
  refine wpAnyH_take (i:=4) (v:=undef) rfl (by kernel_rfl) (by kernel_rfl) (by kernel_rfl) (fun _ _ _ h=>h) (Or.inr ⟨by rfl,rfl⟩) (by assumption) ?_
  (try simp only [Act.put,List.getElem_toArray,List.getElem_cons_succ,List.getElem_cons_zero,List.setIfInBounds_toArray,List.set_cons_zero,List.set_cons_succ])
  refine wpAnyH_take (i:=5) (v:=undef) rfl (by kernel_rfl) (by kernel_rfl) (by kernel_rfl) (fun _ _ _ h=>h) (Or.inr ⟨by rfl,rfl⟩) (by assumption) ?_
  (try simp only [Act.put,List.getElem_toArray,List.getElem_cons_succ,List.getElem_cons_zero,List.setIfInBounds_toArray,List.set_cons_zero,List.set_cons_succ])
  refine wpAnyH_take (i:=6) (v:=undef) rfl (by kernel_rfl) (by kernel_rfl) (by kernel_rfl) (fun _ _ _ h=>h) (Or.inr ⟨by rfl,rfl⟩) (by assumption) ?_
  (try simp only [Act.put,List.getElem_toArray,List.getElem_cons_succ,List.getElem_cons_zero,List.setIfInBounds_toArray,List.set_cons_zero,List.set_cons_succ])
  refine wpAnyH_take (i:=7) (v:=undef) rfl (by kernel_rfl) (by kernel_rfl) (by kernel_rfl) (fun _ _ _ h=>h) (Or.inr ⟨by rfl,rfl⟩) (by assumption) ?_
  (try simp only [Act.put,List.getElem_toArray,List.getElem_cons_succ,List.getElem_cons_zero,List.setIfInBounds_toArray,List.set_cons_zero,List.set_cons_succ])
  refine wpAnyH_take (i:=8) (v:=undef) rfl (by kernel_rfl) (by kernel_rfl) (by kernel_rfl) (fun _ _ _ h=>h) (Or.inr ⟨by rfl,rfl⟩) (by assumption) ?_
  (try simp only [Act.put,List.getElem_toArray,List.getElem_cons_succ,List.getElem_cons_zero,List.setIfInBounds_toArray,List.set_cons_zero,List.set_cons_succ])
  refine wpAnyH_take (i:=9) (v:=?_) rfl (by kernel_rfl) (by kernel_rfl) (by kernel_rfl) (fun _ _ _ h=>h) (Or.inl ⟨by rfl,?_⟩) (by assumption) ?_
  rotate_left
  ·intro w hSw;(try dsimp only at hSw);first | (go_simp;done) | (go_simp;with_reducible rfl)
  (try simp only [Act.put,List.getElem_toArray,List.getElem_cons_succ,List.getElem_cons_zero,List.setIfInBounds_toArray,List.set_cons_zero,List.set_cons_succ])
  refine wpAnyH_take (i:=10) (v:=?_) rfl (by kernel_rfl) (by kernel_rfl) (by kernel_rfl) (fun _ _ _ h=>h) (Or.inl ⟨by rfl,?_⟩) (by assumption) ?_
  rotate_left
  ·intro w hSw;(try dsimp only at hSw);first | (go_simp;done) | (go_simp;with_reducible rfl)
  (try simp only [Act.put,List.getElem_toArray,List.getElem_cons_succ,List.getElem_cons_zero,List.setIfInBounds_toArray,List.set_cons_zero,List.set_cons_succ])
  refine wpAnyH_take (i:=11) (v:=undef) rfl (by kernel_rfl) (by kernel_rfl) (by kernel_rfl) (fun _ _ _ h=>h) (Or.inr ⟨by rfl,rfl⟩) (by assumption) ?_
  (try simp only [Act.put,List.getElem_toArray,List.getElem_cons_succ,List.getElem_cons_zero,List.setIfInBounds_toArray,List.set_cons_zero,List.set_cons_succ])
  refine wpAnyH_take (i:=12) (v:=undef) rfl (by kernel_rfl) (by kernel_rfl) (by kernel_rfl) (fun _ _ _ h=>h) (Or.inr ⟨by rfl,rfl⟩) (by assumption) ?_
  (try simp only [Act.put,List.getElem_toArray,List.getElem_cons_succ,List.getElem_cons_zero,List.setIfInBounds_toArray,List.set_cons_zero,List.set_cons_succ])
  refine wpAnyH_take (i:=13) (v:=undef) rfl (by kernel_rfl) (by kernel_rfl) (by kernel_rfl) (fun _ _ _ h=>h) (Or.inr ⟨by rfl,rfl⟩) (by assumption) ?_
  (try simp only [Act.put,List.getElem_toArray,List.getElem_cons_succ,List.getElem_cons_zero,List.setIfInBounds_toArray,List.set_cons_zero,List.set_cons_succ])
  refine wpAnyH_take (i:=14) (v:=undef) rfl (by kernel_rfl) (by kernel_rfl) (by kernel_rfl) (fun _ _ _ h=>h) (Or.inr ⟨by rfl,rfl⟩) (by assumption) ?_
  (try simp only [Act.put,List.getElem_toArray,List.getElem_cons_succ,List.getElem_cons_zero,List.setIfInBounds_toArray,List.set_cons_zero,List.set_cons_succ])
  refine wpAnyH_take (i:=15) (v:=undef) rfl (by kernel_rfl) (by kernel_rfl) (by kernel_rfl) (fun _ _ _ h=>h) (Or.inr ⟨by rfl,rfl⟩) (by assumption) ?_
  (try simp only [Act.put,List.getElem_toArray,List.getElem_cons_succ,List.getElem_cons_zero,List.setIfInBounds_toArray,List.set_cons_zero,List.set_cons_succ])
  refine wpAnyH_take (i:=16) (v:=?_) rfl (by kernel_rfl) (by kernel_rfl) (by kernel_rfl) (fun _ _ _ h=>h) (Or.inl ⟨by rfl,?_⟩) (by assumption) ?_
  rotate_left
  ·intro w hSw;(try dsimp only at hSw);first | (go_simp;done) | (go_simp;with_reducible rfl)
  (try simp only [Act.put,List.getElem_toArray,List.getElem_cons_succ,List.getElem_cons_zero,List.setIfInBounds_toArray,List.set_cons_zero,List.set_cons_succ])
  refine wpAnyH_done (by kernel_rfl) ?_ _
  go_wp2_with fail
  refine (pall_ex _).mono ?_
  rintro e u ⟨rfl,hu⟩
  have hbu:Ok W u:=by rw [hu];exact Ok.alloc (by assumption) _
  clear hu
  have hr:Hid _:=Ok.row' hbu HR2.out
  obtain ⟨k0,k1,k2,k3⟩:=row_facts hr.out
  have HB2:Hid (Ok w0 u):=HW.out.step hbu
  unfold cv
  go_wp2_with fail
  (try simp only [Exit.inBlock, Exit.then]); refine bodyPost_ret (results_cell_row rfl _ _ (w.heap.size+2) 27 #[_, _] (0, 0) _ rfl (row_set2 hr.out _ _) Tryz.underlying27 rfl infoCg) rfl ?_
  exact ⟨rfl,(HB2.out.set (show w0.heap.size<=w.heap.size+2 by omega) _).set (show w0.heap.size<=w.heap.size+2 by omega) _⟩
 ·have a1:¬(dR:Int)=18446744073709551615:=by omega
  have a2:((dR:Int)==18446744073709551615)=false:=by simp;omega
  by_cases hB:cM%n=0
  ·have hB1:(cM:Int)%(n:Int)=0:=by rw [<-Int.natCast_emod,hB];rfl
   by_cases hC:f%n=0
   ·have hC1:(f:Int)%(n:Int)=0:=by rw [<-Int.natCast_emod,hC];rfl
    have HD:Hid _:=DC.2 hA hB hC
    clear DC h0 hc hA hB hC
    unfold cv
    go_enter Tryz.func245,Tryz.ntmps245
    go_wp2_with fail
    obtain ⟨W,hW⟩:∃ W,W=(((w.alloc (.cells #[.int .u64 (cM:Int),.int .u64 (cR:Int)] 27)).alloc (.cells #[.int .u64 0,.int .u64 (dR:Int)] 27)).alloc (.cells #[.int .u64 0,.int .u64 0] 27)):=⟨_,rfl⟩
    have ra0:W.heap[w.heap.size]?=some (.cells #[.int .u64 (cM:Int),.int .u64 (cR:Int)] 27):=by rw [hW];exact jj
    have ra1:W.heap[w.heap.size+1]?=some (.cells #[.int .u64 0,.int .u64 (dR:Int)] 27):=by rw [hW];exact jj
    have ra2:W.heap[w.heap.size+2]?=some (.cells #[.int .u64 0,.int .u64 0] 27):=by rw [hW];exact jj
    have HW:Hid (Ok w0 W):=by rw [hW];exact (by repeat (first | exact hok | refine Ok.alloc ?_ _ | refine Ok.draws ?_ _ | fail))
    rw [<-hW]
    clear hW hok
    have z0:=lt_row ra0
    have HR0:Hid _:=ra0
    obtain ⟨g00,g01,f00,f01⟩:=row_facts ra0
    have z1:=lt_row ra1
    have HR1:Hid _:=ra1
    obtain ⟨g10,g11,f10,f11⟩:=row_facts ra1
    have z2:=lt_row ra2
    have HR2:Hid _:=ra2
    obtain ⟨g20,g21,f20,f21⟩:=row_facts ra2
    clear ra0 ra1 ra2
    have bz:Ok W W:=Ok.refl _
    go_region_held3 (fun w'=>w'.cell? ⟨w.heap.size+1,0,none⟩=some (.int .u64 0)/\w'.cell? ⟨w.heap.size+1,1,none⟩=some (.int .u64 (dR:Int))) (go_keep)
     (first
     | (go_at_call 149;refine (pisone_ok 0 dR W _ (by repeat (first | assumption | refine Ok.alloc ?_ _ | refine Below.drew ?_))).mono ?_;rintro e w' ⟨rfl,hb⟩;have q10:=Ok.cell hb z1 g10;have q11:=Ok.cell hb z1 g11)
     | (go_at_call 123;refine (pconst_any 0 W _ (by repeat (first | assumption | refine Ok.alloc ?_ _ | refine Below.drew ?_))).mono ?_;rintro e w' ⟨rfl,hb⟩;rw [HZ.out];unfold cv;have q10:=Ok.cell hb z1 g10;have q11:=Ok.cell hb z1 g11)
     | fail)
    have q00:=Ok.cell hb z0 g00;have q01:=Ok.cell hb z0 g01
    go_wp2_with (first | (go_at_call 149;refine (pisone_ok cM cR W _ (by assumption)).mono ?_;rintro e w' ⟨rfl,hb⟩;have q00:=Ok.cell hb z0 g00;have q01:=Ok.cell hb z0 g01;have q10:=Ok.cell hb z1 g10;have q11:=Ok.cell hb z1 g11) | (go_at_call 255;refine (psize_any 0 dR HU.out.2.2.2 HU.out.2.2.1 W _ (by assumption)).mono ?_;rintro e w' ⟨rfl,hb⟩;rw [<-HN.out.1];have q00:=Ok.cell hb z0 g00;have q01:=Ok.cell hb z0 g01;have q10:=Ok.cell hb z1 g10;have q11:=Ok.cell hb z1 g11) | fail)
    go_region_held3 (fun w'=>w'.cell? ⟨w.heap.size,0,none⟩=some (.int .u64 (cM:Int))/\w'.cell? ⟨w.heap.size,1,none⟩=some (.int .u64 (cR:Int))/\w'.cell? ⟨w.heap.size+1,0,none⟩=some (.int .u64 0)/\w'.cell? ⟨w.heap.size+1,1,none⟩=some (.int .u64 (dR:Int))) (go_keep)
     (first
     | (go_at_call 123;refine (pconst_any (-1) W _ (by repeat (first | assumption | refine Ok.alloc ?_ _ | refine Below.drew ?_))).mono ?_;rintro e w' ⟨rfl,hb⟩;rw [HZ1.out];unfold cv;have q00:=Ok.cell hb z0 g00;have q01:=Ok.cell hb z0 g01;have q10:=Ok.cell hb z1 g10;have q11:=Ok.cell hb z1 g11)
     | (go_at_call 255;refine (psize_any cM cR HU.out.1 HU.out.2.1 W _ (by repeat (first | assumption | refine Ok.alloc ?_ _ | refine Below.drew ?_))).mono ?_;rintro e w' ⟨rfl,hb⟩;rw [<-HN.out.2.1];have q00:=Ok.cell hb z0 g00;have q01:=Ok.cell hb z0 g01;have q10:=Ok.cell hb z1 g10;have q11:=Ok.cell hb z1 g11)
     | fail)
    have o1:(cM:Int)/(n:Int)=((cM/n:Nat):Int):=(Int.natCast_ediv _ _).symm
    have o2:(f:Int)/(n:Int)=((f/n:Nat):Int):=(Int.natCast_ediv _ _).symm
    have qmu:U64 (cM/n):=by have:=Nat.div_le_self cM n;have:=HU.out.1;unfold U64 at *;omega
    have qfu:U64 (f/n):=by have:=Nat.div_le_self f n;have:=HN.out.2.2.2.1;unfold U64 at *;omega
    obtain ⟨M',hM'⟩:∃ z,z=cM/n:=⟨_,rfl⟩
    obtain ⟨F',hF'⟩:∃ z,z=f/n:=⟨_,rfl⟩
    rw [<-hM'] at o1 qmu HD
    rw [<-hF'] at o2 qfu HD
    have HQ:Hid _:=And.intro qmu qfu
    have o3:IntKind.u64.wrap (M':Int)=(M':Int):=by unfold U64 at qmu;rw [u64w];omega
    have o4:IntKind.u64.wrap (F':Int)=(F':Int):=by unfold U64 at qfu;rw [u64w];omega
    have o5:(cM:Int).tdiv (n:Int)=(M':Int):=by rw [Int.tdiv_eq_ediv_of_nonneg b6];exact o1
    have o6:(f:Int).tdiv (n:Int)=(F':Int):=by rw [Int.tdiv_eq_ediv_of_nonneg b7];exact o2
    clear hM' hF' qmu qfu
    go_wp2_with fail
    have rX:=Ok.row' hb HR2.out
    have x1:=knew_ne hb z0;have x2:=knew_ne hb z1
    go_region_held3 (fun w'=>w'.cell? ⟨w.heap.size,0,none⟩=some (.int .u64 (cM:Int))/\w'.cell? ⟨w.heap.size,1,none⟩=some (.int .u64 (cR:Int))/\w'.cell? ⟨w.heap.size+1,0,none⟩=some (.int .u64 0)/\w'.cell? ⟨w.heap.size+1,1,none⟩=some (.int .u64 (dR:Int))) (go_keep)
     (first
     | (go_at_call 255;refine (psize_any cM cR HU.out.1 HU.out.2.1 _ _ (Ok.refl _)).mono ?_;rintro e w2 ⟨rfl,hc⟩;rw [<-HN.out.2.1];have hb:Ok W w2:=Ok.step (by repeat (first | assumption | refine Ok.alloc ?_ _ | refine Below.drew ?_)) hc;(first | have rX:=Ok.row' hc (heap_new0 _ _) | have rX:=Ok.row' hc rX);obtain ⟨c0,c1,c2,c3⟩:=row_facts rX;have x3:=knew_ne hb z0;have x4:=knew_ne hb z1;have q00:=Ok.cell hb z0 g00;have q01:=Ok.cell hb z0 g01;have q10:=Ok.cell hb z1 g10;have q11:=Ok.cell hb z1 g11)
     | fail)
    ·obtain ⟨gy,hgy⟩:∃ g,g=w2.heap.size:=⟨_,rfl⟩
     obtain ⟨Y,hY⟩:∃ Y,Y=w2.alloc (.cells #[.int .u64 (M':Int),.int .u64 (F':Int)] 27):=⟨_,rfl⟩
     have HYr:Hid (Y.heap[gy]?=some (.cells #[.int .u64 (M':Int),.int .u64 (F':Int)] 27)):=by rw [hY,hgy];exact heap_new0 _ _
     have HYo:Hid (Ok W Y):=by rw [hY];exact hb.alloc _
     rw [<-hY,<-hgy]
     obtain ⟨y0,y1,_,_⟩:=row_facts HYr.out
     obtain ⟨y2,y3,_,_⟩:=row_facts (Ok.row' HYo.out HR1.out)
     obtain ⟨V,hV⟩:∃ V,V=wrap64 (dR:Int):=⟨_,rfl⟩
     rw [<-hV] at HD
     have HV:Hid _:=hV
     clear hV hY hgy
     by_cases hs:V<0
     ·have HDD:Hid (divC cM cR 0 dR=negC M' F' true):=by unfold Hid;rw [HD.out,if_pos hs]
      go_wp2_with fail
      refine (pnumber_ok 0 dR Y _ (Ok.refl _)).mono ?_
      rintro e u ⟨rfl,hu⟩
      rw [<-HV.out]
      obtain ⟨u0,u1,_,_⟩:=row_facts (Ok.row' hu HYr.out)
      go_wp2_with fail
      refine (pneg_any M' F' true HQ.out.1 HQ.out.2 Y _ hu).mono ?_
      rintro e u' ⟨rfl,hu'⟩
      have hr:Hid _:=Ok.row' hu' (Ok.row' HYo.out HR2.out)
      have HB2:Hid (Ok w0 u'):=(HW.out.step HYo.out).step hu'
      obtain ⟨k0,k1,k2,k3⟩:=row_facts hr.out
      unfold cv
      go_wp2_with fail
      (try simp only [Exit.inBlock, Exit.then]); refine bodyPost_ret (results_cell_row rfl _ _ (w.heap.size+2) 27 #[_, _] (0, 0) _ rfl (row_set2 hr.out _ _) Tryz.underlying27 rfl infoCg) rfl ?_
      rw [HDD.out]
      exact ⟨rfl,(HB2.out.set (show w0.heap.size<=w.heap.size+2 by omega) _).set (show w0.heap.size<=w.heap.size+2 by omega) _⟩
     ·have HDD:Hid (divC cM cR 0 dR=(M',F')):=by unfold Hid;rw [HD.out,if_neg hs]
      go_wp2_with fail
      refine (pnumber_ok 0 dR Y _ (Ok.refl _)).mono ?_
      rintro e u ⟨rfl,hu⟩
      rw [<-HV.out]
      obtain ⟨u0,u1,_,_⟩:=row_facts (Ok.row' hu HYr.out)
      have hr:Hid _:=Ok.row' hu (Ok.row' HYo.out HR2.out)
      have HB2:Hid (Ok w0 u):=(HW.out.step HYo.out).step hu
      obtain ⟨k0,k1,k2,k3⟩:=row_facts hr.out
      go_wp2_with fail
      (try simp only [Exit.inBlock, Exit.then]); refine bodyPost_ret (results_cell_row rfl _ _ (w.heap.size+2) 27 #[_, _] (0, 0) _ rfl (row_set2 hr.out _ _) Tryz.underlying27 rfl infoCg) rfl ?_
      rw [HDD.out]
      exact ⟨rfl,(HB2.out.set (show w0.heap.size<=w.heap.size+2 by omega) _).set (show w0.heap.size<=w.heap.size+2 by omega) _⟩
    ·obtain ⟨gy,hgy⟩:∃ g,g=w'.heap.size:=⟨_,rfl⟩
     obtain ⟨Y,hY⟩:∃ Y,Y=(w2.setCell ⟨w'.heap.size,0,none⟩ (.int .u64 (M':Int))).setCell ⟨w'.heap.size,1,none⟩ (.int .u64 (F':Int)):=⟨_,rfl⟩
     have HYr:Hid (Y.heap[gy]?=some (.cells #[.int .u64 (M':Int),.int .u64 (F':Int)] 27)):=by rw [hY,hgy];exact row_set2 rX _ _
     have hgw:W.heap.size<=w'.heap.size:=Ok.le (by assumption)
     have HYo:Hid (Ok W Y):=by rw [hY];exact (hb.set (by simp only;omega) _).set (by simp only;omega) _
     rw [<-hY,<-hgy]
     obtain ⟨y0,y1,_,_⟩:=row_facts HYr.out
     obtain ⟨y2,y3,_,_⟩:=row_facts (Ok.row' HYo.out HR1.out)
     obtain ⟨V,hV⟩:∃ V,V=wrap64 (dR:Int):=⟨_,rfl⟩
     rw [<-hV] at HD
     have HV:Hid _:=hV
     clear hV hY hgy
     by_cases hs:V<0
     ·have HDD:Hid (divC cM cR 0 dR=negC M' F' true):=by unfold Hid;rw [HD.out,if_pos hs]
      go_wp2_with fail
      refine (pnumber_ok 0 dR Y _ (Ok.refl _)).mono ?_
      rintro e u ⟨rfl,hu⟩
      rw [<-HV.out]
      obtain ⟨u0,u1,_,_⟩:=row_facts (Ok.row' hu HYr.out)
      go_wp2_with fail
      refine (pneg_any M' F' true HQ.out.1 HQ.out.2 Y _ hu).mono ?_
      rintro e u' ⟨rfl,hu'⟩
      have hr:Hid _:=Ok.row' hu' (Ok.row' HYo.out HR2.out)
      have HB2:Hid (Ok w0 u'):=(HW.out.step HYo.out).step hu'
      obtain ⟨k0,k1,k2,k3⟩:=row_facts hr.out
      unfold cv
      go_wp2_with fail
      (try simp only [Exit.inBlock, Exit.then]); refine bodyPost_ret (results_cell_row rfl _ _ (w.heap.size+2) 27 #[_, _] (0, 0) _ rfl (row_set2 hr.out _ _) Tryz.underlying27 rfl infoCg) rfl ?_
      rw [HDD.out]
      exact ⟨rfl,(HB2.out.set (show w0.heap.size<=w.heap.size+2 by omega) _).set (show w0.heap.size<=w.heap.size+2 by omega) _⟩
     ·have HDD:Hid (divC cM cR 0 dR=(M',F')):=by unfold Hid;rw [HD.out,if_neg hs]
      go_wp2_with fail
      refine (pnumber_ok 0 dR Y _ (Ok.refl _)).mono ?_
      rintro e u ⟨rfl,hu⟩
      rw [<-HV.out]
      obtain ⟨u0,u1,_,_⟩:=row_facts (Ok.row' hu HYr.out)
      have hr:Hid _:=Ok.row' hu (Ok.row' HYo.out HR2.out)
      have HB2:Hid (Ok w0 u):=(HW.out.step HYo.out).step hu
      obtain ⟨k0,k1,k2,k3⟩:=row_facts hr.out
      go_wp2_with fail
      (try simp only [Exit.inBlock, Exit.then]); refine bodyPost_ret (results_cell_row rfl _ _ (w.heap.size+2) 27 #[_, _] (0, 0) _ rfl (row_set2 hr.out _ _) Tryz.underlying27 rfl infoCg) rfl ?_
      rw [HDD.out]
      exact ⟨rfl,(HB2.out.set (show w0.heap.size<=w.heap.size+2 by omega) _).set (show w0.heap.size<=w.heap.size+2 by omega) _⟩
   ·have hC1:¬(f:Int)%(n:Int)=0:=by rw [<-Int.natCast_emod];omega
    have hC2:((f:Int)%(n:Int)==0)=false:=by simp;exact hC1
    rw [DC.1 (Or.inr (Or.inr hC))]
    clear DC h0 hc hA hB hC
    unfold cv
    go_enter Tryz.func245,Tryz.ntmps245
    go_wp2_with fail
    obtain ⟨W,hW⟩:∃ W,W=(((w.alloc (.cells #[.int .u64 (cM:Int),.int .u64 (cR:Int)] 27)).alloc (.cells #[.int .u64 0,.int .u64 (dR:Int)] 27)).alloc (.cells #[.int .u64 0,.int .u64 0] 27)):=⟨_,rfl⟩
    have ra0:W.heap[w.heap.size]?=some (.cells #[.int .u64 (cM:Int),.int .u64 (cR:Int)] 27):=by rw [hW];exact jj
    have ra1:W.heap[w.heap.size+1]?=some (.cells #[.int .u64 0,.int .u64 (dR:Int)] 27):=by rw [hW];exact jj
    have ra2:W.heap[w.heap.size+2]?=some (.cells #[.int .u64 0,.int .u64 0] 27):=by rw [hW];exact jj
    have HW:Hid (Ok w0 W):=by rw [hW];exact (by repeat (first | exact hok | refine Ok.alloc ?_ _ | refine Ok.draws ?_ _ | fail))
    rw [<-hW]
    clear hW hok
    have z0:=lt_row ra0
    have HR0:Hid _:=ra0
    obtain ⟨g00,g01,f00,f01⟩:=row_facts ra0
    have z1:=lt_row ra1
    have HR1:Hid _:=ra1
    obtain ⟨g10,g11,f10,f11⟩:=row_facts ra1
    have z2:=lt_row ra2
    have HR2:Hid _:=ra2
    obtain ⟨g20,g21,f20,f21⟩:=row_facts ra2
    clear ra0 ra1 ra2
    have bz:Ok W W:=Ok.refl _
    go_region_held3 (fun w'=>w'.cell? ⟨w.heap.size+1,0,none⟩=some (.int .u64 0)/\w'.cell? ⟨w.heap.size+1,1,none⟩=some (.int .u64 (dR:Int))) (go_keep)
     (first
     | (go_at_call 149;refine (pisone_ok 0 dR W _ (by repeat (first | assumption | refine Ok.alloc ?_ _ | refine Below.drew ?_))).mono ?_;rintro e w' ⟨rfl,hb⟩;have q10:=Ok.cell hb z1 g10;have q11:=Ok.cell hb z1 g11)
     | (go_at_call 123;refine (pconst_any 0 W _ (by repeat (first | assumption | refine Ok.alloc ?_ _ | refine Below.drew ?_))).mono ?_;rintro e w' ⟨rfl,hb⟩;rw [HZ.out];unfold cv;have q10:=Ok.cell hb z1 g10;have q11:=Ok.cell hb z1 g11)
     | fail)
    have q00:=Ok.cell hb z0 g00;have q01:=Ok.cell hb z0 g01
    go_wp2_with (first | (go_at_call 149;refine (pisone_ok cM cR W _ (by assumption)).mono ?_;rintro e w' ⟨rfl,hb⟩;have q00:=Ok.cell hb z0 g00;have q01:=Ok.cell hb z0 g01;have q10:=Ok.cell hb z1 g10;have q11:=Ok.cell hb z1 g11) | (go_at_call 255;refine (psize_any 0 dR HU.out.2.2.2 HU.out.2.2.1 W _ (by assumption)).mono ?_;rintro e w' ⟨rfl,hb⟩;rw [<-HN.out.1];have q00:=Ok.cell hb z0 g00;have q01:=Ok.cell hb z0 g01;have q10:=Ok.cell hb z1 g10;have q11:=Ok.cell hb z1 g11) | fail)
    go_region_held3 (fun w'=>w'.cell? ⟨w.heap.size,0,none⟩=some (.int .u64 (cM:Int))/\w'.cell? ⟨w.heap.size,1,none⟩=some (.int .u64 (cR:Int))/\w'.cell? ⟨w.heap.size+1,0,none⟩=some (.int .u64 0)/\w'.cell? ⟨w.heap.size+1,1,none⟩=some (.int .u64 (dR:Int))) (go_keep)
     (first
     | (go_at_call 123;refine (pconst_any (-1) W _ (by repeat (first | assumption | refine Ok.alloc ?_ _ | refine Below.drew ?_))).mono ?_;rintro e w' ⟨rfl,hb⟩;rw [HZ1.out];unfold cv;have q00:=Ok.cell hb z0 g00;have q01:=Ok.cell hb z0 g01;have q10:=Ok.cell hb z1 g10;have q11:=Ok.cell hb z1 g11)
     | (go_at_call 255;refine (psize_any cM cR HU.out.1 HU.out.2.1 W _ (by repeat (first | assumption | refine Ok.alloc ?_ _ | refine Below.drew ?_))).mono ?_;rintro e w' ⟨rfl,hb⟩;rw [<-HN.out.2.1];have q00:=Ok.cell hb z0 g00;have q01:=Ok.cell hb z0 g01;have q10:=Ok.cell hb z1 g10;have q11:=Ok.cell hb z1 g11)
     | fail)
    go_wp2_with fail
    refine (pall_ex _).mono ?_
    rintro e u ⟨rfl,hu⟩
    have hbu:Ok W u:=by rw [hu];exact Ok.alloc (by assumption) _
    clear hu
    have hr:Hid _:=Ok.row' hbu HR2.out
    obtain ⟨k0,k1,k2,k3⟩:=row_facts hr.out
    have HB2:Hid (Ok w0 u):=HW.out.step hbu
    unfold cv
    go_wp2_with fail
    (try simp only [Exit.inBlock, Exit.then]); refine bodyPost_ret (results_cell_row rfl _ _ (w.heap.size+2) 27 #[_, _] (0, 0) _ rfl (row_set2 hr.out _ _) Tryz.underlying27 rfl infoCg) rfl ?_
    exact ⟨rfl,(HB2.out.set (show w0.heap.size<=w.heap.size+2 by omega) _).set (show w0.heap.size<=w.heap.size+2 by omega) _⟩
  ·have hB1:¬(cM:Int)%(n:Int)=0:=by rw [<-Int.natCast_emod];omega
   have hB2:((cM:Int)%(n:Int)==0)=false:=by simp;exact hB1
   have hB3:((cM:Int)%(n:Int) != 0)=true:=by simp;exact hB1
   rw [DC.1 (Or.inr (Or.inl hB))]
   clear DC h0 hc hA hB
   unfold cv
   go_enter Tryz.func245,Tryz.ntmps245
   go_wp2_with fail
   obtain ⟨W,hW⟩:∃ W,W=(((w.alloc (.cells #[.int .u64 (cM:Int),.int .u64 (cR:Int)] 27)).alloc (.cells #[.int .u64 0,.int .u64 (dR:Int)] 27)).alloc (.cells #[.int .u64 0,.int .u64 0] 27)):=⟨_,rfl⟩
   have ra0:W.heap[w.heap.size]?=some (.cells #[.int .u64 (cM:Int),.int .u64 (cR:Int)] 27):=by rw [hW];exact jj
   have ra1:W.heap[w.heap.size+1]?=some (.cells #[.int .u64 0,.int .u64 (dR:Int)] 27):=by rw [hW];exact jj
   have ra2:W.heap[w.heap.size+2]?=some (.cells #[.int .u64 0,.int .u64 0] 27):=by rw [hW];exact jj
   have HW:Hid (Ok w0 W):=by rw [hW];exact (by repeat (first | exact hok | refine Ok.alloc ?_ _ | refine Ok.draws ?_ _ | fail))
   rw [<-hW]
   clear hW hok
   have z0:=lt_row ra0
   have HR0:Hid _:=ra0
   obtain ⟨g00,g01,f00,f01⟩:=row_facts ra0
   have z1:=lt_row ra1
   have HR1:Hid _:=ra1
   obtain ⟨g10,g11,f10,f11⟩:=row_facts ra1
   have z2:=lt_row ra2
   have HR2:Hid _:=ra2
   obtain ⟨g20,g21,f20,f21⟩:=row_facts ra2
   clear ra0 ra1 ra2
   have bz:Ok W W:=Ok.refl _
   go_region_held3 (fun w'=>w'.cell? ⟨w.heap.size+1,0,none⟩=some (.int .u64 0)/\w'.cell? ⟨w.heap.size+1,1,none⟩=some (.int .u64 (dR:Int))) (go_keep)
    (first
    | (go_at_call 149;refine (pisone_ok 0 dR W _ (by repeat (first | assumption | refine Ok.alloc ?_ _ | refine Below.drew ?_))).mono ?_;rintro e w' ⟨rfl,hb⟩;have q10:=Ok.cell hb z1 g10;have q11:=Ok.cell hb z1 g11)
    | (go_at_call 123;refine (pconst_any 0 W _ (by repeat (first | assumption | refine Ok.alloc ?_ _ | refine Below.drew ?_))).mono ?_;rintro e w' ⟨rfl,hb⟩;rw [HZ.out];unfold cv;have q10:=Ok.cell hb z1 g10;have q11:=Ok.cell hb z1 g11)
    | fail)
   have q00:=Ok.cell hb z0 g00;have q01:=Ok.cell hb z0 g01
   go_wp2_with (first | (go_at_call 149;refine (pisone_ok cM cR W _ (by assumption)).mono ?_;rintro e w' ⟨rfl,hb⟩;have q00:=Ok.cell hb z0 g00;have q01:=Ok.cell hb z0 g01;have q10:=Ok.cell hb z1 g10;have q11:=Ok.cell hb z1 g11) | (go_at_call 255;refine (psize_any 0 dR HU.out.2.2.2 HU.out.2.2.1 W _ (by assumption)).mono ?_;rintro e w' ⟨rfl,hb⟩;rw [<-HN.out.1];have q00:=Ok.cell hb z0 g00;have q01:=Ok.cell hb z0 g01;have q10:=Ok.cell hb z1 g10;have q11:=Ok.cell hb z1 g11) | fail)
   refine wp_region_held_drew (S:=(fun w'=>w'.cell? ⟨w.heap.size,0,none⟩=some (.int .u64 (cM:Int))/\w'.cell? ⟨w.heap.size,1,none⟩=some (.int .u64 (cR:Int))/\w'.cell? ⟨w.heap.size+1,0,none⟩=some (.int .u64 0)/\w'.cell? ⟨w.heap.size+1,1,none⟩=some (.int .u64 (dR:Int)))) (by kernel_rfl) (by (try dsimp only);go_keep) (fun hHeld=>?_)
   refine wpAnyH_take (i:=0) (v:=?_) rfl (by kernel_rfl) (by kernel_rfl) (by kernel_rfl) (fun _ _ _ h=>h) (Or.inl ⟨by rfl,?_⟩) (by assumption) ?_
   rotate_left
   ·intro w hSw;(try dsimp only at hSw);first | (go_simp;done) | (go_simp;with_reducible rfl)
   (try simp only [Act.put,List.getElem_toArray,List.getElem_cons_succ,List.getElem_cons_zero,List.setIfInBounds_toArray,List.set_cons_zero,List.set_cons_succ])
   refine wpAnyH_ready (rs:=[1]) (by kernel_rfl) (by simp) ?_
   refine AllReadyH.cons rfl (fun K hK=>?_) AllReadyH.nil
   go_simp
   refine (pconst_any (-1) W _ (by repeat (first | assumption | refine Ok.alloc ?_ _ | refine Below.drew ?_))).mono ?_
   rintro e w1 ⟨rfl,hb1⟩
   rw [HZ1.out]
   unfold cv
   have q1a:=Ok.cell hb1 z0 g00;have q1b:=Ok.cell hb1 z0 g01;have q1c:=Ok.cell hb1 z1 g10;have q1d:=Ok.cell hb1 z1 g11
   go_wp2_with fail
   refine hK.out _ _ (by (try dsimp only);go_keep) (fun hHeld=>?_)
   clear hK K
   (try simp only [Act.put,List.getElem_toArray,List.getElem_cons_succ,List.getElem_cons_zero,List.setIfInBounds_toArray,List.set_cons_zero,List.set_cons_succ])
   refine wpAnyH_take (i:=2) (v:=?_) rfl (by kernel_rfl) (by kernel_rfl) (by kernel_rfl) (fun _ _ _ h=>h) (Or.inl ⟨by rfl,?_⟩) (by assumption) ?_
   rotate_left
   ·intro w hSw;(try dsimp only at hSw);first | (go_simp;done) | (go_simp;with_reducible rfl)
   (try simp only [Act.put,List.getElem_toArray,List.getElem_cons_succ,List.getElem_cons_zero,List.setIfInBounds_toArray,List.set_cons_zero,List.set_cons_succ])
   refine wpAnyH_take (i:=3) (v:=?_) rfl (by kernel_rfl) (by kernel_rfl) (by kernel_rfl) (fun _ _ _ h=>h) (Or.inl ⟨by rfl,?_⟩) (by assumption) ?_
   rotate_left
   ·intro w hSw;(try dsimp only at hSw);first | (go_simp;done) | (go_simp;with_reducible rfl)
   (try simp only [Act.put,List.getElem_toArray,List.getElem_cons_succ,List.getElem_cons_zero,List.setIfInBounds_toArray,List.set_cons_zero,List.set_cons_succ])
   refine wpAnyH_take (i:=4) (v:=?_) rfl (by kernel_rfl) (by kernel_rfl) (by kernel_rfl) (fun _ _ _ h=>h) (Or.inl ⟨by rfl,?_⟩) (by assumption) ?_
   rotate_left
   ·intro w hSw;(try dsimp only at hSw);first | (go_simp;done) | (go_simp;with_reducible rfl)
   (try simp only [Act.put,List.getElem_toArray,List.getElem_cons_succ,List.getElem_cons_zero,List.setIfInBounds_toArray,List.set_cons_zero,List.set_cons_succ])
   refine wpAnyH_take (i:=5) (v:=?_) rfl (by kernel_rfl) (by kernel_rfl) (by kernel_rfl) (fun _ _ _ h=>h) (Or.inl ⟨by rfl,?_⟩) (by assumption) ?_
   rotate_left
   ·intro w hSw;(try dsimp only at hSw);first | (go_simp;done) | (go_simp;with_reducible rfl)
   (try simp only [Act.put,List.getElem_toArray,List.getElem_cons_succ,List.getElem_cons_zero,List.setIfInBounds_toArray,List.set_cons_zero,List.set_cons_succ])
   refine wpAnyH_take (i:=6) (v:=?_) rfl (by kernel_rfl) (by kernel_rfl) (by kernel_rfl) (fun _ _ _ h=>h) (Or.inl ⟨by rfl,?_⟩) (by assumption) ?_
   rotate_left
   ·intro w hSw;(try dsimp only at hSw);first | (go_simp;done) | (go_simp;with_reducible rfl)
   (try simp only [Act.put,List.getElem_toArray,List.getElem_cons_succ,List.getElem_cons_zero,List.setIfInBounds_toArray,List.set_cons_zero,List.set_cons_succ])
   refine wpAnyH_take (i:=7) (v:=?_) rfl (by kernel_rfl) (by kernel_rfl) (by kernel_rfl) (fun _ _ _ h=>h) (Or.inl ⟨by rfl,?_⟩) (by assumption) ?_
   rotate_left
   ·intro w hSw;(try dsimp only at hSw);first | (go_simp;done) | (go_simp;with_reducible rfl)
   (try simp only [Act.put,List.getElem_toArray,List.getElem_cons_succ,List.getElem_cons_zero,List.setIfInBounds_toArray,List.set_cons_zero,List.set_cons_succ])
   refine wpAnyH_take (i:=8) (v:=?_) rfl (by kernel_rfl) (by kernel_rfl) (by kernel_rfl) (fun _ _ _ h=>h) (Or.inl ⟨by rfl,?_⟩) (by assumption) ?_
   rotate_left
   ·intro w hSw;(try dsimp only at hSw);first | (go_simp;done) | (go_simp;with_reducible rfl)
   (try simp only [Act.put,List.getElem_toArray,List.getElem_cons_succ,List.getElem_cons_zero,List.setIfInBounds_toArray,List.set_cons_zero,List.set_cons_succ])
   refine wpAnyH_take (i:=9) (v:=?_) rfl (by kernel_rfl) (by kernel_rfl) (by kernel_rfl) (fun _ _ _ h=>h) (Or.inl ⟨by rfl,?_⟩) (by assumption) ?_
   rotate_left
   ·intro w hSw;(try dsimp only at hSw);first | (go_simp;done) | (go_simp;with_reducible rfl)
   (try simp only [Act.put,List.getElem_toArray,List.getElem_cons_succ,List.getElem_cons_zero,List.setIfInBounds_toArray,List.set_cons_zero,List.set_cons_succ])
   refine wpAnyH_take (i:=10) (v:=?_) rfl (by kernel_rfl) (by kernel_rfl) (by kernel_rfl) (fun _ _ _ h=>h) (Or.inl ⟨by rfl,?_⟩) (by assumption) ?_
   rotate_left
   ·intro w hSw;(try dsimp only at hSw);first | (go_simp;done) | (go_simp;with_reducible rfl)
   (try simp only [Act.put,List.getElem_toArray,List.getElem_cons_succ,List.getElem_cons_zero,List.setIfInBounds_toArray,List.set_cons_zero,List.set_cons_succ])
   refine wpAnyH_take (i:=11) (v:=undef) rfl (by kernel_rfl) (by kernel_rfl) (by kernel_rfl) (fun _ _ _ h=>h) (Or.inr ⟨by rfl,rfl⟩) (by assumption) ?_
   (try simp only [Act.put,List.getElem_toArray,List.getElem_cons_succ,List.getElem_cons_zero,List.setIfInBounds_toArray,List.set_cons_zero,List.set_cons_succ])
   refine wpAnyH_take (i:=12) (v:=undef) rfl (by kernel_rfl) (by kernel_rfl) (by kernel_rfl) (fun _ _ _ h=>h) (Or.inr ⟨by rfl,rfl⟩) (by assumption) ?_
   (try simp only [Act.put,List.getElem_toArray,List.getElem_cons_succ,List.getElem_cons_zero,List.setIfInBounds_toArray,List.set_cons_zero,List.set_cons_succ])
   refine wpAnyH_take (i:=13) (v:=undef) rfl (by kernel_rfl) (by kernel_rfl) (by kernel_rfl) (fun _ _ _ h=>h) (Or.inr ⟨by rfl,rfl⟩) (by assumption) ?_
   (try simp only [Act.put,List.getElem_toArray,List.getElem_cons_succ,List.getElem_cons_zero,List.setIfInBounds_toArray,List.set_cons_zero,List.set_cons_succ])
   refine wpAnyH_take (i:=14) (v:=undef) rfl (by kernel_rfl) (by kernel_rfl) (by kernel_rfl) (fun _ _ _ h=>h) (Or.inr ⟨by rfl,rfl⟩) (by assumption) ?_
   (try simp only [Act.put,List.getElem_toArray,List.getElem_cons_succ,List.getElem_cons_zero,List.setIfInBounds_toArray,List.set_cons_zero,List.set_cons_succ])
   refine wpAnyH_take (i:=15) (v:=undef) rfl (by kernel_rfl) (by kernel_rfl) (by kernel_rfl) (fun _ _ _ h=>h) (Or.inr ⟨by rfl,rfl⟩) (by assumption) ?_
   (try simp only [Act.put,List.getElem_toArray,List.getElem_cons_succ,List.getElem_cons_zero,List.setIfInBounds_toArray,List.set_cons_zero,List.set_cons_succ])
   refine wpAnyH_take (i:=16) (v:=?_) rfl (by kernel_rfl) (by kernel_rfl) (by kernel_rfl) (fun _ _ _ h=>h) (Or.inl ⟨by rfl,?_⟩) (by assumption) ?_
   rotate_left
   ·intro w hSw;(try dsimp only at hSw);first | (go_simp;done) | (go_simp;with_reducible rfl)
   (try simp only [Act.put,List.getElem_toArray,List.getElem_cons_succ,List.getElem_cons_zero,List.setIfInBounds_toArray,List.set_cons_zero,List.set_cons_succ])
   refine wpAnyH_done (by kernel_rfl) ?_ _
   go_wp2_with fail
   refine (pall_ex _).mono ?_
   rintro e u ⟨rfl,hu⟩
   have hbu:Ok W u:=by rw [hu];exact Ok.alloc (by assumption) _
   clear hu
   have hr:Hid _:=Ok.row' hbu HR2.out
   obtain ⟨k0,k1,k2,k3⟩:=row_facts hr.out
   have HB2:Hid (Ok w0 u):=HW.out.step hbu
   unfold cv
   go_wp2_with fail
   (try simp only [Exit.inBlock, Exit.then]); refine bodyPost_ret (results_cell_row rfl _ _ (w.heap.size+2) 27 #[_, _] (0, 0) _ rfl (row_set2 hr.out _ _) Tryz.underlying27 rfl infoCg) rfl ?_
   exact ⟨rfl,(HB2.out.set (show w0.heap.size<=w.heap.size+2 by omega) _).set (show w0.heap.size<=w.heap.size+2 by omega) _⟩
theorem pdiv_any (cM cR dM dR:Nat) (h1:U64 cM) (h2:U64 cR) (h3:U64 dM) (h4:U64 dR) (w0 w:World) (hok:Ok w0 w) :
  Calls Tryz.prog 245 #[cv cM cR,cv dM dR] w fun e w'=>e=.returned (cv (divC cM cR dM dR).1 (divC cM cR dM dR).2)/\Ok w0 w':=by
 by_cases hd:dM=0
 ·subst hd
  by_cases h0:dR=0
  ·subst h0;exact pdiv_zero cM cR w0 w hok
  ·by_cases hc:cM=0
   ·subst hc;exact pdiv_one cR dR h4 h0 w0 w hok
   ·exact pdiv_more cM cR dR h0 hc h1 h2 h4 w0 w hok
 ·exact pdiv_class cM cR dM dR hd w0 w hok
end Go.Proofs.YtnjmjnmhldhaoaaGreat
