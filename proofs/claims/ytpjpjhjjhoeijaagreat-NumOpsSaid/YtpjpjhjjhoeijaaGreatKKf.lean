import Derived.Test.YtpjpjhjjhoeijaaGreatKKa
set_option maxHeartbeats 8000000
set_option linter.all false
namespace Go.Proofs.YtpjpjhjjhoeijaaGreat
open Go.RowKit
theorem pminus_ok (x y m:Nat) (hx:x<md m) (hy:y<md m) (hm:U64 m) (w0 w:World) (hok:Ok w0 w) :
  Calls Tryz.prog 168 #[.int .u64 (x:Int),.int .u64 (y:Int),.int .u64 (m:Int)] w fun e w'=>e=.returned (.int .u64 (minusL x y m:Int))/\Ok w0 w':=by
 refine (pminus_any x y m hx hy hm w).mono ?_
 rintro e w' ⟨rfl,rfl⟩
 exact ⟨rfl,hok⟩
theorem pplus_ok (x y m:Nat) (hx:x<md m) (hy:y<md m) (hm:U64 m) (w0 w:World) (hok:Ok w0 w) :
  Calls Tryz.prog 177 #[.int .u64 (x:Int),.int .u64 (y:Int),.int .u64 (m:Int)] w fun e w'=>e=.returned (.int .u64 (plusL x y m:Int))/\Ok w0 w':=by
 refine (pplus_any x y m hx hy hm w).mono ?_
 rintro e w' ⟨rfl,rfl⟩
 exact ⟨rfl,hok⟩
set_option maxRecDepth 100000 in
theorem ponr_m (cM cR dM dR:Nat) (ex:Bool) (h1:U64 cM) (h2:U64 cR) (h3:U64 dM) (h4:U64 dR) (w0 w:World) (hok:Ok w0 w) :
  Calls Tryz.prog 176 #[.func (.func 168) #[] #[],cv cM cR,cv dM dR,.bool ex] w fun e w'=>e=.returned (cv (subC cM cR dM dR ex).1 (subC cM cR dM dR ex).2)/\Ok w0 w':=by
 have hle:=hok.le
 rw [sub_is ex h1 h2 h3 h4]
 have HU:Hid _:=And.intro h1 (And.intro h2 (And.intro h3 h4))
 have HG:Hid _:=gcd_u64 h1 h3
 have HE:Hid _:=evL_u64 (gcd_u64 h1 h3) ex
 have HM:Hid _:=rests_may ex h1 h3
 obtain ⟨G,hG⟩:∃ G,G=Nat.gcd cM dM:=⟨_,rfl⟩
 rw [<-hG] at HG HE HM ⊢
 have HGG:Hid _:=hG
 clear h1 h2 h3 h4 hG
 cases ex with
 | true =>
  have e0:evL G true=G:=rfl
  rw [e0] at HE HM ⊢
  clear e0
  obtain ⟨m,hm⟩:∃ m,m=G:=⟨_,rfl⟩
  rw [<-hm] at HE HM ⊢
  have HMM:Hid _:=hm
  obtain ⟨x,hx⟩:∃ x,x=restL cM cR m:=⟨_,rfl⟩
  obtain ⟨y,hy⟩:∃ y,y=restL dM dR m:=⟨_,rfl⟩
  have HX:Hid _:=And.intro hx hy
  have HL:Hid (x<md m/\y<md m):=by
   rw [hx,hy];exact ⟨restL_lt HU.out.2.1 HM.out.1,restL_lt HU.out.2.2.2 HM.out.2⟩
  obtain ⟨r,hr⟩:∃ r,r=minusL x y m:=⟨_,rfl⟩
  rw [<-hx,<-hy,<-hr]
  have HRR:Hid _:=hr
  clear hm hx hy hr
  unfold cv
  go_enter Tryz.func176,Tryz.ntmps176
  go_wp2_with fail
  refine (pgcd2_any cM dM (w.heap.size+1+1+1) _ _ (Ok.refl _) HU.out.1 HU.out.2.2.1 jj).mono ?_
  rintro e W ⟨rfl,hb⟩
  rw [<-HGG.out,<-HMM.out]
  have ra0:W.heap[w.heap.size]?=some (.cells #[.int .u64 (cM:Int),.int .u64 (cR:Int)] 27):=Ok.row' hb jj
  have ra1:W.heap[w.heap.size+1]?=some (.cells #[.int .u64 (dM:Int),.int .u64 (dR:Int)] 27):=Ok.row' hb jj
  have ra2:W.heap[w.heap.size+2]?=some (.cells #[.int .u64 0,.int .u64 0] 27):=Ok.row' hb jj
  have HW:Hid (Ok w0 W):=Ok.step (by repeat (first | exact hok | refine Ok.alloc ?_ _ | refine Ok.draws ?_ _ | fail)) hb
  clear hb hok
  have z0:=lt_row ra0
  have HR0:Hid _:=ra0
  obtain ⟨g00,g01,f00,f01⟩:=row_facts ra0
  have z1:=lt_row ra1
  have HR1:Hid _:=ra1
  obtain ⟨g10,g11,f10,f11⟩:=row_facts ra1
  have z2:=lt_row ra2
  have HR2:Hid _:=ra2
  obtain ⟨g20,g21,f20,f21⟩:=row_facts ra2
  clear ra0 ra1 ra2
  have bz:Ok W W:=Ok.refl _
  have n1:¬w.heap.size+1+1=w.heap.size:=by omega
  have n2:¬w.heap.size+1+1=w.heap.size+1:=by omega
  go_wp2_with fail
  go_region_held3 (fun w'=>w'.cell? ⟨w.heap.size,0,none⟩=some (.int .u64 (cM:Int))/\w'.cell? ⟨w.heap.size,1,none⟩=some (.int .u64 (cR:Int))/\w'.cell? ⟨w.heap.size+1,0,none⟩=some (.int .u64 (dM:Int))/\w'.cell? ⟨w.heap.size+1,1,none⟩=some (.int .u64 (dR:Int))) (go_keep)
   (first
   | (go_at_call 169;refine (prest_any _ _ m (by first | exact HU.out.1 | exact HU.out.2.2.1) (by first | exact HU.out.2.1 | exact HU.out.2.2.2) HE.out (by first | exact HM.out.1 | exact HM.out.2) W _ (by repeat (first | assumption | refine Ok.alloc ?_ _ | refine Below.drew ?_))).mono ?_;rintro e w' ⟨rfl,hb⟩;(first | rw [<-HX.out.1] | rw [<-HX.out.2]);have q00:=Ok.cell hb z0 g00;have q01:=Ok.cell hb z0 g01;have q10:=Ok.cell hb z1 g10;have q11:=Ok.cell hb z1 g11;obtain ⟨c0,c1,c2,c3⟩:=row_facts (Ok.row' hb HR2.out))
   | (go_at_call 168;refine (pminus_ok x y m HL.out.1 HL.out.2 HE.out W _ (by repeat (first | assumption | refine Ok.alloc ?_ _ | refine Below.drew ?_))).mono ?_;rintro e w' ⟨rfl,hb⟩;rw [<-HRR.out];have q00:=Ok.cell hb z0 g00;have q01:=Ok.cell hb z0 g01;have q10:=Ok.cell hb z1 g10;have q11:=Ok.cell hb z1 g11;obtain ⟨c0,c1,c2,c3⟩:=row_facts (Ok.row' hb HR2.out))
   | fail)
  have hr:Hid _:=Ok.row' hb HR2.out
  have HB2:Hid (Ok w0 w'):=HW.out.step hb
  go_wp2_with fail
  (try simp only [Exit.inBlock, Exit.then]); refine bodyPost_ret (results_cell_row rfl _ _ (w.heap.size+2) 27 #[_, _] (0, 0) _ rfl (row_set2 hr.out _ _) Tryz.underlying27 rfl infoCg) rfl ?_
  exact ⟨rfl,(HB2.out.set (show w0.heap.size<=w.heap.size+2 by omega) _).set (show w0.heap.size<=w.heap.size+2 by omega) _⟩
 | false =>
  obtain ⟨m,hm⟩:∃ m,m=evL G false:=⟨_,rfl⟩
  rw [<-hm] at HE HM ⊢
  have HMM:Hid _:=hm
  obtain ⟨x,hx⟩:∃ x,x=restL cM cR m:=⟨_,rfl⟩
  obtain ⟨y,hy⟩:∃ y,y=restL dM dR m:=⟨_,rfl⟩
  have HX:Hid _:=And.intro hx hy
  have HL:Hid (x<md m/\y<md m):=by
   rw [hx,hy];exact ⟨restL_lt HU.out.2.1 HM.out.1,restL_lt HU.out.2.2.2 HM.out.2⟩
  obtain ⟨r,hr⟩:∃ r,r=minusL x y m:=⟨_,rfl⟩
  rw [<-hx,<-hy,<-hr]
  have HRR:Hid _:=hr
  clear hm hx hy hr
  unfold cv
  go_enter Tryz.func176,Tryz.ntmps176
  go_wp2_with fail
  refine (pgcd2_any cM dM (w.heap.size+1+1+1) _ _ (Ok.refl _) HU.out.1 HU.out.2.2.1 jj).mono ?_
  rintro e W ⟨rfl,hb⟩
  rw [<-HGG.out]
  have ra0:W.heap[w.heap.size]?=some (.cells #[.int .u64 (cM:Int),.int .u64 (cR:Int)] 27):=Ok.row' hb jj
  have ra1:W.heap[w.heap.size+1]?=some (.cells #[.int .u64 (dM:Int),.int .u64 (dR:Int)] 27):=Ok.row' hb jj
  have ra2:W.heap[w.heap.size+2]?=some (.cells #[.int .u64 0,.int .u64 0] 27):=Ok.row' hb jj
  have HW:Hid (Ok w0 W):=Ok.step (by repeat (first | exact hok | refine Ok.alloc ?_ _ | refine Ok.draws ?_ _ | fail)) hb
  clear hb hok
  have z0:=lt_row ra0
  have HR0:Hid _:=ra0
  obtain ⟨g00,g01,f00,f01⟩:=row_facts ra0
  have z1:=lt_row ra1
  have HR1:Hid _:=ra1
  obtain ⟨g10,g11,f10,f11⟩:=row_facts ra1
  have z2:=lt_row ra2
  have HR2:Hid _:=ra2
  obtain ⟨g20,g21,f20,f21⟩:=row_facts ra2
  clear ra0 ra1 ra2
  have bz:Ok W W:=Ok.refl _
  have n1:¬w.heap.size+1+1=w.heap.size:=by omega
  have n2:¬w.heap.size+1+1=w.heap.size+1:=by omega
  go_wp2_with fail
  refine (weven_ev G HG.out _).mono ?_
  rintro e w' ⟨rfl,hw⟩
  replace hw:=hw.symm
  subst hw
  rw [<-HMM.out]
  go_wp2_with fail
  go_region_held3 (fun w'=>w'.cell? ⟨w.heap.size,0,none⟩=some (.int .u64 (cM:Int))/\w'.cell? ⟨w.heap.size,1,none⟩=some (.int .u64 (cR:Int))/\w'.cell? ⟨w.heap.size+1,0,none⟩=some (.int .u64 (dM:Int))/\w'.cell? ⟨w.heap.size+1,1,none⟩=some (.int .u64 (dR:Int))) (go_keep)
   (first
   | (go_at_call 169;refine (prest_any _ _ m (by first | exact HU.out.1 | exact HU.out.2.2.1) (by first | exact HU.out.2.1 | exact HU.out.2.2.2) HE.out (by first | exact HM.out.1 | exact HM.out.2) W _ (by repeat (first | assumption | refine Ok.alloc ?_ _ | refine Below.drew ?_))).mono ?_;rintro e w' ⟨rfl,hb⟩;(first | rw [<-HX.out.1] | rw [<-HX.out.2]);have q00:=Ok.cell hb z0 g00;have q01:=Ok.cell hb z0 g01;have q10:=Ok.cell hb z1 g10;have q11:=Ok.cell hb z1 g11;obtain ⟨c0,c1,c2,c3⟩:=row_facts (Ok.row' hb HR2.out))
   | (go_at_call 168;refine (pminus_ok x y m HL.out.1 HL.out.2 HE.out W _ (by repeat (first | assumption | refine Ok.alloc ?_ _ | refine Below.drew ?_))).mono ?_;rintro e w' ⟨rfl,hb⟩;rw [<-HRR.out];have q00:=Ok.cell hb z0 g00;have q01:=Ok.cell hb z0 g01;have q10:=Ok.cell hb z1 g10;have q11:=Ok.cell hb z1 g11;obtain ⟨c0,c1,c2,c3⟩:=row_facts (Ok.row' hb HR2.out))
   | fail)
  have hr:Hid _:=Ok.row' hb HR2.out
  have HB2:Hid (Ok w0 w'):=HW.out.step hb
  go_wp2_with fail
  (try simp only [Exit.inBlock, Exit.then]); refine bodyPost_ret (results_cell_row rfl _ _ (w.heap.size+2) 27 #[_, _] (0, 0) _ rfl (row_set2 hr.out _ _) Tryz.underlying27 rfl infoCg) rfl ?_
  exact ⟨rfl,(HB2.out.set (show w0.heap.size<=w.heap.size+2 by omega) _).set (show w0.heap.size<=w.heap.size+2 by omega) _⟩
set_option maxRecDepth 100000 in
theorem ponr_p (cM cR dM dR:Nat) (ex:Bool) (h1:U64 cM) (h2:U64 cR) (h3:U64 dM) (h4:U64 dR) (w0 w:World) (hok:Ok w0 w) :
  Calls Tryz.prog 176 #[.func (.func 177) #[] #[],cv cM cR,cv dM dR,.bool ex] w fun e w'=>e=.returned (cv (addC cM cR dM dR ex).1 (addC cM cR dM dR ex).2)/\Ok w0 w':=by
 have hle:=hok.le
 rw [add_is ex h1 h2 h3 h4]
 have HU:Hid _:=And.intro h1 (And.intro h2 (And.intro h3 h4))
 have HG:Hid _:=gcd_u64 h1 h3
 have HE:Hid _:=evL_u64 (gcd_u64 h1 h3) ex
 have HM:Hid _:=rests_may ex h1 h3
 obtain ⟨G,hG⟩:∃ G,G=Nat.gcd cM dM:=⟨_,rfl⟩
 rw [<-hG] at HG HE HM ⊢
 have HGG:Hid _:=hG
 clear h1 h2 h3 h4 hG
 cases ex with
 | true =>
  have e0:evL G true=G:=rfl
  rw [e0] at HE HM ⊢
  clear e0
  obtain ⟨m,hm⟩:∃ m,m=G:=⟨_,rfl⟩
  rw [<-hm] at HE HM ⊢
  have HMM:Hid _:=hm
  obtain ⟨x,hx⟩:∃ x,x=restL cM cR m:=⟨_,rfl⟩
  obtain ⟨y,hy⟩:∃ y,y=restL dM dR m:=⟨_,rfl⟩
  have HX:Hid _:=And.intro hx hy
  have HL:Hid (x<md m/\y<md m):=by
   rw [hx,hy];exact ⟨restL_lt HU.out.2.1 HM.out.1,restL_lt HU.out.2.2.2 HM.out.2⟩
  obtain ⟨r,hr⟩:∃ r,r=plusL x y m:=⟨_,rfl⟩
  rw [<-hx,<-hy,<-hr]
  have HRR:Hid _:=hr
  clear hm hx hy hr
  unfold cv
  go_enter Tryz.func176,Tryz.ntmps176
  go_wp2_with fail
  refine (pgcd2_any cM dM (w.heap.size+1+1+1) _ _ (Ok.refl _) HU.out.1 HU.out.2.2.1 jj).mono ?_
  rintro e W ⟨rfl,hb⟩
  rw [<-HGG.out,<-HMM.out]
  have ra0:W.heap[w.heap.size]?=some (.cells #[.int .u64 (cM:Int),.int .u64 (cR:Int)] 27):=Ok.row' hb jj
  have ra1:W.heap[w.heap.size+1]?=some (.cells #[.int .u64 (dM:Int),.int .u64 (dR:Int)] 27):=Ok.row' hb jj
  have ra2:W.heap[w.heap.size+2]?=some (.cells #[.int .u64 0,.int .u64 0] 27):=Ok.row' hb jj
  have HW:Hid (Ok w0 W):=Ok.step (by repeat (first | exact hok | refine Ok.alloc ?_ _ | refine Ok.draws ?_ _ | fail)) hb
  clear hb hok
  have z0:=lt_row ra0
  have HR0:Hid _:=ra0
  obtain ⟨g00,g01,f00,f01⟩:=row_facts ra0
  have z1:=lt_row ra1
  have HR1:Hid _:=ra1
  obtain ⟨g10,g11,f10,f11⟩:=row_facts ra1
  have z2:=lt_row ra2
  have HR2:Hid _:=ra2
  obtain ⟨g20,g21,f20,f21⟩:=row_facts ra2
  clear ra0 ra1 ra2
  have bz:Ok W W:=Ok.refl _
  have n1:¬w.heap.size+1+1=w.heap.size:=by omega
  have n2:¬w.heap.size+1+1=w.heap.size+1:=by omega
  go_wp2_with fail
  go_region_held3 (fun w'=>w'.cell? ⟨w.heap.size,0,none⟩=some (.int .u64 (cM:Int))/\w'.cell? ⟨w.heap.size,1,none⟩=some (.int .u64 (cR:Int))/\w'.cell? ⟨w.heap.size+1,0,none⟩=some (.int .u64 (dM:Int))/\w'.cell? ⟨w.heap.size+1,1,none⟩=some (.int .u64 (dR:Int))) (go_keep)
   (first
   | (go_at_call 169;refine (prest_any _ _ m (by first | exact HU.out.1 | exact HU.out.2.2.1) (by first | exact HU.out.2.1 | exact HU.out.2.2.2) HE.out (by first | exact HM.out.1 | exact HM.out.2) W _ (by repeat (first | assumption | refine Ok.alloc ?_ _ | refine Below.drew ?_))).mono ?_;rintro e w' ⟨rfl,hb⟩;(first | rw [<-HX.out.1] | rw [<-HX.out.2]);have q00:=Ok.cell hb z0 g00;have q01:=Ok.cell hb z0 g01;have q10:=Ok.cell hb z1 g10;have q11:=Ok.cell hb z1 g11;obtain ⟨c0,c1,c2,c3⟩:=row_facts (Ok.row' hb HR2.out))
   | (go_at_call 177;refine (pplus_ok x y m HL.out.1 HL.out.2 HE.out W _ (by repeat (first | assumption | refine Ok.alloc ?_ _ | refine Below.drew ?_))).mono ?_;rintro e w' ⟨rfl,hb⟩;rw [<-HRR.out];have q00:=Ok.cell hb z0 g00;have q01:=Ok.cell hb z0 g01;have q10:=Ok.cell hb z1 g10;have q11:=Ok.cell hb z1 g11;obtain ⟨c0,c1,c2,c3⟩:=row_facts (Ok.row' hb HR2.out))
   | fail)
  have hr:Hid _:=Ok.row' hb HR2.out
  have HB2:Hid (Ok w0 w'):=HW.out.step hb
  go_wp2_with fail
  (try simp only [Exit.inBlock, Exit.then]); refine bodyPost_ret (results_cell_row rfl _ _ (w.heap.size+2) 27 #[_, _] (0, 0) _ rfl (row_set2 hr.out _ _) Tryz.underlying27 rfl infoCg) rfl ?_
  exact ⟨rfl,(HB2.out.set (show w0.heap.size<=w.heap.size+2 by omega) _).set (show w0.heap.size<=w.heap.size+2 by omega) _⟩
 | false =>
  obtain ⟨m,hm⟩:∃ m,m=evL G false:=⟨_,rfl⟩
  rw [<-hm] at HE HM ⊢
  have HMM:Hid _:=hm
  obtain ⟨x,hx⟩:∃ x,x=restL cM cR m:=⟨_,rfl⟩
  obtain ⟨y,hy⟩:∃ y,y=restL dM dR m:=⟨_,rfl⟩
  have HX:Hid _:=And.intro hx hy
  have HL:Hid (x<md m/\y<md m):=by
   rw [hx,hy];exact ⟨restL_lt HU.out.2.1 HM.out.1,restL_lt HU.out.2.2.2 HM.out.2⟩
  obtain ⟨r,hr⟩:∃ r,r=plusL x y m:=⟨_,rfl⟩
  rw [<-hx,<-hy,<-hr]
  have HRR:Hid _:=hr
  clear hm hx hy hr
  unfold cv
  go_enter Tryz.func176,Tryz.ntmps176
  go_wp2_with fail
  refine (pgcd2_any cM dM (w.heap.size+1+1+1) _ _ (Ok.refl _) HU.out.1 HU.out.2.2.1 jj).mono ?_
  rintro e W ⟨rfl,hb⟩
  rw [<-HGG.out]
  have ra0:W.heap[w.heap.size]?=some (.cells #[.int .u64 (cM:Int),.int .u64 (cR:Int)] 27):=Ok.row' hb jj
  have ra1:W.heap[w.heap.size+1]?=some (.cells #[.int .u64 (dM:Int),.int .u64 (dR:Int)] 27):=Ok.row' hb jj
  have ra2:W.heap[w.heap.size+2]?=some (.cells #[.int .u64 0,.int .u64 0] 27):=Ok.row' hb jj
  have HW:Hid (Ok w0 W):=Ok.step (by repeat (first | exact hok | refine Ok.alloc ?_ _ | refine Ok.draws ?_ _ | fail)) hb
  clear hb hok
  have z0:=lt_row ra0
  have HR0:Hid _:=ra0
  obtain ⟨g00,g01,f00,f01⟩:=row_facts ra0
  have z1:=lt_row ra1
  have HR1:Hid _:=ra1
  obtain ⟨g10,g11,f10,f11⟩:=row_facts ra1
  have z2:=lt_row ra2
  have HR2:Hid _:=ra2
  obtain ⟨g20,g21,f20,f21⟩:=row_facts ra2
  clear ra0 ra1 ra2
  have bz:Ok W W:=Ok.refl _
  have n1:¬w.heap.size+1+1=w.heap.size:=by omega
  have n2:¬w.heap.size+1+1=w.heap.size+1:=by omega
  go_wp2_with fail
  refine (weven_ev G HG.out _).mono ?_
  rintro e w' ⟨rfl,hw⟩
  replace hw:=hw.symm
  subst hw
  rw [<-HMM.out]
  go_wp2_with fail
  go_region_held3 (fun w'=>w'.cell? ⟨w.heap.size,0,none⟩=some (.int .u64 (cM:Int))/\w'.cell? ⟨w.heap.size,1,none⟩=some (.int .u64 (cR:Int))/\w'.cell? ⟨w.heap.size+1,0,none⟩=some (.int .u64 (dM:Int))/\w'.cell? ⟨w.heap.size+1,1,none⟩=some (.int .u64 (dR:Int))) (go_keep)
   (first
   | (go_at_call 169;refine (prest_any _ _ m (by first | exact HU.out.1 | exact HU.out.2.2.1) (by first | exact HU.out.2.1 | exact HU.out.2.2.2) HE.out (by first | exact HM.out.1 | exact HM.out.2) W _ (by repeat (first | assumption | refine Ok.alloc ?_ _ | refine Below.drew ?_))).mono ?_;rintro e w' ⟨rfl,hb⟩;(first | rw [<-HX.out.1] | rw [<-HX.out.2]);have q00:=Ok.cell hb z0 g00;have q01:=Ok.cell hb z0 g01;have q10:=Ok.cell hb z1 g10;have q11:=Ok.cell hb z1 g11;obtain ⟨c0,c1,c2,c3⟩:=row_facts (Ok.row' hb HR2.out))
   | (go_at_call 177;refine (pplus_ok x y m HL.out.1 HL.out.2 HE.out W _ (by repeat (first | assumption | refine Ok.alloc ?_ _ | refine Below.drew ?_))).mono ?_;rintro e w' ⟨rfl,hb⟩;rw [<-HRR.out];have q00:=Ok.cell hb z0 g00;have q01:=Ok.cell hb z0 g01;have q10:=Ok.cell hb z1 g10;have q11:=Ok.cell hb z1 g11;obtain ⟨c0,c1,c2,c3⟩:=row_facts (Ok.row' hb HR2.out))
   | fail)
  have hr:Hid _:=Ok.row' hb HR2.out
  have HB2:Hid (Ok w0 w'):=HW.out.step hb
  go_wp2_with fail
  (try simp only [Exit.inBlock, Exit.then]); refine bodyPost_ret (results_cell_row rfl _ _ (w.heap.size+2) 27 #[_, _] (0, 0) _ rfl (row_set2 hr.out _ _) Tryz.underlying27 rfl infoCg) rfl ?_
  exact ⟨rfl,(HB2.out.set (show w0.heap.size<=w.heap.size+2 by omega) _).set (show w0.heap.size<=w.heap.size+2 by omega) _⟩
theorem psub_any (cM cR dM dR:Nat) (ex:Bool) (h1:U64 cM) (h2:U64 cR) (h3:U64 dM) (h4:U64 dR) (w0 w:World) (hok:Ok w0 w) :
  Calls Tryz.prog 92 #[cv cM cR,cv dM dR,.bool ex] w fun e w'=>e=.returned (cv (subC cM cR dM dR ex).1 (subC cM cR dM dR ex).2)/\Ok w0 w':=by
 have hle:=hok.le
 have HU:Hid _:=And.intro h1 (And.intro h2 (And.intro h3 h4))
 clear h1 h2 h3 h4
 unfold cv
 go_enter Tryz.func92,Tryz.ntmps92
 go_wp2_with fail
 refine (ponr_m cM cR dM dR ex HU.out.1 HU.out.2.1 HU.out.2.2.1 HU.out.2.2.2 _ _ (Ok.refl _)).mono ?_
 rintro e w' ⟨rfl,hb⟩
 have hr : Hid _ := Ok.row' (g := w.heap.size+2) (o := .cells #[.int .u64 0, .int .u64 0] 27) hb jj; obtain ⟨k0, k1, k2, k3⟩ := row_facts hr.out
 unfold cv
 go_wp2_with fail
 (try simp only [Exit.inBlock, Exit.then]); refine bodyPost_ret (results_cell_row rfl _ _ (w.heap.size+2) 27 #[_, _] (0, 0) _ rfl (row_set2 hr.out _ _) Tryz.underlying27 rfl infoCg) rfl ?_
 exact ⟨rfl,((Ok.step (by repeat (first | exact hok | refine Ok.alloc ?_ _ | refine Ok.draws ?_ _ | fail)) hb).set (show w0.heap.size ≤ w.heap.size+2 by omega) _).set (show w0.heap.size ≤ w.heap.size+2 by omega) _⟩
theorem padd_any (cM cR dM dR:Nat) (ex:Bool) (h1:U64 cM) (h2:U64 cR) (h3:U64 dM) (h4:U64 dR) (w0 w:World) (hok:Ok w0 w) :
  Calls Tryz.prog 90 #[cv cM cR,cv dM dR,.bool ex] w fun e w'=>e=.returned (cv (addC cM cR dM dR ex).1 (addC cM cR dM dR ex).2)/\Ok w0 w':=by
 have hle:=hok.le
 have HU:Hid _:=And.intro h1 (And.intro h2 (And.intro h3 h4))
 clear h1 h2 h3 h4
 unfold cv
 go_enter Tryz.func90,Tryz.ntmps90
 go_wp2_with fail
 refine (ponr_p cM cR dM dR ex HU.out.1 HU.out.2.1 HU.out.2.2.1 HU.out.2.2.2 _ _ (Ok.refl _)).mono ?_
 rintro e w' ⟨rfl,hb⟩
 have hr : Hid _ := Ok.row' (g := w.heap.size+2) (o := .cells #[.int .u64 0, .int .u64 0] 27) hb jj; obtain ⟨k0, k1, k2, k3⟩ := row_facts hr.out
 unfold cv
 go_wp2_with fail
 (try simp only [Exit.inBlock, Exit.then]); refine bodyPost_ret (results_cell_row rfl _ _ (w.heap.size+2) 27 #[_, _] (0, 0) _ rfl (row_set2 hr.out _ _) Tryz.underlying27 rfl infoCg) rfl ?_
 exact ⟨rfl,((Ok.step (by repeat (first | exact hok | refine Ok.alloc ?_ _ | refine Ok.draws ?_ _ | fail)) hb).set (show w0.heap.size ≤ w.heap.size+2 by omega) _).set (show w0.heap.size ≤ w.heap.size+2 by omega) _⟩
theorem pneg_any (M R:Nat) (ex:Bool) (h1:U64 M) (h2:U64 R) (w0 w:World) (hok:Ok w0 w) :
  Calls Tryz.prog 173 #[cv M R,.bool ex] w fun e w'=>e=.returned (cv (negC M R ex).1 (negC M R ex).2)/\Ok w0 w':=by
 have hle:=hok.le
 rw [<-neg_is M R ex h2]
 have HU:Hid _:=And.intro h1 h2
 have HZ:Hid (U64 0):=by unfold Hid U64;omega
 have HB:Hid (bitsN 0=0):=rfl
 clear h1 h2
 unfold cv
 go_enter Tryz.func173,Tryz.ntmps173
 go_wp2_with fail
 obtain ⟨W,hW⟩:∃ W,W=((w.alloc (.cells #[.int .u64 (M:Int),.int .u64 (R:Int)] 27)).alloc (.cells #[.int .u64 0,.int .u64 0] 27)):=⟨_,rfl⟩
 have ra0:W.heap[w.heap.size]?=some (.cells #[.int .u64 (M:Int),.int .u64 (R:Int)] 27):=by rw [hW];exact jj
 have ra1:W.heap[w.heap.size+1]?=some (.cells #[.int .u64 0,.int .u64 0] 27):=by rw [hW];exact jj
 have HW:Hid (Ok w0 W):=by rw [hW];exact (by repeat (first | exact hok | refine Ok.alloc ?_ _ | refine Ok.draws ?_ _ | fail))
 rw [<-hW]
 clear hW hok
 have z0:=lt_row ra0
 have HR0:Hid _:=ra0
 obtain ⟨g00,g01,f00,f01⟩:=row_facts ra0
 have z1:=lt_row ra1
 have HR1:Hid _:=ra1
 obtain ⟨g10,g11,f10,f11⟩:=row_facts ra1
 clear ra0 ra1
 have bz:Ok W W:=Ok.refl _
 have n1:¬w.heap.size+1=w.heap.size:=by omega
 go_region_held3 (fun w'=>w'.cell? ⟨w.heap.size,0,none⟩=some (.int .u64 (M:Int))/\w'.cell? ⟨w.heap.size,1,none⟩=some (.int .u64 (R:Int))) (go_keep)
  (first
  | (go_at_call 78;refine (pconst_any 0 W _ (by repeat (first | assumption | refine Ok.alloc ?_ _ | refine Below.drew ?_))).mono ?_;rintro e w' ⟨rfl,hb⟩;rw [HB.out];unfold cv;have q00:=Ok.cell hb z0 g00;have q01:=Ok.cell hb z0 g01;obtain ⟨c0,c1,c2,c3⟩:=row_facts (Ok.row' hb HR1.out))
  | (go_at_call 92;refine (psub_any 0 0 M R ex HZ.out HZ.out HU.out.1 HU.out.2 W _ (by repeat (first | assumption | refine Ok.alloc ?_ _ | refine Below.drew ?_))).mono ?_;rintro e w' ⟨rfl,hb⟩;unfold cv;have q00:=Ok.cell hb z0 g00;have q01:=Ok.cell hb z0 g01;obtain ⟨c0,c1,c2,c3⟩:=row_facts (Ok.row' hb HR1.out))
  | fail)
 have hr:Hid _:=Ok.row' hb HR1.out
 have HB2:Hid (Ok w0 w'):=HW.out.step hb
 go_wp2_with fail
 (try simp only [Exit.inBlock, Exit.then]); refine bodyPost_ret (results_cell_row rfl _ _ (w.heap.size+1) 27 #[_, _] (0, 0) _ rfl (row_set2 hr.out _ _) Tryz.underlying27 rfl infoCg) rfl ?_
 exact ⟨rfl,(HB2.out.set (show w0.heap.size<=w.heap.size+1 by omega) _).set (show w0.heap.size<=w.heap.size+1 by omega) _⟩
end Go.Proofs.YtpjpjhjjhoeijaaGreat
namespace Go.Proofs.YtpjpjhjjhoeijaaGreat
open Go.RowKit
theorem pdist_ok (v z:Int) (hv:In64 v) (hz:In64 z) (w0 w:World) (hok:Ok w0 w) :
  Calls Tryz.prog 165 #[.int .i64 v,.int .i64 z] w fun e w'=>e=.returned (.int .u64 ((v-z).natAbs:Int))/\Ok w0 w':=by
 refine (pdist_any v z hv hz w).mono ?_
 rintro e w' ⟨rfl,rfl⟩
 exact ⟨rfl,hok⟩
theorem pnumber_ok (M R:Nat) (w0 w:World) (hok:Ok w0 w) :
  Calls Tryz.prog 166 #[cv M R] w fun e w'=>e=.returned (.int .i64 (wrap64 (R:Int)))/\Ok w0 w':=by
 refine (pnumber_ex M R w).mono ?_
 rintro e w' ⟨rfl,rfl⟩
 exact ⟨rfl,hok.alloc _⟩
set_option maxRecDepth 100000 in
theorem pjoin_one (cR dR:Nat) (h2:U64 cR) (h4:U64 dR) (w0 w:World) (hok:Ok w0 w) :
  Calls Tryz.prog 84 #[cv 0 cR,cv 0 dR] w fun e w'=>e=.returned (cv (joinC 0 cR 0 dR).1 (joinC 0 cR 0 dR).2)/\Ok w0 w':=by
 have hle:=hok.le
 rw [join_one h2]
 have HI:Hid _:=And.intro (wrap64_in (cR:Int)) (wrap64_in (dR:Int))
 obtain ⟨v,hv⟩:∃ v,v=wrap64 (cR:Int):=⟨_,rfl⟩
 obtain ⟨z,hz⟩:∃ z,z=wrap64 (dR:Int):=⟨_,rfl⟩
 rw [<-hv,<-hz] at HI ⊢
 obtain ⟨D,hD⟩:∃ D,D=(v-z).natAbs:=⟨_,rfl⟩
 have HD:Hid (U64 D):=by have:=HI.out;unfold In64 at this;unfold Hid U64;omega
 rw [<-hD]
 have HE:Hid _:=And.intro hv (And.intro hz hD)
 have HU:Hid _:=h2
 have HZ:Hid (U64 0):=by unfold Hid U64;omega
 clear hv hz hD h2 h4
 unfold cv
 go_enter Tryz.func84,Tryz.ntmps84
 go_wp2_with (first | (go_at_call 125;(first | refine (pisone_ex 0 cR _).mono ?_ | refine (pisone_ex 0 dR _).mono ?_);rintro e w' ⟨rfl,rfl⟩) | fail)
 obtain ⟨W,hW⟩:∃ W,W=(((((w.alloc (.cells #[.int .u64 0,.int .u64 (cR:Int)] 27)).alloc (.cells #[.int .u64 0,.int .u64 (dR:Int)] 27)).alloc (.cells #[.int .u64 0,.int .u64 0] 27)).alloc (.cells #[.int .u64 0,.int .u64 (cR:Int)] 27)).alloc (.cells #[.int .u64 0,.int .u64 (dR:Int)] 27)):=⟨_,rfl⟩
 have ra0:W.heap[w.heap.size]?=some (.cells #[.int .u64 0,.int .u64 (cR:Int)] 27):=by rw [hW];exact jj
 have ra1:W.heap[w.heap.size+1]?=some (.cells #[.int .u64 0,.int .u64 (dR:Int)] 27):=by rw [hW];exact jj
 have ra2:W.heap[w.heap.size+2]?=some (.cells #[.int .u64 0,.int .u64 0] 27):=by rw [hW];exact jj
 have ra3:W.heap[w.heap.size+3]?=some (.cells #[.int .u64 0,.int .u64 (cR:Int)] 27):=by rw [hW];exact jj
 have ra4:W.heap[w.heap.size+4]?=some (.cells #[.int .u64 0,.int .u64 (dR:Int)] 27):=by rw [hW];exact jj
 have HW:Hid (Ok w0 W):=by rw [hW];exact (by repeat (first | exact hok | refine Ok.alloc ?_ _ | refine Ok.draws ?_ _ | fail))
 rw [<-hW]
 clear hW hok
 have z0:=lt_row ra0
 have HR0:Hid _:=ra0
 obtain ⟨g00,g01,f00,f01⟩:=row_facts ra0
 have z1:=lt_row ra1
 have HR1:Hid _:=ra1
 obtain ⟨g10,g11,f10,f11⟩:=row_facts ra1
 have z2:=lt_row ra2
 have HR2:Hid _:=ra2
 obtain ⟨g20,g21,f20,f21⟩:=row_facts ra2
 have z3:=lt_row ra3
 have HR3:Hid _:=ra3
 obtain ⟨g30,g31,f30,f31⟩:=row_facts ra3
 have z4:=lt_row ra4
 have HR4:Hid _:=ra4
 obtain ⟨g40,g41,f40,f41⟩:=row_facts ra4
 clear ra0 ra1 ra2 ra3 ra4
 have bz:Ok W W:=Ok.refl _
 have n1:¬w.heap.size+1+1=w.heap.size:=by omega
 have n2:¬w.heap.size+1+1=w.heap.size+1:=by omega
 go_region_held3 (fun w'=>w'.cell? ⟨w.heap.size,0,none⟩=some (.int .u64 0)/\w'.cell? ⟨w.heap.size,1,none⟩=some (.int .u64 (cR:Int))/\w'.cell? ⟨w.heap.size+1,0,none⟩=some (.int .u64 0)/\w'.cell? ⟨w.heap.size+1,1,none⟩=some (.int .u64 (dR:Int))) (go_keep)
  (first
  | (go_at_call 166;refine (pnumber_ok 0 _ W _ (by repeat (first | assumption | refine Ok.alloc ?_ _ | refine Below.drew ?_))).mono ?_;rintro e w' ⟨rfl,hb⟩;(first | rw [<-HE.out.1] | rw [<-HE.out.2.1]);have q00:=Ok.cell hb z0 g00;have q01:=Ok.cell hb z0 g01;have q10:=Ok.cell hb z1 g10;have q11:=Ok.cell hb z1 g11;obtain ⟨c0,c1,c2,c3⟩:=row_facts (Ok.row' hb HR2.out))
  | (go_at_call 165;refine (pdist_ok v z HI.out.1 HI.out.2 W _ (by repeat (first | assumption | refine Ok.alloc ?_ _ | refine Below.drew ?_))).mono ?_;rintro e w' ⟨rfl,hb⟩;rw [<-HE.out.2.2];have q00:=Ok.cell hb z0 g00;have q01:=Ok.cell hb z0 g01;have q10:=Ok.cell hb z1 g10;have q11:=Ok.cell hb z1 g11;obtain ⟨c0,c1,c2,c3⟩:=row_facts (Ok.row' hb HR2.out))
  | (go_at_call 126;refine (pclass_any 0 cR D HZ.out HU.out HD.out (Or.inl rfl) W _ (by repeat (first | assumption | refine Ok.alloc ?_ _ | refine Below.drew ?_))).mono ?_;rintro e w' ⟨rfl,hb⟩;unfold cv;have q00:=Ok.cell hb z0 g00;have q01:=Ok.cell hb z0 g01;have q10:=Ok.cell hb z1 g10;have q11:=Ok.cell hb z1 g11;obtain ⟨c0,c1,c2,c3⟩:=row_facts (Ok.row' hb HR2.out))
  | fail)
 have hr:Hid _:=Ok.row' hb HR2.out
 have HB2:Hid (Ok w0 w'):=HW.out.step hb
 go_wp2_with fail
 (try simp only [Exit.inBlock, Exit.then]); refine bodyPost_ret (results_cell_row rfl _ _ (w.heap.size+2) 27 #[_, _] (0, 0) _ rfl (row_set2 hr.out _ _) Tryz.underlying27 rfl infoCg) rfl ?_
 exact ⟨rfl,(HB2.out.set (show w0.heap.size<=w.heap.size+2 by omega) _).set (show w0.heap.size<=w.heap.size+2 by omega) _⟩
set_option maxRecDepth 100000 in
theorem pjoin_more (cM cR dM dR:Nat) (h0:¬(cM=0/\dM=0)) (h1:U64 cM) (h2:U64 cR) (h3:U64 dM) (h4:U64 dR) (w0 w:World) (hok:Ok w0 w) :
  Calls Tryz.prog 84 #[cv cM cR,cv dM dR] w fun e w'=>e=.returned (cv (joinC cM cR dM dR).1 (joinC cM cR dM dR).2)/\Ok w0 w':=by
 have hle:=hok.le
 have HP:Hid (0<Nat.gcd cM dM):=Nat.pos_of_ne_zero fun c=>h0 (Nat.gcd_eq_zero_iff.1 c)
 have HU:Hid _:=And.intro h1 (And.intro h2 (And.intro h3 h4))
 have HG:Hid _:=gcd_u64 h1 h3
 have J:=join_is h2 h4 h0
 rw [J.1]
 obtain ⟨m,hm⟩:∃ m,m=Nat.gcd cM dM:=⟨_,rfl⟩
 rw [<-hm] at HP HG J ⊢
 obtain ⟨x,hx⟩:∃ x,x=restL cM cR m:=⟨_,rfl⟩
 obtain ⟨y,hy⟩:∃ y,y=restL dM dR m:=⟨_,rfl⟩
 have HX:Hid _:=And.intro hx hy
 have HL:Hid (x<md m/\y<md m):=by
  rw [hx,hy];exact ⟨restL_lt h2 (Or.inr HP.out),restL_lt h4 (Or.inr HP.out)⟩
 obtain ⟨r,hr⟩:∃ r,r=minusL x y m:=⟨_,rfl⟩
 have hru:U64 r:=by
  have a:=minusL_lt HL.out.1 HL.out.2
  rw [<-hr] at a
  have b:=md_le HG.out
  unfold U64;omega
 obtain ⟨g,hg⟩:∃ g,g=Nat.gcd m r:=⟨_,rfl⟩
 rw [<-hx,<-hy,<-hr,<-hg] at J
 rw [<-hx,<-hy,<-hr,<-hg]
 have HRR:Hid _:=And.intro hr (And.intro hru (And.intro hg (And.intro (show U64 g by rw [hg];exact gcd_u64 HG.out hru) J.2)))
 have HGG:Hid _:=hm
 by_cases hz:cM=0
 ·have d1:decide (cM=0)=true:=decide_eq_true hz
  have d2:decide (dM=0)=false:=decide_eq_false (fun h=>h0 ⟨hz,h⟩)
  clear h0 h1 h2 h3 h4 hz hm hx hy hr hru hg J
  unfold cv
  go_enter Tryz.func84,Tryz.ntmps84
  go_wp2_with (first | (go_at_call 125;(first | refine (pisone_ex cM cR _).mono ?_ | refine (pisone_ex dM dR _).mono ?_);rintro e w' ⟨rfl,rfl⟩) | fail)
  refine (pgcd2_any cM dM (w.heap.size+1+1+1+1+1) _ _ (Ok.refl _) HU.out.1 HU.out.2.2.1 jj).mono ?_
  rintro e W ⟨rfl,hb⟩
  rw [<-HGG.out]
  have ra0:W.heap[w.heap.size]?=some (.cells #[.int .u64 (cM:Int),.int .u64 (cR:Int)] 27):=Ok.row' hb jj
  have ra1:W.heap[w.heap.size+1]?=some (.cells #[.int .u64 (dM:Int),.int .u64 (dR:Int)] 27):=Ok.row' hb jj
  have ra2:W.heap[w.heap.size+2]?=some (.cells #[.int .u64 0,.int .u64 0] 27):=Ok.row' hb jj
  have HW:Hid (Ok w0 W):=Ok.step (by repeat (first | exact hok | refine Ok.alloc ?_ _ | refine Ok.draws ?_ _ | fail)) hb
  clear hb hok
  have z0:=lt_row ra0
  have HR0:Hid _:=ra0
  obtain ⟨g00,g01,f00,f01⟩:=row_facts ra0
  have z1:=lt_row ra1
  have HR1:Hid _:=ra1
  obtain ⟨g10,g11,f10,f11⟩:=row_facts ra1
  have z2:=lt_row ra2
  have HR2:Hid _:=ra2
  obtain ⟨g20,g21,f20,f21⟩:=row_facts ra2
  clear ra0 ra1 ra2
  have bz:Ok W W:=Ok.refl _
  have n1:¬w.heap.size+1+1=w.heap.size:=by omega
  have n2:¬w.heap.size+1+1=w.heap.size+1:=by omega
  go_wp2_with fail
  go_region_held3 (fun w'=>w'.cell? ⟨w.heap.size,0,none⟩=some (.int .u64 (cM:Int))/\w'.cell? ⟨w.heap.size,1,none⟩=some (.int .u64 (cR:Int))/\w'.cell? ⟨w.heap.size+1,0,none⟩=some (.int .u64 (dM:Int))/\w'.cell? ⟨w.heap.size+1,1,none⟩=some (.int .u64 (dR:Int))) (go_keep)
   (first
   | (go_at_call 169;refine (prest_any _ _ m (by first | exact HU.out.1 | exact HU.out.2.2.1) (by first | exact HU.out.2.1 | exact HU.out.2.2.2) HG.out (Or.inr HP.out) W _ (by repeat (first | assumption | refine Ok.alloc ?_ _ | refine Below.drew ?_))).mono ?_;rintro e w' ⟨rfl,hb⟩;(first | rw [<-HX.out.1] | rw [<-HX.out.2]);have q00:=Ok.cell hb z0 g00;have q01:=Ok.cell hb z0 g01;have q10:=Ok.cell hb z1 g10;have q11:=Ok.cell hb z1 g11;obtain ⟨c0,c1,c2,c3⟩:=row_facts (Ok.row' hb HR2.out))
   | (go_at_call 168;refine (pminus_ok x y m HL.out.1 HL.out.2 HG.out W _ (by repeat (first | assumption | refine Ok.alloc ?_ _ | refine Below.drew ?_))).mono ?_;rintro e w' ⟨rfl,hb⟩;rw [<-HRR.out.1];have q00:=Ok.cell hb z0 g00;have q01:=Ok.cell hb z0 g01;have q10:=Ok.cell hb z1 g10;have q11:=Ok.cell hb z1 g11;obtain ⟨c0,c1,c2,c3⟩:=row_facts (Ok.row' hb HR2.out))
   | (go_at_call 167;refine (pgcd2_any m r _ W _ (by repeat (first | assumption | refine Ok.alloc ?_ _ | refine Below.drew ?_)) HG.out HRR.out.2.1 (heap_new0 _ _)).mono ?_;rintro e w' ⟨rfl,hb⟩;rw [<-HRR.out.2.2.1];have q00:=Ok.cell hb z0 g00;have q01:=Ok.cell hb z0 g01;have q10:=Ok.cell hb z1 g10;have q11:=Ok.cell hb z1 g11;obtain ⟨c0,c1,c2,c3⟩:=row_facts (Ok.row' hb HR2.out))
   | (go_at_call 126;refine (pclass_any cM cR g HU.out.1 HU.out.2.1 HRR.out.2.2.2.1 (Or.inr HRR.out.2.2.2.2) W _ (by repeat (first | assumption | refine Ok.alloc ?_ _ | refine Below.drew ?_))).mono ?_;rintro e w' ⟨rfl,hb⟩;unfold cv;have q00:=Ok.cell hb z0 g00;have q01:=Ok.cell hb z0 g01;have q10:=Ok.cell hb z1 g10;have q11:=Ok.cell hb z1 g11;obtain ⟨c0,c1,c2,c3⟩:=row_facts (Ok.row' hb HR2.out))
   | fail)
  have hr:Hid _:=Ok.row' hb HR2.out
  have HB2:Hid (Ok w0 w'):=HW.out.step hb
  go_wp2_with fail
  (try simp only [Exit.inBlock, Exit.then]); refine bodyPost_ret (results_cell_row rfl _ _ (w.heap.size+2) 27 #[_, _] (0, 0) _ rfl (row_set2 hr.out _ _) Tryz.underlying27 rfl infoCg) rfl ?_
  exact ⟨rfl,(HB2.out.set (show w0.heap.size<=w.heap.size+2 by omega) _).set (show w0.heap.size<=w.heap.size+2 by omega) _⟩
 ·have d1:decide (cM=0)=false:=decide_eq_false hz
  clear h0 h1 h2 h3 h4 hz hm hx hy hr hru hg J
  unfold cv
  go_enter Tryz.func84,Tryz.ntmps84
  go_wp2_with (first | (go_at_call 125;refine (pisone_ex cM cR _).mono ?_;rintro e w' ⟨rfl,rfl⟩) | fail)
  refine (pgcd2_any cM dM (w.heap.size+1+1+1+1) _ _ (Ok.refl _) HU.out.1 HU.out.2.2.1 jj).mono ?_
  rintro e W ⟨rfl,hb⟩
  rw [<-HGG.out]
  have ra0:W.heap[w.heap.size]?=some (.cells #[.int .u64 (cM:Int),.int .u64 (cR:Int)] 27):=Ok.row' hb jj
  have ra1:W.heap[w.heap.size+1]?=some (.cells #[.int .u64 (dM:Int),.int .u64 (dR:Int)] 27):=Ok.row' hb jj
  have ra2:W.heap[w.heap.size+2]?=some (.cells #[.int .u64 0,.int .u64 0] 27):=Ok.row' hb jj
  have HW:Hid (Ok w0 W):=Ok.step (by repeat (first | exact hok | refine Ok.alloc ?_ _ | refine Ok.draws ?_ _ | fail)) hb
  clear hb hok
  have z0:=lt_row ra0
  have HR0:Hid _:=ra0
  obtain ⟨g00,g01,f00,f01⟩:=row_facts ra0
  have z1:=lt_row ra1
  have HR1:Hid _:=ra1
  obtain ⟨g10,g11,f10,f11⟩:=row_facts ra1
  have z2:=lt_row ra2
  have HR2:Hid _:=ra2
  obtain ⟨g20,g21,f20,f21⟩:=row_facts ra2
  clear ra0 ra1 ra2
  have bz:Ok W W:=Ok.refl _
  have n1:¬w.heap.size+1+1=w.heap.size:=by omega
  have n2:¬w.heap.size+1+1=w.heap.size+1:=by omega
  go_wp2_with fail
  go_region_held3 (fun w'=>w'.cell? ⟨w.heap.size,0,none⟩=some (.int .u64 (cM:Int))/\w'.cell? ⟨w.heap.size,1,none⟩=some (.int .u64 (cR:Int))/\w'.cell? ⟨w.heap.size+1,0,none⟩=some (.int .u64 (dM:Int))/\w'.cell? ⟨w.heap.size+1,1,none⟩=some (.int .u64 (dR:Int))) (go_keep)
   (first
   | (go_at_call 169;refine (prest_any _ _ m (by first | exact HU.out.1 | exact HU.out.2.2.1) (by first | exact HU.out.2.1 | exact HU.out.2.2.2) HG.out (Or.inr HP.out) W _ (by repeat (first | assumption | refine Ok.alloc ?_ _ | refine Below.drew ?_))).mono ?_;rintro e w' ⟨rfl,hb⟩;(first | rw [<-HX.out.1] | rw [<-HX.out.2]);have q00:=Ok.cell hb z0 g00;have q01:=Ok.cell hb z0 g01;have q10:=Ok.cell hb z1 g10;have q11:=Ok.cell hb z1 g11;obtain ⟨c0,c1,c2,c3⟩:=row_facts (Ok.row' hb HR2.out))
   | (go_at_call 168;refine (pminus_ok x y m HL.out.1 HL.out.2 HG.out W _ (by repeat (first | assumption | refine Ok.alloc ?_ _ | refine Below.drew ?_))).mono ?_;rintro e w' ⟨rfl,hb⟩;rw [<-HRR.out.1];have q00:=Ok.cell hb z0 g00;have q01:=Ok.cell hb z0 g01;have q10:=Ok.cell hb z1 g10;have q11:=Ok.cell hb z1 g11;obtain ⟨c0,c1,c2,c3⟩:=row_facts (Ok.row' hb HR2.out))
   | (go_at_call 167;refine (pgcd2_any m r _ W _ (by repeat (first | assumption | refine Ok.alloc ?_ _ | refine Below.drew ?_)) HG.out HRR.out.2.1 (heap_new0 _ _)).mono ?_;rintro e w' ⟨rfl,hb⟩;rw [<-HRR.out.2.2.1];have q00:=Ok.cell hb z0 g00;have q01:=Ok.cell hb z0 g01;have q10:=Ok.cell hb z1 g10;have q11:=Ok.cell hb z1 g11;obtain ⟨c0,c1,c2,c3⟩:=row_facts (Ok.row' hb HR2.out))
   | (go_at_call 126;refine (pclass_any cM cR g HU.out.1 HU.out.2.1 HRR.out.2.2.2.1 (Or.inr HRR.out.2.2.2.2) W _ (by repeat (first | assumption | refine Ok.alloc ?_ _ | refine Below.drew ?_))).mono ?_;rintro e w' ⟨rfl,hb⟩;unfold cv;have q00:=Ok.cell hb z0 g00;have q01:=Ok.cell hb z0 g01;have q10:=Ok.cell hb z1 g10;have q11:=Ok.cell hb z1 g11;obtain ⟨c0,c1,c2,c3⟩:=row_facts (Ok.row' hb HR2.out))
   | fail)
  have hr:Hid _:=Ok.row' hb HR2.out
  have HB2:Hid (Ok w0 w'):=HW.out.step hb
  go_wp2_with fail
  (try simp only [Exit.inBlock, Exit.then]); refine bodyPost_ret (results_cell_row rfl _ _ (w.heap.size+2) 27 #[_, _] (0, 0) _ rfl (row_set2 hr.out _ _) Tryz.underlying27 rfl infoCg) rfl ?_
  exact ⟨rfl,(HB2.out.set (show w0.heap.size<=w.heap.size+2 by omega) _).set (show w0.heap.size<=w.heap.size+2 by omega) _⟩
theorem pjoin_any (cM cR dM dR:Nat) (h1:U64 cM) (h2:U64 cR) (h3:U64 dM) (h4:U64 dR) (w0 w:World) (hok:Ok w0 w) :
  Calls Tryz.prog 84 #[cv cM cR,cv dM dR] w fun e w'=>e=.returned (cv (joinC cM cR dM dR).1 (joinC cM cR dM dR).2)/\Ok w0 w':=by
 by_cases h:cM=0/\dM=0
 ·obtain ⟨rfl,rfl⟩:=h
  exact pjoin_one cR dR h2 h4 w0 w hok
 ·exact pjoin_more cM cR dM dR h h1 h2 h3 h4 w0 w hok
end Go.Proofs.YtpjpjhjjhoeijaaGreat
