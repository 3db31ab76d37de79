import Derived.Test.YtnjmjnmhldhaoaaGreatKKa
set_option maxHeartbeats 8000000
set_option linter.all false
namespace Go.Proofs.YtnjmjnmhldhaoaaGreat
open Go.RowKit
theorem pminus_ok (x y m:Nat) (hx:x<md m) (hy:y<md m) (hm:U64 m) (w0 w:World) (hok:Ok w0 w) :
  Calls Tryz.prog 170 #[.int .u64 (x:Int),.int .u64 (y:Int),.int .u64 (m:Int)] w fun e w'=>e=.returned (.int .u64 (minusL x y m:Int))/\Ok w0 w':=by
 refine (pminus_any x y m hx hy hm w).mono ?_
 rintro e w' ⟨rfl,rfl⟩
 exact ⟨rfl,hok⟩
theorem pplus_ok (x y m:Nat) (hx:x<md m) (hy:y<md m) (hm:U64 m) (w0 w:World) (hok:Ok w0 w) :
  Calls Tryz.prog 227 #[.int .u64 (x:Int),.int .u64 (y:Int),.int .u64 (m:Int)] w fun e w'=>e=.returned (.int .u64 (plusL x y m:Int))/\Ok w0 w':=by
 refine (pplus_any x y m hx hy hm w).mono ?_
 rintro e w' ⟨rfl,rfl⟩
 exact ⟨rfl,hok⟩
set_option maxRecDepth 100000 in
theorem ponr_m (cM cR dM dR:Nat) (ex:Bool) (h1:U64 cM) (h2:U64 cR) (h3:U64 dM) (h4:U64 dR) (w0 w:World) (hok:Ok w0 w) :
  Calls Tryz.prog 169 #[.func (.func 170) #[] #[],cv cM cR,cv dM dR,.bool ex] w fun e w'=>e=.returned (cv (subC cM cR dM dR ex).1 (subC cM cR dM dR ex).2)/\Ok w0 w':=by
 have hle:=hok.le
 rw [sub_is ex h1 h2 h3 h4]
 have HU:Hid _:=And.intro h1 (And.intro h2 (And.intro h3 h4))
 have HG:Hid _:=gcd_u64 h1 h3
 have HE:Hid _:=evL_u64 (gcd_u64 h1 h3) ex
 have HM:Hid _:=rests_may ex h1 h3
 obtain ⟨G,hG⟩:∃ G,G=Nat.gcd cM dM:=⟨_,rfl⟩
 rw [<-hG] at HG HE HM ⊢
 have HGG:Hid _:=hG
 clear h1 h2 h3 h4 hG
 cases ex with
 | true =>
  have e0:evL G true=G:=rfl
  rw [e0] at HE HM ⊢
  clear e0
  obtain ⟨m,hm⟩:∃ m,m=G:=⟨_,rfl⟩
  rw [<-hm] at HE HM ⊢
  have HMM:Hid _:=hm
  obtain ⟨x,hx⟩:∃ x,x=restL cM cR m:=⟨_,rfl⟩
  obtain ⟨y,hy⟩:∃ y,y=restL dM dR m:=⟨_,rfl⟩
  have HX:Hid _:=And.intro hx hy
  have HL:Hid (x<md m/\y<md m):=by
   rw [hx,hy];exact ⟨restL_lt HU.out.2.1 HM.out.1,restL_lt HU.out.2.2.2 HM.out.2⟩
  obtain ⟨r,hr⟩:∃ r,r=minusL x y m:=⟨_,rfl⟩
  rw [<-hx,<-hy,<-hr]
  have HRR:Hid _:=hr
  clear hm hx hy hr
  unfold cv
  go_enter Tryz.func169,Tryz.ntmps169
  go_wp2_with fail
  refine (pgcd2_any cM dM (w.heap.size+1+1+1) _ _ (Ok.refl _) HU.out.1 HU.out.2.2.1 jj).mono ?_
  rintro e W ⟨rfl,hb⟩
  rw [<-HGG.out,<-HMM.out]
  have ra0:W.heap[w.heap.size]?=some (.cells #[.int .u64 (cM:Int),.int .u64 (cR:Int)] 27):=Ok.row' hb jj
  have ra1:W.heap[w.heap.size+1]?=some (.cells #[.int .u64 (dM:Int),.int .u64 (dR:Int)] 27):=Ok.row' hb jj
  have ra2:W.heap[w.heap.size+2]?=some (.cells #[.int .u64 0,.int .u64 0] 27):=Ok.row' hb jj
  have HW:Hid (Ok w0 W):=Ok.step (by repeat (first | exact hok | refine Ok.alloc ?_ _ | refine Ok.draws ?_ _ | fail)) hb
  clear hb hok
  have z0:=lt_row ra0
  have HR0:Hid _:=ra0
  obtain ⟨g00,g01,f00,f01⟩:=row_facts ra0
  have z1:=lt_row ra1
  have HR1:Hid _:=ra1
  obtain ⟨g10,g11,f10,f11⟩:=row_facts ra1
  have z2:=lt_row ra2
  have HR2:Hid _:=ra2
  obtain ⟨g20,g21,f20,f21⟩:=row_facts ra2
  clear ra0 ra1 ra2
  have bz:Ok W W:=Ok.refl _
  have n1:¬w.heap.size+1+1=w.heap.size:=by omega
  have n2:¬w.heap.size+1+1=w.heap.size+1:=by omega
  go_wp2_with fail
  go_region_held3 (fun w'=>w'.cell? ⟨w.heap.size,0,none⟩=some (.int .u64 (cM:Int))/\w'.cell? ⟨w.heap.size,1,none⟩=some (.int .u64 (cR:Int))/\w'.cell? ⟨w.heap.size+1,0,none⟩=some (.int .u64 (dM:Int))/\w'.cell? ⟨w.heap.size+1,1,none⟩=some (.int .u64 (dR:Int))) (go_keep)
   (first
   | (go_at_call 175;refine (prest_any _ _ m (by first | exact HU.out.1 | exact HU.out.2.2.1) (by first | exact HU.out.2.1 | exact HU.out.2.2.2) HE.out (by first | exact HM.out.1 | exact HM.out.2) W _ (by repeat (first | assumption | refine Ok.alloc ?_ _ | refine Below.drew ?_))).mono ?_;rintro e w' ⟨rfl,hb⟩;(first | rw [<-HX.out.1] | rw [<-HX.out.2]);have q00:=Ok.cell hb z0 g00;have q01:=Ok.cell hb z0 g01;have q10:=Ok.cell hb z1 g10;have q11:=Ok.cell hb z1 g11;obtain ⟨c0,c1,c2,c3⟩:=row_facts (Ok.row' hb HR2.out))
   | (go_at_call 170;refine (pminus_ok x y m HL.out.1 HL.out.2 HE.out W _ (by repeat (first | assumption | refine Ok.alloc ?_ _ | refine Below.drew ?_))).mono ?_;rintro e w' ⟨rfl,hb⟩;rw [<-HRR.out];have q00:=Ok.cell hb z0 g00;have q01:=Ok.cell hb z0 g01;have q10:=Ok.cell hb z1 g10;have q11:=Ok.cell hb z1 g11;obtain ⟨c0,c1,c2,c3⟩:=row_facts (Ok.row' hb HR2.out))
   | fail)
  have hr:Hid _:=Ok.row' hb HR2.out
  have HB2:Hid (Ok w0 w'):=HW.out.step hb
  go_wp2_with fail
  (try simp only [Exit.inBlock, Exit.then]); refine bodyPost_ret (results_cell_row rfl _ _ (w.heap.size+2) 27 #[_, _] (0, 0) _ rfl (row_set2 hr.out _ _) Tryz.underlying27 rfl infoCg) rfl ?_
  exact ⟨rfl,(HB2.out.set (show w0.heap.size<=w.heap.size+2 by omega) _).set (show w0.heap.size<=w.heap.size+2 by omega) _⟩
 | false =>
  obtain ⟨m,hm⟩:∃ m,m=evL G false:=⟨_,rfl⟩
  rw [<-hm] at HE HM ⊢
  have HMM:Hid _:=hm
  obtain ⟨x,hx⟩:∃ x,x=restL cM cR m:=⟨_,rfl⟩
  obtain ⟨y,hy⟩:∃ y,y=restL dM dR m:=⟨_,rfl⟩
  have HX:Hid _:=And.intro hx hy
  have HL:Hid (x<md m/\y<md m):=by
   rw [hx,hy];exact ⟨restL_lt HU.out.2.1 HM.out.1,restL_lt HU.out.2.2.2 HM.out.2⟩
  obtain ⟨r,hr⟩:∃ r,r=minusL x y m:=⟨_,rfl⟩
  rw [<-hx,<-hy,<-hr]
  have HRR:Hid _:=hr
  clear hm hx hy hr
  unfold cv
  go_enter Tryz.func169,Tryz.ntmps169
  go_wp2_with fail
  refine (pgcd2_any cM dM (w.heap.size+1+1+1) _ _ (Ok.refl _) HU.out.1 HU.out.2.2.1 jj).mono ?_
  rintro e W ⟨rfl,hb⟩
  rw [<-HGG.out]
  have ra0:W.heap[w.heap.size]?=some (.cells #[.int .u64 (cM:Int),.int .u64 (cR:Int)] 27):=Ok.row' hb jj
  have ra1:W.heap[w.heap.size+1]?=some (.cells #[.int .u64 (dM:Int),.int .u64 (dR:Int)] 27):=Ok.row' hb jj
  have ra2:W.heap[w.heap.size+2]?=some (.cells #[.int .u64 0,.int .u64 0] 27):=Ok.row' hb jj
  have HW:Hid (Ok w0 W):=Ok.step (by repeat (first | exact hok | refine Ok.alloc ?_ _ | refine Ok.draws ?_ _ | fail)) hb
  clear hb hok
  have z0:=lt_row ra0
  have HR0:Hid _:=ra0
  obtain ⟨g00,g01,f00,f01⟩:=row_facts ra0
  have z1:=lt_row ra1
  have HR1:Hid _:=ra1
  obtain ⟨g10,g11,f10,f11⟩:=row_facts ra1
  have z2:=lt_row ra2
  have HR2:Hid _:=ra2
  obtain ⟨g20,g21,f20,f21⟩:=row_facts ra2
  clear ra0 ra1 ra2
  have bz:Ok W W:=Ok.refl _
  have n1:¬w.heap.size+1+1=w.heap.size:=by omega
  have n2:¬w.heap.size+1+1=w.heap.size+1:=by omega
  go_wp2_with fail
  refine (weven_ev G HG.out _).mono ?_
  rintro e w' ⟨rfl,hw⟩
  replace hw:=hw.symm
  subst hw
  rw [<-HMM.out]
  go_wp2_with fail
  go_region_held3 (fun w'=>w'.cell? ⟨w.heap.size,0,none⟩=some (.int .u64 (cM:Int))/\w'.cell? ⟨w.heap.size,1,none⟩=some (.int .u64 (cR:Int))/\w'.cell? ⟨w.heap.size+1,0,none⟩=some (.int .u64 (dM:Int))/\w'.cell? ⟨w.heap.size+1,1,none⟩=some (.int .u64 (dR:Int))) (go_keep)
   (first
   | (go_at_call 175;refine (prest_any _ _ m (by first | exact HU.out.1 | exact HU.out.2.2.1) (by first | exact HU.out.2.1 | exact HU.out.2.2.2) HE.out (by first | exact HM.out.1 | exact HM.out.2) W _ (by repeat (first | assumption | refine Ok.alloc ?_ _ | refine Below.drew ?_))).mono ?_;rintro e w' ⟨rfl,hb⟩;(first | rw [<-HX.out.1] | rw [<-HX.out.2]);have q00:=Ok.cell hb z0 g00;have q01:=Ok.cell hb z0 g01;have q10:=Ok.cell hb z1 g10;have q11:=Ok.cell hb z1 g11;obtain ⟨c0,c1,c2,c3⟩:=row_facts (Ok.row' hb HR2.out))
   | (go_at_call 170;refine (pminus_ok x y m HL.out.1 HL.out.2 HE.out W _ (by repeat (first | assumption | refine Ok.alloc ?_ _ | refine Below.drew ?_))).mono ?_;rintro e w' ⟨rfl,hb⟩;rw [<-HRR.out];have q00:=Ok.cell hb z0 g00;have q01:=Ok.cell hb z0 g01;have q10:=Ok.cell hb z1 g10;have q11:=Ok.cell hb z1 g11;obtain ⟨c0,c1,c2,c3⟩:=row_facts (Ok.row' hb HR2.out))
   | fail)
  have hr:Hid _:=Ok.row' hb HR2.out
  have HB2:Hid (Ok w0 w'):=HW.out.step hb
  go_wp2_with fail
  (try simp only [Exit.inBlock, Exit.then]); refine bodyPost_ret (results_cell_row rfl _ _ (w.heap.size+2) 27 #[_, _] (0, 0) _ rfl (row_set2 hr.out _ _) Tryz.underlying27 rfl infoCg) rfl ?_
  exact ⟨rfl,(HB2.out.set (show w0.heap.size<=w.heap.size+2 by omega) _).set (show w0.heap.size<=w.heap.size+2 by omega) _⟩
set_option maxRecDepth 100000 in
theorem ponr_p (cM cR dM dR:Nat) (ex:Bool) (h1:U64 cM) (h2:U64 cR) (h3:U64 dM) (h4:U64 dR) (w0 w:World) (hok:Ok w0 w) :
  Calls Tryz.prog 169 #[.func (.func 227) #[] #[],cv cM cR,cv dM dR,.bool ex] w fun e w'=>e=.returned (cv (addC cM cR dM dR ex).1 (addC cM cR dM dR ex).2)/\Ok w0 w':=by
 have hle:=hok.le
 rw [add_is ex h1 h2 h3 h4]
 have HU:Hid _:=And.intro h1 (And.intro h2 (And.intro h3 h4))
 have HG:Hid _:=gcd_u64 h1 h3
 have HE:Hid _:=evL_u64 (gcd_u64 h1 h3) ex
 have HM:Hid _:=rests_may ex h1 h3
 obtain ⟨G,hG⟩:∃ G,G=Nat.gcd cM dM:=⟨_,rfl⟩
 rw [<-hG] at HG HE HM ⊢
 have HGG:Hid _:=hG
 clear h1 h2 h3 h4 hG
 cases ex with
 | true =>
  have e0:evL G true=G:=rfl
  rw [e0] at HE HM ⊢
  clear e0
  obtain ⟨m,hm⟩:∃ m,m=G:=⟨_,rfl⟩
  rw [<-hm] at HE HM ⊢
  have HMM:Hid _:=hm
  obtain ⟨x,hx⟩:∃ x,x=restL cM cR m:=⟨_,rfl⟩
  obtain ⟨y,hy⟩:∃ y,y=restL dM dR m:=⟨_,rfl⟩
  have HX:Hid _:=And.intro hx hy
  have HL:Hid (x<md m/\y<md m):=by
   rw [hx,hy];exact ⟨restL_lt HU.out.2.1 HM.out.1,restL_lt HU.out.2.2.2 HM.out.2⟩
  obtain ⟨r,hr⟩:∃ r,r=plusL x y m:=⟨_,rfl⟩
  rw [<-hx,<-hy,<-hr]
  have HRR:Hid _:=hr
  clear hm hx hy hr
  unfold cv
  go_enter Tryz.func169,Tryz.ntmps169
  go_wp2_with fail
  refine (pgcd2_any cM dM (w.heap.size+1+1+1) _ _ (Ok.refl _) HU.out.1 HU.out.2.2.1 jj).mono ?_
  rintro e W ⟨rfl,hb⟩
  rw [<-HGG.out,<-HMM.out]
  have ra0:W.heap[w.heap.size]?=some (.cells #[.int .u64 (cM:Int),.int .u64 (cR:Int)] 27):=Ok.row' hb jj
  have ra1:W.heap[w.heap.size+1]?=some (.cells #[.int .u64 (dM:Int),.int .u64 (dR:Int)] 27):=Ok.row' hb jj
  have ra2:W.heap[w.heap.size+2]?=some (.cells #[.int .u64 0,.int .u64 0] 27):=Ok.row' hb jj
  have HW:Hid (Ok w0 W):=Ok.step (by repeat (first | exact hok | refine Ok.alloc ?_ _ | refine Ok.draws ?_ _ | fail)) hb
  clear hb hok
  have z0:=lt_row ra0
  have HR0:Hid _:=ra0
  obtain ⟨g00,g01,f00,f01⟩:=row_facts ra0
  have z1:=lt_row ra1
  have HR1:Hid _:=ra1
  obtain ⟨g10,g11,f10,f11⟩:=row_facts ra1
  have z2:=lt_row ra2
  have HR2:Hid _:=ra2
  obtain ⟨g20,g21,f20,f21⟩:=row_facts ra2
  clear ra0 ra1 ra2
  have bz:Ok W W:=Ok.refl _
  have n1:¬w.heap.size+1+1=w.heap.size:=by omega
  have n2:¬w.heap.size+1+1=w.heap.size+1:=by omega
  go_wp2_with fail
  go_region_held3 (fun w'=>w'.cell? ⟨w.heap.size,0,none⟩=some (.int .u64 (cM:Int))/\w'.cell? ⟨w.heap.size,1,none⟩=some (.int .u64 (cR:Int))/\w'.cell? ⟨w.heap.size+1,0,none⟩=some (.int .u64 (dM:Int))/\w'.cell? ⟨w.heap.size+1,1,none⟩=some (.int .u64 (dR:Int))) (go_keep)
   (first
   | (go_at_call 175;refine (prest_any _ _ m (by first | exact HU.out.1 | exact HU.out.2.2.1) (by first | exact HU.out.2.1 | exact HU.out.2.2.2) HE.out (by first | exact HM.out.1 | exact HM.out.2) W _ (by repeat (first | assumption | refine Ok.alloc ?_ _ | refine Below.drew ?_))).mono ?_;rintro e w' ⟨rfl,hb⟩;(first | rw [<-HX.out.1] | rw [<-HX.out.2]);have q00:=Ok.cell hb z0 g00;have q01:=Ok.cell hb z0 g01;have q10:=Ok.cell hb z1 g10;have q11:=Ok.cell hb z1 g11;obtain ⟨c0,c1,c2,c3⟩:=row_facts (Ok.row' hb HR2.out))
   | (go_at_call 227;refine (pplus_ok x y m HL.out.1 HL.out.2 HE.out W _ (by repeat (first | assumption | refine Ok.alloc ?_ _ | refine Below.drew ?_))).mono ?_;rintro e w' ⟨rfl,hb⟩;rw [<-HRR.out];have q00:=Ok.cell hb z0 g00;have q01:=Ok.cell hb z0 g01;have q10:=Ok.cell hb z1 g10;have q11:=Ok.cell hb z1 g11;obtain ⟨c0,c1,c2,c3⟩:=row_facts (Ok.row' hb HR2.out))
   | fail)
  have hr:Hid _:=Ok.row' hb HR2.out
  have HB2:Hid (Ok w0 w'):=HW.out.step hb
  go_wp2_with fail
  (try simp only [Exit.inBlock, Exit.then]); refine bodyPost_ret (results_cell_row rfl _ _ (w.heap.size+2) 27 #[_, _] (0, 0) _ rfl (row_set2 hr.out _ _) Tryz.underlying27 rfl infoCg) rfl ?_
  exact ⟨rfl,(HB2.out.set (show w0.heap.size<=w.heap.size+2 by omega) _).set (show w0.heap.size<=w.heap.size+2 by omega) _⟩
 | false =>
  obtain ⟨m,hm⟩:∃ m,m=evL G false:=⟨_,rfl⟩
  rw [<-hm] at HE HM ⊢
  have HMM:Hid _:=hm
  obtain ⟨x,hx⟩:∃ x,x=restL cM cR m:=⟨_,rfl⟩
  obtain ⟨y,hy⟩:∃ y,y=restL dM dR m:=⟨_,rfl⟩
  have HX:Hid _:=And.intro hx hy
  have HL:Hid (x<md m/\y<md m):=by
   rw [hx,hy];exact ⟨restL_lt HU.out.2.1 HM.out.1,restL_lt HU.out.2.2.2 HM.out.2⟩
  obtain ⟨r,hr⟩:∃ r,r=plusL x y m:=⟨_,rfl⟩
  rw [<-hx,<-hy,<-hr]
  have HRR:Hid _:=hr
  clear hm hx hy hr
  unfold cv
  go_enter Tryz.func169,Tryz.ntmps169
  go_wp2_with fail
  refine (pgcd2_any cM dM (w.heap.size+1+1+1) _ _ (Ok.refl _) HU.out.1 HU.out.2.2.1 jj).mono ?_
  rintro e W ⟨rfl,hb⟩
  rw [<-HGG.out]
  have ra0:W.heap[w.heap.size]?=some (.cells #[.int .u64 (cM:Int),.int .u64 (cR:Int)] 27):=Ok.row' hb jj
  have ra1:W.heap[w.heap.size+1]?=some (.cells #[.int .u64 (dM:Int),.int .u64 (dR:Int)] 27):=Ok.row' hb jj
  have ra2:W.heap[w.heap.size+2]?=some (.cells #[.int .u64 0,.int .u64 0] 27):=Ok.row' hb jj
  have HW:Hid (Ok w0 W):=Ok.step (by repeat (first | exact hok | refine Ok.alloc ?_ _ | refine Ok.draws ?_ _ | fail)) hb
  clear hb hok
  have z0:=lt_row ra0
  have HR0:Hid _:=ra0
  obtain ⟨g00,g01,f00,f01⟩:=row_facts ra0
  have z1:=lt_row ra1
  have HR1:Hid _:=ra1
  obtain ⟨g10,g11,f10,f11⟩:=row_facts ra1
  have z2:=lt_row ra2
  have HR2:Hid _:=ra2
  obtain ⟨g20,g21,f20,f21⟩:=row_facts ra2
  clear ra0 ra1 ra2
  have bz:Ok W W:=Ok.refl _
  have n1:¬w.heap.size+1+1=w.heap.size:=by omega
  have n2:¬w.heap.size+1+1=w.heap.size+1:=by omega
  go_wp2_with fail
  refine (weven_ev G HG.out _).mono ?_
  rintro e w' ⟨rfl,hw⟩
  replace hw:=hw.symm
  subst hw
  rw [<-HMM.out]
  go_wp2_with fail
  go_region_held3 (fun w'=>w'.cell? ⟨w.heap.size,0,none⟩=some (.int .u64 (cM:Int))/\w'.cell? ⟨w.heap.size,1,none⟩=some (.int .u64 (cR:Int))/\w'.cell? ⟨w.heap.size+1,0,none⟩=some (.int .u64 (dM:Int))/\w'.cell? ⟨w.heap.size+1,1,none⟩=some (.int .u64 (dR:Int))) (go_keep)
   (first
   | (go_at_call 175;refine (prest_any _ _ m (by first | exact HU.out.1 | exact HU.out.2.2.1) (by first | exact HU.out.2.1 | exact HU.out.2.2.2) HE.out (by first | exact HM.out.1 | exact HM.out.2) W _ (by repeat (first | assumption | refine Ok.alloc ?_ _ | refine Below.drew ?_))).mono ?_;rintro e w' ⟨rfl,hb⟩;(first | rw [<-HX.out.1] | rw [<-HX.out.2]);have q00:=Ok.cell hb z0 g00;have q01:=Ok.cell hb z0 g01;have q10:=Ok.cell hb z1 g10;have q11:=Ok.cell hb z1 g11;obtain ⟨c0,c1,c2,c3⟩:=row_facts (Ok.row' hb HR2.out))
   | (go_at_call 227;refine (pplus_ok x y m HL.out.1 HL.out.2 HE.out W _ (by repeat (first | assumption | refine Ok.alloc ?_ _ | refine Below.drew ?_))).mono ?_;rintro e w' ⟨rfl,hb⟩;rw [<-HRR.out];have q00:=Ok.cell hb z0 g00;have q01:=Ok.cell hb z0 g01;have q10:=Ok.cell hb z1 g10;have q11:=Ok.cell hb z1 g11;obtain ⟨c0,c1,c2,c3⟩:=row_facts (Ok.row' hb HR2.out))
   | fail)
  have hr:Hid _:=Ok.row' hb HR2.out
  have HB2:Hid (Ok w0 w'):=HW.out.step hb
  go_wp2_with fail
  (try simp only [Exit.inBlock, Exit.then]); refine bodyPost_ret (results_cell_row rfl _ _ (w.heap.size+2) 27 #[_, _] (0, 0) _ rfl (row_set2 hr.out _ _) Tryz.underlying27 rfl infoCg) rfl ?_
  exact ⟨rfl,(HB2.out.set (show w0.heap.size<=w.heap.size+2 by omega) _).set (show w0.heap.size<=w.heap.size+2 by omega) _⟩
theorem psub_any (cM cR dM dR:Nat) (ex:Bool) (h1:U64 cM) (h2:U64 cR) (h3:U64 dM) (h4:U64 dR) (w0 w:World) (hok:Ok w0 w) :
  Calls Tryz.prog 118 #[cv cM cR,cv dM dR,.bool ex] w fun e w'=>e=.returned (cv (subC cM cR dM dR ex).1 (subC cM cR dM dR ex).2)/\Ok w0 w':=by
 have hle:=hok.le
 have HU:Hid _:=And.intro h1 (And.intro h2 (And.intro h3 h4))
 clear h1 h2 h3 h4
 unfold cv
 go_enter Tryz.func118,Tryz.ntmps118
 go_wp2_with fail
 refine (ponr_m cM cR dM dR ex HU.out.1 HU.out.2.1 HU.out.2.2.1 HU.out.2.2.2 _ _ (Ok.refl _)).mono ?_
 rintro e w' ⟨rfl,hb⟩
 have hr : Hid _ := Ok.row' (g := w.heap.size+2) (o := .cells #[.int .u64 0, .int .u64 0] 27) hb jj; obtain ⟨k0, k1, k2, k3⟩ := row_facts hr.out
 unfold cv
 go_wp2_with fail
 (try simp only [Exit.inBlock, Exit.then]); refine bodyPost_ret (results_cell_row rfl _ _ (w.heap.size+2) 27 #[_, _] (0, 0) _ rfl (row_set2 hr.out _ _) Tryz.underlying27 rfl infoCg) rfl ?_
 exact ⟨rfl,((Ok.step (by repeat (first | exact hok | refine Ok.alloc ?_ _ | refine Ok.draws ?_ _ | fail)) hb).set (show w0.heap.size ≤ w.heap.size+2 by omega) _).set (show w0.heap.size ≤ w.heap.size+2 by omega) _⟩
theorem padd_any (cM cR dM dR:Nat) (ex:Bool) (h1:U64 cM) (h2:U64 cR) (h3:U64 dM) (h4:U64 dR) (w0 w:World) (hok:Ok w0 w) :
  Calls Tryz.prog 204 #[cv cM cR,cv dM dR,.bool ex] w fun e w'=>e=.returned (cv (addC cM cR dM dR ex).1 (addC cM cR dM dR ex).2)/\Ok w0 w':=by
 have hle:=hok.le
 have HU:Hid _:=And.intro h1 (And.intro h2 (And.intro h3 h4))
 clear h1 h2 h3 h4
 unfold cv
 go_enter Tryz.func204,Tryz.ntmps204
 go_wp2_with fail
 refine (ponr_p cM cR dM dR ex HU.out.1 HU.out.2.1 HU.out.2.2.1 HU.out.2.2.2 _ _ (Ok.refl _)).mono ?_
 rintro e w' ⟨rfl,hb⟩
 have hr : Hid _ := Ok.row' (g := w.heap.size+2) (o := .cells #[.int .u64 0, .int .u64 0] 27) hb jj; obtain ⟨k0, k1, k2, k3⟩ := row_facts hr.out
 unfold cv
 go_wp2_with fail
 (try simp only [Exit.inBlock, Exit.then]); refine bodyPost_ret (results_cell_row rfl _ _ (w.heap.size+2) 27 #[_, _] (0, 0) _ rfl (row_set2 hr.out _ _) Tryz.underlying27 rfl infoCg) rfl ?_
 exact ⟨rfl,((Ok.step (by repeat (first | exact hok | refine Ok.alloc ?_ _ | refine Ok.draws ?_ _ | fail)) hb).set (show w0.heap.size ≤ w.heap.size+2 by omega) _).set (show w0.heap.size ≤ w.heap.size+2 by omega) _⟩
theorem pneg_any (M R:Nat) (ex:Bool) (h1:U64 M) (h2:U64 R) (w0 w:World) (hok:Ok w0 w) :
  Calls Tryz.prog 224 #[cv M R,.bool ex] w fun e w'=>e=.returned (cv (negC M R ex).1 (negC M R ex).2)/\Ok w0 w':=by
 have hle:=hok.le
 rw [<-neg_is M R ex h2]
 have HU:Hid _:=And.intro h1 h2
 have HZ:Hid (U64 0):=by unfold Hid U64;omega
 have HB:Hid (bitsN 0=0):=rfl
 clear h1 h2
 unfold cv
 go_enter Tryz.func224,Tryz.ntmps224
 go_wp2_with fail
 obtain ⟨W,hW⟩:∃ W,W=((w.alloc (.cells #[.int .u64 (M:Int),.int .u64 (R:Int)] 27)).alloc (.cells #[.int .u64 0,.int .u64 0] 27)):=⟨_,rfl⟩
 have ra0:W.heap[w.heap.size]?=some (.cells #[.int .u64 (M:Int),.int .u64 (R:Int)] 27):=by rw [hW];exact jj
 have ra1:W.heap[w.heap.size+1]?=some (.cells #[.int .u64 0,.int .u64 0] 27):=by rw [hW];exact jj
 have HW:Hid (Ok w0 W):=by rw [hW];exact (by repeat (first | exact hok | refine Ok.alloc ?_ _ | refine Ok.draws ?_ _ | fail))
 rw [<-hW]
 clear hW hok
 have z0:=lt_row ra0
 have HR0:Hid _:=ra0
 obtain ⟨g00,g01,f00,f01⟩:=row_facts ra0
 have z1:=lt_row ra1
 have HR1:Hid _:=ra1
 obtain ⟨g10,g11,f10,f11⟩:=row_facts ra1
 clear ra0 ra1
 have bz:Ok W W:=Ok.refl _
 have n1:¬w.heap.size+1=w.heap.size:=by omega
 go_region_held3 (fun w'=>w'.cell? ⟨w.heap.size,0,none⟩=some (.int .u64 (M:Int))/\w'.cell? ⟨w.heap.size,1,none⟩=some (.int .u64 (R:Int))) (go_keep)
  (first
  | (go_at_call 123;refine (pconst_any 0 W _ (by repeat (first | assumption | refine Ok.alloc ?_ _ | refine Below.drew ?_))).mono ?_;rintro e w' ⟨rfl,hb⟩;rw [HB.out];unfold cv;have q00:=Ok.cell hb z0 g00;have q01:=Ok.cell hb z0 g01;obtain ⟨c0,c1,c2,c3⟩:=row_facts (Ok.row' hb HR1.out))
  | (go_at_call 118;refine (psub_any 0 0 M R ex HZ.out HZ.out HU.out.1 HU.out.2 W _ (by repeat (first | assumption | refine Ok.alloc ?_ _ | refine Below.drew ?_))).mono ?_;rintro e w' ⟨rfl,hb⟩;unfold cv;have q00:=Ok.cell hb z0 g00;have q01:=Ok.cell hb z0 g01;obtain ⟨c0,c1,c2,c3⟩:=row_facts (Ok.row' hb HR1.out))
  | fail)
 have hr:Hid _:=Ok.row' hb HR1.out
 have HB2:Hid (Ok w0 w'):=HW.out.step hb
 go_wp2_with fail
 (try simp only [Exit.inBlock, Exit.then]); refine bodyPost_ret (results_cell_row rfl _ _ (w.heap.size+1) 27 #[_, _] (0, 0) _ rfl (row_set2 hr.out _ _) Tryz.underlying27 rfl infoCg) rfl ?_
 exact ⟨rfl,(HB2.out.set (show w0.heap.size<=w.heap.size+1 by omega) _).set (show w0.heap.size<=w.heap.size+1 by omega) _⟩
end Go.Proofs.YtnjmjnmhldhaoaaGreat
namespace Go.Proofs.YtnjmjnmhldhaoaaGreat
open Go.RowKit
theorem pnumber_ok (M R:Nat) (w0 w:World) (hok:Ok w0 w) :
  Calls Tryz.prog 218 #[cv M R] w fun e w'=>e=.returned (.int .i64 (wrap64 (R:Int)))/\Ok w0 w':=by
 refine (pnumber_ex M R w).mono ?_
 rintro e w' ⟨rfl,rfl⟩
 exact ⟨rfl,hok.alloc _⟩
end Go.Proofs.YtnjmjnmhldhaoaaGreat
