import Derived.Test.YtnjmjnmhldhaoaaGreatKCprog
import Derived.Test.YtnjmjnmhldhaoaaGreatKJm
import Derived.Test.YtnjmjnmhldhaoaaGreatKJn
import Derived.Test.YtnjmjnmhldhaoaaGreatKJq
import Derived.Test.YtnjmjnmhldhaoaaGreatKNa
import Derived.Test.YtnjmjnmhldhaoaaGreatKNo
set_option maxHeartbeats 8000000
set_option linter.all false
namespace Go.Proofs.YtnjmjnmhldhaoaaGreat
section
open Go.RowKit
set_option maxRecDepth 100000 in
theorem opnd_alone (op:Int) (a b:Int×Int×Nat×Nat×Bool) (ha:RawN a) (hb:RawN b) (w0 w:World) (hok:Ok w0 w) :
  Calls Tryz.prog 156 #[.agg #[.int .i64 op,.bool true,.bool false],nv a,nv b] w fun e w'=>e=.returned (.tuple #[nv (normN a),nv (normN a)])/\Ok w0 w':=by
 have hle:=hok.le
 have HU:Hid _:=And.intro ha hb
 clear ha hb
 obtain ⟨x,hx⟩:∃ x,x=normN a:=⟨_,rfl⟩
 have HX:Hid _:=hx
 obtain ⟨y,hy⟩:∃ y,y=normN a:=⟨_,rfl⟩
 have HY:Hid _:=hy
 rw [<-hx]
 clear hx hy
 unfold nv
 go_enter Tryz.func156,Tryz.ntmps156
 go_wp2_with fail
 obtain ⟨W,hW⟩:∃ W,W=(((((w).alloc (.cells #[.int .i64 op,.bool true,.bool false] 140)).alloc (.cells #[.bool a.2.2.2.2,.int .i64 a.1,.int .i64 a.2.1,.int .u64 (a.2.2.1:Int),.int .u64 (a.2.2.2.1:Int)] 29)).alloc (.cells #[.bool b.2.2.2.2,.int .i64 b.1,.int .i64 b.2.1,.int .u64 (b.2.2.1:Int),.int .u64 (b.2.2.2.1:Int)] 29)).alloc (.cells #[.bool false,.int .i64 0,.int .i64 0,.int .u64 0,.int .u64 0] 29)).alloc (.cells #[.bool false,.int .i64 0,.int .i64 0,.int .u64 0,.int .u64 0] 29):=⟨_,rfl⟩
 have rs:Hid (W.heap[w.heap.size]?=some (.cells #[.int .i64 op,.bool true,.bool false] 140)):=by unfold Hid;rw [hW];exact jj
 have ra:Hid (W.heap[w.heap.size+1]?=some (.cells #[.bool a.2.2.2.2,.int .i64 a.1,.int .i64 a.2.1,.int .u64 (a.2.2.1:Int),.int .u64 (a.2.2.2.1:Int)] 29)):=by unfold Hid;rw [hW];exact jj
 have rb:Hid (W.heap[w.heap.size+1+1]?=some (.cells #[.bool b.2.2.2.2,.int .i64 b.1,.int .i64 b.2.1,.int .u64 (b.2.2.1:Int),.int .u64 (b.2.2.2.1:Int)] 29)):=by unfold Hid;rw [hW];exact jj
 have r1:Hid (W.heap[w.heap.size+1+1+1]?=some (.cells #[.bool false,.int .i64 0,.int .i64 0,.int .u64 0,.int .u64 0] 29)):=by unfold Hid;rw [hW];exact jj
 have r2:Hid (W.heap[w.heap.size+1+1+1+1]?=some (.cells #[.bool false,.int .i64 0,.int .i64 0,.int .u64 0,.int .u64 0] 29)):=by unfold Hid;rw [hW];exact jj
 have HW:Hid (Ok w0 W):=by unfold Hid;rw [hW];exact (by repeat (first | exact hok | refine Ok.alloc ?_ _ | refine Ok.draws ?_ _ | fail))
 rw [<-hW]
 clear hW
 obtain ⟨g2,eg2⟩:∃ g,g=w.heap.size+1+1+1+1:=⟨_,rfl⟩
 rw [<-eg2] at r2 ⊢
 obtain ⟨g1,eg1⟩:∃ g,g=w.heap.size+1+1+1:=⟨_,rfl⟩
 rw [<-eg1] at r1 ⊢
 obtain ⟨gb,egb⟩:∃ g,g=w.heap.size+1+1:=⟨_,rfl⟩
 rw [<-egb] at rb ⊢
 obtain ⟨ga,ega⟩:∃ g,g=w.heap.size+1:=⟨_,rfl⟩
 rw [<-ega] at ra ⊢
 obtain ⟨gs,egs⟩:∃ g,g=w.heap.size:=⟨_,rfl⟩
 rw [<-egs] at rs ⊢
 have lgs:w0.heap.size<=gs:=by omega
 have ngsga:¬gs=ga:=by omega
 have ngsgb:¬gs=gb:=by omega
 have ngsg1:¬gs=g1:=by omega
 have ngsg2:¬gs=g2:=by omega
 have lga:w0.heap.size<=ga:=by omega
 have ngags:¬ga=gs:=by omega
 have ngagb:¬ga=gb:=by omega
 have ngag1:¬ga=g1:=by omega
 have ngag2:¬ga=g2:=by omega
 have lgb:w0.heap.size<=gb:=by omega
 have ngbgs:¬gb=gs:=by omega
 have ngbga:¬gb=ga:=by omega
 have ngbg1:¬gb=g1:=by omega
 have ngbg2:¬gb=g2:=by omega
 have lg1:w0.heap.size<=g1:=by omega
 have ng1gs:¬g1=gs:=by omega
 have ng1ga:¬g1=ga:=by omega
 have ng1gb:¬g1=gb:=by omega
 have ng1g2:¬g1=g2:=by omega
 have lg2:w0.heap.size<=g2:=by omega
 have ng2gs:¬g2=gs:=by omega
 have ng2ga:¬g2=ga:=by omega
 have ng2gb:¬g2=gb:=by omega
 have ng2g1:¬g2=g1:=by omega
 clear egs ega egb eg1 eg2
 refine (nnorm_any a HU.out.1 W _ (by repeat (first | exact Ok.refl _ | refine Ok.alloc ?_ _ | refine Ok.draws ?_ _ | fail))).mono ?_
 rintro e w1 ⟨rfl,hb⟩
 replace rs:Hid _:=Ok.row' hb rs.out
 replace ra:Hid _:=Ok.row' hb ra.out
 replace rb:Hid _:=Ok.row' hb rb.out
 replace r1:Hid _:=Ok.row' hb r1.out
 replace r2:Hid _:=Ok.row' hb r2.out
 have Hw1:Hid (Ok w0 w1):=HW.out.step hb
 clear hb
 rw [<-HX.out]
 unfold nv
 obtain ⟨a0,a1,a2,a3,a4,a5,a6,a7,a8,a9⟩:=row5_facts ra.out
 obtain ⟨s0,s1,s2,s3,s4,s5⟩:=row3_facts rs.out
 obtain ⟨b0,b1,b2,b3,b4,b5,b6,b7,b8,b9⟩:=row5_facts rb.out
 go_wp2_with fail
 obtain ⟨Z,hZ⟩:∃ Z,Z=(((((w1.setCell ⟨ga,0,none⟩ (.bool x.2.2.2.2)).setCell ⟨ga,1,none⟩ (.int .i64 x.1)).setCell ⟨ga,2,none⟩ (.int .i64 x.2.1)).setCell ⟨ga,3,none⟩ (.int .u64 (x.2.2.1:Int))).setCell ⟨ga,4,none⟩ (.int .u64 (x.2.2.2.1:Int))):=⟨_,rfl⟩
 obtain ⟨HZ,raz,keep⟩:=(rows_put1 ra.out Hw1.out (by omega) _ _ _ _ _ hZ).out
 replace HZ:Hid (Ok w0 Z):=HZ
 replace raz:Hid _:=raz
 replace rs:Hid _:=keep _ _ (by omega) rs.out
 replace rb:Hid _:=keep _ _ (by omega) rb.out
 replace r1:Hid _:=keep _ _ (by omega) r1.out
 replace r2:Hid _:=keep _ _ (by omega) r2.out
 rw [<-hZ]
 clear hZ keep ra
 clear a0 a1 a2 a3 a4 a5 a6 a7 a8 a9 b0 b1 b2 b3 b4 b5 b6 b7 b8 b9 s0 s1 s2 s3 s4 s5
 obtain ⟨a0,a1,a2,a3,a4,a5,a6,a7,a8,a9⟩:=row5_facts raz.out
 obtain ⟨b0,b1,b2,b3,b4,b5,b6,b7,b8,b9⟩:=row5_facts rb.out
 obtain ⟨p0,p1,p2,p3,p4,p5,p6,p7,p8,p9⟩:=row5_facts r1.out
 obtain ⟨q0,q1,q2,q3,q4,q5,q6,q7,q8,q9⟩:=row5_facts r2.out
 have za:=lt_row raz.out
 have zb:=lt_row rb.out
 have bz:Ok Z Z:=Ok.refl _
 clear p0 p1 p2 p3 p4 p5 p6 p7 p8 p9 q0 q1 q2 q3 q4 q5 q6 q7 q8 q9 a0 a1 a2 a3 a4 a5 a6 a7 a8 a9 b0 b1 b2 b3 b4 b5 b6 b7 b8 b9
 refine wp_region_held_drew (S:=fun w'=>w'.heap[ga]?=some (.cells #[.bool x.2.2.2.2,.int .i64 x.1,.int .i64 x.2.1,.int .u64 (x.2.2.1:Int),.int .u64 (x.2.2.2.1:Int)] 29)) (by kernel_rfl) raz.out (fun hHeld=>?_)
 have hb:Ok Z Z.drew:=Below.drew (Ok.refl Z)
 obtain ⟨D,hD⟩:∃ D,D=Z.drew:=⟨_,rfl⟩
 rw [<-hD] at hb hHeld ⊢
 clear hD
 refine wpAnyH_take (i:=0) (v:=.agg #[.bool x.2.2.2.2,.int .i64 x.1,.int .i64 x.2.1,.int .u64 (x.2.2.1:Int),.int .u64 (x.2.2.2.1:Int)]) rfl (by kernel_rfl) (by kernel_rfl) (by kernel_rfl) (fun _ _ _ h=>h) (Or.inl ⟨by rfl,?_⟩) hHeld ?_
 ·intro w hSw;(try dsimp only at hSw);have zz:=row5_facts hSw;have c0:=zz.1;have c1:=zz.2.1;have c2:=zz.2.2.1;have c3:=zz.2.2.2.1;have c4:=zz.2.2.2.2.1;clear zz;(go_simp;try with_reducible rfl)
 (try simp only [Act.put,List.getElem_toArray,List.getElem_cons_succ,List.getElem_cons_zero,List.setIfInBounds_toArray,List.set_cons_zero,List.set_cons_succ])
 refine wpAnyH_take (i:=1) (v:=.agg #[.bool x.2.2.2.2,.int .i64 x.1,.int .i64 x.2.1,.int .u64 (x.2.2.1:Int),.int .u64 (x.2.2.2.1:Int)]) rfl (by kernel_rfl) (by kernel_rfl) (by kernel_rfl) (fun _ _ _ h=>h) (Or.inl ⟨by rfl,?_⟩) hHeld ?_
 ·intro w hSw;(try dsimp only at hSw);have zz:=row5_facts hSw;have c0:=zz.1;have c1:=zz.2.1;have c2:=zz.2.2.1;have c3:=zz.2.2.2.1;have c4:=zz.2.2.2.2.1;clear zz;(go_simp;try with_reducible rfl)
 (try simp only [Act.put,List.getElem_toArray,List.getElem_cons_succ,List.getElem_cons_zero,List.setIfInBounds_toArray,List.set_cons_zero,List.set_cons_succ])
 have f1:Hid _:=Ok.row' hb r1.out
 have f2:Hid _:=Ok.row' hb r2.out
 have zz:=row5_facts (f1.out)
 have p0:=zz.1
 have p1:=zz.2.1
 have p2:=zz.2.2.1
 have p3:=zz.2.2.2.1
 have p4:=zz.2.2.2.2.1
 have p5:=zz.2.2.2.2.2.1
 have p6:=zz.2.2.2.2.2.2.1
 have p7:=zz.2.2.2.2.2.2.2.1
 have p8:=zz.2.2.2.2.2.2.2.2.1
 have p9:=zz.2.2.2.2.2.2.2.2.2
 clear zz
 refine wpAnyH_ready (rs:=[2]) (by kernel_rfl) (by simp) ?_
 refine AllReadyH.cons rfl (fun K hK=>?_) AllReadyH.nil
 go_simp
 have h1:=rows_put1 (w0:=w0) (Z:=(((((D.setCell ⟨g1,0,none⟩ (.bool x.2.2.2.2)).setCell ⟨g1,1,none⟩ (.int .i64 x.1)).setCell ⟨g1,2,none⟩ (.int .i64 x.2.1)).setCell ⟨g1,3,none⟩ (.int .u64 (x.2.2.1:Int))).setCell ⟨g1,4,none⟩ (.int .u64 (x.2.2.2.1:Int)))) f1.out (HZ.out.step hb) (by omega) _ _ _ _ _ rfl
 refine hK.out _ _ (h1.out.2.2 _ _ (by omega) hHeld) (fun hHeld=>?_)
 clear hK K p0 p1 p2 p3 p4 p5 p6 p7 p8 p9
 (try simp only [Act.put,List.getElem_toArray,List.getElem_cons_succ,List.getElem_cons_zero,List.setIfInBounds_toArray,List.set_cons_zero,List.set_cons_succ])
 obtain ⟨E,hE⟩:∃ E,E=(((((D.setCell ⟨g1,0,none⟩ (.bool x.2.2.2.2)).setCell ⟨g1,1,none⟩ (.int .i64 x.1)).setCell ⟨g1,2,none⟩ (.int .i64 x.2.1)).setCell ⟨g1,3,none⟩ (.int .u64 (x.2.2.1:Int))).setCell ⟨g1,4,none⟩ (.int .u64 (x.2.2.2.1:Int))):=⟨_,rfl⟩
 rw [<-hE] at h1 hHeld ⊢
 have HE:Hid _:=hE
 clear hE
 have f3:Hid _:=h1.out.2.2 _ _ (by omega) f2.out
 have zz:=row5_facts (f3.out)
 have q0:=zz.1
 have q1:=zz.2.1
 have q2:=zz.2.2.1
 have q3:=zz.2.2.2.1
 have q4:=zz.2.2.2.2.1
 have q5:=zz.2.2.2.2.2.1
 have q6:=zz.2.2.2.2.2.2.1
 have q7:=zz.2.2.2.2.2.2.2.1
 have q8:=zz.2.2.2.2.2.2.2.2.1
 have q9:=zz.2.2.2.2.2.2.2.2.2
 clear zz
 refine wpAnyH_ready (rs:=[3]) (by kernel_rfl) (by simp) ?_
 refine AllReadyH.cons rfl (fun K hK=>?_) AllReadyH.nil
 go_simp
 have h2:=rows_put1 (w0:=w0) (Z:=(((((E.setCell ⟨g2,0,none⟩ (.bool x.2.2.2.2)).setCell ⟨g2,1,none⟩ (.int .i64 x.1)).setCell ⟨g2,2,none⟩ (.int .i64 x.2.1)).setCell ⟨g2,3,none⟩ (.int .u64 (x.2.2.1:Int))).setCell ⟨g2,4,none⟩ (.int .u64 (x.2.2.2.1:Int)))) f3.out h1.out.1 (by omega) _ _ _ _ _ rfl
 refine hK.out _ _ (h2.out.2.2 _ _ (by omega) hHeld) (fun hHeld=>?_)
 clear hK K q0 q1 q2 q3 q4 q5 q6 q7 q8 q9
 (try simp only [Act.put,List.getElem_toArray,List.getElem_cons_succ,List.getElem_cons_zero,List.setIfInBounds_toArray,List.set_cons_zero,List.set_cons_succ])
 refine wpAnyH_done (by kernel_rfl) ?_ _
 rw [HE.out]
 rw [HE.out] at h2
 go_wp2_with fail
 (try simp only [Exit.inBlock,Exit.then]);refine bodyPost_ret (results_2c rfl _ _ g1 g2 29 #[_,_,_,_,_] #[_,_,_,_,_] (0,0) _ rfl rfl (rows_put2 (g:=g1) (k:=g2) (by omega) r1.out r2.out hb HZ.out (by omega) (by omega) _ _ _ _ _ _ _ _ _ _).out.2.1 (rows_put2 (g:=g1) (k:=g2) (by omega) r1.out r2.out hb HZ.out (by omega) (by omega) _ _ _ _ _ _ _ _ _ _).out.2.2.1 Tryz.underlying29 rfl infoN infoN) rfl ?_
 exact ⟨rfl,(rows_put2 (g:=g1) (k:=g2) (by omega) r1.out r2.out hb HZ.out (by omega) (by omega) _ _ _ _ _ _ _ _ _ _).out.1⟩
end
section
open Go.RowKit
attribute [local go_sem] run_store_fun
def neg2N (x y:Int×Int×Nat×Nat×Bool):Int×Int×Nat×Nat×Bool:=negN x
set_option maxRecDepth 100000 in
theorem nnegC_any (cM cR dM dR:Nat) (ex:Bool) (h1:U64 cM) (h2:U64 cR) (h3:U64 dM) (h4:U64 dR) (w0 w:World) (hok:Ok w0 w) :
  Calls Tryz.prog 202 #[cv cM cR,cv dM dR,.bool ex] w fun e w'=>e=.returned (cv (negC cM cR ex).1 (negC cM cR ex).2)/\Ok w0 w':=by
 have hle:=hok.le
 unfold cv
 go_enter Tryz.func202,Tryz.ntmps202
 go_wp2_with fail
 obtain ⟨W,hW⟩:∃ W,W=(((w).alloc (.cells #[.int .u64 (cM:Int),.int .u64 (cR:Int)] 27)).alloc (.cells #[.int .u64 (dM:Int),.int .u64 (dR:Int)] 27)).alloc (.cells #[.int .u64 0,.int .u64 0] 27):=⟨_,rfl⟩
 have rz:Hid (W.heap[w.heap.size+1+1]?=some (.cells #[.int .u64 0,.int .u64 0] 27)):=by unfold Hid;rw [hW];exact jj
 have HW:Hid (Ok w0 W):=by unfold Hid;rw [hW];exact (by repeat (first | exact hok | refine Ok.alloc ?_ _ | refine Ok.draws ?_ _ | fail))
 rw [<-hW]
 clear hW
 obtain ⟨gz,ez⟩:∃ g,g=w.heap.size+1+1:=⟨_,rfl⟩
 rw [<-ez] at rz ⊢
 have lgz:w0.heap.size<=gz:=by omega
 clear ez
 refine (pneg_any cM cR ex h1 h2 W _ (Ok.refl _)).mono ?_
 rintro e w' ⟨rfl,hb⟩
 have hr:Hid _:=Ok.row' hb rz.out
 obtain ⟨k0,k1,k2,k3⟩:=row_facts hr.out
 unfold cv
 go_wp2_with fail
 (try simp only [Exit.inBlock, Exit.then]); refine bodyPost_ret (results_cell_row rfl _ _ (gz) 27 #[_, _] (0, 0) _ rfl (row_set2 hr.out _ _) Tryz.underlying27 rfl infoCg) rfl ?_
 exact ⟨rfl,Ok.set (Ok.set (HW.out.step hb) lgz _) lgz _⟩
set_option maxRecDepth 100000 in
theorem nnegI_any (al ah bl bh:Int) (w0 w:World) (hok:Ok w0 w) (ha1:In64 al) (ha2:In64 ah) (hb1:In64 bl) (hb2:In64 bh) :
  Calls Tryz.prog 201 #[.agg #[.int .i64 al,.int .i64 ah],.agg #[.int .i64 bl,.int .i64 bh]] w fun e w'=>e=.returned (.tuple #[.agg #[.int .i64 (negI al ah).1,.int .i64 (negI al ah).2.1],.bool (negI al ah).2.2])/\Ok w0 w':=by
 have hle:=hok.le
 go_enter Tryz.func201,Tryz.ntmps201
 go_wp2_with fail
 obtain ⟨W,hW⟩:∃ W,W=(((w).alloc (.cells #[.int .i64 al,.int .i64 ah] 24)).alloc (.cells #[.int .i64 bl,.int .i64 bh] 24)).alloc (.cells #[.int .i64 0,.int .i64 0] 24):=⟨_,rfl⟩
 have rz:Hid (W.heap[w.heap.size+1+1]?=some (.cells #[.int .i64 0,.int .i64 0] 24)):=by unfold Hid;rw [hW];exact jj
 have HW:Hid (Ok w0 W):=by unfold Hid;rw [hW];exact (by repeat (first | exact hok | refine Ok.alloc ?_ _ | refine Ok.draws ?_ _ | fail))
 rw [<-hW]
 clear hW
 obtain ⟨gz,ez⟩:∃ g,g=w.heap.size+1+1:=⟨_,rfl⟩
 rw [<-ez] at rz ⊢
 have lgz:w0.heap.size<=gz:=by omega
 clear ez
 refine (Jpneg_any al ah W _ (Ok.refl _) ha1 ha2).mono ?_
 rintro e w' ⟨rfl,hb⟩
 have hr:Hid _:=Ok.row' hb rz.out
 obtain ⟨k0,k1,k2,k3⟩:=row_facts hr.out
 go_wp2_with fail
 (try simp only [Exit.inBlock,Exit.then]);refine bodyPost_ret (results_iv rfl _ _ gz 24 #[_,_] (0,0) _ rfl (row_set2 hr.out _ _) Tryz.underlying24 rfl infoI) rfl ?_
 exact ⟨rfl,Ok.set (Ok.set (HW.out.step hb) lgz _) lgz _⟩
set_option maxRecDepth 100000 in
theorem napply_neg (a b:Int×Int×Nat×Nat×Bool) (ha:RawN a) (hb:RawN b) (w0 w:World) (hok:Ok w0 w) :
  Calls Tryz.prog 85 #[.int .i64 1,nv a,nv b] w fun e w'=>e=.returned (.tuple #[nv (ap2 neg2N (normN a) (normN a)),.int .i64 0])/\Ok w0 w':=by
 have hle:=hok.le
 have HU:Hid _:=And.intro ha hb
 obtain ⟨x,hx⟩:∃ x,x=normN a:=⟨_,rfl⟩
 obtain ⟨y,hy⟩:∃ y,y=normN a:=⟨_,rfl⟩
 have RX:Hid (RawN x/\RawN y):=by rw [hx,hy];exact ⟨normN_raw ha,normN_raw ha⟩
 have HX:Hid _:=hx
 have HY:Hid _:=hy
 have HT2:Hid ((Value.tuple #[nv (normN a),nv (normN a)])=.tuple #[nv x,nv y]):=by unfold Hid;rw [hx,hy]
 rw [show ap2 neg2N (normN a) (normN a)=ap2 neg2N x y by rw [hx,hy]]
 clear hx hy ha hb
 unfold nv
 go_enter Tryz.func85,Tryz.ntmps85
 go_wp2_with fail
 obtain ⟨W,hW⟩:∃ W,W=(((w).alloc (.cells #[.bool a.2.2.2.2,.int .i64 a.1,.int .i64 a.2.1,.int .u64 (a.2.2.1:Int),.int .u64 (a.2.2.2.1:Int)] 29)).alloc (.cells #[.bool b.2.2.2.2,.int .i64 b.1,.int .i64 b.2.1,.int .u64 (b.2.2.1:Int),.int .u64 (b.2.2.2.1:Int)] 29)).alloc (.cells #[.bool false,.int .i64 0,.int .i64 0,.int .u64 0,.int .u64 0] 29):=⟨_,rfl⟩
 have ra:Hid (W.heap[w.heap.size]?=some (.cells #[.bool a.2.2.2.2,.int .i64 a.1,.int .i64 a.2.1,.int .u64 (a.2.2.1:Int),.int .u64 (a.2.2.2.1:Int)] 29)):=by unfold Hid;rw [hW];exact jj
 have rb:Hid (W.heap[w.heap.size+1]?=some (.cells #[.bool b.2.2.2.2,.int .i64 b.1,.int .i64 b.2.1,.int .u64 (b.2.2.1:Int),.int .u64 (b.2.2.2.1:Int)] 29)):=by unfold Hid;rw [hW];exact jj
 have rz:Hid (W.heap[w.heap.size+1+1]?=some (.cells #[.bool false,.int .i64 0,.int .i64 0,.int .u64 0,.int .u64 0] 29)):=by unfold Hid;rw [hW];exact jj
 have HW:Hid (Ok w0 W):=by unfold Hid;rw [hW];exact (by repeat (first | exact hok | refine Ok.alloc ?_ _ | refine Ok.draws ?_ _ | fail))
 rw [<-hW]
 clear hW
 obtain ⟨gz,egz⟩:∃ g,g=w.heap.size+1+1:=⟨_,rfl⟩
 rw [<-egz] at rz ⊢
 obtain ⟨gb,egb⟩:∃ g,g=w.heap.size+1:=⟨_,rfl⟩
 rw [<-egb] at rb ⊢
 obtain ⟨ga,ega⟩:∃ g,g=w.heap.size:=⟨_,rfl⟩
 rw [<-ega] at ra ⊢
 have lga:w0.heap.size<=ga:=by omega
 have ngagb:¬ga=gb:=by omega
 have ngagz:¬ga=gz:=by omega
 have lgb:w0.heap.size<=gb:=by omega
 have ngbga:¬gb=ga:=by omega
 have ngbgz:¬gb=gz:=by omega
 have lgz:w0.heap.size<=gz:=by omega
 have ngzga:¬gz=ga:=by omega
 have ngzgb:¬gz=gb:=by omega
 clear ega egb egz
 refine (find_neg W _ (Ok.refl _)).mono ?_
 rintro e w1 ⟨rfl,hb⟩
 replace ra:Hid _:=Ok.row' hb ra.out
 replace rb:Hid _:=Ok.row' hb rb.out
 replace rz:Hid _:=Ok.row' hb rz.out
 have Hw1:Hid (Ok w0 w1):=HW.out.step hb
 clear hb
 obtain ⟨a0,a1,a2,a3,a4,a5,a6,a7,a8,a9⟩:=row5_facts ra.out
 obtain ⟨b0,b1,b2,b3,b4,b5,b6,b7,b8,b9⟩:=row5_facts rb.out
 obtain ⟨k0,k1,k2,k3,k4,k5,k6,k7,k8,k9⟩:=row5_facts rz.out
 have s1:=lt_row ra.out
 have s2:=lt_row rb.out
 have s3:=lt_row rz.out
 have mga1:¬w1.heap.size=ga:=by omega
 have mgb1:¬w1.heap.size=gb:=by omega
 have mgz1:¬w1.heap.size=gz:=by omega
 have mga2:¬ga=w1.heap.size:=by omega
 have mgb2:¬gb=w1.heap.size:=by omega
 have mgz2:¬gz=w1.heap.size:=by omega
 go_wp2_with fail
 obtain ⟨W1,hW1⟩:∃ W,W=w1.alloc (.cells #[.int .i64 1,.bool true,.bool false,.func (.func 201) #[] #[],.func (.func 202) #[] #[]] 142):=⟨_,rfl⟩
 have OY:Ok w1 W1:=by rw [hW1];exact (Ok.refl _).alloc _
 have rr:Hid (W1.heap[w1.heap.size]?=some (.cells #[.int .i64 1,.bool true,.bool false,.func (.func 201) #[] #[],.func (.func 202) #[] #[]] 142)):=by unfold Hid;rw [hW1];exact heap_new0 _ _
 rw [<-hW1]
 have HW1:Hid (Ok w0 W1):=Hw1.out.step OY
 replace ra:Hid _:=Ok.row' OY ra.out
 replace rb:Hid _:=Ok.row' OY rb.out
 replace rz:Hid _:=Ok.row' OY rz.out
 have lgr:w0.heap.size<=w1.heap.size:=Hw1.out.le
 obtain ⟨gr,egr⟩:∃ g,g=w1.heap.size:=⟨_,rfl⟩
 rw [<-egr] at rr mga1 mgb1 mgz1 mga2 mgb2 mgz2 lgr ⊢
 clear hW1 OY egr s1 s2 s3 a0 a1 a2 a3 a4 a5 a6 a7 a8 a9 b0 b1 b2 b3 b4 b5 b6 b7 b8 b9 k0 k1 k2 k3 k4 k5 k6 k7 k8 k9
 refine (opnd_alone 1 a b HU.out.1 HU.out.2 W1 _ (Ok.refl _)).mono ?_
 rintro e w2 ⟨rfl,hb⟩
 replace ra:Hid _:=Ok.row' hb ra.out
 replace rb:Hid _:=Ok.row' hb rb.out
 replace rz:Hid _:=Ok.row' hb rz.out
 replace rr:Hid _:=Ok.row' hb rr.out
 have Hw2:Hid (Ok w0 w2):=HW1.out.step hb
 clear hb
 rw [HT2.out]
 unfold nv
 obtain ⟨a0,a1,a2,a3,a4,a5,a6,a7,a8,a9⟩:=row5_facts ra.out
 obtain ⟨b0,b1,b2,b3,b4,b5,b6,b7,b8,b9⟩:=row5_facts rb.out
 obtain ⟨k0,k1,k2,k3,k4,k5,k6,k7,k8,k9⟩:=row5_facts rz.out
 obtain ⟨p0,p1,p2,p3,p4,p5,p6,p7,p8,p9⟩:=row5_facts rr.out
 cases hxb:x.2.2.2.2
 ·cases hyb:y.2.2.2.2
  ·have HA:Hid (ap2 neg2N x y=neg2N x y):=ap2_some hxb hyb
   obtain ⟨q,hq⟩:∃ q,q=negI x.1 x.2.1:=⟨_,rfl⟩
   obtain ⟨m,hm⟩:∃ m,m=negC x.2.2.1 x.2.2.2.1 q.2.2:=⟨_,rfl⟩
   have IQ:Hid (In64 q.1/\In64 q.2.1):=by rw [hq];exact nneg_in _ _
   have IM:Hid (U64 m.1/\U64 m.2):=by rw [hm];exact nneg_u64 RX.out.1.2.2.1 RX.out.1.2.2.2
   have HF:Hid (neg2N x y=makeN q.1 q.2.1 m.1 m.2):=by unfold Hid;rw [hm,hq];rfl
   have HQ:Hid _:=hq
   have HM:Hid _:=hm
   clear hq hm
   go_wp2_with fail
   obtain ⟨Z,hZ⟩:∃ Z,Z=((((((((((w2.setCell ⟨ga,0,none⟩ (.bool false)).setCell ⟨ga,1,none⟩ (.int .i64 x.1)).setCell ⟨ga,2,none⟩ (.int .i64 x.2.1)).setCell ⟨ga,3,none⟩ (.int .u64 (x.2.2.1:Int))).setCell ⟨ga,4,none⟩ (.int .u64 (x.2.2.2.1:Int))).setCell ⟨gb,0,none⟩ (.bool false)).setCell ⟨gb,1,none⟩ (.int .i64 y.1)).setCell ⟨gb,2,none⟩ (.int .i64 y.2.1)).setCell ⟨gb,3,none⟩ (.int .u64 (y.2.2.1:Int))).setCell ⟨gb,4,none⟩ (.int .u64 (y.2.2.2.1:Int))):=⟨_,rfl⟩
   obtain ⟨HZ,raz,rbz,keep⟩:=(rows_put2 (g:=ga) (k:=gb) (by omega) ra.out rb.out (Ok.refl w2) Hw2.out (by omega) (by omega) (.bool false) (.int .i64 x.1) (.int .i64 x.2.1) (.int .u64 (x.2.2.1:Int)) (.int .u64 (x.2.2.2.1:Int)) (.bool false) (.int .i64 y.1) (.int .i64 y.2.1) (.int .u64 (y.2.2.1:Int)) (.int .u64 (y.2.2.2.1:Int))).out
   rw [<-hZ] at HZ raz rbz keep
   replace HZ:Hid (Ok w0 Z):=HZ
   replace raz:Hid _:=raz
   replace rbz:Hid _:=rbz
   replace rz:Hid _:=keep _ _ (by omega) (by omega) rz.out
   replace rr:Hid _:=keep _ _ (by omega) (by omega) rr.out
   rw [<-hZ]
   clear hZ keep ra rb
   clear a0 a1 a2 a3 a4 a5 a6 a7 a8 a9 b0 b1 b2 b3 b4 b5 b6 b7 b8 b9 k0 k1 k2 k3 k4 k5 k6 k7 k8 k9 p0 p1 p2 p3 p4 p5 p6 p7 p8 p9
   refine (nnegI_any _ _ _ _ Z _ (Ok.refl _) RX.out.1.1 RX.out.1.2.1 RX.out.2.1 RX.out.2.2.1).mono ?_
   rintro e w3 ⟨rfl,hb⟩
   rw [<-HQ.out]
   replace raz:Hid _:=Ok.row' hb raz.out
   replace rbz:Hid _:=Ok.row' hb rbz.out
   replace rz:Hid _:=Ok.row' hb rz.out
   replace rr:Hid _:=Ok.row' hb rr.out
   have Hw3:Hid (Ok w0 w3):=HZ.out.step hb
   clear hb
   obtain ⟨a0,a1,a2,a3,a4,a5,a6,a7,a8,a9⟩:=row5_facts raz.out
   obtain ⟨b0,b1,b2,b3,b4,b5,b6,b7,b8,b9⟩:=row5_facts rbz.out
   obtain ⟨k0,k1,k2,k3,k4,k5,k6,k7,k8,k9⟩:=row5_facts rz.out
   obtain ⟨p0,p1,p2,p3,p4,p5,p6,p7,p8,p9⟩:=row5_facts rr.out
   have s1:=lt_row raz.out
   have s2:=lt_row rbz.out
   have s3:=lt_row rz.out
   have s4:=lt_row rr.out
   have vga1:¬w3.heap.size=ga:=by omega
   have vgb1:¬w3.heap.size=gb:=by omega
   have vgz1:¬w3.heap.size=gz:=by omega
   have vgr1:¬w3.heap.size=gr:=by omega
   have vga2:¬ga=w3.heap.size:=by omega
   have vgb2:¬gb=w3.heap.size:=by omega
   have vgz2:¬gz=w3.heap.size:=by omega
   have vgr2:¬gr=w3.heap.size:=by omega
   go_wp2_with fail
   obtain ⟨Y0,hY0⟩:∃ W,W=w3.alloc (.cells #[.int .i64 q.1,.int .i64 q.2.1] 24):=⟨_,rfl⟩
   have OY:Ok w3 Y0:=by rw [hY0];exact (Ok.refl _).alloc _
   have rc:Hid (Y0.heap[w3.heap.size]?=some (.cells #[.int .i64 q.1,.int .i64 q.2.1] 24)):=by unfold Hid;rw [hY0];exact heap_new0 _ _
   rw [<-hY0]
   have HY0:Hid (Ok w0 Y0):=Hw3.out.step OY
   replace raz:Hid _:=Ok.row' OY raz.out
   replace rbz:Hid _:=Ok.row' OY rbz.out
   replace rz:Hid _:=Ok.row' OY rz.out
   replace rr:Hid _:=Ok.row' OY rr.out
   obtain ⟨gc,egc⟩:∃ g,g=w3.heap.size:=⟨_,rfl⟩
   rw [<-egc] at rc vga1 vgb1 vgz1 vgr1 vga2 vgb2 vgz2 vgr2 ⊢
   clear hY0 OY egc s1 s2 s3 s4
   clear a0 a1 a2 a3 a4 a5 a6 a7 a8 a9 b0 b1 b2 b3 b4 b5 b6 b7 b8 b9 k0 k1 k2 k3 k4 k5 k6 k7 k8 k9 p0 p1 p2 p3 p4 p5 p6 p7 p8 p9
   obtain ⟨a0,a1,a2,a3,a4,a5,a6,a7,a8,a9⟩:=row5_facts raz.out
   obtain ⟨b0,b1,b2,b3,b4,b5,b6,b7,b8,b9⟩:=row5_facts rbz.out
   obtain ⟨k0,k1,k2,k3,k4,k5,k6,k7,k8,k9⟩:=row5_facts rz.out
   obtain ⟨c0,c1,c2,c3⟩:=row_facts rc.out
   obtain ⟨p0,p1,p2,p3,p4,p5,p6,p7,p8,p9⟩:=row5_facts rr.out
   have za:=lt_row raz.out
   have zb:=lt_row rbz.out
   have zc:=lt_row rc.out
   have zr:=lt_row rr.out
   have bz:Ok Y0 Y0:=Ok.refl _
   go_region_held3 (fun w'=>w'.cell? ⟨ga,3,none⟩=some (.int .u64 (x.2.2.1:Int))/\w'.cell? ⟨ga,4,none⟩=some (.int .u64 (x.2.2.2.1:Int))/\w'.cell? ⟨gb,3,none⟩=some (.int .u64 (y.2.2.1:Int))/\w'.cell? ⟨gb,4,none⟩=some (.int .u64 (y.2.2.2.1:Int))/\w'.cell? ⟨gc,0,none⟩=some (.int .i64 q.1)/\w'.cell? ⟨gc,1,none⟩=some (.int .i64 q.2.1)/\w'.cell? ⟨gr,4,none⟩=some (.func (.func 202) #[] #[])) (go_keep)
    (first
    | (go_at_call 202;refine (nnegC_any _ _ _ _ _ RX.out.1.2.2.1 RX.out.1.2.2.2 RX.out.2.2.2.1 RX.out.2.2.2.2 Y0 _ (by repeat (first | assumption | refine Ok.alloc ?_ _ | refine Below.drew ?_))).mono ?_;rintro e w' ⟨rfl,hb⟩;rw [<-HM.out];unfold cv;have q0:=Ok.cell hb za a3;have q1:=Ok.cell hb za a4;have q2:=Ok.cell hb zb b3;have q3:=Ok.cell hb zb b4;have q4:=Ok.cell hb zc c0;have q5:=Ok.cell hb zc c1;have q6:=Ok.cell hb zr p4;obtain ⟨k0,k1,k2,k3,k4,k5,k6,k7,k8,k9⟩:=row5_facts (Ok.row' hb rz.out))
    | (go_at_call 19;refine (nmake_any _ _ _ _ IQ.out.1 IQ.out.2 IM.out.1 IM.out.2 Y0 _ (by repeat (first | assumption | refine Ok.alloc ?_ _ | refine Below.drew ?_))).mono ?_;rintro e w' ⟨rfl,hb⟩;rw [<-HF.out,<-HA.out];unfold nv;have q0:=Ok.cell hb za a3;have q1:=Ok.cell hb za a4;have q2:=Ok.cell hb zb b3;have q3:=Ok.cell hb zb b4;have q4:=Ok.cell hb zc c0;have q5:=Ok.cell hb zc c1;have q6:=Ok.cell hb zr p4;obtain ⟨k0,k1,k2,k3,k4,k5,k6,k7,k8,k9⟩:=row5_facts (Ok.row' hb rz.out))
    | fail)
   go_wp2_with fail
   have hr:Hid _:=Ok.row' hb rz.out
   (try simp only [Exit.inBlock, Exit.then]); refine bodyPost_ret (results_iv rfl _ _ (gz) 29 #[_, _, _, _, _] (0, 0) _ rfl (row_set5 hr.out _ _ _ _ _) Tryz.underlying29 rfl infoN) rfl ?_
   exact ⟨rfl,Ok.set (Ok.set (Ok.set (Ok.set (Ok.set (HY0.out.step hb) (show w0.heap.size<=gz by omega) _) (show w0.heap.size<=gz by omega) _) (show w0.heap.size<=gz by omega) _) (show w0.heap.size<=gz by omega) _) (show w0.heap.size<=gz by omega) _⟩
  ·have HA:Hid (ap2 neg2N x y=botN):=ap2_right hyb
   go_wp2_with fail
   obtain ⟨Z,hZ⟩:∃ Z,Z=((((((((((w2.setCell ⟨ga,0,none⟩ (.bool false)).setCell ⟨ga,1,none⟩ (.int .i64 x.1)).setCell ⟨ga,2,none⟩ (.int .i64 x.2.1)).setCell ⟨ga,3,none⟩ (.int .u64 (x.2.2.1:Int))).setCell ⟨ga,4,none⟩ (.int .u64 (x.2.2.2.1:Int))).setCell ⟨gb,0,none⟩ (.bool true)).setCell ⟨gb,1,none⟩ (.int .i64 y.1)).setCell ⟨gb,2,none⟩ (.int .i64 y.2.1)).setCell ⟨gb,3,none⟩ (.int .u64 (y.2.2.1:Int))).setCell ⟨gb,4,none⟩ (.int .u64 (y.2.2.2.1:Int))):=⟨_,rfl⟩
   obtain ⟨HZ,raz,rbz,keep⟩:=(rows_put2 (g:=ga) (k:=gb) (by omega) ra.out rb.out (Ok.refl w2) Hw2.out (by omega) (by omega) (.bool false) (.int .i64 x.1) (.int .i64 x.2.1) (.int .u64 (x.2.2.1:Int)) (.int .u64 (x.2.2.2.1:Int)) (.bool true) (.int .i64 y.1) (.int .i64 y.2.1) (.int .u64 (y.2.2.1:Int)) (.int .u64 (y.2.2.2.1:Int))).out
   rw [<-hZ] at HZ raz rbz keep
   replace HZ:Hid (Ok w0 Z):=HZ
   replace raz:Hid _:=raz
   replace rbz:Hid _:=rbz
   replace rz:Hid _:=keep _ _ (by omega) (by omega) rz.out
   replace rr:Hid _:=keep _ _ (by omega) (by omega) rr.out
   rw [<-hZ]
   clear hZ keep ra rb
   clear a0 a1 a2 a3 a4 a5 a6 a7 a8 a9 b0 b1 b2 b3 b4 b5 b6 b7 b8 b9 k0 k1 k2 k3 k4 k5 k6 k7 k8 k9 p0 p1 p2 p3 p4 p5 p6 p7 p8 p9
   refine (nbot_any Z _ (Ok.refl _)).mono ?_
   rintro e w3 ⟨rfl,hb⟩
   unfold nv botN
   replace rz:Hid _:=Ok.row' hb rz.out
   have Hw3:Hid (Ok w0 w3):=HZ.out.step hb
   clear hb
   obtain ⟨k0,k1,k2,k3,k4,k5,k6,k7,k8,k9⟩:=row5_facts rz.out
   have hr:Hid _:=rz
   go_wp2_with fail
   (try simp only [Exit.inBlock, Exit.then]); refine bodyPost_ret (results_iv rfl _ _ (gz) 29 #[_, _, _, _, _] (0, 0) _ rfl (row_set5 hr.out _ _ _ _ _) Tryz.underlying29 rfl infoN) rfl ?_
   exact ⟨by rw [HA.out];rfl,Ok.set (Ok.set (Ok.set (Ok.set (Ok.set (Hw3.out) (show w0.heap.size<=gz by omega) _) (show w0.heap.size<=gz by omega) _) (show w0.heap.size<=gz by omega) _) (show w0.heap.size<=gz by omega) _) (show w0.heap.size<=gz by omega) _⟩
 ·have HA:Hid (ap2 neg2N x y=botN):=ap2_left hxb
  go_wp2_with fail
  obtain ⟨Z,hZ⟩:∃ Z,Z=((((((((((w2.setCell ⟨ga,0,none⟩ (.bool true)).setCell ⟨ga,1,none⟩ (.int .i64 x.1)).setCell ⟨ga,2,none⟩ (.int .i64 x.2.1)).setCell ⟨ga,3,none⟩ (.int .u64 (x.2.2.1:Int))).setCell ⟨ga,4,none⟩ (.int .u64 (x.2.2.2.1:Int))).setCell ⟨gb,0,none⟩ (.bool y.2.2.2.2)).setCell ⟨gb,1,none⟩ (.int .i64 y.1)).setCell ⟨gb,2,none⟩ (.int .i64 y.2.1)).setCell ⟨gb,3,none⟩ (.int .u64 (y.2.2.1:Int))).setCell ⟨gb,4,none⟩ (.int .u64 (y.2.2.2.1:Int))):=⟨_,rfl⟩
  obtain ⟨HZ,raz,rbz,keep⟩:=(rows_put2 (g:=ga) (k:=gb) (by omega) ra.out rb.out (Ok.refl w2) Hw2.out (by omega) (by omega) (.bool true) (.int .i64 x.1) (.int .i64 x.2.1) (.int .u64 (x.2.2.1:Int)) (.int .u64 (x.2.2.2.1:Int)) (.bool y.2.2.2.2) (.int .i64 y.1) (.int .i64 y.2.1) (.int .u64 (y.2.2.1:Int)) (.int .u64 (y.2.2.2.1:Int))).out
  rw [<-hZ] at HZ raz rbz keep
  replace HZ:Hid (Ok w0 Z):=HZ
  replace raz:Hid _:=raz
  replace rbz:Hid _:=rbz
  replace rz:Hid _:=keep _ _ (by omega) (by omega) rz.out
  replace rr:Hid _:=keep _ _ (by omega) (by omega) rr.out
  rw [<-hZ]
  clear hZ keep ra rb
  clear a0 a1 a2 a3 a4 a5 a6 a7 a8 a9 b0 b1 b2 b3 b4 b5 b6 b7 b8 b9 k0 k1 k2 k3 k4 k5 k6 k7 k8 k9 p0 p1 p2 p3 p4 p5 p6 p7 p8 p9
  refine (nbot_any Z _ (Ok.refl _)).mono ?_
  rintro e w3 ⟨rfl,hb⟩
  unfold nv botN
  replace rz:Hid _:=Ok.row' hb rz.out
  have Hw3:Hid (Ok w0 w3):=HZ.out.step hb
  clear hb
  obtain ⟨k0,k1,k2,k3,k4,k5,k6,k7,k8,k9⟩:=row5_facts rz.out
  have hr:Hid _:=rz
  go_wp2_with fail
  (try simp only [Exit.inBlock, Exit.then]); refine bodyPost_ret (results_iv rfl _ _ (gz) 29 #[_, _, _, _, _] (0, 0) _ rfl (row_set5 hr.out _ _ _ _ _) Tryz.underlying29 rfl infoN) rfl ?_
  exact ⟨by rw [HA.out];rfl,Ok.set (Ok.set (Ok.set (Ok.set (Ok.set (Hw3.out) (show w0.heap.size<=gz by omega) _) (show w0.heap.size<=gz by omega) _) (show w0.heap.size<=gz by omega) _) (show w0.heap.size<=gz by omega) _) (show w0.heap.size<=gz by omega) _⟩
end
end Go.Proofs.YtnjmjnmhldhaoaaGreat
