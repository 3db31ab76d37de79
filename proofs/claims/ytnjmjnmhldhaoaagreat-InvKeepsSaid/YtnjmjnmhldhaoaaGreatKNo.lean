import Derived.Test.YtnjmjnmhldhaoaaGreatKNm
set_option maxHeartbeats 8000000
set_option linter.all false
namespace Go.Proofs.YtnjmjnmhldhaoaaGreat
open Go.RowKit
set_option maxRecDepth 100000 in
theorem opnd_two (op:Int) (a b:Int×Int×Nat×Nat×Bool) (ha:RawN a) (hb:RawN b) (w0 w:World) (hok:Ok w0 w) :
  Calls Tryz.prog 156 #[.agg #[.int .i64 op,.bool false,.bool false],nv a,nv b] w fun e w'=>e=.returned (.tuple #[nv (normN a),nv (normN b)])/\Ok w0 w':=by
 have hle:=hok.le
 have HU:Hid _:=And.intro ha hb
 clear ha hb
 obtain ⟨x,hx⟩:∃ x,x=normN a:=⟨_,rfl⟩
 have HX:Hid _:=hx
 obtain ⟨y,hy⟩:∃ y,y=normN b:=⟨_,rfl⟩
 have HY:Hid _:=hy
 rw [<-hx,<-hy]
 clear hx hy
 unfold nv
 go_enter Tryz.func156,Tryz.ntmps156
 go_wp2_with fail
 obtain ⟨W,hW⟩:∃ W,W=(((((w).alloc (.cells #[.int .i64 op,.bool false,.bool false] 140)).alloc (.cells #[.bool a.2.2.2.2,.int .i64 a.1,.int .i64 a.2.1,.int .u64 (a.2.2.1:Int),.int .u64 (a.2.2.2.1:Int)] 29)).alloc (.cells #[.bool b.2.2.2.2,.int .i64 b.1,.int .i64 b.2.1,.int .u64 (b.2.2.1:Int),.int .u64 (b.2.2.2.1:Int)] 29)).alloc (.cells #[.bool false,.int .i64 0,.int .i64 0,.int .u64 0,.int .u64 0] 29)).alloc (.cells #[.bool false,.int .i64 0,.int .i64 0,.int .u64 0,.int .u64 0] 29):=⟨_,rfl⟩
 have rs:Hid (W.heap[w.heap.size]?=some (.cells #[.int .i64 op,.bool false,.bool false] 140)):=by unfold Hid;rw [hW];exact jj
 have ra:Hid (W.heap[w.heap.size+1]?=some (.cells #[.bool a.2.2.2.2,.int .i64 a.1,.int .i64 a.2.1,.int .u64 (a.2.2.1:Int),.int .u64 (a.2.2.2.1:Int)] 29)):=by unfold Hid;rw [hW];exact jj
 have rb:Hid (W.heap[w.heap.size+1+1]?=some (.cells #[.bool b.2.2.2.2,.int .i64 b.1,.int .i64 b.2.1,.int .u64 (b.2.2.1:Int),.int .u64 (b.2.2.2.1:Int)] 29)):=by unfold Hid;rw [hW];exact jj
 have r1:Hid (W.heap[w.heap.size+1+1+1]?=some (.cells #[.bool false,.int .i64 0,.int .i64 0,.int .u64 0,.int .u64 0] 29)):=by unfold Hid;rw [hW];exact jj
 have r2:Hid (W.heap[w.heap.size+1+1+1+1]?=some (.cells #[.bool false,.int .i64 0,.int .i64 0,.int .u64 0,.int .u64 0] 29)):=by unfold Hid;rw [hW];exact jj
 have HW:Hid (Ok w0 W):=by unfold Hid;rw [hW];exact (by repeat (first | exact hok | refine Ok.alloc ?_ _ | refine Ok.draws ?_ _ | fail))
 rw [<-hW]
 clear hW
 obtain ⟨g2,eg2⟩:∃ g,g=w.heap.size+1+1+1+1:=⟨_,rfl⟩
 rw [<-eg2] at r2 ⊢
 obtain ⟨g1,eg1⟩:∃ g,g=w.heap.size+1+1+1:=⟨_,rfl⟩
 rw [<-eg1] at r1 ⊢
 obtain ⟨gb,egb⟩:∃ g,g=w.heap.size+1+1:=⟨_,rfl⟩
 rw [<-egb] at rb ⊢
 obtain ⟨ga,ega⟩:∃ g,g=w.heap.size+1:=⟨_,rfl⟩
 rw [<-ega] at ra ⊢
 obtain ⟨gs,egs⟩:∃ g,g=w.heap.size:=⟨_,rfl⟩
 rw [<-egs] at rs ⊢
 have lgs:w0.heap.size<=gs:=by omega
 have ngsga:¬gs=ga:=by omega
 have ngsgb:¬gs=gb:=by omega
 have ngsg1:¬gs=g1:=by omega
 have ngsg2:¬gs=g2:=by omega
 have lga:w0.heap.size<=ga:=by omega
 have ngags:¬ga=gs:=by omega
 have ngagb:¬ga=gb:=by omega
 have ngag1:¬ga=g1:=by omega
 have ngag2:¬ga=g2:=by omega
 have lgb:w0.heap.size<=gb:=by omega
 have ngbgs:¬gb=gs:=by omega
 have ngbga:¬gb=ga:=by omega
 have ngbg1:¬gb=g1:=by omega
 have ngbg2:¬gb=g2:=by omega
 have lg1:w0.heap.size<=g1:=by omega
 have ng1gs:¬g1=gs:=by omega
 have ng1ga:¬g1=ga:=by omega
 have ng1gb:¬g1=gb:=by omega
 have ng1g2:¬g1=g2:=by omega
 have lg2:w0.heap.size<=g2:=by omega
 have ng2gs:¬g2=gs:=by omega
 have ng2ga:¬g2=ga:=by omega
 have ng2gb:¬g2=gb:=by omega
 have ng2g1:¬g2=g1:=by omega
 clear egs ega egb eg1 eg2
 refine (nnorm_any a HU.out.1 W _ (by repeat (first | exact Ok.refl _ | refine Ok.alloc ?_ _ | refine Ok.draws ?_ _ | fail))).mono ?_
 rintro e w1 ⟨rfl,hb⟩
 replace rs:Hid _:=Ok.row' hb rs.out
 replace ra:Hid _:=Ok.row' hb ra.out
 replace rb:Hid _:=Ok.row' hb rb.out
 replace r1:Hid _:=Ok.row' hb r1.out
 replace r2:Hid _:=Ok.row' hb r2.out
 have Hw1:Hid (Ok w0 w1):=HW.out.step hb
 clear hb
 rw [<-HX.out]
 unfold nv
 obtain ⟨a0,a1,a2,a3,a4,a5,a6,a7,a8,a9⟩:=row5_facts ra.out
 obtain ⟨s0,s1,s2,s3,s4,s5⟩:=row3_facts rs.out
 obtain ⟨b0,b1,b2,b3,b4,b5,b6,b7,b8,b9⟩:=row5_facts rb.out
 go_wp2_with fail
 obtain ⟨Z,hZ⟩:∃ Z,Z=(((((w1.setCell ⟨ga,0,none⟩ (.bool x.2.2.2.2)).setCell ⟨ga,1,none⟩ (.int .i64 x.1)).setCell ⟨ga,2,none⟩ (.int .i64 x.2.1)).setCell ⟨ga,3,none⟩ (.int .u64 (x.2.2.1:Int))).setCell ⟨ga,4,none⟩ (.int .u64 (x.2.2.2.1:Int))):=⟨_,rfl⟩
 obtain ⟨HZ,raz,keep⟩:=(rows_put1 ra.out Hw1.out (by omega) _ _ _ _ _ hZ).out
 replace HZ:Hid (Ok w0 Z):=HZ
 replace raz:Hid _:=raz
 replace rs:Hid _:=keep _ _ (by omega) rs.out
 replace rb:Hid _:=keep _ _ (by omega) rb.out
 replace r1:Hid _:=keep _ _ (by omega) r1.out
 replace r2:Hid _:=keep _ _ (by omega) r2.out
 rw [<-hZ]
 clear hZ keep ra
 clear a0 a1 a2 a3 a4 a5 a6 a7 a8 a9 b0 b1 b2 b3 b4 b5 b6 b7 b8 b9 s0 s1 s2 s3 s4 s5
 obtain ⟨a0,a1,a2,a3,a4,a5,a6,a7,a8,a9⟩:=row5_facts raz.out
 obtain ⟨b0,b1,b2,b3,b4,b5,b6,b7,b8,b9⟩:=row5_facts rb.out
 obtain ⟨p0,p1,p2,p3,p4,p5,p6,p7,p8,p9⟩:=row5_facts r1.out
 obtain ⟨q0,q1,q2,q3,q4,q5,q6,q7,q8,q9⟩:=row5_facts r2.out
 have za:=lt_row raz.out
 have zb:=lt_row rb.out
 have bz:Ok Z Z:=Ok.refl _
 go_region_held3 (fun w'=>w'.cell? ⟨ga,0,none⟩=some (.bool x.2.2.2.2)/\w'.cell? ⟨ga,1,none⟩=some (.int .i64 x.1)/\w'.cell? ⟨ga,2,none⟩=some (.int .i64 x.2.1)/\w'.cell? ⟨ga,3,none⟩=some (.int .u64 (x.2.2.1:Int))/\w'.cell? ⟨ga,4,none⟩=some (.int .u64 (x.2.2.2.1:Int))/\w'.cell? ⟨gb,0,none⟩=some (.bool b.2.2.2.2)/\w'.cell? ⟨gb,1,none⟩=some (.int .i64 b.1)/\w'.cell? ⟨gb,2,none⟩=some (.int .i64 b.2.1)/\w'.cell? ⟨gb,3,none⟩=some (.int .u64 (b.2.2.1:Int))/\w'.cell? ⟨gb,4,none⟩=some (.int .u64 (b.2.2.2.1:Int))) (go_keep)
  (first
  | (go_at_call 7;refine (nnorm_any b HU.out.2 Z _ (by repeat (first | assumption | refine Ok.alloc ?_ _ | refine Below.drew ?_))).mono ?_;rintro e w' ⟨rfl,hb⟩;rw [<-HY.out];unfold nv;have q0:=Ok.cell hb za a0;have q1:=Ok.cell hb za a1;have q2:=Ok.cell hb za a2;have q3:=Ok.cell hb za a3;have q4:=Ok.cell hb za a4;have q5:=Ok.cell hb zb b0;have q6:=Ok.cell hb zb b1;have q7:=Ok.cell hb zb b2;have q8:=Ok.cell hb zb b3;have q9:=Ok.cell hb zb b4;obtain ⟨p0,p1,p2,p3,p4,p5,p6,p7,p8,p9⟩:=row5_facts (Ok.row' hb r1.out);obtain ⟨q0,q1,q2,q3,q4,q5,q6,q7,q8,q9⟩:=row5_facts (Ok.row' hb r2.out))
  | fail)
 go_wp2_with fail
 (try simp only [Exit.inBlock,Exit.then]);refine bodyPost_ret (results_2c rfl _ _ g1 g2 29 #[_,_,_,_,_] #[_,_,_,_,_] (0,0) _ rfl rfl (rows_put2 (g:=g1) (k:=g2) (by omega) r1.out r2.out hb HZ.out (by omega) (by omega) _ _ _ _ _ _ _ _ _ _).out.2.1 (rows_put2 (g:=g1) (k:=g2) (by omega) r1.out r2.out hb HZ.out (by omega) (by omega) _ _ _ _ _ _ _ _ _ _).out.2.2.1 Tryz.underlying29 rfl infoN infoN) rfl ?_
 exact ⟨rfl,(rows_put2 (g:=g1) (k:=g2) (by omega) r1.out r2.out hb HZ.out (by omega) (by omega) _ _ _ _ _ _ _ _ _ _).out.1⟩
set_option maxRecDepth 100000 in
theorem opnd_div (op:Int) (a b:Int×Int×Nat×Nat×Bool) (ha:RawN a) (hb:RawN b) (w0 w:World) (hok:Ok w0 w) :
  Calls Tryz.prog 156 #[.agg #[.int .i64 op,.bool false,.bool true],nv a,nv b] w fun e w'=>e=.returned (.tuple #[nv (normN a),nv (nonZeroN b)])/\Ok w0 w':=by
 have hle:=hok.le
 have HU:Hid _:=And.intro ha hb
 clear ha hb
 obtain ⟨x,hx⟩:∃ x,x=normN a:=⟨_,rfl⟩
 have HX:Hid _:=hx
 obtain ⟨y,hy⟩:∃ y,y=nonZeroN b:=⟨_,rfl⟩
 have HY:Hid _:=hy
 rw [<-hx,<-hy]
 clear hx hy
 unfold nv
 go_enter Tryz.func156,Tryz.ntmps156
 go_wp2_with fail
 obtain ⟨W,hW⟩:∃ W,W=(((((w).alloc (.cells #[.int .i64 op,.bool false,.bool true] 140)).alloc (.cells #[.bool a.2.2.2.2,.int .i64 a.1,.int .i64 a.2.1,.int .u64 (a.2.2.1:Int),.int .u64 (a.2.2.2.1:Int)] 29)).alloc (.cells #[.bool b.2.2.2.2,.int .i64 b.1,.int .i64 b.2.1,.int .u64 (b.2.2.1:Int),.int .u64 (b.2.2.2.1:Int)] 29)).alloc (.cells #[.bool false,.int .i64 0,.int .i64 0,.int .u64 0,.int .u64 0] 29)).alloc (.cells #[.bool false,.int .i64 0,.int .i64 0,.int .u64 0,.int .u64 0] 29):=⟨_,rfl⟩
 have rs:Hid (W.heap[w.heap.size]?=some (.cells #[.int .i64 op,.bool false,.bool true] 140)):=by unfold Hid;rw [hW];exact jj
 have ra:Hid (W.heap[w.heap.size+1]?=some (.cells #[.bool a.2.2.2.2,.int .i64 a.1,.int .i64 a.2.1,.int .u64 (a.2.2.1:Int),.int .u64 (a.2.2.2.1:Int)] 29)):=by unfold Hid;rw [hW];exact jj
 have rb:Hid (W.heap[w.heap.size+1+1]?=some (.cells #[.bool b.2.2.2.2,.int .i64 b.1,.int .i64 b.2.1,.int .u64 (b.2.2.1:Int),.int .u64 (b.2.2.2.1:Int)] 29)):=by unfold Hid;rw [hW];exact jj
 have r1:Hid (W.heap[w.heap.size+1+1+1]?=some (.cells #[.bool false,.int .i64 0,.int .i64 0,.int .u64 0,.int .u64 0] 29)):=by unfold Hid;rw [hW];exact jj
 have r2:Hid (W.heap[w.heap.size+1+1+1+1]?=some (.cells #[.bool false,.int .i64 0,.int .i64 0,.int .u64 0,.int .u64 0] 29)):=by unfold Hid;rw [hW];exact jj
 have HW:Hid (Ok w0 W):=by unfold Hid;rw [hW];exact (by repeat (first | exact hok | refine Ok.alloc ?_ _ | refine Ok.draws ?_ _ | fail))
 rw [<-hW]
 clear hW
 obtain ⟨g2,eg2⟩:∃ g,g=w.heap.size+1+1+1+1:=⟨_,rfl⟩
 rw [<-eg2] at r2 ⊢
 obtain ⟨g1,eg1⟩:∃ g,g=w.heap.size+1+1+1:=⟨_,rfl⟩
 rw [<-eg1] at r1 ⊢
 obtain ⟨gb,egb⟩:∃ g,g=w.heap.size+1+1:=⟨_,rfl⟩
 rw [<-egb] at rb ⊢
 obtain ⟨ga,ega⟩:∃ g,g=w.heap.size+1:=⟨_,rfl⟩
 rw [<-ega] at ra ⊢
 obtain ⟨gs,egs⟩:∃ g,g=w.heap.size:=⟨_,rfl⟩
 rw [<-egs] at rs ⊢
 have lgs:w0.heap.size<=gs:=by omega
 have ngsga:¬gs=ga:=by omega
 have ngsgb:¬gs=gb:=by omega
 have ngsg1:¬gs=g1:=by omega
 have ngsg2:¬gs=g2:=by omega
 have lga:w0.heap.size<=ga:=by omega
 have ngags:¬ga=gs:=by omega
 have ngagb:¬ga=gb:=by omega
 have ngag1:¬ga=g1:=by omega
 have ngag2:¬ga=g2:=by omega
 have lgb:w0.heap.size<=gb:=by omega
 have ngbgs:¬gb=gs:=by omega
 have ngbga:¬gb=ga:=by omega
 have ngbg1:¬gb=g1:=by omega
 have ngbg2:¬gb=g2:=by omega
 have lg1:w0.heap.size<=g1:=by omega
 have ng1gs:¬g1=gs:=by omega
 have ng1ga:¬g1=ga:=by omega
 have ng1gb:¬g1=gb:=by omega
 have ng1g2:¬g1=g2:=by omega
 have lg2:w0.heap.size<=g2:=by omega
 have ng2gs:¬g2=gs:=by omega
 have ng2ga:¬g2=ga:=by omega
 have ng2gb:¬g2=gb:=by omega
 have ng2g1:¬g2=g1:=by omega
 clear egs ega egb eg1 eg2
 refine (nnorm_any a HU.out.1 W _ (by repeat (first | exact Ok.refl _ | refine Ok.alloc ?_ _ | refine Ok.draws ?_ _ | fail))).mono ?_
 rintro e w1 ⟨rfl,hb⟩
 replace rs:Hid _:=Ok.row' hb rs.out
 replace ra:Hid _:=Ok.row' hb ra.out
 replace rb:Hid _:=Ok.row' hb rb.out
 replace r1:Hid _:=Ok.row' hb r1.out
 replace r2:Hid _:=Ok.row' hb r2.out
 have Hw1:Hid (Ok w0 w1):=HW.out.step hb
 clear hb
 rw [<-HX.out]
 unfold nv
 obtain ⟨a0,a1,a2,a3,a4,a5,a6,a7,a8,a9⟩:=row5_facts ra.out
 obtain ⟨s0,s1,s2,s3,s4,s5⟩:=row3_facts rs.out
 obtain ⟨b0,b1,b2,b3,b4,b5,b6,b7,b8,b9⟩:=row5_facts rb.out
 go_wp2_with fail
 obtain ⟨Z,hZ⟩:∃ Z,Z=(((((w1.setCell ⟨ga,0,none⟩ (.bool x.2.2.2.2)).setCell ⟨ga,1,none⟩ (.int .i64 x.1)).setCell ⟨ga,2,none⟩ (.int .i64 x.2.1)).setCell ⟨ga,3,none⟩ (.int .u64 (x.2.2.1:Int))).setCell ⟨ga,4,none⟩ (.int .u64 (x.2.2.2.1:Int))):=⟨_,rfl⟩
 obtain ⟨HZ,raz,keep⟩:=(rows_put1 ra.out Hw1.out (by omega) _ _ _ _ _ hZ).out
 replace HZ:Hid (Ok w0 Z):=HZ
 replace raz:Hid _:=raz
 replace rs:Hid _:=keep _ _ (by omega) rs.out
 replace rb:Hid _:=keep _ _ (by omega) rb.out
 replace r1:Hid _:=keep _ _ (by omega) r1.out
 replace r2:Hid _:=keep _ _ (by omega) r2.out
 rw [<-hZ]
 clear hZ keep ra
 clear a0 a1 a2 a3 a4 a5 a6 a7 a8 a9 b0 b1 b2 b3 b4 b5 b6 b7 b8 b9 s0 s1 s2 s3 s4 s5
 obtain ⟨a0,a1,a2,a3,a4,a5,a6,a7,a8,a9⟩:=row5_facts raz.out
 obtain ⟨b0,b1,b2,b3,b4,b5,b6,b7,b8,b9⟩:=row5_facts rb.out
 obtain ⟨p0,p1,p2,p3,p4,p5,p6,p7,p8,p9⟩:=row5_facts r1.out
 obtain ⟨q0,q1,q2,q3,q4,q5,q6,q7,q8,q9⟩:=row5_facts r2.out
 have za:=lt_row raz.out
 have zb:=lt_row rb.out
 have bz:Ok Z Z:=Ok.refl _
 go_region_held3 (fun w'=>w'.cell? ⟨ga,0,none⟩=some (.bool x.2.2.2.2)/\w'.cell? ⟨ga,1,none⟩=some (.int .i64 x.1)/\w'.cell? ⟨ga,2,none⟩=some (.int .i64 x.2.1)/\w'.cell? ⟨ga,3,none⟩=some (.int .u64 (x.2.2.1:Int))/\w'.cell? ⟨ga,4,none⟩=some (.int .u64 (x.2.2.2.1:Int))/\w'.cell? ⟨gb,0,none⟩=some (.bool b.2.2.2.2)/\w'.cell? ⟨gb,1,none⟩=some (.int .i64 b.1)/\w'.cell? ⟨gb,2,none⟩=some (.int .i64 b.2.1)/\w'.cell? ⟨gb,3,none⟩=some (.int .u64 (b.2.2.1:Int))/\w'.cell? ⟨gb,4,none⟩=some (.int .u64 (b.2.2.2.1:Int))) (go_keep)
  (first
  | (go_at_call 50;refine (nnz_any b HU.out.2 Z _ (by repeat (first | assumption | refine Ok.alloc ?_ _ | refine Below.drew ?_))).mono ?_;rintro e w' ⟨rfl,hb⟩;rw [<-HY.out];unfold nv;have q0:=Ok.cell hb za a0;have q1:=Ok.cell hb za a1;have q2:=Ok.cell hb za a2;have q3:=Ok.cell hb za a3;have q4:=Ok.cell hb za a4;have q5:=Ok.cell hb zb b0;have q6:=Ok.cell hb zb b1;have q7:=Ok.cell hb zb b2;have q8:=Ok.cell hb zb b3;have q9:=Ok.cell hb zb b4;obtain ⟨p0,p1,p2,p3,p4,p5,p6,p7,p8,p9⟩:=row5_facts (Ok.row' hb r1.out);obtain ⟨q0,q1,q2,q3,q4,q5,q6,q7,q8,q9⟩:=row5_facts (Ok.row' hb r2.out))
  | fail)
 go_wp2_with fail
 (try simp only [Exit.inBlock,Exit.then]);refine bodyPost_ret (results_2c rfl _ _ g1 g2 29 #[_,_,_,_,_] #[_,_,_,_,_] (0,0) _ rfl rfl (rows_put2 (g:=g1) (k:=g2) (by omega) r1.out r2.out hb HZ.out (by omega) (by omega) _ _ _ _ _ _ _ _ _ _).out.2.1 (rows_put2 (g:=g1) (k:=g2) (by omega) r1.out r2.out hb HZ.out (by omega) (by omega) _ _ _ _ _ _ _ _ _ _).out.2.2.1 Tryz.underlying29 rfl infoN infoN) rfl ?_
 exact ⟨rfl,(rows_put2 (g:=g1) (k:=g2) (by omega) r1.out r2.out hb HZ.out (by omega) (by omega) _ _ _ _ _ _ _ _ _ _).out.1⟩
end Go.Proofs.YtnjmjnmhldhaoaaGreat
