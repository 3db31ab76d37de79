import Derived.Deep.Cut
import Derived.Deep.CutRange
import Derived.Test.YtnjmjnmhldhaoaaGreatKXq
set_option maxHeartbeats 8000000
set_option linter.all false
namespace Go.Proofs.YtnjmjnmhldhaoaaGreat
open Go.RowKit Go.Shelf
set_option maxRecDepth 100000 in
theorem vCompare_lt (a b:Int×Int×Nat×Nat×Bool) (ha:RawN a) (hb:RawN b) (pa:(normN a).2.2.2.2=false) (pb:(normN b).2.2.2.2=false) (w0 w:World) (hok:Ok w0 w) :
  Calls Tryz.prog 16 #[.int .i64 8,nv a,nv b] w fun e w'=>e=.returned (.tuple #[nv (ansN (compN 8 (normN a) (normN b)).1 (compN 8 (normN a) (normN b)).2).1,nv (ansN (compN 8 (normN a) (normN b)).1 (compN 8 (normN a) (normN b)).2).2,.int .i64 0])/\Ok w0 w':=by
 have hle:=hok.le
 have HU:Hid (RawN a/\RawN b):=⟨ha,hb⟩
 have HPQ:Hid ((normN a).2.2.2.2=false/\(normN b).2.2.2.2=false):=⟨pa,pb⟩
 clear ha hb pa pb
 obtain ⟨x,hx⟩:∃ t,t=normN a:=⟨_,rfl⟩
 have HX:Hid _:=hx
 clear hx
 obtain ⟨y,hy⟩:∃ t,t=normN b:=⟨_,rfl⟩
 have HY:Hid _:=hy
 clear hy
 rw [<-HX.out,<-HY.out] at HPQ
 rw [<-HX.out,<-HY.out]
 have RX:Hid (RawN x/\RawN y):=by rw [HX.out,HY.out];exact ⟨normN_raw HU.out.1,normN_raw HU.out.2⟩
 obtain ⟨l,hl⟩:∃ t,t=(ansN (compN 8 x y).1 (compN 8 x y).2).1:=⟨_,rfl⟩
 have HL:Hid _:=hl
 clear hl
 obtain ⟨r,hr⟩:∃ t,t=(ansN (compN 8 x y).1 (compN 8 x y).2).2:=⟨_,rfl⟩
 have HR:Hid _:=hr
 clear hr
 rw [<-HL.out,<-HR.out]
 unfold nv
 go_enter Tryz.func16,Tryz.ntmps16
 go_upto_region 1 with (fail)
 obtain ⟨W,hW⟩:∃ W,W=((((w).alloc (.cells #[.bool a.2.2.2.2,.int .i64 a.1,.int .i64 a.2.1,.int .u64 (a.2.2.1:Int),.int .u64 (a.2.2.2.1:Int)] 29)).alloc (.cells #[.bool b.2.2.2.2,.int .i64 b.1,.int .i64 b.2.1,.int .u64 (b.2.2.1:Int),.int .u64 (b.2.2.2.1:Int)] 29)).alloc (.cells #[.bool false,.int .i64 0,.int .i64 0,.int .u64 0,.int .u64 0] 29)).alloc (.cells #[.bool false,.int .i64 0,.int .i64 0,.int .u64 0,.int .u64 0] 29):=⟨_,rfl⟩
 have ra:Hid (W.heap[w.heap.size]?=some (.cells #[.bool a.2.2.2.2,.int .i64 a.1,.int .i64 a.2.1,.int .u64 (a.2.2.1:Int),.int .u64 (a.2.2.2.1:Int)] 29)):=by unfold Hid;rw [hW];exact jj
 have rb:Hid (W.heap[w.heap.size+1]?=some (.cells #[.bool b.2.2.2.2,.int .i64 b.1,.int .i64 b.2.1,.int .u64 (b.2.2.1:Int),.int .u64 (b.2.2.2.1:Int)] 29)):=by unfold Hid;rw [hW];exact jj
 have rp:Hid (W.heap[w.heap.size+1+1]?=some (.cells #[.bool false,.int .i64 0,.int .i64 0,.int .u64 0,.int .u64 0] 29)):=by unfold Hid;rw [hW];exact jj
 have rq:Hid (W.heap[w.heap.size+1+1+1]?=some (.cells #[.bool false,.int .i64 0,.int .i64 0,.int .u64 0,.int .u64 0] 29)):=by unfold Hid;rw [hW];exact jj
 have HW:Hid (Ok w0 W):=by unfold Hid;rw [hW];exact (by repeat (first | exact hok | refine Ok.alloc ?_ _ | refine Ok.draws ?_ _ | fail))
 rw [<-hW]
 clear hW
 obtain ⟨gq,egq⟩:∃ g,g=w.heap.size+1+1+1:=⟨_,rfl⟩
 rw [<-egq] at rq ⊢
 obtain ⟨gp,egp⟩:∃ g,g=w.heap.size+1+1:=⟨_,rfl⟩
 rw [<-egp] at rp ⊢
 obtain ⟨gb,egb⟩:∃ g,g=w.heap.size+1:=⟨_,rfl⟩
 rw [<-egb] at rb ⊢
 obtain ⟨ga,ega⟩:∃ g,g=w.heap.size:=⟨_,rfl⟩
 rw [<-ega] at ra ⊢
 have lga:w0.heap.size<=ga:=by omega
 have ngagb:¬ga=gb:=by omega
 have ngagp:¬ga=gp:=by omega
 have ngagq:¬ga=gq:=by omega
 have lgb:w0.heap.size<=gb:=by omega
 have ngbga:¬gb=ga:=by omega
 have ngbgp:¬gb=gp:=by omega
 have ngbgq:¬gb=gq:=by omega
 have lgp:w0.heap.size<=gp:=by omega
 have ngpga:¬gp=ga:=by omega
 have ngpgb:¬gp=gb:=by omega
 have ngpgq:¬gp=gq:=by omega
 have lgq:w0.heap.size<=gq:=by omega
 have ngqga:¬gq=ga:=by omega
 have ngqgb:¬gq=gb:=by omega
 have ngqgp:¬gq=gp:=by omega
 clear ega egb egp egq
 obtain ⟨D,hD⟩:∃ z,z=W.drew:=⟨_,rfl⟩
 have S0:Ok W D:=by rw [hD];exact Below.drew (Ok.refl _)
 refine wp_region_T (fun Y=>Ok W Y) 4 (by kernel_rfl) ?_
 rw [<-hD]
 clear hD
 refine tT 0 (.agg #[.bool a.2.2.2.2,.int .i64 a.1,.int .i64 a.2.1,.int .u64 (a.2.2.1:Int),.int .u64 (a.2.2.2.1:Int)]) S0 ?_ ?_
 ·exact fun w' hS=>yN (Ok.row' hS ra.out)
 refine tT 2 (.agg #[.bool b.2.2.2.2,.int .i64 b.1,.int .i64 b.2.1,.int .u64 (b.2.2.1:Int),.int .u64 (b.2.2.2.1:Int)]) S0 ?_ ?_
 ·exact fun w' hS=>yN (Ok.row' hS rb.out)
 simp only [Act.put,List.setIfInBounds_toArray,List.set_cons_zero,List.set_cons_succ]
 refine sT (i:=1) (by kernel_rfl) rfl (fun K hK=>?_)
 go_simp
 refine (nnorm_any a HU.out.1 W _ S0).mono ?_
 rintro e y1 ⟨rfl,hy1⟩
 rw [<-HX.out]
 unfold nv
 go_wp2_with fail
 refine hK.out _ _ (fun _=>hy1) ?_
 clear hK K
 refine sT (i:=3) (by kernel_rfl) rfl (fun K hK=>?_)
 go_simp
 refine (nnorm_any b HU.out.2 W _ hy1).mono ?_
 rintro e y2 ⟨rfl,hy2⟩
 rw [<-HY.out]
 unfold nv
 go_wp2_with fail
 refine hK.out _ _ (fun _=>hy2) ?_
 clear hK K
 refine sT (i:=4) (by kernel_rfl) rfl (fun K hK=>?_)
 replace ra:Hid _:=Ok.row' hy2 ra.out
 replace rb:Hid _:=Ok.row' hy2 rb.out
 replace rp:Hid _:=Ok.row' hy2 rp.out
 replace rq:Hid _:=Ok.row' hy2 rq.out
 have Hy2:Hid (Ok w0 y2):=HW.out.step hy2
 clear S0
 obtain ⟨a0,a1,a2,a3,a4,a5,a6,a7,a8,a9⟩:=row5_facts ra.out
 go_simp
 refine hK.out _ _ (fun h=>absurd h (by decide)) ?_
 clear hK K
 obtain ⟨Z1,hZ1⟩:∃ Z,Z=(((((y2.setCell ⟨ga,0,none⟩ (.bool x.2.2.2.2)).setCell ⟨ga,1,none⟩ (.int .i64 x.1)).setCell ⟨ga,2,none⟩ (.int .i64 x.2.1)).setCell ⟨ga,3,none⟩ (.int .u64 (x.2.2.1:Int))).setCell ⟨ga,4,none⟩ (.int .u64 (x.2.2.2.1:Int))):=⟨_,rfl⟩
 obtain ⟨HZ1,raz,keep⟩:=(rows_put1 ra.out Hy2.out (by omega) _ _ _ _ _ hZ1).out
 replace HZ1:Hid (Ok w0 Z1):=HZ1
 replace raz:Hid _:=raz
 replace rb:Hid _:=keep _ _ (by omega) rb.out
 replace rp:Hid _:=keep _ _ (by omega) rp.out
 replace rq:Hid _:=keep _ _ (by omega) rq.out
 rw [<-hZ1]
 clear hZ1 keep ra
 clear a0 a1 a2 a3 a4 a5 a6 a7 a8 a9
 have ra:Hid _:=raz
 clear raz
 refine sT (i:=5) (by kernel_rfl) rfl (fun K hK=>?_)
 obtain ⟨a0,a1,a2,a3,a4,a5,a6,a7,a8,a9⟩:=row5_facts rb.out
 go_simp
 refine hK.out _ _ (fun h=>absurd h (by decide)) ?_
 clear hK K
 obtain ⟨V,hV⟩:∃ Z,Z=(((((Z1.setCell ⟨gb,0,none⟩ (.bool y.2.2.2.2)).setCell ⟨gb,1,none⟩ (.int .i64 y.1)).setCell ⟨gb,2,none⟩ (.int .i64 y.2.1)).setCell ⟨gb,3,none⟩ (.int .u64 (y.2.2.1:Int))).setCell ⟨gb,4,none⟩ (.int .u64 (y.2.2.2.1:Int))):=⟨_,rfl⟩
 obtain ⟨HV,rbz,keep⟩:=(rows_put1 rb.out HZ1.out (by omega) _ _ _ _ _ hV).out
 replace HV:Hid (Ok w0 V):=HV
 replace rbz:Hid _:=rbz
 replace ra:Hid _:=keep _ _ (by omega) ra.out
 replace rp:Hid _:=keep _ _ (by omega) rp.out
 replace rq:Hid _:=keep _ _ (by omega) rq.out
 rw [<-hV]
 clear hV keep rb
 clear a0 a1 a2 a3 a4 a5 a6 a7 a8 a9
 have rb:Hid _:=rbz
 clear rbz
 refine wpAnyT_done (by kernel_rfl) ?_ _
 go_upto_region 2 with (fail)
 have fa:Hid (V.heap[ga]?=some (.cells #[.bool false,.int .i64 x.1,.int .i64 x.2.1,.int .u64 (x.2.2.1:Int),.int .u64 (x.2.2.2.1:Int)] 29 (0,0))):=by have h:=ra.out;rw [HPQ.out.1] at h;exact h
 have fb:Hid (V.heap[gb]?=some (.cells #[.bool false,.int .i64 y.1,.int .i64 y.2.1,.int .u64 (y.2.2.1:Int),.int .u64 (y.2.2.2.1:Int)] 29 (0,0))):=by have h:=rb.out;rw [HPQ.out.2] at h;exact h
 obtain ⟨D,hD⟩:∃ z,z=V.drew:=⟨_,rfl⟩
 have S0:Ok V D:=by rw [hD];exact Below.drew (Ok.refl _)
 refine wp_region_T (fun Y=>Ok V Y) 16 (by kernel_rfl) ?_
 rw [<-hD]
 clear hD
 refine tT 0 (.int .i64 8) S0 ?_ ?_
 ·intro w' hS;kernel_rfl
 refine tT 1 (.agg #[.bool x.2.2.2.2,.int .i64 x.1,.int .i64 x.2.1,.int .u64 (x.2.2.1:Int),.int .u64 (x.2.2.2.1:Int)]) S0 ?_ ?_
 ·exact fun w' hS=>yN (Ok.row' hS ra.out)
 refine tT 2 (.agg #[.bool y.2.2.2.2,.int .i64 y.1,.int .i64 y.2.1,.int .u64 (y.2.2.1:Int),.int .u64 (y.2.2.2.1:Int)]) S0 ?_ ?_
 ·exact fun w' hS=>yN (Ok.row' hS rb.out)
 refine tT 4 (.pointer (some ⟨ga,0,none⟩)) S0 ?_ ?_
 ·intro w' hS;kernel_rfl
 refine tT 5 (.bool false) S0 ?_ ?_
 ·exact fun w' hS=>yC ((cell_of_row _ ga 0 _ _ _ (Ok.row' hS fa.out)).trans rfl)
 refine tT 6 (.bool true) S0 ?_ ?_
 ·intro w' hS;kernel_rfl
 simp only [Act.put,List.setIfInBounds_toArray,List.set_cons_zero,List.set_cons_succ]
 refine sT (i:=3) (by kernel_rfl) rfl (fun K hK=>?_)
 go_simp
 refine (vcomparing_8 x y RX.out.1 RX.out.2 V _ S0).mono ?_
 rintro e w1 ⟨f,rfl,hT,hw1⟩
 obtain ⟨fid,caps,rfl,hen,hf⟩:=hT
 go_wp2_with fail
 refine hK.out _ _ (fun _=>hw1) ?_
 clear hK K
 refine tT 7 (.bool true) hw1 ?_ ?_
 ·intro w' hS;kernel_rfl
 refine tT 8 (.pointer (some ⟨gb,0,none⟩)) hw1 ?_ ?_
 ·intro w' hS;kernel_rfl
 refine tT 9 (.bool false) hw1 ?_ ?_
 ·exact fun w' hS=>yC ((cell_of_row _ gb 0 _ _ _ (Ok.row' hS fb.out)).trans rfl)
 refine tT 10 (.bool true) hw1 ?_ ?_
 ·intro w' hS;kernel_rfl
 refine tT 11 (.bool true) hw1 ?_ ?_
 ·intro w' hS;kernel_rfl
 simp only [Act.put,List.setIfInBounds_toArray,List.set_cons_zero,List.set_cons_succ]
 refine sT (i:=12) (by kernel_rfl) rfl (fun K hK=>?_)
 go_simp
 refine (vask_any fid caps _ _ hen V _ hw1 hf).mono ?_
 rintro e w2 ⟨rfl,hw2⟩
 rw [<-HL.out,<-HR.out]
 unfold nv
 go_wp2_with fail
 refine hK.out _ _ (fun _=>hw2) ?_
 clear hK K
 refine tT 13 (.agg #[.bool l.2.2.2.2,.int .i64 l.1,.int .i64 l.2.1,.int .u64 (l.2.2.1:Int),.int .u64 (l.2.2.2.1:Int)]) hw2 ?_ ?_
 ·intro w' hS;kernel_rfl
 refine tT 14 (.agg #[.bool r.2.2.2.2,.int .i64 r.1,.int .i64 r.2.1,.int .u64 (r.2.2.1:Int),.int .u64 (r.2.2.2.1:Int)]) hw2 ?_ ?_
 ·intro w' hS;kernel_rfl
 refine tT 15 (.int .i64 0) hw2 ?_ ?_
 ·intro w' hS;kernel_rfl
 simp only [Act.put,List.setIfInBounds_toArray,List.set_cons_zero,List.set_cons_succ]
 refine sT (i:=16) (by kernel_rfl) rfl (fun K hK=>?_)
 replace rp:Hid _:=Ok.row' hw2 rp.out
 replace rq:Hid _:=Ok.row' hw2 rq.out
 have Hw2:Hid (Ok w0 w2):=HV.out.step hw2
 clear S0
 obtain ⟨a0,a1,a2,a3,a4,a5,a6,a7,a8,a9⟩:=row5_facts rp.out
 go_simp
 refine hK.out _ _ (fun h=>absurd h (by decide)) ?_
 clear hK K
 obtain ⟨Z2,hZ2⟩:∃ Z,Z=(((((w2.setCell ⟨gp,0,none⟩ (.bool l.2.2.2.2)).setCell ⟨gp,1,none⟩ (.int .i64 l.1)).setCell ⟨gp,2,none⟩ (.int .i64 l.2.1)).setCell ⟨gp,3,none⟩ (.int .u64 (l.2.2.1:Int))).setCell ⟨gp,4,none⟩ (.int .u64 (l.2.2.2.1:Int))):=⟨_,rfl⟩
 obtain ⟨HZ2,rpz,keep⟩:=(rows_put1 rp.out Hw2.out (by omega) _ _ _ _ _ hZ2).out
 replace HZ2:Hid (Ok w0 Z2):=HZ2
 replace rpz:Hid _:=rpz
 replace rq:Hid _:=keep _ _ (by omega) rq.out
 rw [<-hZ2]
 clear hZ2 keep rp
 clear a0 a1 a2 a3 a4 a5 a6 a7 a8 a9
 have rp:Hid _:=rpz
 clear rpz
 refine sT (i:=17) (by kernel_rfl) rfl (fun K hK=>?_)
 obtain ⟨a0,a1,a2,a3,a4,a5,a6,a7,a8,a9⟩:=row5_facts rq.out
 go_simp
 refine hK.out _ _ (fun h=>absurd h (by decide)) ?_
 clear hK K
 obtain ⟨Z3,hZ3⟩:∃ Z,Z=(((((Z2.setCell ⟨gq,0,none⟩ (.bool r.2.2.2.2)).setCell ⟨gq,1,none⟩ (.int .i64 r.1)).setCell ⟨gq,2,none⟩ (.int .i64 r.2.1)).setCell ⟨gq,3,none⟩ (.int .u64 (r.2.2.1:Int))).setCell ⟨gq,4,none⟩ (.int .u64 (r.2.2.2.1:Int))):=⟨_,rfl⟩
 obtain ⟨HZ3,rqz,keep⟩:=(rows_put1 rq.out HZ2.out (by omega) _ _ _ _ _ hZ3).out
 replace HZ3:Hid (Ok w0 Z3):=HZ3
 replace rqz:Hid _:=rqz
 replace rp:Hid _:=keep _ _ (by omega) rp.out
 rw [<-hZ3]
 clear hZ3 keep rq
 clear a0 a1 a2 a3 a4 a5 a6 a7 a8 a9
 have rq:Hid _:=rqz
 clear rqz
 refine sT (i:=18) (by kernel_rfl) rfl (fun K hK=>?_)
 go_simp
 refine hK.out _ _ (fun h=>absurd h (by decide)) ?_
 clear hK K
 refine wpAnyT_done (by kernel_rfl) ?_ _
 go_wp2_with fail
 refine bodyPost_ret (results_2ct rfl _ _ gp gq 29 #[_,_,_,_,_] #[_,_,_,_,_] (0,0) _ rfl rfl rp.out rq.out Tryz.underlying29 rfl infoN infoN) rfl ?_
 exact ⟨rfl,HZ3.out⟩
theorem tk_solve:solA 3 (normN (makeN 0 10 1 0)) (normN (makeN 1 2 1 0)) (normN (constN 5))=(makeN 3 4 1 0,makeN 1 2 1 0):=by kernel_rfl
theorem tk_comp:ansN (compN 8 (normN (makeN 0 9 1 0)) (normN (makeN 0 5 1 0))).1 (compN 8 (normN (makeN 0 9 1 0)) (normN (makeN 0 5 1 0))).2=(makeN 0 4 1 0,makeN 1 5 1 0):=by kernel_rfl
theorem in_small {v:Int} (h:0<=v/\v<=10):In64 v:=by unfold In64;omega
set_option maxRecDepth 100000 in
theorem taken14 (w0 w:World) (hok:Ok w0 w) :
  Calls Tryz.prog 6 #[] w fun e w'=>e=.returned (.bool true)/\Ok w0 w':=by
 have hle:=hok.le
 obtain ⟨a1,ha1⟩:∃ t,t=makeN 0 10 1 0:=⟨_,rfl⟩
 obtain ⟨a2,ha2⟩:∃ t,t=makeN 1 2 1 0:=⟨_,rfl⟩
 obtain ⟨a3,ha3⟩:∃ t,t=constN 5:=⟨_,rfl⟩
 obtain ⟨p,hp⟩:∃ t,t=makeN 3 4 1 0:=⟨_,rfl⟩
 obtain ⟨c1,hc1⟩:∃ t,t=makeN 0 9 1 0:=⟨_,rfl⟩
 obtain ⟨c2,hc2⟩:∃ t,t=makeN 0 5 1 0:=⟨_,rfl⟩
 obtain ⟨s,hs⟩:∃ t,t=makeN 0 4 1 0:=⟨_,rfl⟩
 obtain ⟨t,ht⟩:∃ t,t=makeN 1 5 1 0:=⟨_,rfl⟩
 have RA:Hid (RawN a1/\RawN a2/\RawN a3/\RawN c1/\RawN c2):=by rw [ha1,ha2,ha3,hc1,hc2];exact ⟨make_raw (in_small (by omega)) (in_small (by omega)) u_one u_zero,make_raw (in_small (by omega)) (in_small (by omega)) u_one u_zero,const_raw (in_small (by omega)),make_raw (in_small (by omega)) (in_small (by omega)) u_one u_zero,make_raw (in_small (by omega)) (in_small (by omega)) u_one u_zero⟩
 have BA:Hid ((normN c1).2.2.2.2=false/\(normN c2).2.2.2.2=false):=by rw [hc1,hc2];exact ⟨by kernel_rfl,by kernel_rfl⟩
 have ES:Hid (solA 3 (normN a1) (normN a2) (normN a3)=(p,a2)):=by rw [ha1,ha2,ha3,hp];exact tk_solve
 have EC:Hid (ansN (compN 8 (normN c1) (normN c2)).1 (compN 8 (normN c1) (normN c2)).2=(s,t)):=by rw [hc1,hc2,hs,ht];exact tk_comp
 have HA1:Hid _:=ha1
 have HA2:Hid _:=ha2
 have HA3:Hid _:=ha3
 have HP:Hid _:=hp
 have HC1:Hid _:=hc1
 have HC2:Hid _:=hc2
 have HS:Hid _:=hs
 have HT:Hid _:=ht
 clear ha1 ha2 ha3 hp hc1 hc2 hs ht
 go_enter Tryz.func6,Tryz.ntmps6
 go_wp2_with fail
 refine (rrange_any 0 10 (in_small (by omega)) (in_small (by omega)) w _ (Ok.refl _)).mono ?_
 rintro e w1 ⟨rfl,hb⟩
 rw [<-HA1.out]
 unfold nv
 have Hw1:Hid (Ok w0 w1):=hok.step hb
 clear hb
 go_wp2_with fail
 refine (rrange_any 1 2 (in_small (by omega)) (in_small (by omega)) w1 _ (Ok.refl _)).mono ?_
 rintro e w2 ⟨rfl,hb⟩
 rw [<-HA2.out]
 unfold nv
 have Hw2:Hid (Ok w0 w2):=Hw1.out.step hb
 clear hb Hw1
 go_wp2_with fail
 refine (rconst_any 5 w2 _ (Ok.refl _)).mono ?_
 rintro e w3 ⟨rfl,hb⟩
 rw [<-HA3.out]
 unfold nv
 have Hw3:Hid (Ok w0 w3):=Hw2.out.step hb
 clear hb Hw2
 go_wp2_with fail
 refine (vSolve_any 3 op3 a1 a2 a3 RA.out.1 RA.out.2.1 RA.out.2.2.1 w3 _ (Ok.refl _)).mono ?_
 rintro e w4 ⟨rfl,hb⟩
 rw [ES.out]
 unfold nv
 have Hw4:Hid (Ok w0 w4):=Hw3.out.step hb
 clear hb Hw3
 go_upto_region 2 with (fail)
 obtain ⟨x1,hx1⟩:∃ W,W=(w4.alloc (.cells #[.bool p.2.2.2.2,.int .i64 p.1,.int .i64 p.2.1,.int .u64 (p.2.2.1:Int),.int .u64 (p.2.2.2.1:Int)] 29)).alloc (.cells #[.bool a2.2.2.2.2,.int .i64 a2.1,.int .i64 a2.2.1,.int .u64 (a2.2.2.1:Int),.int .u64 (a2.2.2.2.1:Int)] 29):=⟨_,rfl⟩
 have rg1:Hid (x1.heap[w4.heap.size]?=some (.cells #[.bool p.2.2.2.2,.int .i64 p.1,.int .i64 p.2.1,.int .u64 (p.2.2.1:Int),.int .u64 (p.2.2.2.1:Int)] 29)):=by unfold Hid;rw [hx1];exact jj
 have rg2:Hid (x1.heap[w4.heap.size+1]?=some (.cells #[.bool a2.2.2.2.2,.int .i64 a2.1,.int .i64 a2.2.1,.int .u64 (a2.2.2.1:Int),.int .u64 (a2.2.2.2.1:Int)] 29)):=by unfold Hid;rw [hx1];exact jj
 have hO:Ok w4 x1:=by rw [hx1];exact ((Ok.refl _).alloc _).alloc _
 rw [<-hx1]
 obtain ⟨g2,eg2⟩:∃ g,g=w4.heap.size+1:=⟨_,rfl⟩
 rw [<-eg2] at rg2 ⊢
 obtain ⟨g1,eg1⟩:∃ g,g=w4.heap.size:=⟨_,rfl⟩
 rw [<-eg1] at rg1 ⊢
 clear hx1 eg1 eg2
 have Hx1:Hid (Ok w0 x1):=Hw4.out.step hO
 clear hO Hw4
 go_wp2_with fail
 refine (rrange_any 0 9 (in_small (by omega)) (in_small (by omega)) x1 _ (Ok.refl _)).mono ?_
 rintro e w5 ⟨rfl,hb⟩
 rw [<-HC1.out]
 unfold nv
 replace rg1:Hid _:=Ok.row' hb rg1.out
 replace rg2:Hid _:=Ok.row' hb rg2.out
 have Hw5:Hid (Ok w0 w5):=Hx1.out.step hb
 clear hb Hx1
 go_wp2_with fail
 refine (rrange_any 0 5 (in_small (by omega)) (in_small (by omega)) w5 _ (Ok.refl _)).mono ?_
 rintro e w6 ⟨rfl,hb⟩
 rw [<-HC2.out]
 unfold nv
 replace rg1:Hid _:=Ok.row' hb rg1.out
 replace rg2:Hid _:=Ok.row' hb rg2.out
 have Hw6:Hid (Ok w0 w6):=Hw5.out.step hb
 clear hb Hw5
 go_wp2_with fail
 refine (vCompare_lt c1 c2 RA.out.2.2.2.1 RA.out.2.2.2.2 BA.out.1 BA.out.2 w6 _ (Ok.refl _)).mono ?_
 rintro e w7 ⟨rfl,hb⟩
 rw [EC.out]
 unfold nv
 replace rg1:Hid _:=Ok.row' hb rg1.out
 replace rg2:Hid _:=Ok.row' hb rg2.out
 have Hw7:Hid (Ok w0 w7):=Hw6.out.step hb
 clear hb Hw6
 go_upto_region 3 with (fail)
 obtain ⟨x2,hx2⟩:∃ W,W=(w7.alloc (.cells #[.bool s.2.2.2.2,.int .i64 s.1,.int .i64 s.2.1,.int .u64 (s.2.2.1:Int),.int .u64 (s.2.2.2.1:Int)] 29)).alloc (.cells #[.bool t.2.2.2.2,.int .i64 t.1,.int .i64 t.2.1,.int .u64 (t.2.2.1:Int),.int .u64 (t.2.2.2.1:Int)] 29):=⟨_,rfl⟩
 have rg4:Hid (x2.heap[w7.heap.size]?=some (.cells #[.bool s.2.2.2.2,.int .i64 s.1,.int .i64 s.2.1,.int .u64 (s.2.2.1:Int),.int .u64 (s.2.2.2.1:Int)] 29)):=by unfold Hid;rw [hx2];exact jj
 have rg5:Hid (x2.heap[w7.heap.size+1]?=some (.cells #[.bool t.2.2.2.2,.int .i64 t.1,.int .i64 t.2.1,.int .u64 (t.2.2.1:Int),.int .u64 (t.2.2.2.1:Int)] 29)):=by unfold Hid;rw [hx2];exact jj
 have hO:Ok w7 x2:=by rw [hx2];exact ((Ok.refl _).alloc _).alloc _
 rw [<-hx2]
 obtain ⟨g5,eg5⟩:∃ g,g=w7.heap.size+1:=⟨_,rfl⟩
 rw [<-eg5] at rg5 ⊢
 obtain ⟨g4,eg4⟩:∃ g,g=w7.heap.size:=⟨_,rfl⟩
 rw [<-eg4] at rg4 ⊢
 clear hx2 eg4 eg5
 replace rg1:Hid _:=Ok.row' hO rg1.out
 replace rg2:Hid _:=Ok.row' hO rg2.out
 have Hx2:Hid (Ok w0 x2):=Hw7.out.step hO
 clear hO Hw7
 go_wp2_with fail
 refine (vNegate_lt x2 _ (Ok.refl _)).mono ?_
 rintro e w8 ⟨rfl,hb⟩
 replace rg1:Hid _:=Ok.row' hb rg1.out
 replace rg2:Hid _:=Ok.row' hb rg2.out
 replace rg4:Hid _:=Ok.row' hb rg4.out
 replace rg5:Hid _:=Ok.row' hb rg5.out
 have Hw8:Hid (Ok w0 w8):=Hx2.out.step hb
 clear hb Hx2
 go_wp2_with fail
 obtain ⟨fa0,fa1,fa2,fa3,fa4,fa5,fa6,fa7,fa8,fa9⟩:=row5_facts rg1.out
 have zfa:=lt_row rg1.out
 obtain ⟨fb0,fb1,fb2,fb3,fb4,fb5,fb6,fb7,fb8,fb9⟩:=row5_facts rg2.out
 have zfb:=lt_row rg2.out
 obtain ⟨fc0,fc1,fc2,fc3,fc4,fc5,fc6,fc7,fc8,fc9⟩:=row5_facts rg4.out
 have zfc:=lt_row rg4.out
 obtain ⟨fd0,fd1,fd2,fd3,fd4,fd5,fd6,fd7,fd8,fd9⟩:=row5_facts rg5.out
 have zfd:=lt_row rg5.out
 have bz:Ok w8 w8:=Ok.refl _
 go_region_held3 (fun w'=>w'.cell? ⟨g1,0,none⟩=some (.bool p.2.2.2.2)/\w'.cell? ⟨g1,1,none⟩=some (.int .i64 p.1)/\w'.cell? ⟨g1,2,none⟩=some (.int .i64 p.2.1)/\w'.cell? ⟨g1,3,none⟩=some (.int .u64 (p.2.2.1:Int))/\w'.cell? ⟨g1,4,none⟩=some (.int .u64 (p.2.2.2.1:Int))/\w'.cell? ⟨g2,0,none⟩=some (.bool a2.2.2.2.2)/\w'.cell? ⟨g2,1,none⟩=some (.int .i64 a2.1)/\w'.cell? ⟨g2,2,none⟩=some (.int .i64 a2.2.1)/\w'.cell? ⟨g2,3,none⟩=some (.int .u64 (a2.2.2.1:Int))/\w'.cell? ⟨g2,4,none⟩=some (.int .u64 (a2.2.2.2.1:Int))/\w'.cell? ⟨g4,0,none⟩=some (.bool s.2.2.2.2)/\w'.cell? ⟨g4,1,none⟩=some (.int .i64 s.1)/\w'.cell? ⟨g4,2,none⟩=some (.int .i64 s.2.1)/\w'.cell? ⟨g4,3,none⟩=some (.int .u64 (s.2.2.1:Int))/\w'.cell? ⟨g4,4,none⟩=some (.int .u64 (s.2.2.2.1:Int))/\w'.cell? ⟨g5,0,none⟩=some (.bool t.2.2.2.2)/\w'.cell? ⟨g5,1,none⟩=some (.int .i64 t.1)/\w'.cell? ⟨g5,2,none⟩=some (.int .i64 t.2.1)/\w'.cell? ⟨g5,3,none⟩=some (.int .u64 (t.2.2.1:Int))/\w'.cell? ⟨g5,4,none⟩=some (.int .u64 (t.2.2.2.1:Int))) (go_keep)
  (first
  | (go_at_call 14;refine (rrange_any _ _ (in_small (by omega)) (in_small (by omega)) w8 _ (by repeat (first | assumption | refine Ok.alloc ?_ _ | refine Below.drew ?_))).mono ?_;rintro e w' ⟨rfl,hb⟩;(first | rw [<-HP.out] | rw [<-HA2.out] | rw [<-HS.out] | rw [<-HT.out]);unfold nv;have q0:=Ok.cell hb zfa fa0;have q1:=Ok.cell hb zfa fa1;have q2:=Ok.cell hb zfa fa2;have q3:=Ok.cell hb zfa fa3;have q4:=Ok.cell hb zfa fa4;have q5:=Ok.cell hb zfb fb0;have q6:=Ok.cell hb zfb fb1;have q7:=Ok.cell hb zfb fb2;have q8:=Ok.cell hb zfb fb3;have q9:=Ok.cell hb zfb fb4;have q10:=Ok.cell hb zfc fc0;have q11:=Ok.cell hb zfc fc1;have q12:=Ok.cell hb zfc fc2;have q13:=Ok.cell hb zfc fc3;have q14:=Ok.cell hb zfc fc4;have q15:=Ok.cell hb zfd fd0;have q16:=Ok.cell hb zfd fd1;have q17:=Ok.cell hb zfd fd2;have q18:=Ok.cell hb zfd fd3;have q19:=Ok.cell hb zfd fd4)
  | fail)
 go_wp2_with fail
 go_ret
 exact ⟨rfl,Hw8.out.step hb⟩
end Go.Proofs.YtnjmjnmhldhaoaaGreat
