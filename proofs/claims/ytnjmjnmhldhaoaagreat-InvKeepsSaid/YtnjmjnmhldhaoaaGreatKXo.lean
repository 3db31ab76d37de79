import Derived.Deep.Cut
import Derived.Deep.CutRange
import Derived.Test.YtnjmjnmhldhaoaaGreatKXn
set_option maxHeartbeats 8000000
set_option linter.all false
namespace Go.Proofs.YtnjmjnmhldhaoaaGreat
open Go.RowKit Go.Shelf
set_option maxRecDepth 100000 in
theorem vsolving_any (op:Int) (ho:Op6 op) (x y z:Int×Int×Nat×Nat×Bool) (hx:RawN x) (hy:RawN y) (hz:RawN z) (w0 w:World) (hok:Ok w0 w) :
  Calls Tryz.prog 13 #[.int .i64 op,nv x,nv y,nv z] w (CPost w0 (solN op x y z).1 (solN op x y z).2):=by
 have hmf:=run_mf
 have HX:Hid (RawN x/\RawN y/\RawN z):=⟨hx,hy,hz⟩
 clear hx hy hz
 unfold nv
 rcases ho with rfl | rfl | rfl | rfl | rfl | rfl
 ·go_enter Tryz.func13,Tryz.ntmps13
  go_wp2_with fail
  go_ret
  refine ⟨_,rfl,⟨40,_,rfl,fun w=>by kernel_rfl,fun w1 h1=>?_⟩,((hok.alloc _).alloc _).alloc _⟩
  exact vsol1 x y z HX.out.1 HX.out.2.1 HX.out.2.2 _ _ w1 (Ok.row' h1 jj) (Ok.row' h1 jj)
 ·go_enter Tryz.func13,Tryz.ntmps13
  go_wp2_with fail
  go_ret
  refine ⟨_,rfl,⟨44,_,rfl,fun w=>by kernel_rfl,fun w1 h1=>?_⟩,((hok.alloc _).alloc _).alloc _⟩
  exact vsol2n x y z HX.out.1 HX.out.2.1 HX.out.2.2 _ _ _ w1 (Ok.row' h1 jj) (Ok.row' h1 jj) (Ok.row' h1 jj)
 ·go_enter Tryz.func13,Tryz.ntmps13
  go_wp2_with fail
  go_ret
  refine ⟨_,rfl,⟨45,_,rfl,fun w=>by kernel_rfl,fun w1 h1=>?_⟩,((hok.alloc _).alloc _).alloc _⟩
  exact vsol3n x y z HX.out.1 HX.out.2.1 HX.out.2.2 _ _ _ w1 (Ok.row' h1 jj) (Ok.row' h1 jj) (Ok.row' h1 jj)
 ·go_enter Tryz.func13,Tryz.ntmps13
  go_wp2_with fail
  go_ret
  refine ⟨_,rfl,⟨46,_,rfl,fun w=>by kernel_rfl,fun w1 h1=>?_⟩,((hok.alloc _).alloc _).alloc _⟩
  exact vsol4 x y z HX.out.1 HX.out.2.1 HX.out.2.2 _ _ _ w1 (Ok.row' h1 jj) (Ok.row' h1 jj) (Ok.row' h1 jj)
 ·go_enter Tryz.func13,Tryz.ntmps13
  go_wp2_with fail
  go_ret
  refine ⟨_,rfl,⟨48,_,rfl,fun w=>by kernel_rfl,fun w1 h1=>?_⟩,((hok.alloc _).alloc _).alloc _⟩
  exact vsol5 x y z HX.out.1 HX.out.2.1 HX.out.2.2 _ _ _ w1 (Ok.row' h1 jj) (Ok.row' h1 jj) (Ok.row' h1 jj)
 ·go_enter Tryz.func13,Tryz.ntmps13
  go_wp2_with fail
  go_ret
  refine ⟨_,rfl,⟨51,_,rfl,fun w=>by kernel_rfl,fun w1 h1=>?_⟩,((hok.alloc _).alloc _).alloc _⟩
  exact vsol6 x y z HX.out.1 HX.out.2.1 HX.out.2.2 _ _ _ w1 (Ok.row' h1 jj) (Ok.row' h1 jj) (Ok.row' h1 jj)
set_option maxRecDepth 100000 in
theorem vsolving_nil (op:Int) (ho:¬Op6 op) (x y z:Int×Int×Nat×Nat×Bool) (w0 w:World) (hok:Ok w0 w) :
  Calls Tryz.prog 13 #[.int .i64 op,nv x,nv y,nv z] w fun e w'=>e=.returned .nilFunc/\Ok w0 w':=by
 have k1:(op==1)=false:=by rw [beq_eq_false_iff_ne];intro h;exact ho (Or.inl h)
 have k3:(op==3)=false:=by rw [beq_eq_false_iff_ne];intro h;exact ho (Or.inr (Or.inl h))
 have k4:(op==4)=false:=by rw [beq_eq_false_iff_ne];intro h;exact ho (Or.inr (Or.inr (Or.inl h)))
 have k5:(op==5)=false:=by rw [beq_eq_false_iff_ne];intro h;exact ho (Or.inr (Or.inr (Or.inr (Or.inl h))))
 have k6:(op==6)=false:=by rw [beq_eq_false_iff_ne];intro h;exact ho (Or.inr (Or.inr (Or.inr (Or.inr (Or.inl h)))))
 have k7:(op==7)=false:=by rw [beq_eq_false_iff_ne];intro h;exact ho (Or.inr (Or.inr (Or.inr (Or.inr (Or.inr (h))))))
 clear ho
 unfold nv
 go_enter Tryz.func13,Tryz.ntmps13
 go_wp2_with fail
 go_ret
 exact ⟨rfl,((hok.alloc _).alloc _).alloc _⟩
theorem sol_no {op:Int} {x y z:Int×Int×Nat×Nat×Bool} (h:(!x.2.2.2.2 && !z.2.2.2.2&&(!y.2.2.2.2||(op==1)))=false):(solA op x y z).1=botN/\(solA op x y z).2=botN:=by
 have e:solA op x y z=(botN,botN):=by
  unfold solA
  rw [if_pos]
  cases hx:x.2.2.2.2
  ·cases hz:z.2.2.2.2
   ·rw [hx,hz] at h
    refine Or.inr (Or.inr ?_)
    cases hy:y.2.2.2.2
    ·rw [hy] at h;cases h
    ·rw [hy] at h;exact ⟨rfl,by intro e;rw [e] at h;cases h⟩
   ·exact Or.inr (Or.inl rfl)
  ·exact Or.inl rfl
 rw [e];exact ⟨rfl,rfl⟩
theorem sol_yes {op:Int} {x y z:Int×Int×Nat×Nat×Bool} (h:(!x.2.2.2.2 && !z.2.2.2.2&&(!y.2.2.2.2||(op==1)))=true):(solA op x y z).1=(ansN (solN op x y z).1 (solN op x y z).2).1/\(solA op x y z).2=(ansN (solN op x y z).1 (solN op x y z).2).2:=by
 have e:solA op x y z=ansN (solN op x y z).1 (solN op x y z).2:=by
  unfold solA
  rw [if_neg]
  rintro (k | k | ⟨k,k2⟩)
  ·rw [k] at h;cases h
  ·rw [k] at h;simp at h
  ·rw [k,beq_eq_false_iff_ne.2 k2] at h;simp at h
 rw [e];exact ⟨rfl,rfl⟩
set_option maxRecDepth 100000 in
theorem vSolve_any (op:Int) (ho:Op6 op) (a b c:Int×Int×Nat×Nat×Bool) (ha:RawN a) (hb:RawN b) (hc:RawN c) (w0 w:World) (hok:Ok w0 w) :
  Calls Tryz.prog 5 #[.int .i64 op,nv a,nv b,nv c] w fun e w'=>e=.returned (.tuple #[nv (solA op (normN a) (normN b) (normN c)).1,nv (solA op (normN a) (normN b) (normN c)).2,.int .i64 0])/\Ok w0 w':=by
 have hle:=hok.le
 have HU:Hid (RawN a/\RawN b/\RawN c):=⟨ha,hb,hc⟩
 have HO:Hid _:=ho
 clear ha hb hc ho
 obtain ⟨x,hx⟩:∃ t,t=normN a:=⟨_,rfl⟩
 have HX:Hid _:=hx
 clear hx
 obtain ⟨y,hy⟩:∃ t,t=normN b:=⟨_,rfl⟩
 have HY:Hid _:=hy
 clear hy
 obtain ⟨z,hz⟩:∃ t,t=normN c:=⟨_,rfl⟩
 have HZ0:Hid _:=hz
 clear hz
 have RX:Hid (RawN x/\RawN y/\RawN z):=by rw [HX.out,HY.out,HZ0.out];exact ⟨normN_raw HU.out.1,normN_raw HU.out.2.1,normN_raw HU.out.2.2⟩
 rw [<-HX.out,<-HY.out,<-HZ0.out]
 obtain ⟨l,hl⟩:∃ t,t=(solA op x y z).1:=⟨_,rfl⟩
 have HL:Hid _:=hl
 clear hl
 obtain ⟨r,hr⟩:∃ t,t=(solA op x y z).2:=⟨_,rfl⟩
 have HR:Hid _:=hr
 clear hr
 rw [<-HL.out,<-HR.out]
 obtain ⟨p,hp⟩:∃ t,t=x.2.2.2.2:=⟨_,rfl⟩
 have HP:Hid _:=hp
 clear hp
 obtain ⟨q,hq⟩:∃ t,t=y.2.2.2.2:=⟨_,rfl⟩
 have HQ:Hid _:=hq
 clear hq
 obtain ⟨v,hv⟩:∃ t,t=z.2.2.2.2:=⟨_,rfl⟩
 have HVZ:Hid _:=hv
 clear hv
 obtain ⟨o,ho⟩:∃ t,t=(op==1):=⟨_,rfl⟩
 have HO1:Hid _:=ho
 clear ho
 obtain ⟨s,hs⟩:∃ t,t=(!p && !v&&(!q||o)):=⟨_,rfl⟩
 have HS:Hid _:=hs
 clear hs
 unfold nv
 go_enter Tryz.func5,Tryz.ntmps5
 go_upto_region 1 with (fail)
 obtain ⟨W,hW⟩:∃ W,W=(((((w).alloc (.cells #[.bool a.2.2.2.2,.int .i64 a.1,.int .i64 a.2.1,.int .u64 (a.2.2.1:Int),.int .u64 (a.2.2.2.1:Int)] 29)).alloc (.cells #[.bool b.2.2.2.2,.int .i64 b.1,.int .i64 b.2.1,.int .u64 (b.2.2.1:Int),.int .u64 (b.2.2.2.1:Int)] 29)).alloc (.cells #[.bool c.2.2.2.2,.int .i64 c.1,.int .i64 c.2.1,.int .u64 (c.2.2.1:Int),.int .u64 (c.2.2.2.1:Int)] 29)).alloc (.cells #[.bool false,.int .i64 0,.int .i64 0,.int .u64 0,.int .u64 0] 29)).alloc (.cells #[.bool false,.int .i64 0,.int .i64 0,.int .u64 0,.int .u64 0] 29):=⟨_,rfl⟩
 have ra:Hid (W.heap[w.heap.size]?=some (.cells #[.bool a.2.2.2.2,.int .i64 a.1,.int .i64 a.2.1,.int .u64 (a.2.2.1:Int),.int .u64 (a.2.2.2.1:Int)] 29)):=by unfold Hid;rw [hW];exact jj
 have rb:Hid (W.heap[w.heap.size+1]?=some (.cells #[.bool b.2.2.2.2,.int .i64 b.1,.int .i64 b.2.1,.int .u64 (b.2.2.1:Int),.int .u64 (b.2.2.2.1:Int)] 29)):=by unfold Hid;rw [hW];exact jj
 have rc:Hid (W.heap[w.heap.size+1+1]?=some (.cells #[.bool c.2.2.2.2,.int .i64 c.1,.int .i64 c.2.1,.int .u64 (c.2.2.1:Int),.int .u64 (c.2.2.2.1:Int)] 29)):=by unfold Hid;rw [hW];exact jj
 have rp:Hid (W.heap[w.heap.size+1+1+1]?=some (.cells #[.bool false,.int .i64 0,.int .i64 0,.int .u64 0,.int .u64 0] 29)):=by unfold Hid;rw [hW];exact jj
 have rq:Hid (W.heap[w.heap.size+1+1+1+1]?=some (.cells #[.bool false,.int .i64 0,.int .i64 0,.int .u64 0,.int .u64 0] 29)):=by unfold Hid;rw [hW];exact jj
 have HW:Hid (Ok w0 W):=by unfold Hid;rw [hW];exact (by repeat (first | exact hok | refine Ok.alloc ?_ _ | refine Ok.draws ?_ _ | fail))
 rw [<-hW]
 clear hW
 obtain ⟨gq,egq⟩:∃ g,g=w.heap.size+1+1+1+1:=⟨_,rfl⟩
 rw [<-egq] at rq ⊢
 obtain ⟨gp,egp⟩:∃ g,g=w.heap.size+1+1+1:=⟨_,rfl⟩
 rw [<-egp] at rp ⊢
 obtain ⟨gc,egc⟩:∃ g,g=w.heap.size+1+1:=⟨_,rfl⟩
 rw [<-egc] at rc ⊢
 obtain ⟨gb,egb⟩:∃ g,g=w.heap.size+1:=⟨_,rfl⟩
 rw [<-egb] at rb ⊢
 obtain ⟨ga,ega⟩:∃ g,g=w.heap.size:=⟨_,rfl⟩
 rw [<-ega] at ra ⊢
 have lga:w0.heap.size<=ga:=by omega
 have ngagb:¬ga=gb:=by omega
 have ngagc:¬ga=gc:=by omega
 have ngagp:¬ga=gp:=by omega
 have ngagq:¬ga=gq:=by omega
 have lgb:w0.heap.size<=gb:=by omega
 have ngbga:¬gb=ga:=by omega
 have ngbgc:¬gb=gc:=by omega
 have ngbgp:¬gb=gp:=by omega
 have ngbgq:¬gb=gq:=by omega
 have lgc:w0.heap.size<=gc:=by omega
 have ngcga:¬gc=ga:=by omega
 have ngcgb:¬gc=gb:=by omega
 have ngcgp:¬gc=gp:=by omega
 have ngcgq:¬gc=gq:=by omega
 have lgp:w0.heap.size<=gp:=by omega
 have ngpga:¬gp=ga:=by omega
 have ngpgb:¬gp=gb:=by omega
 have ngpgc:¬gp=gc:=by omega
 have ngpgq:¬gp=gq:=by omega
 have lgq:w0.heap.size<=gq:=by omega
 have ngqga:¬gq=ga:=by omega
 have ngqgb:¬gq=gb:=by omega
 have ngqgc:¬gq=gc:=by omega
 have ngqgp:¬gq=gp:=by omega
 clear ega egb egc egp egq
 obtain ⟨D,hD⟩:∃ z,z=W.drew:=⟨_,rfl⟩
 have S0:Ok W D:=by rw [hD];exact Below.drew (Ok.refl _)
 refine wp_region_T (fun Y=>Ok W Y) 6 (by kernel_rfl) ?_
 rw [<-hD]
 clear hD
 refine tT 0 (.agg #[.bool a.2.2.2.2,.int .i64 a.1,.int .i64 a.2.1,.int .u64 (a.2.2.1:Int),.int .u64 (a.2.2.2.1:Int)]) S0 ?_ ?_
 ·exact fun w' hS=>yN (Ok.row' hS ra.out)
 refine tT 2 (.agg #[.bool b.2.2.2.2,.int .i64 b.1,.int .i64 b.2.1,.int .u64 (b.2.2.1:Int),.int .u64 (b.2.2.2.1:Int)]) S0 ?_ ?_
 ·exact fun w' hS=>yN (Ok.row' hS rb.out)
 refine tT 4 (.agg #[.bool c.2.2.2.2,.int .i64 c.1,.int .i64 c.2.1,.int .u64 (c.2.2.1:Int),.int .u64 (c.2.2.2.1:Int)]) S0 ?_ ?_
 ·exact fun w' hS=>yN (Ok.row' hS rc.out)
 simp only [Act.put,List.setIfInBounds_toArray,List.set_cons_zero,List.set_cons_succ]
 refine sT (i:=1) (by kernel_rfl) rfl (fun K hK=>?_)
 go_simp
 refine (nnorm_any a HU.out.1 W _ S0).mono ?_
 rintro e y1 ⟨rfl,hy1⟩
 rw [<-HX.out]
 unfold nv
 go_wp2_with fail
 refine hK.out _ _ (fun _=>hy1) ?_
 clear hK K
 refine sT (i:=3) (by kernel_rfl) rfl (fun K hK=>?_)
 go_simp
 refine (nnorm_any b HU.out.2.1 W _ hy1).mono ?_
 rintro e y2 ⟨rfl,hy2⟩
 rw [<-HY.out]
 unfold nv
 go_wp2_with fail
 refine hK.out _ _ (fun _=>hy2) ?_
 clear hK K
 refine sT (i:=5) (by kernel_rfl) rfl (fun K hK=>?_)
 go_simp
 refine (nnorm_any c HU.out.2.2 W _ hy2).mono ?_
 rintro e y3 ⟨rfl,hy3⟩
 rw [<-HZ0.out]
 unfold nv
 go_wp2_with fail
 refine hK.out _ _ (fun _=>hy3) ?_
 clear hK K
 refine sT (i:=6) (by kernel_rfl) rfl (fun K hK=>?_)
 replace ra:Hid _:=Ok.row' hy3 ra.out
 replace rb:Hid _:=Ok.row' hy3 rb.out
 replace rc:Hid _:=Ok.row' hy3 rc.out
 replace rp:Hid _:=Ok.row' hy3 rp.out
 replace rq:Hid _:=Ok.row' hy3 rq.out
 have Hy3:Hid (Ok w0 y3):=HW.out.step hy3
 clear S0
 obtain ⟨a0,a1,a2,a3,a4,a5,a6,a7,a8,a9⟩:=row5_facts ra.out
 go_simp
 refine hK.out _ _ (fun h=>absurd h (by decide)) ?_
 clear hK K
 obtain ⟨Z1,hZ1⟩:∃ Z,Z=(((((y3.setCell ⟨ga,0,none⟩ (.bool x.2.2.2.2)).setCell ⟨ga,1,none⟩ (.int .i64 x.1)).setCell ⟨ga,2,none⟩ (.int .i64 x.2.1)).setCell ⟨ga,3,none⟩ (.int .u64 (x.2.2.1:Int))).setCell ⟨ga,4,none⟩ (.int .u64 (x.2.2.2.1:Int))):=⟨_,rfl⟩
 obtain ⟨HZ1,raz,keep⟩:=(rows_put1 ra.out Hy3.out (by omega) _ _ _ _ _ hZ1).out
 replace HZ1:Hid (Ok w0 Z1):=HZ1
 replace raz:Hid _:=raz
 replace rb:Hid _:=keep _ _ (by omega) rb.out
 replace rc:Hid _:=keep _ _ (by omega) rc.out
 replace rp:Hid _:=keep _ _ (by omega) rp.out
 replace rq:Hid _:=keep _ _ (by omega) rq.out
 rw [<-hZ1]
 clear hZ1 keep ra
 clear a0 a1 a2 a3 a4 a5 a6 a7 a8 a9
 have ra:Hid _:=raz
 clear raz
 refine sT (i:=7) (by kernel_rfl) rfl (fun K hK=>?_)
 obtain ⟨a0,a1,a2,a3,a4,a5,a6,a7,a8,a9⟩:=row5_facts rb.out
 go_simp
 refine hK.out _ _ (fun h=>absurd h (by decide)) ?_
 clear hK K
 obtain ⟨Z2,hZ2⟩:∃ Z,Z=(((((Z1.setCell ⟨gb,0,none⟩ (.bool y.2.2.2.2)).setCell ⟨gb,1,none⟩ (.int .i64 y.1)).setCell ⟨gb,2,none⟩ (.int .i64 y.2.1)).setCell ⟨gb,3,none⟩ (.int .u64 (y.2.2.1:Int))).setCell ⟨gb,4,none⟩ (.int .u64 (y.2.2.2.1:Int))):=⟨_,rfl⟩
 obtain ⟨HZ2,rbz,keep⟩:=(rows_put1 rb.out HZ1.out (by omega) _ _ _ _ _ hZ2).out
 replace HZ2:Hid (Ok w0 Z2):=HZ2
 replace rbz:Hid _:=rbz
 replace ra:Hid _:=keep _ _ (by omega) ra.out
 replace rc:Hid _:=keep _ _ (by omega) rc.out
 replace rp:Hid _:=keep _ _ (by omega) rp.out
 replace rq:Hid _:=keep _ _ (by omega) rq.out
 rw [<-hZ2]
 clear hZ2 keep rb
 clear a0 a1 a2 a3 a4 a5 a6 a7 a8 a9
 have rb:Hid _:=rbz
 clear rbz
 refine sT (i:=8) (by kernel_rfl) rfl (fun K hK=>?_)
 obtain ⟨a0,a1,a2,a3,a4,a5,a6,a7,a8,a9⟩:=row5_facts rc.out
 go_simp
 refine hK.out _ _ (fun h=>absurd h (by decide)) ?_
 clear hK K
 obtain ⟨V,hV⟩:∃ Z,Z=(((((Z2.setCell ⟨gc,0,none⟩ (.bool z.2.2.2.2)).setCell ⟨gc,1,none⟩ (.int .i64 z.1)).setCell ⟨gc,2,none⟩ (.int .i64 z.2.1)).setCell ⟨gc,3,none⟩ (.int .u64 (z.2.2.1:Int))).setCell ⟨gc,4,none⟩ (.int .u64 (z.2.2.2.1:Int))):=⟨_,rfl⟩
 obtain ⟨HV,rcz,keep⟩:=(rows_put1 rc.out HZ2.out (by omega) _ _ _ _ _ hV).out
 replace HV:Hid (Ok w0 V):=HV
 replace rcz:Hid _:=rcz
 replace ra:Hid _:=keep _ _ (by omega) ra.out
 replace rb:Hid _:=keep _ _ (by omega) rb.out
 replace rp:Hid _:=keep _ _ (by omega) rp.out
 replace rq:Hid _:=keep _ _ (by omega) rq.out
 rw [<-hV]
 clear hV keep rc
 clear a0 a1 a2 a3 a4 a5 a6 a7 a8 a9
 have rc:Hid _:=rcz
 clear rcz
 refine wpAnyT_done (by kernel_rfl) ?_ _
 clear HX HY HZ0 HU
 go_upto_region 2 with (fail)
 go_cut [11] from 18 to 34 (fun s11 wx=>s11=.bool s/\wx=V)
 case first =>
  obtain ⟨a0,a1,a2,a3,a4,a5,a6,a7,a8,a9⟩:=row5_facts ra.out
  obtain ⟨b0,b1,b2,b3,b4,b5,b6,b7,b8,b9⟩:=row5_facts rb.out
  obtain ⟨c0,c1,c2,c3,c4,c5,c6,c7,c8,c9⟩:=row5_facts rc.out
  rw [<-HP.out] at a0
  rw [<-HQ.out] at b0
  rw [<-HVZ.out] at c0
  have ho1:(op==1)=o:=HO1.out.symm
  cases p
  all_goals cases v
  all_goals cases q
  all_goals cases o
  all_goals as_aux_lemma =>
   go_wp2_with fail
   go_meet
   case rel=>exact ⟨by rw [HS.out];rfl,rfl⟩
 case rest =>
  obtain ⟨rfl,rfl⟩:=hcut
  obtain ⟨a0,a1,a2,a3,a4,a5,a6,a7,a8,a9⟩:=row5_facts ra.out
  obtain ⟨b0,b1,b2,b3,b4,b5,b6,b7,b8,b9⟩:=row5_facts rb.out
  obtain ⟨c0,c1,c2,c3,c4,c5,c6,c7,c8,c9⟩:=row5_facts rc.out
  go_wp2_with fail
  clear a0 a1 a2 a3 a4 a5 a6 a7 a8 a9
  clear b0 b1 b2 b3 b4 b5 b6 b7 b8 b9
  clear c0 c1 c2 c3 c4 c5 c6 c7 c8 c9
  refine (vsolving_any op HO.out x y z RX.out.1 RX.out.2.1 RX.out.2.2 wc _ (Ok.refl _)).mono ?_
  rintro e w1 ⟨f,rfl,hT,hb⟩
  obtain ⟨fid,caps,rfl,hen,hf⟩:=hT
  replace rp:Hid _:=Ok.row' hb rp.out
  replace rq:Hid _:=Ok.row' hb rq.out
  have Hw1:Hid (Ok w0 w1):=HV.out.step hb
  have HF:Hid _:=And.intro hen hf
  clear hb hen hf
  go_wp2_with fail
  cases s
  ·have EA:Hid (l=botN/\r=botN):=by rw [HL.out,HR.out];exact sol_no (by rw [<-HP.out,<-HVZ.out,<-HQ.out,<-HO1.out];exact HS.out.symm)
   refine (vask_no fid caps w1 _ (Ok.refl _)).mono ?_
   rintro e w2 ⟨rfl,hb⟩
   rw [show botN=l from EA.out.1.symm]
   unfold nv
   replace rp:Hid _:=Ok.row' hb rp.out
   replace rq:Hid _:=Ok.row' hb rq.out
   have Hw2:Hid (Ok w0 w2):=Hw1.out.step hb
   clear hb Hw1
   obtain ⟨k0,k1,k2,k3,k4,k5,k6,k7,k8,k9⟩:=row5_facts rp.out
   obtain ⟨j0,j1,j2,j3,j4,j5,j6,j7,j8,j9⟩:=row5_facts rq.out
   go_wp2_with fail
   obtain ⟨Z,hZ⟩:∃ Z,Z=((((((((((w2.setCell ⟨gp,0,none⟩ (.bool l.2.2.2.2)).setCell ⟨gp,1,none⟩ (.int .i64 l.1)).setCell ⟨gp,2,none⟩ (.int .i64 l.2.1)).setCell ⟨gp,3,none⟩ (.int .u64 (l.2.2.1:Int))).setCell ⟨gp,4,none⟩ (.int .u64 (l.2.2.2.1:Int))).setCell ⟨gq,0,none⟩ (.bool l.2.2.2.2)).setCell ⟨gq,1,none⟩ (.int .i64 l.1)).setCell ⟨gq,2,none⟩ (.int .i64 l.2.1)).setCell ⟨gq,3,none⟩ (.int .u64 (l.2.2.1:Int))).setCell ⟨gq,4,none⟩ (.int .u64 (l.2.2.2.1:Int))):=⟨_,rfl⟩
   have hp:=rows_putr ngpgq rp.out rq.out Hw2.out (by omega) (by omega) _ _ _ _ _ _ _ _ _ _ hZ
   rw [<-hZ]
   clear hZ
   refine bodyPost_ret (results_2ct rfl _ _ gp gq 29 #[_,_,_,_,_] #[_,_,_,_,_] (0,0) _ rfl rfl hp.2.1 hp.2.2 Tryz.underlying29 rfl infoN infoN) rfl ?_
   exact ⟨by rw [show r=l by rw [EA.out.1,EA.out.2]];rfl,hp.1⟩
  ·have EA:Hid (l=(ansN (solN op x y z).1 (solN op x y z).2).1/\r=(ansN (solN op x y z).1 (solN op x y z).2).2):=by rw [HL.out,HR.out];exact sol_yes (by rw [<-HP.out,<-HVZ.out,<-HQ.out,<-HO1.out];exact HS.out.symm)
   refine (vask_any fid caps _ _ HF.out.1 w1 _ (Ok.refl _) HF.out.2).mono ?_
   rintro e w2 ⟨rfl,hb⟩
   rw [<-EA.out.1,<-EA.out.2]
   unfold nv
   replace rp:Hid _:=Ok.row' hb rp.out
   replace rq:Hid _:=Ok.row' hb rq.out
   have Hw2:Hid (Ok w0 w2):=Hw1.out.step hb
   clear hb Hw1
   obtain ⟨k0,k1,k2,k3,k4,k5,k6,k7,k8,k9⟩:=row5_facts rp.out
   obtain ⟨j0,j1,j2,j3,j4,j5,j6,j7,j8,j9⟩:=row5_facts rq.out
   go_wp2_with fail
   obtain ⟨Z,hZ⟩:∃ Z,Z=((((((((((w2.setCell ⟨gp,0,none⟩ (.bool l.2.2.2.2)).setCell ⟨gp,1,none⟩ (.int .i64 l.1)).setCell ⟨gp,2,none⟩ (.int .i64 l.2.1)).setCell ⟨gp,3,none⟩ (.int .u64 (l.2.2.1:Int))).setCell ⟨gp,4,none⟩ (.int .u64 (l.2.2.2.1:Int))).setCell ⟨gq,0,none⟩ (.bool r.2.2.2.2)).setCell ⟨gq,1,none⟩ (.int .i64 r.1)).setCell ⟨gq,2,none⟩ (.int .i64 r.2.1)).setCell ⟨gq,3,none⟩ (.int .u64 (r.2.2.1:Int))).setCell ⟨gq,4,none⟩ (.int .u64 (r.2.2.2.1:Int))):=⟨_,rfl⟩
   have hp:=rows_putr ngpgq rp.out rq.out Hw2.out (by omega) (by omega) _ _ _ _ _ _ _ _ _ _ hZ
   rw [<-hZ]
   clear hZ
   refine bodyPost_ret (results_2ct rfl _ _ gp gq 29 #[_,_,_,_,_] #[_,_,_,_,_] (0,0) _ rfl rfl hp.2.1 hp.2.2 Tryz.underlying29 rfl infoN infoN) rfl ?_
   exact ⟨rfl,hp.1⟩
set_option maxRecDepth 100000 in
theorem vSolve_bad (op:Int) (ho:¬Op6 op) (a b c:Int×Int×Nat×Nat×Bool) (ha:RawN a) (hb:RawN b) (hc:RawN c) (w0 w:World) (hok:Ok w0 w) :
  Calls Tryz.prog 5 #[.int .i64 op,nv a,nv b,nv c] w fun e w'=>e=.returned (.tuple #[nv botN,nv botN,.int .i64 1])/\Ok w0 w':=by
 have hle:=hok.le
 have HU:Hid (RawN a/\RawN b/\RawN c):=⟨ha,hb,hc⟩
 have HO:Hid _:=ho
 clear ha hb hc ho
 obtain ⟨x,hx⟩:∃ t,t=normN a:=⟨_,rfl⟩
 have HX:Hid _:=hx
 clear hx
 obtain ⟨y,hy⟩:∃ t,t=normN b:=⟨_,rfl⟩
 have HY:Hid _:=hy
 clear hy
 obtain ⟨z,hz⟩:∃ t,t=normN c:=⟨_,rfl⟩
 have HZ0:Hid _:=hz
 clear hz
 have RX:Hid (RawN x/\RawN y/\RawN z):=by rw [HX.out,HY.out,HZ0.out];exact ⟨normN_raw HU.out.1,normN_raw HU.out.2.1,normN_raw HU.out.2.2⟩
 obtain ⟨l,hl⟩:∃ t,t=botN:=⟨_,rfl⟩
 have HL:Hid _:=hl
 rw [<-hl]
 clear hl
 obtain ⟨p,hp⟩:∃ t,t=x.2.2.2.2:=⟨_,rfl⟩
 have HP:Hid _:=hp
 clear hp
 obtain ⟨q,hq⟩:∃ t,t=y.2.2.2.2:=⟨_,rfl⟩
 have HQ:Hid _:=hq
 clear hq
 obtain ⟨v,hv⟩:∃ t,t=z.2.2.2.2:=⟨_,rfl⟩
 have HVZ:Hid _:=hv
 clear hv
 obtain ⟨o,ho⟩:∃ t,t=(op==1):=⟨_,rfl⟩
 have HO1:Hid _:=ho
 clear ho
 obtain ⟨s,hs⟩:∃ t,t=(!p && !v&&(!q||o)):=⟨_,rfl⟩
 have HS:Hid _:=hs
 clear hs
 unfold nv
 go_enter Tryz.func5,Tryz.ntmps5
 go_upto_region 1 with (fail)
 obtain ⟨W,hW⟩:∃ W,W=(((((w).alloc (.cells #[.bool a.2.2.2.2,.int .i64 a.1,.int .i64 a.2.1,.int .u64 (a.2.2.1:Int),.int .u64 (a.2.2.2.1:Int)] 29)).alloc (.cells #[.bool b.2.2.2.2,.int .i64 b.1,.int .i64 b.2.1,.int .u64 (b.2.2.1:Int),.int .u64 (b.2.2.2.1:Int)] 29)).alloc (.cells #[.bool c.2.2.2.2,.int .i64 c.1,.int .i64 c.2.1,.int .u64 (c.2.2.1:Int),.int .u64 (c.2.2.2.1:Int)] 29)).alloc (.cells #[.bool false,.int .i64 0,.int .i64 0,.int .u64 0,.int .u64 0] 29)).alloc (.cells #[.bool false,.int .i64 0,.int .i64 0,.int .u64 0,.int .u64 0] 29):=⟨_,rfl⟩
 have ra:Hid (W.heap[w.heap.size]?=some (.cells #[.bool a.2.2.2.2,.int .i64 a.1,.int .i64 a.2.1,.int .u64 (a.2.2.1:Int),.int .u64 (a.2.2.2.1:Int)] 29)):=by unfold Hid;rw [hW];exact jj
 have rb:Hid (W.heap[w.heap.size+1]?=some (.cells #[.bool b.2.2.2.2,.int .i64 b.1,.int .i64 b.2.1,.int .u64 (b.2.2.1:Int),.int .u64 (b.2.2.2.1:Int)] 29)):=by unfold Hid;rw [hW];exact jj
 have rc:Hid (W.heap[w.heap.size+1+1]?=some (.cells #[.bool c.2.2.2.2,.int .i64 c.1,.int .i64 c.2.1,.int .u64 (c.2.2.1:Int),.int .u64 (c.2.2.2.1:Int)] 29)):=by unfold Hid;rw [hW];exact jj
 have rp:Hid (W.heap[w.heap.size+1+1+1]?=some (.cells #[.bool false,.int .i64 0,.int .i64 0,.int .u64 0,.int .u64 0] 29)):=by unfold Hid;rw [hW];exact jj
 have rq:Hid (W.heap[w.heap.size+1+1+1+1]?=some (.cells #[.bool false,.int .i64 0,.int .i64 0,.int .u64 0,.int .u64 0] 29)):=by unfold Hid;rw [hW];exact jj
 have HW:Hid (Ok w0 W):=by unfold Hid;rw [hW];exact (by repeat (first | exact hok | refine Ok.alloc ?_ _ | refine Ok.draws ?_ _ | fail))
 rw [<-hW]
 clear hW
 obtain ⟨gq,egq⟩:∃ g,g=w.heap.size+1+1+1+1:=⟨_,rfl⟩
 rw [<-egq] at rq ⊢
 obtain ⟨gp,egp⟩:∃ g,g=w.heap.size+1+1+1:=⟨_,rfl⟩
 rw [<-egp] at rp ⊢
 obtain ⟨gc,egc⟩:∃ g,g=w.heap.size+1+1:=⟨_,rfl⟩
 rw [<-egc] at rc ⊢
 obtain ⟨gb,egb⟩:∃ g,g=w.heap.size+1:=⟨_,rfl⟩
 rw [<-egb] at rb ⊢
 obtain ⟨ga,ega⟩:∃ g,g=w.heap.size:=⟨_,rfl⟩
 rw [<-ega] at ra ⊢
 have lga:w0.heap.size<=ga:=by omega
 have ngagb:¬ga=gb:=by omega
 have ngagc:¬ga=gc:=by omega
 have ngagp:¬ga=gp:=by omega
 have ngagq:¬ga=gq:=by omega
 have lgb:w0.heap.size<=gb:=by omega
 have ngbga:¬gb=ga:=by omega
 have ngbgc:¬gb=gc:=by omega
 have ngbgp:¬gb=gp:=by omega
 have ngbgq:¬gb=gq:=by omega
 have lgc:w0.heap.size<=gc:=by omega
 have ngcga:¬gc=ga:=by omega
 have ngcgb:¬gc=gb:=by omega
 have ngcgp:¬gc=gp:=by omega
 have ngcgq:¬gc=gq:=by omega
 have lgp:w0.heap.size<=gp:=by omega
 have ngpga:¬gp=ga:=by omega
 have ngpgb:¬gp=gb:=by omega
 have ngpgc:¬gp=gc:=by omega
 have ngpgq:¬gp=gq:=by omega
 have lgq:w0.heap.size<=gq:=by omega
 have ngqga:¬gq=ga:=by omega
 have ngqgb:¬gq=gb:=by omega
 have ngqgc:¬gq=gc:=by omega
 have ngqgp:¬gq=gp:=by omega
 clear ega egb egc egp egq
 obtain ⟨D,hD⟩:∃ z,z=W.drew:=⟨_,rfl⟩
 have S0:Ok W D:=by rw [hD];exact Below.drew (Ok.refl _)
 refine wp_region_T (fun Y=>Ok W Y) 6 (by kernel_rfl) ?_
 rw [<-hD]
 clear hD
 refine tT 0 (.agg #[.bool a.2.2.2.2,.int .i64 a.1,.int .i64 a.2.1,.int .u64 (a.2.2.1:Int),.int .u64 (a.2.2.2.1:Int)]) S0 ?_ ?_
 ·exact fun w' hS=>yN (Ok.row' hS ra.out)
 refine tT 2 (.agg #[.bool b.2.2.2.2,.int .i64 b.1,.int .i64 b.2.1,.int .u64 (b.2.2.1:Int),.int .u64 (b.2.2.2.1:Int)]) S0 ?_ ?_
 ·exact fun w' hS=>yN (Ok.row' hS rb.out)
 refine tT 4 (.agg #[.bool c.2.2.2.2,.int .i64 c.1,.int .i64 c.2.1,.int .u64 (c.2.2.1:Int),.int .u64 (c.2.2.2.1:Int)]) S0 ?_ ?_
 ·exact fun w' hS=>yN (Ok.row' hS rc.out)
 simp only [Act.put,List.setIfInBounds_toArray,List.set_cons_zero,List.set_cons_succ]
 refine sT (i:=1) (by kernel_rfl) rfl (fun K hK=>?_)
 go_simp
 refine (nnorm_any a HU.out.1 W _ S0).mono ?_
 rintro e y1 ⟨rfl,hy1⟩
 rw [<-HX.out]
 unfold nv
 go_wp2_with fail
 refine hK.out _ _ (fun _=>hy1) ?_
 clear hK K
 refine sT (i:=3) (by kernel_rfl) rfl (fun K hK=>?_)
 go_simp
 refine (nnorm_any b HU.out.2.1 W _ hy1).mono ?_
 rintro e y2 ⟨rfl,hy2⟩
 rw [<-HY.out]
 unfold nv
 go_wp2_with fail
 refine hK.out _ _ (fun _=>hy2) ?_
 clear hK K
 refine sT (i:=5) (by kernel_rfl) rfl (fun K hK=>?_)
 go_simp
 refine (nnorm_any c HU.out.2.2 W _ hy2).mono ?_
 rintro e y3 ⟨rfl,hy3⟩
 rw [<-HZ0.out]
 unfold nv
 go_wp2_with fail
 refine hK.out _ _ (fun _=>hy3) ?_
 clear hK K
 refine sT (i:=6) (by kernel_rfl) rfl (fun K hK=>?_)
 replace ra:Hid _:=Ok.row' hy3 ra.out
 replace rb:Hid _:=Ok.row' hy3 rb.out
 replace rc:Hid _:=Ok.row' hy3 rc.out
 replace rp:Hid _:=Ok.row' hy3 rp.out
 replace rq:Hid _:=Ok.row' hy3 rq.out
 have Hy3:Hid (Ok w0 y3):=HW.out.step hy3
 clear S0
 obtain ⟨a0,a1,a2,a3,a4,a5,a6,a7,a8,a9⟩:=row5_facts ra.out
 go_simp
 refine hK.out _ _ (fun h=>absurd h (by decide)) ?_
 clear hK K
 obtain ⟨Z1,hZ1⟩:∃ Z,Z=(((((y3.setCell ⟨ga,0,none⟩ (.bool x.2.2.2.2)).setCell ⟨ga,1,none⟩ (.int .i64 x.1)).setCell ⟨ga,2,none⟩ (.int .i64 x.2.1)).setCell ⟨ga,3,none⟩ (.int .u64 (x.2.2.1:Int))).setCell ⟨ga,4,none⟩ (.int .u64 (x.2.2.2.1:Int))):=⟨_,rfl⟩
 obtain ⟨HZ1,raz,keep⟩:=(rows_put1 ra.out Hy3.out (by omega) _ _ _ _ _ hZ1).out
 replace HZ1:Hid (Ok w0 Z1):=HZ1
 replace raz:Hid _:=raz
 replace rb:Hid _:=keep _ _ (by omega) rb.out
 replace rc:Hid _:=keep _ _ (by omega) rc.out
 replace rp:Hid _:=keep _ _ (by omega) rp.out
 replace rq:Hid _:=keep _ _ (by omega) rq.out
 rw [<-hZ1]
 clear hZ1 keep ra
 clear a0 a1 a2 a3 a4 a5 a6 a7 a8 a9
 have ra:Hid _:=raz
 clear raz
 refine sT (i:=7) (by kernel_rfl) rfl (fun K hK=>?_)
 obtain ⟨a0,a1,a2,a3,a4,a5,a6,a7,a8,a9⟩:=row5_facts rb.out
 go_simp
 refine hK.out _ _ (fun h=>absurd h (by decide)) ?_
 clear hK K
 obtain ⟨Z2,hZ2⟩:∃ Z,Z=(((((Z1.setCell ⟨gb,0,none⟩ (.bool y.2.2.2.2)).setCell ⟨gb,1,none⟩ (.int .i64 y.1)).setCell ⟨gb,2,none⟩ (.int .i64 y.2.1)).setCell ⟨gb,3,none⟩ (.int .u64 (y.2.2.1:Int))).setCell ⟨gb,4,none⟩ (.int .u64 (y.2.2.2.1:Int))):=⟨_,rfl⟩
 obtain ⟨HZ2,rbz,keep⟩:=(rows_put1 rb.out HZ1.out (by omega) _ _ _ _ _ hZ2).out
 replace HZ2:Hid (Ok w0 Z2):=HZ2
 replace rbz:Hid _:=rbz
 replace ra:Hid _:=keep _ _ (by omega) ra.out
 replace rc:Hid _:=keep _ _ (by omega) rc.out
 replace rp:Hid _:=keep _ _ (by omega) rp.out
 replace rq:Hid _:=keep _ _ (by omega) rq.out
 rw [<-hZ2]
 clear hZ2 keep rb
 clear a0 a1 a2 a3 a4 a5 a6 a7 a8 a9
 have rb:Hid _:=rbz
 clear rbz
 refine sT (i:=8) (by kernel_rfl) rfl (fun K hK=>?_)
 obtain ⟨a0,a1,a2,a3,a4,a5,a6,a7,a8,a9⟩:=row5_facts rc.out
 go_simp
 refine hK.out _ _ (fun h=>absurd h (by decide)) ?_
 clear hK K
 obtain ⟨V,hV⟩:∃ Z,Z=(((((Z2.setCell ⟨gc,0,none⟩ (.bool z.2.2.2.2)).setCell ⟨gc,1,none⟩ (.int .i64 z.1)).setCell ⟨gc,2,none⟩ (.int .i64 z.2.1)).setCell ⟨gc,3,none⟩ (.int .u64 (z.2.2.1:Int))).setCell ⟨gc,4,none⟩ (.int .u64 (z.2.2.2.1:Int))):=⟨_,rfl⟩
 obtain ⟨HV,rcz,keep⟩:=(rows_put1 rc.out HZ2.out (by omega) _ _ _ _ _ hV).out
 replace HV:Hid (Ok w0 V):=HV
 replace rcz:Hid _:=rcz
 replace ra:Hid _:=keep _ _ (by omega) ra.out
 replace rb:Hid _:=keep _ _ (by omega) rb.out
 replace rp:Hid _:=keep _ _ (by omega) rp.out
 replace rq:Hid _:=keep _ _ (by omega) rq.out
 rw [<-hV]
 clear hV keep rc
 clear a0 a1 a2 a3 a4 a5 a6 a7 a8 a9
 have rc:Hid _:=rcz
 clear rcz
 refine wpAnyT_done (by kernel_rfl) ?_ _
 clear HX HY HZ0 HU
 go_upto_region 2 with (fail)
 go_cut [11] from 18 to 34 (fun s11 wx=>s11=.bool s/\wx=V)
 case first =>
  obtain ⟨a0,a1,a2,a3,a4,a5,a6,a7,a8,a9⟩:=row5_facts ra.out
  obtain ⟨b0,b1,b2,b3,b4,b5,b6,b7,b8,b9⟩:=row5_facts rb.out
  obtain ⟨c0,c1,c2,c3,c4,c5,c6,c7,c8,c9⟩:=row5_facts rc.out
  rw [<-HP.out] at a0
  rw [<-HQ.out] at b0
  rw [<-HVZ.out] at c0
  have ho1:(op==1)=o:=HO1.out.symm
  cases p
  all_goals cases v
  all_goals cases q
  all_goals cases o
  all_goals as_aux_lemma =>
   go_wp2_with fail
   go_meet
   case rel=>exact ⟨by rw [HS.out];rfl,rfl⟩
 case rest =>
  obtain ⟨rfl,rfl⟩:=hcut
  obtain ⟨a0,a1,a2,a3,a4,a5,a6,a7,a8,a9⟩:=row5_facts ra.out
  obtain ⟨b0,b1,b2,b3,b4,b5,b6,b7,b8,b9⟩:=row5_facts rb.out
  obtain ⟨c0,c1,c2,c3,c4,c5,c6,c7,c8,c9⟩:=row5_facts rc.out
  go_wp2_with fail
  clear a0 a1 a2 a3 a4 a5 a6 a7 a8 a9
  clear b0 b1 b2 b3 b4 b5 b6 b7 b8 b9
  clear c0 c1 c2 c3 c4 c5 c6 c7 c8 c9
  refine (vsolving_nil op HO.out x y z wc _ (Ok.refl _)).mono ?_
  rintro e w1 ⟨rfl,hb⟩
  replace rp:Hid _:=Ok.row' hb rp.out
  replace rq:Hid _:=Ok.row' hb rq.out
  have Hw1:Hid (Ok w0 w1):=HV.out.step hb
  clear hb
  go_wp2_with fail
  refine (vask_nil s w1 _ (Ok.refl _)).mono ?_
  rintro e w2 ⟨rfl,hb⟩
  rw [<-HL.out]
  unfold nv
  replace rp:Hid _:=Ok.row' hb rp.out
  replace rq:Hid _:=Ok.row' hb rq.out
  have Hw2:Hid (Ok w0 w2):=Hw1.out.step hb
  clear hb Hw1
  obtain ⟨k0,k1,k2,k3,k4,k5,k6,k7,k8,k9⟩:=row5_facts rp.out
  obtain ⟨j0,j1,j2,j3,j4,j5,j6,j7,j8,j9⟩:=row5_facts rq.out
  go_wp2_with fail
  obtain ⟨Z,hZ⟩:∃ Z,Z=((((((((((w2.setCell ⟨gp,0,none⟩ (.bool l.2.2.2.2)).setCell ⟨gp,1,none⟩ (.int .i64 l.1)).setCell ⟨gp,2,none⟩ (.int .i64 l.2.1)).setCell ⟨gp,3,none⟩ (.int .u64 (l.2.2.1:Int))).setCell ⟨gp,4,none⟩ (.int .u64 (l.2.2.2.1:Int))).setCell ⟨gq,0,none⟩ (.bool l.2.2.2.2)).setCell ⟨gq,1,none⟩ (.int .i64 l.1)).setCell ⟨gq,2,none⟩ (.int .i64 l.2.1)).setCell ⟨gq,3,none⟩ (.int .u64 (l.2.2.1:Int))).setCell ⟨gq,4,none⟩ (.int .u64 (l.2.2.2.1:Int))):=⟨_,rfl⟩
  have hp:=rows_putr ngpgq rp.out rq.out Hw2.out (by omega) (by omega) _ _ _ _ _ _ _ _ _ _ hZ
  rw [<-hZ]
  clear hZ
  refine bodyPost_ret (results_2ct rfl _ _ gp gq 29 #[_,_,_,_,_] #[_,_,_,_,_] (0,0) _ rfl rfl hp.2.1 hp.2.2 Tryz.underlying29 rfl infoN infoN) rfl ?_
  exact ⟨rfl,hp.1⟩
end Go.Proofs.YtnjmjnmhldhaoaaGreat
