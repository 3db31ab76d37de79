import Derived.Test.YtpjpjhjjhoeijaaGreatKNfm
set_option linter.all false
namespace Go.Proofs.YtpjpjhjjhoeijaaGreat
open Go.RowKit
set_option maxRecDepth 100000 in
set_option maxHeartbeats 4000000 in
theorem cdiv_any (cM cR dM dR:Nat) (h1:U64 cM) (h2:U64 cR) (h3:U64 dM) (h4:U64 dR) (w0 w:World) (hok:Ok w0 w) :
  Calls Tryz.prog 42 #[cv cM cR,cv dM dR] w fun e w'=>e=.returned (cv (divC cM cR dM dR).1 (divC cM cR dM dR).2)/\Ok w0 w':=by
 have hle:=hok.le
 have HU:Hid _:=And.intro h1 (And.intro h2 (And.intro h3 h4))
 clear h1 h2 h3 h4
 obtain ⟨k,hk⟩:∃ k,k=wrap64 (dR:Int):=⟨_,rfl⟩
 have HK:Hid _:=hk
 have HKI:Hid (In64 k):=by unfold Hid;rw [hk];exact wrap64_in _
 obtain ⟨C,hC⟩:∃ C,C=divC cM cR dM dR:=⟨_,rfl⟩
 have HC:=hC
 unfold divC at HC
 rw [<-hk] at HC
 rw [<-hC]
 have HCC:Hid _:=HC
 clear hC hk HC
 unfold cv
 go_enter Tryz.func42,Tryz.ntmps42
 go_wp2_with fail
 obtain ⟨W,hW⟩:∃ W,W=((w.alloc (.cells #[.int .u64 (cM:Int),.int .u64 (cR:Int)] 27)).alloc (.cells #[.int .u64 (dM:Int),.int .u64 (dR:Int)] 27)).alloc (.cells #[.int .u64 0,.int .u64 0] 27):=⟨_,rfl⟩
 have ra:W.heap[w.heap.size]?=some (.cells #[.int .u64 (cM:Int),.int .u64 (cR:Int)] 27):=by rw [hW];exact jj
 have rb:W.heap[w.heap.size+1]?=some (.cells #[.int .u64 (dM:Int),.int .u64 (dR:Int)] 27):=by rw [hW];exact jj
 have rr:W.heap[w.heap.size+2]?=some (.cells #[.int .u64 0,.int .u64 0] 27):=by rw [hW];exact jj
 have HW:Hid (Ok w0 W):=by rw [hW];exact (by repeat (first | exact hok | refine Ok.alloc ?_ _ | refine Ok.draws ?_ _ | fail))
 rw [<-hW]
 clear hW hok
 refine (cnumber_any dM dR HU.out.2.2.2 W W (Ok.refl _)).mono ?_
 rintro e w1 ⟨rfl,hb1⟩
 rw [<-HK.out]
 have HR1:Hid _:=And.intro (Ok.row' hb1 ra) (And.intro (Ok.row' hb1 rb) (Ok.row' hb1 rr))
 have HB1:Hid (Ok w0 w1):=HW.out.step hb1
 clear ra rb rr hb1 HW
 obtain ⟨a0,a1,a2,a3⟩:=row_facts HR1.out.1
 obtain ⟨b0,b1,_,_⟩:=row_facts HR1.out.2.1
 obtain ⟨c0,c1,c2,c3⟩:=row_facts HR1.out.2.2
 have fin:Hid (∀ (w5:World) (x y:Nat),Ok w0 w5->w5.heap[w.heap.size+2]?=some (.cells #[.int .u64 0,.int .u64 0] 27)->Ok w0 ((w5.setCell ⟨w.heap.size+1+1,0,none⟩ (.int .u64 (x:Int))).setCell ⟨w.heap.size+1+1,1,none⟩ (.int .u64 (y:Int)))):=by
  intro w5 x y h _
  exact (h.set (show w0.heap.size<=w.heap.size+2 by omega) _).set (show w0.heap.size<=w.heap.size+2 by omega) _
 by_cases d1:0<dM
 ·have E:Hid (C=(1,0)):=by unfold Hid;rw [HCC.out,if_pos (Or.inl d1)]
  have d2:(0:Int)<(dM:Int):=by omega
  clear d1
  go_wp2_with fail
  (try simp only [Exit.inBlock,Exit.then])
  refine bodyPost_ret (results_cell_row rfl _ _ (w.heap.size+2) 27 #[_,_] (0,0) _ rfl (row_set2 HR1.out.2.2 _ _) Tryz.underlying27 rfl infoCg) rfl ?_
  rw [E.out]
  exact ⟨rfl,(HB1.out.set (show w0.heap.size<=w.heap.size+2 by omega) _).set (show w0.heap.size<=w.heap.size+2 by omega) _⟩
 ·have d2:¬(0:Int)<(dM:Int):=by omega
  by_cases k0:k=0
  ·have E:Hid (C=(1,0)):=by unfold Hid;rw [HCC.out,if_pos (Or.inr k0)]
   have k1:(k==0)=true:=by simp [k0]
   clear d1 k0
   go_wp2_with fail
   (try simp only [Exit.inBlock,Exit.then])
   refine bodyPost_ret (results_cell_row rfl _ _ (w.heap.size+2) 27 #[_,_] (0,0) _ rfl (row_set2 HR1.out.2.2 _ _) Tryz.underlying27 rfl infoCg) rfl ?_
   rw [E.out]
   exact ⟨rfl,(HB1.out.set (show w0.heap.size<=w.heap.size+2 by omega) _).set (show w0.heap.size<=w.heap.size+2 by omega) _⟩
  ·have k1:(k==0)=false:=by simp [k0]
   have h9:=HCC.out
   rw [if_neg (show ¬(0<dM\/k=0) by omega)] at h9
   by_cases z:cM=0
   ·have z1:(cM:Int)=0:=by omega
    rw [if_pos z] at h9
    obtain ⟨V,hV⟩:∃ V,V=wrap64 (cR:Int):=⟨_,rfl⟩
    rw [<-hV] at h9
    have E1:Hid _:=h9
    have HV:Hid _:=hV
    clear hV d1 z h9
    by_cases m1:k = -1
    ·have m2:(k == -1)=true:=by simp [m1]
     have E2:Hid (C=(0,bitsN (wrap64 (-V)))):=by unfold Hid;rw [E1.out,if_pos m1]
     clear m1
     go_wp2_with fail
     refine (cnumber_any 0 cR HU.out.2.1 w1 w1 (Ok.refl _)).mono ?_
     rintro e w2 ⟨rfl,hb2⟩
     rw [<-HV.out]
     have HR2:Hid _:=Ok.row' hb2 HR1.out.2.2
     have HB2:Hid (Ok w0 w2):=HB1.out.step hb2
     clear hb2
     go_wp2_with fail
     refine (cconst_any _ w2 w2 (Ok.refl _)).mono ?_
     rintro e w3 ⟨rfl,hb3⟩
     have HR3:Hid _:=Ok.row' hb3 HR2.out
     have HB3:Hid (Ok w0 w3):=HB2.out.step hb3
     obtain ⟨e0,e1,e2,e3⟩:=row_facts HR3.out
     clear hb3 c0 c1 c2 c3 a0 a1 a2 a3 b0 b1
     unfold cv
     go_wp2_with fail
     (try simp only [Exit.inBlock,Exit.then])
     refine bodyPost_ret (results_cell_row rfl _ _ (w.heap.size+2) 27 #[_,_] (0,0) _ rfl (row_set2 HR3.out _ _) Tryz.underlying27 rfl infoCg) rfl ?_
     rw [E2.out]
     refine ⟨?_,(HB3.out.set (show w0.heap.size<=w.heap.size+2 by omega) _).set (show w0.heap.size<=w.heap.size+2 by omega) _⟩
     first | rfl | (rw [show IntKind.i64.wrap (-V)=wrap64 (-V) by rw [IntKind.wrap_i64];unfold wrap64;omega];rfl)
    ·have m2:(k == -1)=false:=by simp [m1]
     have E2:Hid (C=(0,bitsN (V.tdiv k))):=by unfold Hid;rw [E1.out,if_neg m1]
     go_wp2_with fail
     refine (cnumber_any 0 cR HU.out.2.1 w1 w1 (Ok.refl _)).mono ?_
     rintro e w2 ⟨rfl,hb2⟩
     rw [<-HV.out]
     have HR2:Hid _:=Ok.row' hb2 HR1.out.2.2
     have HB2:Hid (Ok w0 w2):=HB1.out.step hb2
     clear hb2
     go_wp2_with fail
     refine (cconst_any _ w2 w2 (Ok.refl _)).mono ?_
     rintro e w3 ⟨rfl,hb3⟩
     have HR3:Hid _:=Ok.row' hb3 HR2.out
     have HB3:Hid (Ok w0 w3):=HB2.out.step hb3
     obtain ⟨e0,e1,e2,e3⟩:=row_facts HR3.out
     clear hb3 c0 c1 c2 c3 a0 a1 a2 a3 b0 b1
     unfold cv
     go_wp2_with fail
     (try simp only [Exit.inBlock,Exit.then])
     refine bodyPost_ret (results_cell_row rfl _ _ (w.heap.size+2) 27 #[_,_] (0,0) _ rfl (row_set2 HR3.out _ _) Tryz.underlying27 rfl infoCg) rfl ?_
     rw [E2.out]
     refine ⟨?_,(HB3.out.set (show w0.heap.size<=w.heap.size+2 by omega) _).set (show w0.heap.size<=w.heap.size+2 by omega) _⟩
     first | rfl | (rw [show IntKind.i64.wrap (V.tdiv k)=V.tdiv k by rw [IntKind.wrap_i64];have:=tdiv_in64 (x:=V) (y:=k) (by rw [HV.out];exact wrap64_in _) m1;unfold In64 at this;omega];rfl) | (rw [wrap64_id (tdiv_in64 (x:=V) (y:=k) (by rw [HV.out];exact wrap64_in _) m1)];rfl)
   ·have z1:((cM:Int)==0)=false:=by simp;omega
    rw [if_neg z] at h9
    have E1:Hid _:=h9
    clear h9
    obtain ⟨R',hR'⟩:∃ r,r=cR%cM:=⟨_,rfl⟩
    have HN:Hid (normC cM cR=(cM,R')):=by unfold Hid normC;rw [if_pos (by omega),hR']
    rw [<-hR'] at E1
    have hRl:R'<cM:=by rw [hR'];exact Nat.mod_lt _ (by omega)
    obtain ⟨f,hf⟩:∃ f,f=k.natAbs:=⟨_,rfl⟩
    rw [<-hf] at E1
    have hfp:0<f:=by omega
    have HFk:Hid _:=hf
    clear hR' hf
    go_wp2_with fail
    refine (cnorm_any cM cR w1 w1 (Ok.refl _)).mono ?_
    rintro e w2 ⟨rfl,hb2⟩
    rw [HN.out]
    have HR2:Hid _:=And.intro (Ok.row' hb2 HR1.out.1) (Ok.row' hb2 HR1.out.2.2)
    have HB2:Hid (Ok w0 w2):=HB1.out.step hb2
    clear hb2 a0 a1 a2 a3 b0 b1 c0 c1 c2 c3
    obtain ⟨a0,a1,a2,a3⟩:=row_facts HR2.out.1
    obtain ⟨c0,c1,c2,c3⟩:=row_facts HR2.out.2
    unfold cv
    go_wp2_with fail
    have HZ0:Hid _:=row_set2 HR2.out.1 (.int .u64 (cM:Int)) (.int .u64 (R':Int))
    have HZ1:Hid (Ok w0 ((w2.setCell ⟨w.heap.size,0,none⟩ (.int .u64 (cM:Int))).setCell ⟨w.heap.size,1,none⟩ (.int .u64 (R':Int)))):=(HB2.out.set hle _).set hle _
    have HZ2:Hid (((w2.setCell ⟨w.heap.size,0,none⟩ (.int .u64 (cM:Int))).setCell ⟨w.heap.size,1,none⟩ (.int .u64 (R':Int))).heap[w.heap.size+2]?=some (.cells #[.int .u64 0,.int .u64 0] 27)):=by
     unfold Hid
     rw [heap_setCell_other _ _ _ _ (by simp),heap_setCell_other _ _ _ _ (by simp)]
     exact HR2.out.2
    obtain ⟨Z,hZ⟩:∃ Z,Z=(w2.setCell ⟨w.heap.size,0,none⟩ (.int .u64 (cM:Int))).setCell ⟨w.heap.size,1,none⟩ (.int .u64 (R':Int)):=⟨_,rfl⟩
    rw [<-hZ] at HZ0 HZ1 HZ2 ⊢
    clear hZ a0 a1 a2 a3 c0 c1 c2 c3 d1 z
    obtain ⟨a0,a1,_,_⟩:=row_facts HZ0.out
    obtain ⟨c0,c1,c2,c3⟩:=row_facts HZ2.out
    by_cases m1:k = -1
    ·have m2:(k == -1)=true:=by simp [m1]
     have E2:Hid (C=(1,0)):=by unfold Hid;rw [E1.out,if_pos (Or.inl m1)]
     clear m1
     go_quiet (fail)
     go_wp2_with fail
     (try simp only [Exit.inBlock,Exit.then])
     refine bodyPost_ret (results_cell_row rfl _ _ (w.heap.size+2) 27 #[_,_] (0,0) _ rfl (row_set2 HZ2.out _ _) Tryz.underlying27 rfl infoCg) rfl ?_
     rw [E2.out]
     exact ⟨rfl,by repeat (first | exact HZ1.out | refine Ok.draws ?_ _ | refine Ok.set ?_ (show w0.heap.size<=w.heap.size+2 by omega) _)⟩
    ·have m2:(k == -1)=false:=by simp [m1]
     obtain ⟨g1,hg1⟩:∃ g,g=cM%f:=⟨_,rfl⟩
     obtain ⟨g2,hg2⟩:∃ g,g=R'%f:=⟨_,rfl⟩
     rw [<-hg1,<-hg2] at E1
     have t1:(cM:Int).tmod (f:Int)=(g1:Int):=by rw [hg1,Int.tmod_eq_emod_of_nonneg (by omega),Int.natCast_emod]
     have t2:(cM:Int)%(f:Int)=(g1:Int):=by rw [hg1,Int.natCast_emod]
     have t3:(R':Int).tmod (f:Int)=(g2:Int):=by rw [hg2,Int.tmod_eq_emod_of_nonneg (by omega),Int.natCast_emod]
     have t4:(R':Int)%(f:Int)=(g2:Int):=by rw [hg2,Int.natCast_emod]
     have f1:((f:Int)==0)=false:=by simp;omega
     have f2:¬(f:Int)=0:=by omega
     have f3:(f==0)=false:=by simp;omega
     have f4:¬f=0:=by omega
     have HGG:Hid _:=And.intro hg1 hg2
     clear hg1 hg2
     obtain ⟨G1,hG1⟩:∃ G:Int,G=(g1:Int):=⟨_,rfl⟩
     obtain ⟨G2,hG2⟩:∃ G:Int,G=(g2:Int):=⟨_,rfl⟩
     rw [<-hG1] at t1 t2
     rw [<-hG2] at t3 t4
     by_cases p1:g1=0
     ·by_cases p2:g2=0
      ·have p3:(G1 != 0)=false:=by simp;omega
       have p4:(G2 != 0)=false:=by simp;omega
       have E2:=E1.out
       rw [if_neg (show ¬(k = -1\/g1≠0\/g2≠0) by omega)] at E2
       obtain ⟨q1,hq1⟩:∃ q,q=cM/f:=⟨_,rfl⟩
       obtain ⟨q2,hq2⟩:∃ q,q=R'/f:=⟨_,rfl⟩
       rw [<-hq1,<-hq2] at E2
       have E3:Hid _:=E2
       have e5:(cM:Int).tdiv (f:Int)=(q1:Int):=by rw [hq1,Int.tdiv_eq_ediv_of_nonneg (by omega),Int.natCast_ediv]
       have e6:(R':Int).tdiv (f:Int)=(q2:Int):=by rw [hq2,Int.tdiv_eq_ediv_of_nonneg (by omega),Int.natCast_ediv]
       have e7:(cM:Int)/(f:Int)=(q1:Int):=by rw [hq1,Int.natCast_ediv]
       have e8:(R':Int)/(f:Int)=(q2:Int):=by rw [hq2,Int.natCast_ediv]
       have HQ:Hid (U64 q1/\U64 q2/\0<q1):=by
        have u:=HU.out.1
        have d1:=Nat.div_le_self cM f
        have d2:=Nat.div_le_self R' f
        have d3:=Nat.div_add_mod cM f
        rw [<-hq1] at d1 d3
        rw [<-hq2] at d2
        rw [<-HGG.out.1,p1] at d3
        unfold U64 at u ⊢
        refine ⟨by omega,by omega,?_⟩
        rcases Nat.eq_zero_or_pos q1 with h | h
        ·rw [h] at d3;simp at d3;omega
        ·exact h
       have w5:IntKind.u64.wrap (q1:Int)=(q1:Int):=by have:=HQ.out.1;unfold U64 at this;rw [u64w];omega
       have w6:IntKind.u64.wrap (q2:Int)=(q2:Int):=by have:=HQ.out.2.1;unfold U64 at this;rw [u64w];omega
       have cf:∀ u:World,Calls Tryz.prog 122 #[.int .i64 k] u fun e w'=>e=.returned (.int .u64 (f:Int))/\w'=u:=by
        intro u;rw [HFk.out];exact cfar_any k HKI.out u
       have HCF:Hid _:=cf
       clear cf E2 hq1 hq2 p1 p2 m1 hG1 hG2
       go_quiet (first
         | (go_at_call 122;exact Calls.quiet_of_same (HCF.out _))
         | fail)
       go_wp2_with fail
       obtain ⟨Y,hY⟩:∃ Y,Y=Z.drewN nq:=⟨_,rfl⟩
       have hzy:Ok Z Y:=by rw [hY];exact Ok.draws (Ok.refl _) _
       have HY1:Hid (Ok w0 Y):=by rw [hY];exact Ok.draws HZ1.out _
       have HY2:Hid _:=Ok.row' hzy HZ2.out
       have HY0:Hid _:=Ok.row' hzy HZ0.out
       rw [<-hY]
       clear hY hzy a0 a1 c0 c1 c2 c3
       obtain ⟨a0,a1,_,_⟩:=row_facts HY0.out
       have z0:=lt_row HY0.out
       have bz:Ok Y Y:=Ok.refl _
       have n1:¬w.heap.size+1+1=w.heap.size:=by omega
       have HPb:Hid (Big q2):=by have:=HQ.out.2.1;unfold Hid Big;unfold U64 at this;omega
       go_region_held3 (fun w'=>w'.cell? ⟨w.heap.size,0,none⟩=some (.int .u64 (cM:Int))/\w'.cell? ⟨w.heap.size,1,none⟩=some (.int .u64 (R':Int))) (go_keep)
        (first
        | (go_at_call 122;refine (HCF.out _).mono ?_;rintro e w' ⟨rfl,rfl⟩)
        | (go_at_call 111;refine (bof_any q2 HQ.out.2.1 Y _ (by repeat (first | assumption | refine Ok.alloc ?_ _ | refine Below.drew ?_))).mono ?_;rintro e w' ⟨rfl,hb⟩;unfold bv;have q0:=Ok.cell hb z0 a0;have q1':=Ok.cell hb z0 a1;obtain ⟨c0,c1,c2,c3⟩:=row_facts (Ok.row' hb HY2.out))
        | (go_at_call 123;refine (cclass_any q2 (decide (k<0)) q1 HPb.out HQ.out.1 HQ.out.2.2 Y _ (by repeat (first | assumption | refine Ok.alloc ?_ _ | refine Below.drew ?_))).mono ?_;rintro e w' ⟨rfl,hb⟩;unfold cv;have q0:=Ok.cell hb z0 a0;have q1':=Ok.cell hb z0 a1;obtain ⟨c0,c1,c2,c3⟩:=row_facts (Ok.row' hb HY2.out))
        | (trace_state;fail))
       have HR5:Hid _:=Ok.row' hb HY2.out
       have HB5:Hid (Ok w0 w'):=HY1.out.step hb
       go_wp2_with fail
       (try simp only [Exit.inBlock,Exit.then])
       refine bodyPost_ret (results_cell_row rfl _ _ (w.heap.size+2) 27 #[_,_] (0,0) _ rfl (row_set2 HR5.out _ _) Tryz.underlying27 rfl infoCg) rfl ?_
       rw [E3.out]
       exact ⟨rfl,(HB5.out.set (show w0.heap.size<=w.heap.size+2 by omega) _).set (show w0.heap.size<=w.heap.size+2 by omega) _⟩
      ·have E2:Hid (C=(1,0)):=by unfold Hid;rw [E1.out,if_pos (by omega)]
       have p3:(G1 != 0)=false:=by simp;omega
       have p4:(G2 != 0)=true:=by simp;omega
       clear p1 p2 m1 hG1 hG2
       go_region_held3 (fun w'=>w'.cell? ⟨w.heap.size,0,none⟩=some (.int .u64 (cM:Int))/\w'.cell? ⟨w.heap.size,1,none⟩=some (.int .u64 (R':Int))) (go_keep)
        (first
        | (go_at_call 122;refine (cfar_any k HKI.out _).mono ?_;rintro e w' ⟨rfl,rfl⟩;rw [<-HFk.out])
        | fail)
       go_wp2_with fail
       (try simp only [Exit.inBlock,Exit.then])
       refine bodyPost_ret (results_cell_row rfl _ _ (w.heap.size+2) 27 #[_,_] (0,0) _ rfl (row_set2 HZ2.out _ _) Tryz.underlying27 rfl infoCg) rfl ?_
       rw [E2.out]
       exact ⟨rfl,by repeat (first | exact HZ1.out | refine Ok.draws ?_ _ | refine Ok.set ?_ (show w0.heap.size<=w.heap.size+2 by omega) _)⟩
     ·have E2:Hid (C=(1,0)):=by unfold Hid;rw [E1.out,if_pos (by omega)]
      have p3:(G1==0)=false:=by simp;omega
      have p5:¬G1=0:=by omega
      have p6:(G1 != 0)=true:=by simp;omega
      clear m1 p1 hG1 hG2
      have cf:∀ u:World,Calls Tryz.prog 122 #[.int .i64 k] u fun e w'=>e=.returned (.int .u64 (f:Int))/\w'=u:=by
       intro u;rw [HFk.out];exact cfar_any k HKI.out u
      have HCF:Hid _:=cf
      clear cf
      go_quiet (first
        | (go_at_call 122;exact Calls.quiet_of_same (HCF.out _))
        | fail)
      go_wp2_with fail
      (try simp only [Exit.inBlock,Exit.then])
      refine bodyPost_ret (results_cell_row rfl _ _ (w.heap.size+2) 27 #[_,_] (0,0) _ rfl (row_set2 HZ2.out _ _) Tryz.underlying27 rfl infoCg) rfl ?_
      rw [E2.out]
      exact ⟨rfl,by repeat (first | exact HZ1.out | refine Ok.draws ?_ _ | refine Ok.set ?_ (show w0.heap.size<=w.heap.size+2 by omega) _)⟩
end Go.Proofs.YtpjpjhjjhoeijaaGreat
