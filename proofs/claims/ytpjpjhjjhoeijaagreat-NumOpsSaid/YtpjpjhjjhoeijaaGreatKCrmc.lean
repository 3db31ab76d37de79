import Derived.Test.YtpjpjhjjhoeijaaGreatKCdvc
import Derived.Test.YtpjpjhjjhoeijaaGreatKCmlc
set_option linter.all false
namespace Go.Proofs.YtpjpjhjjhoeijaaGreat
open Go.RowKit
theorem field_far (a b c:Value) (w:World):(Instr.field 107 (.agg #[a,b,c]) 0).run Tryz.prog w=.ok (.agg #[a,b]) w:=by kernel_rfl
attribute [local go_sem] field_far
theorem tmod_in64 {x y:Int} (hx:In64 x):In64 (x.tmod y):=by
 unfold In64 at *
 have n:(x.tmod y).natAbs<=x.natAbs:=by rw [Int.natAbs_tmod];exact Nat.mod_le _ _
 rcases Int.le_total 0 x with h | h
 ·have a:=Int.tmod_nonneg y h
  omega
 ·have a:=Int.tmod_nonneg y (show 0 <= -x by omega)
  rw [Int.neg_tmod] at a
  omega
theorem remG_u64 {cM dM dR:Nat} (h1:U64 cM) (h3:U64 dM) (h:0<cM\/0<dM):U64 (remG cM dM dR)/\0<remG cM dM dR:=by
 unfold remG U64 at *
 have p:0<Nat.gcd cM dM:=by
  rcases h with h | h
  ·exact Nat.gcd_pos_of_pos_left _ h
  ·exact Nat.gcd_pos_of_pos_right _ h
 have q:Nat.gcd cM dM<18446744073709551616:=by
  rcases h with h | h
  ·have:=Nat.le_of_dvd h (Nat.gcd_dvd_left cM dM);omega
  ·have:=Nat.le_of_dvd h (Nat.gcd_dvd_right cM dM);omega
 have r:=Nat.le_of_dvd p (Nat.gcd_dvd_left (Nat.gcd cM dM) (rF dM dR))
 exact ⟨by omega,Nat.gcd_pos_of_pos_left _ p⟩
set_option maxRecDepth 100000 in
set_option maxHeartbeats 8000000 in
theorem crem_any (cM cR dM dR:Nat) (h1:U64 cM) (h2:U64 cR) (h3:U64 dM) (h4:U64 dR) (w0 w:World) (hok:Ok w0 w) :
  Calls Tryz.prog 44 #[cv cM cR,cv dM dR] w fun e w'=>e=.returned (cv (remC cM cR dM dR).1 (remC cM cR dM dR).2)/\Ok w0 w':=by
 have hle:=hok.le
 have HU:Hid _:=And.intro h1 (And.intro h2 (And.intro h3 h4))
 clear h1 h2 h3 h4
 by_cases hq:dM=0/\dR=0
 ·have E:Hid (remC cM cR dM dR=(1,0)):=by unfold Hid remC;rw [if_pos hq]
  obtain ⟨rfl,rfl⟩:=hq
  unfold cv
  go_enter Tryz.func44,Tryz.ntmps44
  go_wp2_with fail
  (try simp only [Exit.inBlock,Exit.then])
  (try simp only [Exit.inBlock, Exit.then]); refine bodyPost_ret (results_cell_row rfl _ _ (w.heap.size+2) 27 #[_, _] (0, 0) _ rfl jj Tryz.underlying27 rfl infoCg) rfl ?_
  rw [E.out]
  exact ⟨rfl,(by repeat (first | exact hok | refine Ok.alloc ?_ _ | refine Ok.draws ?_ _ | fail))⟩
 ·by_cases hz:cM=0/\dM=0
  ·have E:Hid (remC cM cR dM dR=(0,bitsN (if wrap64 (dR:Int) = -1 then 0 else (wrap64 (cR:Int)).tmod (wrap64 (dR:Int))))):=by unfold Hid remC;rw [if_neg hq,if_pos hz]
   have hr:((dR:Int)==0)=false:=by simp;omega
   have hrw:wrap64 (dR:Int)≠0:=by have:=HU.out.2.2.2;unfold U64 at this;unfold wrap64;omega
   obtain ⟨rfl,rfl⟩:=hz
   obtain ⟨V1,hV1⟩:∃ V,V=wrap64 (cR:Int):=⟨_,rfl⟩
   obtain ⟨V2,hV2⟩:∃ V,V=wrap64 (dR:Int):=⟨_,rfl⟩
   rw [<-hV2] at hrw
   rw [<-hV1,<-hV2] at E
   have v0:(V2==0)=false:=by simp [hrw]
   have v1:¬V2=0:=hrw
   have HV:Hid _:=And.intro hV1 hV2
   have HVI:Hid (In64 V1):=by rw [hV1];exact wrap64_in _
   clear hV1 hV2 hq hrw
   unfold cv
   by_cases m:V2 = -1
   ·have m2:(V2 == -1)=true:=by simp [m]
    have E2:Hid (remC 0 cR 0 dR=(0,0)):=by unfold Hid;rw [E.out,if_pos m];rfl
    clear m
    go_enter Tryz.func44,Tryz.ntmps44
    go_wp2_with fail
    have rr:(((w.alloc (.cells #[.int .u64 0,.int .u64 (cR:Int)] 27)).alloc (.cells #[.int .u64 0,.int .u64 (dR:Int)] 27)).alloc (.cells #[.int .u64 0,.int .u64 0] 27)).heap[w.heap.size+2]?=some (.cells #[.int .u64 0,.int .u64 0] 27):=jj
    refine (cnumber_any 0 dR HU.out.2.2.2 _ _ (Ok.refl _)).mono ?_
    rintro e w2 ⟨rfl,hb2⟩
    rw [<-HV.out.2]
    have HR2:Hid _:=Ok.row' hb2 rr
    have HB2:Hid (Ok w0 w2):=Ok.step (by repeat (first | exact hok | refine Ok.alloc ?_ _ | refine Ok.draws ?_ _ | fail)) hb2
    clear hb2 rr
    go_wp2_with fail
    refine (cconst_any 0 w2 w2 (Ok.refl _)).mono ?_
    rintro e w3 ⟨rfl,hb3⟩
    have HR3:Hid _:=Ok.row' hb3 HR2.out
    have HB3:Hid (Ok w0 w3):=HB2.out.step hb3
    obtain ⟨e0,e1,e2,e3⟩:=row_facts HR3.out
    clear hb3
    unfold cv
    go_wp2_with fail
    (try simp only [Exit.inBlock,Exit.then])
    refine bodyPost_ret (results_cell_row rfl _ _ (w.heap.size+2) 27 #[_,_] (0,0) _ rfl (row_set2 HR3.out _ _) Tryz.underlying27 rfl infoCg) rfl ?_
    rw [E2.out]
    exact ⟨rfl,(HB3.out.set (show w0.heap.size<=w.heap.size+2 by omega) _).set (show w0.heap.size<=w.heap.size+2 by omega) _⟩
   ·have m2:(V2 == -1)=false:=by simp [m]
    have E2:Hid (remC 0 cR 0 dR=(0,bitsN (V1.tmod V2))):=by unfold Hid;rw [E.out,if_neg m]
    obtain ⟨B,hB⟩:∃ B,B=bitsN (V1.tmod V2):=⟨_,rfl⟩
    rw [<-hB] at E2
    have HBB:Hid _:=hB
    clear m hB
    go_enter Tryz.func44,Tryz.ntmps44
    go_wp2_with fail
    obtain ⟨W,hW⟩:∃ W,W=((w.alloc (.cells #[.int .u64 0,.int .u64 (cR:Int)] 27)).alloc (.cells #[.int .u64 0,.int .u64 (dR:Int)] 27)).alloc (.cells #[.int .u64 0,.int .u64 0] 27):=⟨_,rfl⟩
    have ra:W.heap[w.heap.size]?=some (.cells #[.int .u64 0,.int .u64 (cR:Int)] 27):=by rw [hW];exact jj
    have rb:W.heap[w.heap.size+1]?=some (.cells #[.int .u64 0,.int .u64 (dR:Int)] 27):=by rw [hW];exact jj
    have rr:W.heap[w.heap.size+2]?=some (.cells #[.int .u64 0,.int .u64 0] 27):=by rw [hW];exact jj
    have HW:Hid (Ok w0 W):=by rw [hW];exact (by repeat (first | exact hok | refine Ok.alloc ?_ _ | refine Ok.draws ?_ _ | fail))
    rw [<-hW]
    clear hW hok
    refine (cnumber_any 0 dR HU.out.2.2.2 W W (Ok.refl _)).mono ?_
    rintro e w2 ⟨rfl,hb2⟩
    rw [<-HV.out.2]
    have HR:Hid _:=Ok.row' hb2 rr
    obtain ⟨a0,a1,_,_⟩:=row_facts (Ok.row' hb2 ra)
    obtain ⟨b0,b1,_,_⟩:=row_facts (Ok.row' hb2 rb)
    have z0:=lt_row (Ok.row' hb2 ra)
    have z1:=lt_row (Ok.row' hb2 rb)
    have HB2:Hid (Ok w0 w2):=HW.out.step hb2
    clear ra rb rr hb2
    go_wp2_with fail
    have bz:Ok w2 w2:=Ok.refl _
    have n1:¬w.heap.size+1+1=w.heap.size:=by omega
    have n2:¬w.heap.size+1+1=w.heap.size+1:=by omega
    go_region_held3 (fun w'=>w'.cell? ⟨w.heap.size,0,none⟩=some (.int .u64 0)/\w'.cell? ⟨w.heap.size,1,none⟩=some (.int .u64 (cR:Int))/\w'.cell? ⟨w.heap.size+1,0,none⟩=some (.int .u64 0)/\w'.cell? ⟨w.heap.size+1,1,none⟩=some (.int .u64 (dR:Int))) (go_keep)
     (first
     | (go_at_call 108;refine (cnumber_any 0 _ (by first | exact HU.out.2.1 | exact HU.out.2.2.2) w2 _ (by repeat (first | assumption | refine Ok.alloc ?_ _ | refine Below.drew ?_))).mono ?_;rintro e w' ⟨rfl,hb⟩;(first | rw [<-HV.out.1] | rw [<-HV.out.2]);have q0:=Ok.cell hb z0 a0;have q1:=Ok.cell hb z0 a1;have q2:=Ok.cell hb z1 b0;have q3:=Ok.cell hb z1 b1;obtain ⟨c0,c1,c2,c3⟩:=row_facts (Ok.row' hb HR.out))
     | (go_at_call 99;refine (cconst_any _ w2 _ (by repeat (first | assumption | refine Ok.alloc ?_ _ | refine Below.drew ?_))).mono ?_;rintro e w' ⟨rfl,hb⟩;unfold cv;have q0:=Ok.cell hb z0 a0;have q1:=Ok.cell hb z0 a1;have q2:=Ok.cell hb z1 b0;have q3:=Ok.cell hb z1 b1;obtain ⟨c0,c1,c2,c3⟩:=row_facts (Ok.row' hb HR.out))
     | fail)
    have HR3:Hid _:=Ok.row' hb HR.out
    have HB3:Hid (Ok w0 w'):=HB2.out.step hb
    go_wp2_with fail
    (try simp only [Exit.inBlock,Exit.then])
    refine bodyPost_ret (results_cell_row rfl _ _ (w.heap.size+2) 27 #[_,_] (0,0) _ rfl (row_set2 HR3.out _ _) Tryz.underlying27 rfl infoCg) rfl ?_
    rw [E2.out,HBB.out]
    refine ⟨?_,(HB3.out.set (show w0.heap.size<=w.heap.size+2 by omega) _).set (show w0.heap.size<=w.heap.size+2 by omega) _⟩
    first | rfl | (rw [wrap64_id (tmod_in64 (y:=V2) HVI.out)];rfl) | (rw [show IntKind.i64.wrap (V1.tmod V2)=V1.tmod V2 by rw [IntKind.wrap_i64];have:=tmod_in64 (y:=V2) HVI.out;unfold In64 at this;omega];rfl)
  ·have E:Hid (remC cM cR dM dR=(remG cM dM dR,restN (rF cM cR) (rS cM cR) (remG cM dM dR))):=by unfold Hid remC;rw [if_neg hq,if_neg hz]
   have HR1:Hid _:=And.intro (rF_rng HU.out.1 HU.out.2.1) (rF_rng HU.out.2.2.1 HU.out.2.2.2)
   have HGU:Hid _:=remG_u64 (dR:=dR) HU.out.1 HU.out.2.2.1 (show 0<cM\/0<dM by omega)
   obtain ⟨G,hG⟩:∃ G,G=remG cM dM dR:=⟨_,rfl⟩
   obtain ⟨f1,hf1⟩:∃ f,f=rF cM cR:=⟨_,rfl⟩
   obtain ⟨s1,hs1⟩:∃ s,s=rS cM cR:=⟨_,rfl⟩
   obtain ⟨f2,hf2⟩:∃ f,f=rF dM dR:=⟨_,rfl⟩
   obtain ⟨s2,hs2⟩:∃ s,s=rS dM dR:=⟨_,rfl⟩
   rw [<-hf1,<-hs1,<-hG] at E
   rw [<-hf1,<-hf2] at HR1
   rw [<-hG] at HGU
   unfold remG at hG
   rw [<-hf2] at hG
   obtain ⟨K,hK⟩:∃ K,K=Nat.gcd cM dM:=⟨_,rfl⟩
   rw [<-hK] at hG
   have HB:Hid (Big cM/\Big dM/\Big K/\Big f1/\Big f2):=by
    have a:=HU.out.1
    have b:=HU.out.2.2.1
    have c:=HR1.out
    have d:Big K:=by rw [hK];exact gcd_big a b
    unfold U64 at a b
    refine ⟨?_,?_,d,?_,?_⟩<;>(unfold Big;omega)
   have HLG:Hid (loB G=(G:Int)):=(big_small HGU.out.1).2
   have HF:Hid _:=And.intro hf1 (And.intro hs1 (And.intro hf2 (And.intro hs2 (And.intro hK hG))))
   clear hf1 hs1 hf2 hs2 hK hG
   unfold cv
   by_cases hc:cM=0
   ·have hd:((dM:Int)==0)=false:=by simp;omega
    have hc1:((cM:Int)==0)=true:=by simp [hc]
    have HC:Hid _:=hc
    clear hz hq hc
    go_enter Tryz.func44,Tryz.ntmps44
    go_wp2_with fail
    rename_i Qq Kk aK
    obtain ⟨W,hW⟩:∃ W,W=((w.alloc (.cells #[.int .u64 (cM:Int),.int .u64 (cR:Int)] 27)).alloc (.cells #[.int .u64 (dM:Int),.int .u64 (dR:Int)] 27)).alloc (.cells #[.int .u64 0,.int .u64 0] 27):=⟨_,rfl⟩
    have ra:W.heap[w.heap.size]?=some (.cells #[.int .u64 (cM:Int),.int .u64 (cR:Int)] 27):=by rw [hW];exact jj
    have rb:W.heap[w.heap.size+1]?=some (.cells #[.int .u64 (dM:Int),.int .u64 (dR:Int)] 27):=by rw [hW];exact jj
    have rr:W.heap[w.heap.size+2]?=some (.cells #[.int .u64 0,.int .u64 0] 27):=by rw [hW];exact jj
    have HW:Hid (Ok w0 W):=by rw [hW];exact (by repeat (first | exact hok | refine Ok.alloc ?_ _ | refine Ok.draws ?_ _ | fail))
    rw [<-hW]
    clear hW hok
    obtain ⟨g0,g1,_,_⟩:=row_facts ra
    obtain ⟨g2,g3,_,_⟩:=row_facts rb
    have z0:=lt_row ra
    have z1:=lt_row rb
    have HRR:Hid _:=And.intro ra (And.intro rb rr)
    clear ra rb rr
    have tail:∀ (gy:Nat) (Y:World),W.heap.size<=gy->Y.heap[gy]?=some (cB G)->Ok W Y->Exit.then Kk Qq Exit.normal
      { tmps:=#[.agg #[.int .u64 (cM:Int),.int .u64 (cR:Int)],.agg #[.int .u64 (dM:Int),.int .u64 (dR:Int)],.pointer (some ⟨w.heap.size,0,none⟩),.pointer (some ⟨w.heap.size+1,0,none⟩),.pointer (some ⟨w.heap.size+1+1,0,none⟩),.pointer (some ⟨gy,0,none⟩),.agg #[.int .u64 (dM:Int),.int .u64 (dR:Int)],.agg #[.int .u64 0,.int .u64 0],.bool false,undef,.pointer (some ⟨w.heap.size,0,none⟩),.int .u64 (cM:Int),.bool true,.bool true,.pointer (some ⟨w.heap.size+1,0,none⟩),.int .u64 (dM:Int),.bool false,.bool false,undef,undef,undef,undef,undef,undef,undef,undef,undef,undef,.pointer (some ⟨w.heap.size,0,none⟩),.int .u64 (cM:Int),.agg #[.int .u64 (hiB cM),.int .u64 (loB cM)],.pointer (some ⟨w.heap.size+1,0,none⟩),.int .u64 (dM:Int),.agg #[.int .u64 (hiB dM),.int .u64 (loB dM)],.agg #[.int .u64 (hiB K),.int .u64 (loB K)],.agg #[.int .u64 (dM:Int),.int .u64 (dR:Int)],.agg #[.int .u64 (hiB f2),.int .u64 (loB f2),.bool s2],.agg #[.int .u64 (hiB f2),.int .u64 (loB f2)],.agg #[.int .u64 (hiB G),.int .u64 (loB G)],undef,undef,undef,undef,undef],defers:=[] } Y:=by
     intro gy Y hgy hrow hokY
     have HRY:Hid _:=Ok.row' hokY HRR.out.2.2
     obtain ⟨u0,u1,_,_⟩:=row_facts (Ok.row' hokY HRR.out.1)
     obtain ⟨k0,k1,_,_⟩:=cB_facts hrow
     have l0:=lt_row (Ok.row' hokY HRR.out.1)
     have l1:=lt_row hrow
     have HWY:Hid (Ok w0 Y):=HW.out.step hokY
     rw [HLG.out] at k1
     have n1:¬w.heap.size+1+1=w.heap.size:=by omega
     have n2:¬w.heap.size+1+1=gy:=by have:=lt_row HRR.out.2.2;omega
     clear hrow hokY
     go_wp2_with fail
     have bz:Ok Y Y:=Ok.refl _
     go_region_held3 (fun w'=>w'.cell? ⟨w.heap.size,0,none⟩=some (.int .u64 (cM:Int))/\w'.cell? ⟨w.heap.size,1,none⟩=some (.int .u64 (cR:Int))/\w'.cell? ⟨gy,1,none⟩=some (.int .u64 (G:Int))) (go_keep)
      (first
      | (go_at_call 109;refine (cr_any cM cR HU.out.1 HU.out.2.1 Y _ (by repeat (first | assumption | refine Ok.alloc ?_ _ | refine Below.drew ?_))).mono ?_;rintro e w' ⟨rfl,hb⟩;rw [<-HF.out.1,<-HF.out.2.1];have q0:=Ok.cell hb l0 u0;have q1:=Ok.cell hb l0 u1;have q2:=Ok.cell hb l1 k1;obtain ⟨c0,c1,c2,c3⟩:=row_facts (Ok.row' hb HRY.out))
      | (go_at_call 123;refine (cclass_any f1 s1 G HB.out.2.2.2.1 HGU.out.1 HGU.out.2 Y _ (by repeat (first | assumption | refine Ok.alloc ?_ _ | refine Below.drew ?_))).mono ?_;rintro e w' ⟨rfl,hb⟩;unfold cv;have q0:=Ok.cell hb l0 u0;have q1:=Ok.cell hb l0 u1;have q2:=Ok.cell hb l1 k1;obtain ⟨c0,c1,c2,c3⟩:=row_facts (Ok.row' hb HRY.out))
      | fail)
     have HR5:Hid _:=Ok.row' hb HRY.out
     have HB5:Hid (Ok w0 w'):=HWY.out.step hb
     go_wp2_with fail
     (try simp only [Exit.inBlock,Exit.then])
     refine bodyPost_ret (results_cell_row rfl _ _ (w.heap.size+2) 27 #[_,_] (0,0) _ rfl (row_set2 HR5.out _ _) Tryz.underlying27 rfl infoCg) rfl ?_
     rw [E.out]
     exact ⟨rfl,(HB5.out.set (show w0.heap.size<=w.heap.size+2 by omega) _).set (show w0.heap.size<=w.heap.size+2 by omega) _⟩
    have HTAIL:Hid _:=tail
    clear tail
    have bz:Ok W W:=Ok.refl _
    have n1:¬W.heap.size=w.heap.size:=by omega
    have n2:¬W.heap.size=w.heap.size+1:=by omega
    go_region_held3 (fun w'=>w'.cell? ⟨w.heap.size,0,none⟩=some (.int .u64 (cM:Int))/\w'.cell? ⟨w.heap.size,1,none⟩=some (.int .u64 (cR:Int))/\w'.cell? ⟨w.heap.size+1,0,none⟩=some (.int .u64 (dM:Int))/\w'.cell? ⟨w.heap.size+1,1,none⟩=some (.int .u64 (dR:Int))) (go_keep)
     (first
     | (go_at_call 111;refine (bof_any _ (by first | exact HU.out.1 | exact HU.out.2.2.1) _ _ (Ok.refl _)).mono ?_;rintro e w' ⟨rfl,hc⟩;unfold bv;have hb:Ok W w':=Ok.step (by repeat (first | assumption | refine Ok.alloc ?_ _ | refine Below.drew ?_)) hc;(try (first | have rA2:=Ok.row' hc rA | have rA2:=Ok.row' hc (heap_past _ _ _ (lt_row rA) rA)));(try have rA:=rA2);(try have rA:=Ok.row' hc (heap_new0 _ _));(try have x1:=row_facts rA);(try have l1:=lt_row rA);(try have m1:=new_ne' (Ok.refl w') (lt_row rA));have q0:=Ok.cell hb z0 g0;have q1:=Ok.cell hb z0 g1;have q2:=Ok.cell hb z1 g2;have q3:=Ok.cell hb z1 g3;have n1:=new_ne' hb z0;have n2:=new_ne' hb z1;have lz:=hb.le)
     | (go_at_call 114;refine (bgcd_any _ _ (by first | exact HB.out.1 | exact HB.out.2.2.1) (by first | exact HB.out.2.1 | exact HB.out.2.2.2.2) _ _ (Ok.refl _)).mono ?_;rintro e w' ⟨rfl,hc⟩;(first | rw [<-HF.out.2.2.2.2.1] | rw [<-HF.out.2.2.2.2.2]);unfold bv;have hb:Ok W w':=Ok.step (by repeat (first | assumption | refine Ok.alloc ?_ _ | refine Below.drew ?_)) hc;(try (first | have rA2:=Ok.row' hc rA | have rA2:=Ok.row' hc (heap_past _ _ _ (lt_row rA) rA)));(try have rA:=rA2);(try have rA:=Ok.row' hc (heap_new0 _ _));(try have x1:=row_facts rA);(try have l1:=lt_row rA);(try have m1:=new_ne' (Ok.refl w') (lt_row rA));have q0:=Ok.cell hb z0 g0;have q1:=Ok.cell hb z0 g1;have q2:=Ok.cell hb z1 g2;have q3:=Ok.cell hb z1 g3;have n1:=new_ne' hb z0;have n2:=new_ne' hb z1;have lz:=hb.le)
     | (go_at_call 109;refine (cr_any dM dR HU.out.2.2.1 HU.out.2.2.2 _ _ (Ok.refl _)).mono ?_;rintro e w' ⟨rfl,hc⟩;rw [<-HF.out.2.2.1,<-HF.out.2.2.2.1];unfold iv;have hb:Ok W w':=Ok.step (by repeat (first | assumption | refine Ok.alloc ?_ _ | refine Below.drew ?_)) hc;(try (first | have rA2:=Ok.row' hc rA | have rA2:=Ok.row' hc (heap_past _ _ _ (lt_row rA) rA)));(try have rA:=rA2);(try have rA:=Ok.row' hc (heap_new0 _ _));(try have x1:=row_facts rA);(try have l1:=lt_row rA);(try have m1:=new_ne' (Ok.refl w') (lt_row rA));have q0:=Ok.cell hb z0 g0;have q1:=Ok.cell hb z0 g1;have q2:=Ok.cell hb z1 g2;have q3:=Ok.cell hb z1 g3;have n1:=new_ne' hb z0;have n2:=new_ne' hb z1;have lz:=hb.le)
     | fail)
    ·refine HTAIL.out _ _ ?_ ?_ ?_
     ·omega
     ·exact heap_new0 _ _
     ·exact hb.alloc _
    all_goals
     refine HTAIL.out _ _ ?_ ?_ ?_
     ·omega
     ·exact row_set2 rA _ _
     ·exact (hb.set (by simp only;omega) _).set (by simp only;omega) _
   ·have hc1:((cM:Int)==0)=false:=by simp;omega
    by_cases hd0:dM=0
    ·have hd:((dM:Int)==0)=true:=by simp [hd0]
     have hr:((dR:Int)==0)=false:=by simp;omega
     have HD:Hid _:=hd0
     clear hz hq hc hd0
     go_enter Tryz.func44,Tryz.ntmps44
     go_wp2_with fail
     rename_i Qq Kk aK
     obtain ⟨W,hW⟩:∃ W,W=((w.alloc (.cells #[.int .u64 (cM:Int),.int .u64 (cR:Int)] 27)).alloc (.cells #[.int .u64 (dM:Int),.int .u64 (dR:Int)] 27)).alloc (.cells #[.int .u64 0,.int .u64 0] 27):=⟨_,rfl⟩
     have ra:W.heap[w.heap.size]?=some (.cells #[.int .u64 (cM:Int),.int .u64 (cR:Int)] 27):=by rw [hW];exact jj
     have rb:W.heap[w.heap.size+1]?=some (.cells #[.int .u64 (dM:Int),.int .u64 (dR:Int)] 27):=by rw [hW];exact jj
     have rr:W.heap[w.heap.size+2]?=some (.cells #[.int .u64 0,.int .u64 0] 27):=by rw [hW];exact jj
     have HW:Hid (Ok w0 W):=by rw [hW];exact (by repeat (first | exact hok | refine Ok.alloc ?_ _ | refine Ok.draws ?_ _ | fail))
     rw [<-hW]
     clear hW hok
     obtain ⟨g0,g1,_,_⟩:=row_facts ra
     obtain ⟨g2,g3,_,_⟩:=row_facts rb
     have z0:=lt_row ra
     have z1:=lt_row rb
     have HRR:Hid _:=And.intro ra (And.intro rb rr)
     clear ra rb rr
     have tail:∀ (gy:Nat) (Y:World),W.heap.size<=gy->Y.heap[gy]?=some (cB G)->Ok W Y->Exit.then Kk Qq Exit.normal
       { tmps:=#[.agg #[.int .u64 (cM:Int),.int .u64 (cR:Int)],.agg #[.int .u64 (dM:Int),.int .u64 (dR:Int)],.pointer (some ⟨w.heap.size,0,none⟩),.pointer (some ⟨w.heap.size+1,0,none⟩),.pointer (some ⟨w.heap.size+1+1,0,none⟩),.pointer (some ⟨gy,0,none⟩),.agg #[.int .u64 (dM:Int),.int .u64 (dR:Int)],.agg #[.int .u64 0,.int .u64 0],.bool false,undef,.pointer (some ⟨w.heap.size,0,none⟩),.int .u64 (cM:Int),.bool false,.bool false,undef,undef,undef,.bool false,undef,undef,undef,undef,undef,undef,undef,undef,undef,undef,.pointer (some ⟨w.heap.size,0,none⟩),.int .u64 (cM:Int),.agg #[.int .u64 (hiB cM),.int .u64 (loB cM)],.pointer (some ⟨w.heap.size+1,0,none⟩),.int .u64 (dM:Int),.agg #[.int .u64 (hiB dM),.int .u64 (loB dM)],.agg #[.int .u64 (hiB K),.int .u64 (loB K)],.agg #[.int .u64 (dM:Int),.int .u64 (dR:Int)],.agg #[.int .u64 (hiB f2),.int .u64 (loB f2),.bool s2],.agg #[.int .u64 (hiB f2),.int .u64 (loB f2)],.agg #[.int .u64 (hiB G),.int .u64 (loB G)],undef,undef,undef,undef,undef],defers:=[] } Y:=by
      intro gy Y hgy hrow hokY
      have HRY:Hid _:=Ok.row' hokY HRR.out.2.2
      obtain ⟨u0,u1,_,_⟩:=row_facts (Ok.row' hokY HRR.out.1)
      obtain ⟨k0,k1,_,_⟩:=cB_facts hrow
      have l0:=lt_row (Ok.row' hokY HRR.out.1)
      have l1:=lt_row hrow
      have HWY:Hid (Ok w0 Y):=HW.out.step hokY
      rw [HLG.out] at k1
      have n1:¬w.heap.size+1+1=w.heap.size:=by omega
      have n2:¬w.heap.size+1+1=gy:=by have:=lt_row HRR.out.2.2;omega
      clear hrow hokY
      go_wp2_with fail
      have bz:Ok Y Y:=Ok.refl _
      go_region_held3 (fun w'=>w'.cell? ⟨w.heap.size,0,none⟩=some (.int .u64 (cM:Int))/\w'.cell? ⟨w.heap.size,1,none⟩=some (.int .u64 (cR:Int))/\w'.cell? ⟨gy,1,none⟩=some (.int .u64 (G:Int))) (go_keep)
       (first
       | (go_at_call 109;refine (cr_any cM cR HU.out.1 HU.out.2.1 Y _ (by repeat (first | assumption | refine Ok.alloc ?_ _ | refine Below.drew ?_))).mono ?_;rintro e w' ⟨rfl,hb⟩;rw [<-HF.out.1,<-HF.out.2.1];have q0:=Ok.cell hb l0 u0;have q1:=Ok.cell hb l0 u1;have q2:=Ok.cell hb l1 k1;obtain ⟨c0,c1,c2,c3⟩:=row_facts (Ok.row' hb HRY.out))
       | (go_at_call 123;refine (cclass_any f1 s1 G HB.out.2.2.2.1 HGU.out.1 HGU.out.2 Y _ (by repeat (first | assumption | refine Ok.alloc ?_ _ | refine Below.drew ?_))).mono ?_;rintro e w' ⟨rfl,hb⟩;unfold cv;have q0:=Ok.cell hb l0 u0;have q1:=Ok.cell hb l0 u1;have q2:=Ok.cell hb l1 k1;obtain ⟨c0,c1,c2,c3⟩:=row_facts (Ok.row' hb HRY.out))
       | fail)
      have HR5:Hid _:=Ok.row' hb HRY.out
      have HB5:Hid (Ok w0 w'):=HWY.out.step hb
      go_wp2_with fail
      (try simp only [Exit.inBlock,Exit.then])
      refine bodyPost_ret (results_cell_row rfl _ _ (w.heap.size+2) 27 #[_,_] (0,0) _ rfl (row_set2 HR5.out _ _) Tryz.underlying27 rfl infoCg) rfl ?_
      rw [E.out]
      exact ⟨rfl,(HB5.out.set (show w0.heap.size<=w.heap.size+2 by omega) _).set (show w0.heap.size<=w.heap.size+2 by omega) _⟩
     have HTAIL:Hid _:=tail
     clear tail
     have bz:Ok W W:=Ok.refl _
     have n1:¬W.heap.size=w.heap.size:=by omega
     have n2:¬W.heap.size=w.heap.size+1:=by omega
     go_region_held3 (fun w'=>w'.cell? ⟨w.heap.size,0,none⟩=some (.int .u64 (cM:Int))/\w'.cell? ⟨w.heap.size,1,none⟩=some (.int .u64 (cR:Int))/\w'.cell? ⟨w.heap.size+1,0,none⟩=some (.int .u64 (dM:Int))/\w'.cell? ⟨w.heap.size+1,1,none⟩=some (.int .u64 (dR:Int))) (go_keep)
      (first
      | (go_at_call 111;refine (bof_any _ (by first | exact HU.out.1 | exact HU.out.2.2.1) _ _ (Ok.refl _)).mono ?_;rintro e w' ⟨rfl,hc⟩;unfold bv;have hb:Ok W w':=Ok.step (by repeat (first | assumption | refine Ok.alloc ?_ _ | refine Below.drew ?_)) hc;(try (first | have rA2:=Ok.row' hc rA | have rA2:=Ok.row' hc (heap_past _ _ _ (lt_row rA) rA)));(try have rA:=rA2);(try have rA:=Ok.row' hc (heap_new0 _ _));(try have x1:=row_facts rA);(try have l1:=lt_row rA);(try have m1:=new_ne' (Ok.refl w') (lt_row rA));have q0:=Ok.cell hb z0 g0;have q1:=Ok.cell hb z0 g1;have q2:=Ok.cell hb z1 g2;have q3:=Ok.cell hb z1 g3;have n1:=new_ne' hb z0;have n2:=new_ne' hb z1;have lz:=hb.le)
      | (go_at_call 114;refine (bgcd_any _ _ (by first | exact HB.out.1 | exact HB.out.2.2.1) (by first | exact HB.out.2.1 | exact HB.out.2.2.2.2) _ _ (Ok.refl _)).mono ?_;rintro e w' ⟨rfl,hc⟩;(first | rw [<-HF.out.2.2.2.2.1] | rw [<-HF.out.2.2.2.2.2]);unfold bv;have hb:Ok W w':=Ok.step (by repeat (first | assumption | refine Ok.alloc ?_ _ | refine Below.drew ?_)) hc;(try (first | have rA2:=Ok.row' hc rA | have rA2:=Ok.row' hc (heap_past _ _ _ (lt_row rA) rA)));(try have rA:=rA2);(try have rA:=Ok.row' hc (heap_new0 _ _));(try have x1:=row_facts rA);(try have l1:=lt_row rA);(try have m1:=new_ne' (Ok.refl w') (lt_row rA));have q0:=Ok.cell hb z0 g0;have q1:=Ok.cell hb z0 g1;have q2:=Ok.cell hb z1 g2;have q3:=Ok.cell hb z1 g3;have n1:=new_ne' hb z0;have n2:=new_ne' hb z1;have lz:=hb.le)
      | (go_at_call 109;refine (cr_any dM dR HU.out.2.2.1 HU.out.2.2.2 _ _ (Ok.refl _)).mono ?_;rintro e w' ⟨rfl,hc⟩;rw [<-HF.out.2.2.1,<-HF.out.2.2.2.1];unfold iv;have hb:Ok W w':=Ok.step (by repeat (first | assumption | refine Ok.alloc ?_ _ | refine Below.drew ?_)) hc;(try (first | have rA2:=Ok.row' hc rA | have rA2:=Ok.row' hc (heap_past _ _ _ (lt_row rA) rA)));(try have rA:=rA2);(try have rA:=Ok.row' hc (heap_new0 _ _));(try have x1:=row_facts rA);(try have l1:=lt_row rA);(try have m1:=new_ne' (Ok.refl w') (lt_row rA));have q0:=Ok.cell hb z0 g0;have q1:=Ok.cell hb z0 g1;have q2:=Ok.cell hb z1 g2;have q3:=Ok.cell hb z1 g3;have n1:=new_ne' hb z0;have n2:=new_ne' hb z1;have lz:=hb.le)
      | fail)
     ·refine HTAIL.out _ _ ?_ ?_ ?_
      ·omega
      ·exact heap_new0 _ _
      ·exact hb.alloc _
     all_goals
      refine HTAIL.out _ _ ?_ ?_ ?_
      ·omega
      ·exact row_set2 rA _ _
      ·exact (hb.set (by simp only;omega) _).set (by simp only;omega) _
    ·have hd:((dM:Int)==0)=false:=by simp [hd0]
     clear hz hq hc hd0
     go_enter Tryz.func44,Tryz.ntmps44
     go_wp2_with fail
     rename_i Qq Kk aK
     obtain ⟨W,hW⟩:∃ W,W=((w.alloc (.cells #[.int .u64 (cM:Int),.int .u64 (cR:Int)] 27)).alloc (.cells #[.int .u64 (dM:Int),.int .u64 (dR:Int)] 27)).alloc (.cells #[.int .u64 0,.int .u64 0] 27):=⟨_,rfl⟩
     have ra:W.heap[w.heap.size]?=some (.cells #[.int .u64 (cM:Int),.int .u64 (cR:Int)] 27):=by rw [hW];exact jj
     have rb:W.heap[w.heap.size+1]?=some (.cells #[.int .u64 (dM:Int),.int .u64 (dR:Int)] 27):=by rw [hW];exact jj
     have rr:W.heap[w.heap.size+2]?=some (.cells #[.int .u64 0,.int .u64 0] 27):=by rw [hW];exact jj
     have HW:Hid (Ok w0 W):=by rw [hW];exact (by repeat (first | exact hok | refine Ok.alloc ?_ _ | refine Ok.draws ?_ _ | fail))
     rw [<-hW]
     clear hW hok
     obtain ⟨g0,g1,_,_⟩:=row_facts ra
     obtain ⟨g2,g3,_,_⟩:=row_facts rb
     have z0:=lt_row ra
     have z1:=lt_row rb
     have HRR:Hid _:=And.intro ra (And.intro rb rr)
     clear ra rb rr
     have tail:∀ (gy:Nat) (Y:World),W.heap.size<=gy->Y.heap[gy]?=some (cB G)->Ok W Y->Exit.then Kk Qq Exit.normal
       { tmps:=#[.agg #[.int .u64 (cM:Int),.int .u64 (cR:Int)],.agg #[.int .u64 (dM:Int),.int .u64 (dR:Int)],.pointer (some ⟨w.heap.size,0,none⟩),.pointer (some ⟨w.heap.size+1,0,none⟩),.pointer (some ⟨w.heap.size+1+1,0,none⟩),.pointer (some ⟨gy,0,none⟩),.agg #[.int .u64 (dM:Int),.int .u64 (dR:Int)],.agg #[.int .u64 0,.int .u64 0],.bool false,undef,.pointer (some ⟨w.heap.size,0,none⟩),.int .u64 (cM:Int),.bool false,.bool false,undef,undef,undef,.bool false,undef,undef,undef,undef,undef,undef,undef,undef,undef,undef,.pointer (some ⟨w.heap.size,0,none⟩),.int .u64 (cM:Int),.agg #[.int .u64 (hiB cM),.int .u64 (loB cM)],.pointer (some ⟨w.heap.size+1,0,none⟩),.int .u64 (dM:Int),.agg #[.int .u64 (hiB dM),.int .u64 (loB dM)],.agg #[.int .u64 (hiB K),.int .u64 (loB K)],.agg #[.int .u64 (dM:Int),.int .u64 (dR:Int)],.agg #[.int .u64 (hiB f2),.int .u64 (loB f2),.bool s2],.agg #[.int .u64 (hiB f2),.int .u64 (loB f2)],.agg #[.int .u64 (hiB G),.int .u64 (loB G)],undef,undef,undef,undef,undef],defers:=[] } Y:=by
      intro gy Y hgy hrow hokY
      have HRY:Hid _:=Ok.row' hokY HRR.out.2.2
      obtain ⟨u0,u1,_,_⟩:=row_facts (Ok.row' hokY HRR.out.1)
      obtain ⟨k0,k1,_,_⟩:=cB_facts hrow
      have l0:=lt_row (Ok.row' hokY HRR.out.1)
      have l1:=lt_row hrow
      have HWY:Hid (Ok w0 Y):=HW.out.step hokY
      rw [HLG.out] at k1
      have n1:¬w.heap.size+1+1=w.heap.size:=by omega
      have n2:¬w.heap.size+1+1=gy:=by have:=lt_row HRR.out.2.2;omega
      clear hrow hokY
      go_wp2_with fail
      have bz:Ok Y Y:=Ok.refl _
      go_region_held3 (fun w'=>w'.cell? ⟨w.heap.size,0,none⟩=some (.int .u64 (cM:Int))/\w'.cell? ⟨w.heap.size,1,none⟩=some (.int .u64 (cR:Int))/\w'.cell? ⟨gy,1,none⟩=some (.int .u64 (G:Int))) (go_keep)
       (first
       | (go_at_call 109;refine (cr_any cM cR HU.out.1 HU.out.2.1 Y _ (by repeat (first | assumption | refine Ok.alloc ?_ _ | refine Below.drew ?_))).mono ?_;rintro e w' ⟨rfl,hb⟩;rw [<-HF.out.1,<-HF.out.2.1];have q0:=Ok.cell hb l0 u0;have q1:=Ok.cell hb l0 u1;have q2:=Ok.cell hb l1 k1;obtain ⟨c0,c1,c2,c3⟩:=row_facts (Ok.row' hb HRY.out))
       | (go_at_call 123;refine (cclass_any f1 s1 G HB.out.2.2.2.1 HGU.out.1 HGU.out.2 Y _ (by repeat (first | assumption | refine Ok.alloc ?_ _ | refine Below.drew ?_))).mono ?_;rintro e w' ⟨rfl,hb⟩;unfold cv;have q0:=Ok.cell hb l0 u0;have q1:=Ok.cell hb l0 u1;have q2:=Ok.cell hb l1 k1;obtain ⟨c0,c1,c2,c3⟩:=row_facts (Ok.row' hb HRY.out))
       | fail)
      have HR5:Hid _:=Ok.row' hb HRY.out
      have HB5:Hid (Ok w0 w'):=HWY.out.step hb
      go_wp2_with fail
      (try simp only [Exit.inBlock,Exit.then])
      refine bodyPost_ret (results_cell_row rfl _ _ (w.heap.size+2) 27 #[_,_] (0,0) _ rfl (row_set2 HR5.out _ _) Tryz.underlying27 rfl infoCg) rfl ?_
      rw [E.out]
      exact ⟨rfl,(HB5.out.set (show w0.heap.size<=w.heap.size+2 by omega) _).set (show w0.heap.size<=w.heap.size+2 by omega) _⟩
     have HTAIL:Hid _:=tail
     clear tail
     have bz:Ok W W:=Ok.refl _
     have n1:¬W.heap.size=w.heap.size:=by omega
     have n2:¬W.heap.size=w.heap.size+1:=by omega
     go_region_held3 (fun w'=>w'.cell? ⟨w.heap.size,0,none⟩=some (.int .u64 (cM:Int))/\w'.cell? ⟨w.heap.size,1,none⟩=some (.int .u64 (cR:Int))/\w'.cell? ⟨w.heap.size+1,0,none⟩=some (.int .u64 (dM:Int))/\w'.cell? ⟨w.heap.size+1,1,none⟩=some (.int .u64 (dR:Int))) (go_keep)
      (first
      | (go_at_call 111;refine (bof_any _ (by first | exact HU.out.1 | exact HU.out.2.2.1) _ _ (Ok.refl _)).mono ?_;rintro e w' ⟨rfl,hc⟩;unfold bv;have hb:Ok W w':=Ok.step (by repeat (first | assumption | refine Ok.alloc ?_ _ | refine Below.drew ?_)) hc;(try (first | have rA2:=Ok.row' hc rA | have rA2:=Ok.row' hc (heap_past _ _ _ (lt_row rA) rA)));(try have rA:=rA2);(try have rA:=Ok.row' hc (heap_new0 _ _));(try have x1:=row_facts rA);(try have l1:=lt_row rA);(try have m1:=new_ne' (Ok.refl w') (lt_row rA));have q0:=Ok.cell hb z0 g0;have q1:=Ok.cell hb z0 g1;have q2:=Ok.cell hb z1 g2;have q3:=Ok.cell hb z1 g3;have n1:=new_ne' hb z0;have n2:=new_ne' hb z1;have lz:=hb.le)
      | (go_at_call 114;refine (bgcd_any _ _ (by first | exact HB.out.1 | exact HB.out.2.2.1) (by first | exact HB.out.2.1 | exact HB.out.2.2.2.2) _ _ (Ok.refl _)).mono ?_;rintro e w' ⟨rfl,hc⟩;(first | rw [<-HF.out.2.2.2.2.1] | rw [<-HF.out.2.2.2.2.2]);unfold bv;have hb:Ok W w':=Ok.step (by repeat (first | assumption | refine Ok.alloc ?_ _ | refine Below.drew ?_)) hc;(try (first | have rA2:=Ok.row' hc rA | have rA2:=Ok.row' hc (heap_past _ _ _ (lt_row rA) rA)));(try have rA:=rA2);(try have rA:=Ok.row' hc (heap_new0 _ _));(try have x1:=row_facts rA);(try have l1:=lt_row rA);(try have m1:=new_ne' (Ok.refl w') (lt_row rA));have q0:=Ok.cell hb z0 g0;have q1:=Ok.cell hb z0 g1;have q2:=Ok.cell hb z1 g2;have q3:=Ok.cell hb z1 g3;have n1:=new_ne' hb z0;have n2:=new_ne' hb z1;have lz:=hb.le)
      | (go_at_call 109;refine (cr_any dM dR HU.out.2.2.1 HU.out.2.2.2 _ _ (Ok.refl _)).mono ?_;rintro e w' ⟨rfl,hc⟩;rw [<-HF.out.2.2.1,<-HF.out.2.2.2.1];unfold iv;have hb:Ok W w':=Ok.step (by repeat (first | assumption | refine Ok.alloc ?_ _ | refine Below.drew ?_)) hc;(try (first | have rA2:=Ok.row' hc rA | have rA2:=Ok.row' hc (heap_past _ _ _ (lt_row rA) rA)));(try have rA:=rA2);(try have rA:=Ok.row' hc (heap_new0 _ _));(try have x1:=row_facts rA);(try have l1:=lt_row rA);(try have m1:=new_ne' (Ok.refl w') (lt_row rA));have q0:=Ok.cell hb z0 g0;have q1:=Ok.cell hb z0 g1;have q2:=Ok.cell hb z1 g2;have q3:=Ok.cell hb z1 g3;have n1:=new_ne' hb z0;have n2:=new_ne' hb z1;have lz:=hb.le)
      | fail)
     ·refine HTAIL.out _ _ ?_ ?_ ?_
      ·omega
      ·exact heap_new0 _ _
      ·exact hb.alloc _
     all_goals
      refine HTAIL.out _ _ ?_ ?_ ?_
      ·omega
      ·exact row_set2 rA _ _
      ·exact (hb.set (by simp only;omega) _).set (by simp only;omega) _
end Go.Proofs.YtpjpjhjjhoeijaaGreat
