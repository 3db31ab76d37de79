import Derived.Test.YtpjpjhjjhoeijaaGreatKNfm
set_option linter.all false
namespace Go.Proofs.YtpjpjhjjhoeijaaGreat
open Go.RowKit
theorem heap_new1 (w:World) (a b:Obj):((w.alloc a).alloc b).heap[w.heap.size+1]?=some b:=jj
theorem new_ne1 {W w':World} {a:Nat} (hb:Ok W w') (h:a<W.heap.size):¬w'.heap.size+1=a:=by have:=hb.le;omega
theorem sets3_other {w:World} {g k:Nat} {o:Option Obj} (h:¬k=g) (x y z:Value) (hk:w.heap[k]?=o):(((w.setCell ⟨g,0,none⟩ x).setCell ⟨g,1,none⟩ y).setCell ⟨g,2,none⟩ z).heap[k]?=o:=by
 rw [heap_setCell_other _ _ _ _ (by simp;omega),heap_setCell_other _ _ _ _ (by simp;omega),heap_setCell_other _ _ _ _ (by simp;omega)];exact hk
theorem prod_big {a b:Nat} (ha:U64 a) (hb:U64 b):Big (a*b):=by
 unfold U64 at *;unfold Big
 have:=Nat.mul_le_mul (show a<=18446744073709551615 by omega) (show b<=18446744073709551615 by omega)
 omega
theorem gcd_bigB {a b:Nat} (ha:Big a) (hb:Big b):Big (Nat.gcd a b):=by
 unfold Big at *
 by_cases hc:a=0
 ·rw [hc,Nat.gcd_zero_left];omega
 ·have:=Nat.le_of_dvd (by omega) (Nat.gcd_dvd_left a b);omega
set_option maxRecDepth 100000 in
set_option maxHeartbeats 8000000 in
theorem cmul_any (cM cR dM dR:Nat) (ex:Bool) (h1:U64 cM) (h2:U64 cR) (h3:U64 dM) (h4:U64 dR) (w0 w:World) (hok:Ok w0 w) :
  Calls Tryz.prog 40 #[cv cM cR,cv dM dR,.bool ex] w fun e w'=>e=.returned (cv (mulC cM cR dM dR ex).1 (mulC cM cR dM dR ex).2)/\Ok w0 w':=by
 have hle:=hok.le
 have HU:Hid _:=And.intro h1 (And.intro h2 (And.intro h3 h4))
 clear h1 h2 h3 h4
 by_cases hz:cM=0/\dM=0
 ·have E:Hid (mulC cM cR dM dR ex=(0,bitsN (wrap64 (wrap64 (cR:Int)*wrap64 (dR:Int))))):=by unfold Hid mulC;rw [if_pos hz]
  obtain ⟨rfl,rfl⟩:=hz
  obtain ⟨V1,hV1⟩:∃ V,V=wrap64 (cR:Int):=⟨_,rfl⟩
  obtain ⟨V2,hV2⟩:∃ V,V=wrap64 (dR:Int):=⟨_,rfl⟩
  rw [<-hV1,<-hV2] at E
  have HV:Hid _:=And.intro hV1 hV2
  clear hV1 hV2
  obtain ⟨B,hB⟩:∃ B,B=bitsN (wrap64 (V1*V2)):=⟨_,rfl⟩
  rw [<-hB] at E
  have HBB:Hid _:=hB
  clear hB
  unfold cv
  go_enter Tryz.func40,Tryz.ntmps40
  go_wp2_with fail
  obtain ⟨W,hW⟩:∃ W,W=((w.alloc (.cells #[.int .u64 0,.int .u64 (cR:Int)] 27)).alloc (.cells #[.int .u64 0,.int .u64 (dR:Int)] 27)).alloc (.cells #[.int .u64 0,.int .u64 0] 27):=⟨_,rfl⟩
  have ra:W.heap[w.heap.size]?=some (.cells #[.int .u64 0,.int .u64 (cR:Int)] 27):=by rw [hW];exact jj
  have rb:W.heap[w.heap.size+1]?=some (.cells #[.int .u64 0,.int .u64 (dR:Int)] 27):=by rw [hW];exact jj
  have rr:W.heap[w.heap.size+2]?=some (.cells #[.int .u64 0,.int .u64 0] 27):=by rw [hW];exact jj
  have HW:Hid (Ok w0 W):=by rw [hW];exact (by repeat (first | exact hok | refine Ok.alloc ?_ _ | refine Ok.draws ?_ _ | fail))
  rw [<-hW]
  clear hW hok
  have HR:Hid _:=rr
  obtain ⟨a0,a1,_,_⟩:=row_facts ra
  obtain ⟨b0,b1,_,_⟩:=row_facts rb
  have z0:=lt_row ra
  have z1:=lt_row rb
  clear ra rb rr
  have bz:Ok W W:=Ok.refl _
  have n1:¬w.heap.size+1+1=w.heap.size:=by omega
  have n2:¬w.heap.size+1+1=w.heap.size+1:=by omega
  go_region_held3 (fun w'=>w'.cell? ⟨w.heap.size,0,none⟩=some (.int .u64 0)/\w'.cell? ⟨w.heap.size,1,none⟩=some (.int .u64 (cR:Int))/\w'.cell? ⟨w.heap.size+1,0,none⟩=some (.int .u64 0)/\w'.cell? ⟨w.heap.size+1,1,none⟩=some (.int .u64 (dR:Int))) (go_keep)
   (first
   | (go_at_call 108;refine (cnumber_any 0 _ (by first | exact HU.out.2.1 | exact HU.out.2.2.2) W _ (by repeat (first | assumption | refine Ok.alloc ?_ _ | refine Below.drew ?_))).mono ?_;rintro e w' ⟨rfl,hb⟩;(first | rw [<-HV.out.1] | rw [<-HV.out.2]);have q0:=Ok.cell hb z0 a0;have q1:=Ok.cell hb z0 a1;have q2:=Ok.cell hb z1 b0;have q3:=Ok.cell hb z1 b1;obtain ⟨c0,c1,c2,c3⟩:=row_facts (Ok.row' hb HR.out))
   | (go_at_call 99;refine (cconst_any _ W _ (by repeat (first | assumption | refine Ok.alloc ?_ _ | refine Below.drew ?_))).mono ?_;rintro e w' ⟨rfl,hb⟩;unfold cv;have q0:=Ok.cell hb z0 a0;have q1:=Ok.cell hb z0 a1;have q2:=Ok.cell hb z1 b0;have q3:=Ok.cell hb z1 b1;obtain ⟨c0,c1,c2,c3⟩:=row_facts (Ok.row' hb HR.out))
   | fail)
  have HR2:Hid _:=Ok.row' hb HR.out
  have HB2:Hid (Ok w0 w'):=HW.out.step hb
  go_wp2_with fail
  (try simp only [Exit.inBlock,Exit.then])
  refine bodyPost_ret (results_cell_row rfl _ _ (w.heap.size+2) 27 #[_,_] (0,0) _ rfl (row_set2 HR2.out _ _) Tryz.underlying27 rfl infoCg) rfl ?_
  rw [E.out]
  rw [HBB.out,show IntKind.i64.wrap (V1*V2)=wrap64 (V1*V2) by rw [IntKind.wrap_i64];unfold wrap64;omega]
  exact ⟨rfl,(HB2.out.set (show w0.heap.size<=w.heap.size+2 by omega) _).set (show w0.heap.size<=w.heap.size+2 by omega) _⟩
 ·by_cases hq:(cM=0/\cR=0)\/(dM=0/\dR=0)
  ·have E:Hid (mulC cM cR dM dR ex=(0,0)):=by unfold Hid mulC;rw [if_neg hz,if_pos hq]
   unfold cv
   by_cases hc:cM=0
   ·have hr:cR=0:=by omega
    have hd:((dM:Int)==0)=false:=by simp;omega
    subst hc hr
    clear hz hq
    go_enter Tryz.func40,Tryz.ntmps40
    go_wp2_with fail
    (try simp only [Exit.inBlock,Exit.then])
    (try simp only [Exit.inBlock, Exit.then]); refine bodyPost_ret (results_cell_row rfl _ _ (w.heap.size+2) 27 #[_, _] (0, 0) _ rfl jj Tryz.underlying27 rfl infoCg) rfl ?_
    rw [E.out]
    exact ⟨rfl,(by repeat (first | exact hok | refine Ok.alloc ?_ _ | refine Ok.draws ?_ _ | fail))⟩
   ·have hd:dM=0:=by omega
    have hr:dR=0:=by omega
    have hc1:((cM:Int)==0)=false:=by simp;omega
    subst hd hr
    clear hz hq hc
    go_enter Tryz.func40,Tryz.ntmps40
    go_wp2_with fail
    (try simp only [Exit.inBlock,Exit.then])
    (try simp only [Exit.inBlock, Exit.then]); refine bodyPost_ret (results_cell_row rfl _ _ (w.heap.size+2) 27 #[_, _] (0, 0) _ rfl jj Tryz.underlying27 rfl infoCg) rfl ?_
    rw [E.out]
    exact ⟨rfl,(by repeat (first | exact hok | refine Ok.alloc ?_ _ | refine Ok.draws ?_ _ | fail))⟩
  ·have E:Hid (mulC cM cR dM dR ex=(byG (mulG cM cR dM dR) ex,restN (rF cM cR*rF dM dR) (rS cM cR != rS dM dR) (byG (mulG cM cR dM dR) ex))):=by unfold Hid mulC;rw [if_neg hz,if_neg hq]
   have HR1:Hid _:=And.intro (rF_rng HU.out.1 HU.out.2.1) (rF_rng HU.out.2.2.1 HU.out.2.2.2)
   have HGP:Hid (0<mulG cM cR dM dR):=mulG_pos HU.out.2.1 HU.out.2.2.2 hz (fun h=>hq (Or.inl h)) (fun h=>hq (Or.inr h))
   obtain ⟨G,hG⟩:∃ G,G=mulG cM cR dM dR:=⟨_,rfl⟩
   obtain ⟨f1,hf1⟩:∃ f,f=rF cM cR:=⟨_,rfl⟩
   obtain ⟨s1,hs1⟩:∃ s,s=rS cM cR:=⟨_,rfl⟩
   obtain ⟨f2,hf2⟩:∃ f,f=rF dM dR:=⟨_,rfl⟩
   obtain ⟨s2,hs2⟩:∃ s,s=rS dM dR:=⟨_,rfl⟩
   rw [<-hf1,<-hs1,<-hf2,<-hs2,<-hG] at E
   rw [<-hf1,<-hf2] at HR1
   rw [<-hG] at HGP
   unfold mulG at hG
   rw [<-hf1,<-hf2] at hG
   obtain ⟨P1,hP1⟩:∃ P,P=cM*dM:=⟨_,rfl⟩
   obtain ⟨P2,hP2⟩:∃ P,P=f1*dM:=⟨_,rfl⟩
   obtain ⟨P3,hP3⟩:∃ P,P=f2*cM:=⟨_,rfl⟩
   obtain ⟨P4,hP4⟩:∃ P,P=f1*f2:=⟨_,rfl⟩
   rw [<-hP1,<-hP2,<-hP3] at hG
   rw [<-hP4] at E
   obtain ⟨K,hK⟩:∃ K,K=Nat.gcd P2 P3:=⟨_,rfl⟩
   rw [<-hK] at hG
   have HBG:Hid (Big P1/\Big P2/\Big P3/\Big P4/\Big K/\Big G):=by
    have b1:Big P1:=by rw [hP1];exact prod_big HU.out.1 HU.out.2.2.1
    have b2:Big P2:=by rw [hP2];exact prod_big HR1.out.1 HU.out.2.2.1
    have b3:Big P3:=by rw [hP3];exact prod_big HR1.out.2 HU.out.1
    have b4:Big P4:=by rw [hP4];exact prod_big HR1.out.1 HR1.out.2
    have b5:Big K:=by rw [hK];exact gcd_bigB b2 b3
    exact ⟨b1,b2,b3,b4,b5,by rw [hG];exact gcd_bigB b1 b5⟩
   have HLO:Hid ((loB f1=(f1:Int)/\hiB f1=0)/\loB f2=(f2:Int)/\hiB f2=0):=⟨⟨(big_small HR1.out.1).2,(big_small HR1.out.1).1⟩,(big_small HR1.out.2).2,(big_small HR1.out.2).1⟩
   have HF:Hid _:=And.intro hf1 (And.intro hs1 (And.intro hf2 (And.intro hs2 (And.intro hP1 (And.intro hP2 (And.intro hP3 (And.intro hP4 (And.intro hK hG))))))))
   clear hf1 hs1 hf2 hs2 hP1 hP2 hP3 hP4 hK hG
   unfold cv
   by_cases hc:cM=0
   ·have hd:((dM:Int)==0)=false:=by simp;omega
    have hc1:((cM:Int)==0)=true:=by simp [hc]
    have hr:((cR:Int)==0)=false:=by simp;omega
    have HC:Hid _:=hc
    clear hz hq hc
    go_enter Tryz.func40,Tryz.ntmps40
    go_wp2_with fail
    rename_i Qq Kk aK
    obtain ⟨W,hW⟩:∃ W,W=((w.alloc (.cells #[.int .u64 (cM:Int),.int .u64 (cR:Int)] 27)).alloc (.cells #[.int .u64 (dM:Int),.int .u64 (dR:Int)] 27)).alloc (.cells #[.int .u64 0,.int .u64 0] 27):=⟨_,rfl⟩
    have ra:W.heap[w.heap.size]?=some (.cells #[.int .u64 (cM:Int),.int .u64 (cR:Int)] 27):=by rw [hW];exact jj
    have rb:W.heap[w.heap.size+1]?=some (.cells #[.int .u64 (dM:Int),.int .u64 (dR:Int)] 27):=by rw [hW];exact jj
    have rr:W.heap[w.heap.size+2]?=some (.cells #[.int .u64 0,.int .u64 0] 27):=by rw [hW];exact jj
    have HW:Hid (Ok w0 W):=by rw [hW];exact (by repeat (first | exact hok | refine Ok.alloc ?_ _ | refine Ok.draws ?_ _ | fail))
    rw [<-hW]
    clear hW hok
    obtain ⟨g0,g1,_,_⟩:=row_facts ra
    obtain ⟨g2,g3,_,_⟩:=row_facts rb
    have z0:=lt_row ra
    have z1:=lt_row rb
    have HRR:Hid _:=And.intro ra (And.intro rb rr)
    clear ra rb
    have tail:∀ (gx gy:Nat) (Y:World),W.heap.size<=gx->W.heap.size<=gy->Y.heap[gx]?=some (.cells #[.int .u64 0,.int .u64 (f1:Int),.bool s1] 107)->Y.heap[gy]?=some (.cells #[.int .u64 0,.int .u64 (f2:Int),.bool s2] 107)->Ok W Y->Exit.then Kk Qq Exit.normal
      { tmps:=#[.agg #[.int .u64 (cM:Int),.int .u64 (cR:Int)],.agg #[.int .u64 (dM:Int),.int .u64 (dR:Int)],.bool ex,.pointer (some ⟨w.heap.size,0,none⟩),.pointer (some ⟨w.heap.size+1,0,none⟩),undef,.pointer (some ⟨w.heap.size+1+1,0,none⟩),.pointer (some ⟨gx,0,none⟩),.pointer (some ⟨gy,0,none⟩),undef,.pointer (some ⟨w.heap.size,0,none⟩),.int .u64 (cM:Int),.bool true,.bool true,.pointer (some ⟨w.heap.size+1,0,none⟩),.int .u64 (dM:Int),.bool false,.bool false,undef,undef,undef,undef,undef,undef,.agg #[.int .u64 (cM:Int),.int .u64 (cR:Int)],.agg #[.int .u64 0,.int .u64 0],.bool false,.bool false,.agg #[.int .u64 (dM:Int),.int .u64 (dR:Int)],.agg #[.int .u64 0,.int .u64 0],.bool false,.bool false,undef,.agg #[.int .u64 (cM:Int),.int .u64 (cR:Int)],.agg #[.int .u64 0,.int .u64 (f1:Int),.bool s1],.agg #[.int .u64 (dM:Int),.int .u64 (dR:Int)],.agg #[.int .u64 0,.int .u64 (f2:Int),.bool s2],undef,undef,undef,undef,undef,undef,undef,undef,undef,undef,undef,undef,undef,undef,undef,undef,undef,undef,undef,undef,undef,undef,undef,undef,undef,undef,undef,undef,undef,undef,undef,undef,undef,undef,undef],defers:=[] } Y:=by
     intro gx gy Y hgx hgy hx hy hokY
     have HXY:Hid _:=And.intro hx hy
     obtain ⟨g0,g1,_,_⟩:=row_facts (Ok.row' hokY HRR.out.1)
     obtain ⟨g2,g3,_,_⟩:=row_facts (Ok.row' hokY HRR.out.2.1)
     obtain ⟨a0,a1,a2,_⟩:=row3_facts hx
     obtain ⟨b0,b1,b2,_⟩:=row3_facts hy
     have z0:=lt_row (Ok.row' hokY HRR.out.1)
     have z1:=lt_row (Ok.row' hokY HRR.out.2.1)
     have zx:=lt_row hx
     have zy:=lt_row hy
     have HRES:Hid _:=Ok.row' hokY HRR.out.2.2
     have HWR:Hid (w.heap.size+2<W.heap.size):=lt_row HRR.out.2.2
     have HWY:Hid (Ok w0 Y):=HW.out.step hokY
     clear hx hy hokY
     go_wp2_with fail
     rename_i K2 aK2
     have tail2:∀ (gz:Nat) (Z:World),Y.heap.size<=gz->Z.heap[gz]?=some (cB G)->Ok Y Z->Exit.then K2 Qq Exit.normal
       { tmps:=#[.agg #[.int .u64 (cM:Int),.int .u64 (cR:Int)],.agg #[.int .u64 (dM:Int),.int .u64 (dR:Int)],.bool ex,.pointer (some ⟨w.heap.size,0,none⟩),.pointer (some ⟨w.heap.size+1,0,none⟩),undef,.pointer (some ⟨w.heap.size+1+1,0,none⟩),.pointer (some ⟨gx,0,none⟩),.pointer (some ⟨gy,0,none⟩),.pointer (some ⟨gz,0,none⟩),.pointer (some ⟨w.heap.size,0,none⟩),.int .u64 (cM:Int),.bool true,.bool true,.pointer (some ⟨w.heap.size+1,0,none⟩),.int .u64 (dM:Int),.bool false,.bool false,undef,undef,undef,undef,undef,undef,.agg #[.int .u64 (cM:Int),.int .u64 (cR:Int)],.agg #[.int .u64 0,.int .u64 0],.bool false,.bool false,.agg #[.int .u64 (dM:Int),.int .u64 (dR:Int)],.agg #[.int .u64 0,.int .u64 0],.bool false,.bool false,undef,.agg #[.int .u64 (cM:Int),.int .u64 (cR:Int)],.agg #[.int .u64 0,.int .u64 (f1:Int),.bool s1],.agg #[.int .u64 (dM:Int),.int .u64 (dR:Int)],.agg #[.int .u64 0,.int .u64 (f2:Int),.bool s2],.pointer (some ⟨w.heap.size,0,none⟩),.int .u64 (cM:Int),.pointer (some ⟨w.heap.size+1,0,none⟩),.int .u64 (dM:Int),.agg #[.int .u64 (hiB P1),.int .u64 (loB P1)],.pointer (some ⟨gx,0,none⟩),.pointer (some ⟨gx,1,none⟩),.int .u64 (f1:Int),.pointer (some ⟨w.heap.size+1,0,none⟩),.int .u64 (dM:Int),.agg #[.int .u64 (hiB P2),.int .u64 (loB P2)],.pointer (some ⟨gy,0,none⟩),.pointer (some ⟨gy,1,none⟩),.int .u64 (f2:Int),.pointer (some ⟨w.heap.size,0,none⟩),.int .u64 (cM:Int),.agg #[.int .u64 (hiB P3),.int .u64 (loB P3)],.agg #[.int .u64 (hiB K),.int .u64 (loB K)],.agg #[.int .u64 (hiB G),.int .u64 (loB G)],undef,undef,undef,undef,undef,undef,undef,undef,undef,undef,undef,undef,undef,undef,undef,undef],defers:=[] } Z:=by
      intro gz Z hgz hz hokZ
      have HRZ:Hid _:=Ok.row' hokZ HRES.out
      have HWZ:Hid (Ok w0 Z):=HWY.out.step hokZ
      obtain ⟨a0,a1,a2,_⟩:=row3_facts (Ok.row' hokZ HXY.out.1)
      obtain ⟨b0,b1,b2,_⟩:=row3_facts (Ok.row' hokZ HXY.out.2)
      obtain ⟨k0,k1,_,_⟩:=cB_facts hz
      have yx:=lt_row (Ok.row' hokZ HXY.out.1)
      have yy:=lt_row (Ok.row' hokZ HXY.out.2)
      have yz:=lt_row hz
      have n1:¬w.heap.size+1+1=gx:=by have:=HWR.out;omega
      have n2:¬w.heap.size+1+1=gy:=by have:=HWR.out;omega
      have n3:¬w.heap.size+1+1=gz:=by have:=lt_row HRES.out;omega
      clear hz hokZ
      go_wp2_with fail
      have bz:Ok Z Z:=Ok.refl _
      go_region_held3 (fun w'=>w'.cell? ⟨gx,1,none⟩=some (.int .u64 (f1:Int))/\w'.cell? ⟨gx,2,none⟩=some (.bool s1)/\w'.cell? ⟨gy,1,none⟩=some (.int .u64 (f2:Int))/\w'.cell? ⟨gy,2,none⟩=some (.bool s2)/\w'.cell? ⟨gz,0,none⟩=some (.int .u64 (hiB G))/\w'.cell? ⟨gz,1,none⟩=some (.int .u64 (loB G))) (go_keep)
       (first
       | (go_at_call 118;refine (btimes_any f1 f2 HR1.out.1 HR1.out.2 Z _ (by repeat (first | assumption | refine Ok.alloc ?_ _ | refine Below.drew ?_))).mono ?_;rintro e w' ⟨rfl,hb⟩;rw [<-HF.out.2.2.2.2.2.2.2.1];unfold bv;have q0:=Ok.cell hb yx a1;have q1:=Ok.cell hb yx a2;have q2:=Ok.cell hb yy b1;have q3:=Ok.cell hb yy b2;have q4:=Ok.cell hb yz k0;have q5:=Ok.cell hb yz k1;obtain ⟨c0,c1,c2,c3⟩:=row_facts (Ok.row' hb HRZ.out))
       | (go_at_call 110;refine (cby_any P4 (s1 != s2) G ex HBG.out.2.2.2.1 HBG.out.2.2.2.2.2 HGP.out Z _ (by repeat (first | assumption | refine Ok.alloc ?_ _ | refine Below.drew ?_))).mono ?_;rintro e w' ⟨rfl,hb⟩;unfold cv;have q0:=Ok.cell hb yx a1;have q1:=Ok.cell hb yx a2;have q2:=Ok.cell hb yy b1;have q3:=Ok.cell hb yy b2;have q4:=Ok.cell hb yz k0;have q5:=Ok.cell hb yz k1;obtain ⟨c0,c1,c2,c3⟩:=row_facts (Ok.row' hb HRZ.out))
       | fail)
      have HR5:Hid _:=Ok.row' hb HRZ.out
      have HB5:Hid (Ok w0 w'):=HWZ.out.step hb
      go_wp2_with fail
      (try simp only [Exit.inBlock,Exit.then])
      refine bodyPost_ret (results_cell_row rfl _ _ (w.heap.size+2) 27 #[_,_] (0,0) _ rfl (row_set2 HR5.out _ _) Tryz.underlying27 rfl infoCg) rfl ?_
      rw [E.out]
      exact ⟨rfl,(HB5.out.set (show w0.heap.size<=w.heap.size+2 by omega) _).set (show w0.heap.size<=w.heap.size+2 by omega) _⟩
     have HT2:Hid _:=tail2
     clear tail2
     have bz:Ok Y Y:=Ok.refl _
     have n1:=new_ne' bz z0
     have n2:=new_ne' bz z1
     have n3:=new_ne' bz zx
     have n4:=new_ne' bz zy
     go_region_held3 (fun w'=>w'.cell? ⟨w.heap.size,0,none⟩=some (.int .u64 (cM:Int))/\w'.cell? ⟨w.heap.size+1,0,none⟩=some (.int .u64 (dM:Int))/\w'.cell? ⟨gx,1,none⟩=some (.int .u64 (f1:Int))/\w'.cell? ⟨gy,1,none⟩=some (.int .u64 (f2:Int))) (go_keep)
      (first
      | (go_at_call 118;refine (btimes_any _ _ (by first | exact HU.out.1 | exact HR1.out.1 | exact HR1.out.2) (by first | exact HU.out.2.2.1 | exact HU.out.1) _ _ (Ok.refl _)).mono ?_;rintro e w' ⟨rfl,hc⟩;(first | rw [<-HF.out.2.2.2.2.1] | rw [<-HF.out.2.2.2.2.2.1] | rw [<-HF.out.2.2.2.2.2.2.1]);unfold bv;have hb:Ok Y w':=Ok.step (by repeat (first | assumption | refine Ok.alloc ?_ _ | refine Below.drew ?_)) hc;(try (first | have rA2:=Ok.row' hc rA | have rA2:=Ok.row' hc (heap_past _ _ _ (lt_row rA) rA)));(try have rA:=rA2);(try have rA:=Ok.row' hc (heap_new0 _ _));(try have x1:=row_facts rA);(try have l1:=lt_row rA);(try have m1:=new_ne' (Ok.refl w') (lt_row rA));have q0:=Ok.cell hb z0 g0;have q1:=Ok.cell hb z1 g2;have q2:=Ok.cell hb zx a1;have q3:=Ok.cell hb zy b1;have n1:=new_ne' hb z0;have n2:=new_ne' hb z1;have n3:=new_ne' hb zx;have n4:=new_ne' hb zy;have lz:=hb.le)
      | (go_at_call 114;refine (bgcd_any _ _ (by first | exact HBG.out.2.1 | exact HBG.out.1) (by first | exact HBG.out.2.2.1 | exact HBG.out.2.2.2.2.1) _ _ (Ok.refl _)).mono ?_;rintro e w' ⟨rfl,hc⟩;(first | rw [<-HF.out.2.2.2.2.2.2.2.2.1] | rw [<-HF.out.2.2.2.2.2.2.2.2.2]);unfold bv;have hb:Ok Y w':=Ok.step (by repeat (first | assumption | refine Ok.alloc ?_ _ | refine Below.drew ?_)) hc;(try (first | have rA2:=Ok.row' hc rA | have rA2:=Ok.row' hc (heap_past _ _ _ (lt_row rA) rA)));(try have rA:=rA2);(try have rA:=Ok.row' hc (heap_new0 _ _));(try have x1:=row_facts rA);(try have l1:=lt_row rA);(try have m1:=new_ne' (Ok.refl w') (lt_row rA));have q0:=Ok.cell hb z0 g0;have q1:=Ok.cell hb z1 g2;have q2:=Ok.cell hb zx a1;have q3:=Ok.cell hb zy b1;have n1:=new_ne' hb z0;have n2:=new_ne' hb z1;have n3:=new_ne' hb zx;have n4:=new_ne' hb zy;have lz:=hb.le)
      | fail)
     ·refine HT2.out _ _ ?_ ?_ ?_
      ·omega
      ·exact heap_new0 _ _
      ·exact hb.alloc _
     ·refine HT2.out _ _ ?_ ?_ ?_
      ·omega
      ·exact row_set2 rA _ _
      ·exact (hb.set (by simp only;omega) _).set (by simp only;omega) _
     ·refine HT2.out _ _ ?_ ?_ ?_
      ·omega
      ·exact row_set2 rA _ _
      ·exact (hb.set (by simp only;omega) _).set (by simp only;omega) _
     ·refine HT2.out _ _ ?_ ?_ ?_
      ·omega
      ·exact row_set2 rA _ _
      ·exact (hb.set (by simp only;omega) _).set (by simp only;omega) _
     ·refine HT2.out _ _ ?_ ?_ ?_
      ·omega
      ·exact row_set2 rA _ _
      ·exact (hb.set (by simp only;omega) _).set (by simp only;omega) _
     ·refine HT2.out _ _ ?_ ?_ ?_
      ·omega
      ·exact row_set2 rA _ _
      ·exact (hb.set (by simp only;omega) _).set (by simp only;omega) _
    have HTAIL:Hid _:=tail
    clear tail
    have bz:Ok W W:=Ok.refl _
    clear rr
    have n1:¬W.heap.size=w.heap.size:=by omega
    have n2:¬W.heap.size=w.heap.size+1:=by omega
    have n3:¬W.heap.size+1=w.heap.size:=by omega
    go_region_held3 (fun w'=>w'.cell? ⟨w.heap.size,0,none⟩=some (.int .u64 (cM:Int))/\w'.cell? ⟨w.heap.size,1,none⟩=some (.int .u64 (cR:Int))/\w'.cell? ⟨w.heap.size+1,0,none⟩=some (.int .u64 (dM:Int))/\w'.cell? ⟨w.heap.size+1,1,none⟩=some (.int .u64 (dR:Int))) (go_keep)
     (first
     | (go_at_call 109;refine (cr_any _ _ (by first | exact HU.out.1 | exact HU.out.2.2.1) (by first | exact HU.out.2.1 | exact HU.out.2.2.2) _ _ (Ok.refl _)).mono ?_;rintro e w' ⟨rfl,hc⟩;(first | (rw [<-HF.out.1,<-HF.out.2.1];unfold iv;rw [HLO.out.1.1,HLO.out.1.2]) | (rw [<-HF.out.2.2.1,<-HF.out.2.2.2.1];unfold iv;rw [HLO.out.2.1,HLO.out.2.2]));have hb:Ok W w':=Ok.step (by repeat (first | assumption | refine Ok.alloc ?_ _ | refine Below.drew ?_)) hc;(try (first | have rA2:=Ok.row' hc rA | have rA2:=Ok.row' hc (heap_past _ _ _ (lt_row rA) rA)));(try (first | have rB2:=Ok.row' hc rB | have rB2:=Ok.row' hc (heap_past _ _ _ (lt_row rB) rB)));(try have x3:=row3_facts rA2);(try have x4:=row3_facts rB2);(try (first | have rA:=Ok.row' hc (heap_new1 _ _ _) | have rA:=Ok.row' hc (heap_new0 _ _)));(try have rB:=Ok.row' hc (heap_past _ _ _ (by simp) (heap_new0 _ _)));(try have x1:=row3_facts rA);(try have x2:=row3_facts rB);(try have l1:=lt_row rA);(try have l2:=lt_row rB);(try have l3:=lt_row rA2);(try have l4:=lt_row rB2);(try have m1:=new_ne' (Ok.refl w') (lt_row rA));(try have m2:=new_ne' (Ok.refl w') (lt_row rB));(try have m3:=new_ne' (Ok.refl w') (lt_row rA2));(try have m4:=new_ne' (Ok.refl w') (lt_row rB2));have q0:=Ok.cell hb z0 g0;have q1:=Ok.cell hb z0 g1;have q2:=Ok.cell hb z1 g2;have q3:=Ok.cell hb z1 g3;have lz:=hb.le;have n1:=new_ne' hb z0;have n2:=new_ne' hb z1;have n3:=new_ne1 hb z0;have n4:=new_ne1 hb z1)
     | fail)
    ·refine HTAIL.out _ _ _ ?_ ?_ ?_ ?_ ?_
     ·omega
     ·omega
     ·exact heap_past _ _ _ (by simp) (heap_new0 _ _)
     ·exact heap_new1 _ _ _
     ·exact (hb.alloc _).alloc _
    ·refine HTAIL.out _ _ _ ?_ ?_ ?_ ?_ ?_
     ·omega
     ·omega
     ·exact heap_new1 _ _ _
     ·exact heap_past _ _ _ (by simp) (heap_new0 _ _)
     ·exact (hb.alloc _).alloc _
    ·refine HTAIL.out _ _ _ ?_ ?_ ?_ ?_ ?_
     ·omega
     ·omega
     ·exact heap_past _ _ _ (by simp;omega) (row_set3 (by assumption) _ _ _)
     ·exact heap_at _ _ _ (by simp)
     ·exact ((((hb).set (by simp only;omega) _).set (by simp only;omega) _).set (by simp only;omega) _).alloc _
    ·refine HTAIL.out _ _ _ ?_ ?_ ?_ ?_ ?_
     ·omega
     ·omega
     ·exact sets3_other (by omega) _ _ _ (row_set3 (by assumption) _ _ _)
     ·exact row_set3 (sets3_other (by omega) _ _ _ (by assumption)) _ _ _
     ·exact ((((((hb).set (by simp only;omega) _).set (by simp only;omega) _).set (by simp only;omega) _).set (by simp only;omega) _).set (by simp only;omega) _).set (by simp only;omega) _
    ·refine HTAIL.out _ _ _ ?_ ?_ ?_ ?_ ?_
     ·omega
     ·omega
     ·exact heap_at _ _ _ (by simp)
     ·exact heap_past _ _ _ (by simp;omega) (row_set3 (by assumption) _ _ _)
     ·exact ((((hb).set (by simp only;omega) _).set (by simp only;omega) _).set (by simp only;omega) _).alloc _
    ·refine HTAIL.out _ _ _ ?_ ?_ ?_ ?_ ?_
     ·omega
     ·omega
     ·exact sets3_other (by omega) _ _ _ (row_set3 (by assumption) _ _ _)
     ·exact row_set3 (sets3_other (by omega) _ _ _ (by assumption)) _ _ _
     ·exact ((((((hb).set (by simp only;omega) _).set (by simp only;omega) _).set (by simp only;omega) _).set (by simp only;omega) _).set (by simp only;omega) _).set (by simp only;omega) _
    ·refine HTAIL.out _ _ _ ?_ ?_ ?_ ?_ ?_
     ·omega
     ·omega
     ·exact heap_past _ _ _ (by simp;omega) (row_set3 (by assumption) _ _ _)
     ·exact heap_at _ _ _ (by simp)
     ·exact ((((hb).set (by simp only;omega) _).set (by simp only;omega) _).set (by simp only;omega) _).alloc _
    ·refine HTAIL.out _ _ _ ?_ ?_ ?_ ?_ ?_
     ·omega
     ·omega
     ·exact sets3_other (by omega) _ _ _ (row_set3 (by assumption) _ _ _)
     ·exact row_set3 (sets3_other (by omega) _ _ _ (by assumption)) _ _ _
     ·exact ((((((hb).set (by simp only;omega) _).set (by simp only;omega) _).set (by simp only;omega) _).set (by simp only;omega) _).set (by simp only;omega) _).set (by simp only;omega) _
    ·refine HTAIL.out _ _ _ ?_ ?_ ?_ ?_ ?_
     ·omega
     ·omega
     ·exact sets3_other (by omega) _ _ _ (row_set3 (by assumption) _ _ _)
     ·exact row_set3 (sets3_other (by omega) _ _ _ (by assumption)) _ _ _
     ·exact ((((((hb).set (by simp only;omega) _).set (by simp only;omega) _).set (by simp only;omega) _).set (by simp only;omega) _).set (by simp only;omega) _).set (by simp only;omega) _
    ·refine HTAIL.out _ _ _ ?_ ?_ ?_ ?_ ?_
     ·omega
     ·omega
     ·exact heap_at _ _ _ (by simp)
     ·exact heap_past _ _ _ (by simp;omega) (row_set3 (by assumption) _ _ _)
     ·exact ((((hb).set (by simp only;omega) _).set (by simp only;omega) _).set (by simp only;omega) _).alloc _
    ·refine HTAIL.out _ _ _ ?_ ?_ ?_ ?_ ?_
     ·omega
     ·omega
     ·exact sets3_other (by omega) _ _ _ (row_set3 (by assumption) _ _ _)
     ·exact row_set3 (sets3_other (by omega) _ _ _ (by assumption)) _ _ _
     ·exact ((((((hb).set (by simp only;omega) _).set (by simp only;omega) _).set (by simp only;omega) _).set (by simp only;omega) _).set (by simp only;omega) _).set (by simp only;omega) _
    ·refine HTAIL.out _ _ _ ?_ ?_ ?_ ?_ ?_
     ·omega
     ·omega
     ·exact sets3_other (by omega) _ _ _ (row_set3 (by assumption) _ _ _)
     ·exact row_set3 (sets3_other (by omega) _ _ _ (by assumption)) _ _ _
     ·exact ((((((hb).set (by simp only;omega) _).set (by simp only;omega) _).set (by simp only;omega) _).set (by simp only;omega) _).set (by simp only;omega) _).set (by simp only;omega) _
   ·have hc1:((cM:Int)==0)=false:=by simp;omega
    by_cases hd0:dM=0
    ·have hd:((dM:Int)==0)=true:=by simp [hd0]
     have hr:((dR:Int)==0)=false:=by simp;omega
     have HD:Hid _:=hd0
     clear hz hq hc hd0
     go_enter Tryz.func40,Tryz.ntmps40
     go_wp2_with fail
     rename_i Qq Kk aK
     obtain ⟨W,hW⟩:∃ W,W=((w.alloc (.cells #[.int .u64 (cM:Int),.int .u64 (cR:Int)] 27)).alloc (.cells #[.int .u64 (dM:Int),.int .u64 (dR:Int)] 27)).alloc (.cells #[.int .u64 0,.int .u64 0] 27):=⟨_,rfl⟩
     have ra:W.heap[w.heap.size]?=some (.cells #[.int .u64 (cM:Int),.int .u64 (cR:Int)] 27):=by rw [hW];exact jj
     have rb:W.heap[w.heap.size+1]?=some (.cells #[.int .u64 (dM:Int),.int .u64 (dR:Int)] 27):=by rw [hW];exact jj
     have rr:W.heap[w.heap.size+2]?=some (.cells #[.int .u64 0,.int .u64 0] 27):=by rw [hW];exact jj
     have HW:Hid (Ok w0 W):=by rw [hW];exact (by repeat (first | exact hok | refine Ok.alloc ?_ _ | refine Ok.draws ?_ _ | fail))
     rw [<-hW]
     clear hW hok
     obtain ⟨g0,g1,_,_⟩:=row_facts ra
     obtain ⟨g2,g3,_,_⟩:=row_facts rb
     have z0:=lt_row ra
     have z1:=lt_row rb
     have HRR:Hid _:=And.intro ra (And.intro rb rr)
     clear ra rb
     have tail:∀ (gx gy:Nat) (Y:World),W.heap.size<=gx->W.heap.size<=gy->Y.heap[gx]?=some (.cells #[.int .u64 0,.int .u64 (f1:Int),.bool s1] 107)->Y.heap[gy]?=some (.cells #[.int .u64 0,.int .u64 (f2:Int),.bool s2] 107)->Ok W Y->Exit.then Kk Qq Exit.normal
       { tmps:=#[.agg #[.int .u64 (cM:Int),.int .u64 (cR:Int)],.agg #[.int .u64 (dM:Int),.int .u64 (dR:Int)],.bool ex,.pointer (some ⟨w.heap.size,0,none⟩),.pointer (some ⟨w.heap.size+1,0,none⟩),undef,.pointer (some ⟨w.heap.size+1+1,0,none⟩),.pointer (some ⟨gx,0,none⟩),.pointer (some ⟨gy,0,none⟩),undef,.pointer (some ⟨w.heap.size,0,none⟩),.int .u64 (cM:Int),.bool false,.bool false,undef,undef,undef,.bool false,undef,undef,undef,undef,undef,undef,.agg #[.int .u64 (cM:Int),.int .u64 (cR:Int)],.agg #[.int .u64 0,.int .u64 0],.bool false,.bool false,.agg #[.int .u64 (dM:Int),.int .u64 (dR:Int)],.agg #[.int .u64 0,.int .u64 0],.bool false,.bool false,undef,.agg #[.int .u64 (cM:Int),.int .u64 (cR:Int)],.agg #[.int .u64 0,.int .u64 (f1:Int),.bool s1],.agg #[.int .u64 (dM:Int),.int .u64 (dR:Int)],.agg #[.int .u64 0,.int .u64 (f2:Int),.bool s2],undef,undef,undef,undef,undef,undef,undef,undef,undef,undef,undef,undef,undef,undef,undef,undef,undef,undef,undef,undef,undef,undef,undef,undef,undef,undef,undef,undef,undef,undef,undef,undef,undef,undef,undef],defers:=[] } Y:=by
      intro gx gy Y hgx hgy hx hy hokY
      have HXY:Hid _:=And.intro hx hy
      obtain ⟨g0,g1,_,_⟩:=row_facts (Ok.row' hokY HRR.out.1)
      obtain ⟨g2,g3,_,_⟩:=row_facts (Ok.row' hokY HRR.out.2.1)
      obtain ⟨a0,a1,a2,_⟩:=row3_facts hx
      obtain ⟨b0,b1,b2,_⟩:=row3_facts hy
      have z0:=lt_row (Ok.row' hokY HRR.out.1)
      have z1:=lt_row (Ok.row' hokY HRR.out.2.1)
      have zx:=lt_row hx
      have zy:=lt_row hy
      have HRES:Hid _:=Ok.row' hokY HRR.out.2.2
      have HWR:Hid (w.heap.size+2<W.heap.size):=lt_row HRR.out.2.2
      have HWY:Hid (Ok w0 Y):=HW.out.step hokY
      clear hx hy hokY
      go_wp2_with fail
      rename_i K2 aK2
      have tail2:∀ (gz:Nat) (Z:World),Y.heap.size<=gz->Z.heap[gz]?=some (cB G)->Ok Y Z->Exit.then K2 Qq Exit.normal
        { tmps:=#[.agg #[.int .u64 (cM:Int),.int .u64 (cR:Int)],.agg #[.int .u64 (dM:Int),.int .u64 (dR:Int)],.bool ex,.pointer (some ⟨w.heap.size,0,none⟩),.pointer (some ⟨w.heap.size+1,0,none⟩),undef,.pointer (some ⟨w.heap.size+1+1,0,none⟩),.pointer (some ⟨gx,0,none⟩),.pointer (some ⟨gy,0,none⟩),.pointer (some ⟨gz,0,none⟩),.pointer (some ⟨w.heap.size,0,none⟩),.int .u64 (cM:Int),.bool false,.bool false,undef,undef,undef,.bool false,undef,undef,undef,undef,undef,undef,.agg #[.int .u64 (cM:Int),.int .u64 (cR:Int)],.agg #[.int .u64 0,.int .u64 0],.bool false,.bool false,.agg #[.int .u64 (dM:Int),.int .u64 (dR:Int)],.agg #[.int .u64 0,.int .u64 0],.bool false,.bool false,undef,.agg #[.int .u64 (cM:Int),.int .u64 (cR:Int)],.agg #[.int .u64 0,.int .u64 (f1:Int),.bool s1],.agg #[.int .u64 (dM:Int),.int .u64 (dR:Int)],.agg #[.int .u64 0,.int .u64 (f2:Int),.bool s2],.pointer (some ⟨w.heap.size,0,none⟩),.int .u64 (cM:Int),.pointer (some ⟨w.heap.size+1,0,none⟩),.int .u64 (dM:Int),.agg #[.int .u64 (hiB P1),.int .u64 (loB P1)],.pointer (some ⟨gx,0,none⟩),.pointer (some ⟨gx,1,none⟩),.int .u64 (f1:Int),.pointer (some ⟨w.heap.size+1,0,none⟩),.int .u64 (dM:Int),.agg #[.int .u64 (hiB P2),.int .u64 (loB P2)],.pointer (some ⟨gy,0,none⟩),.pointer (some ⟨gy,1,none⟩),.int .u64 (f2:Int),.pointer (some ⟨w.heap.size,0,none⟩),.int .u64 (cM:Int),.agg #[.int .u64 (hiB P3),.int .u64 (loB P3)],.agg #[.int .u64 (hiB K),.int .u64 (loB K)],.agg #[.int .u64 (hiB G),.int .u64 (loB G)],undef,undef,undef,undef,undef,undef,undef,undef,undef,undef,undef,undef,undef,undef,undef,undef],defers:=[] } Z:=by
       intro gz Z hgz hz hokZ
       have HRZ:Hid _:=Ok.row' hokZ HRES.out
       have HWZ:Hid (Ok w0 Z):=HWY.out.step hokZ
       obtain ⟨a0,a1,a2,_⟩:=row3_facts (Ok.row' hokZ HXY.out.1)
       obtain ⟨b0,b1,b2,_⟩:=row3_facts (Ok.row' hokZ HXY.out.2)
       obtain ⟨k0,k1,_,_⟩:=cB_facts hz
       have yx:=lt_row (Ok.row' hokZ HXY.out.1)
       have yy:=lt_row (Ok.row' hokZ HXY.out.2)
       have yz:=lt_row hz
       have n1:¬w.heap.size+1+1=gx:=by have:=HWR.out;omega
       have n2:¬w.heap.size+1+1=gy:=by have:=HWR.out;omega
       have n3:¬w.heap.size+1+1=gz:=by have:=lt_row HRES.out;omega
       clear hz hokZ
       go_wp2_with fail
       have bz:Ok Z Z:=Ok.refl _
       go_region_held3 (fun w'=>w'.cell? ⟨gx,1,none⟩=some (.int .u64 (f1:Int))/\w'.cell? ⟨gx,2,none⟩=some (.bool s1)/\w'.cell? ⟨gy,1,none⟩=some (.int .u64 (f2:Int))/\w'.cell? ⟨gy,2,none⟩=some (.bool s2)/\w'.cell? ⟨gz,0,none⟩=some (.int .u64 (hiB G))/\w'.cell? ⟨gz,1,none⟩=some (.int .u64 (loB G))) (go_keep)
        (first
        | (go_at_call 118;refine (btimes_any f1 f2 HR1.out.1 HR1.out.2 Z _ (by repeat (first | assumption | refine Ok.alloc ?_ _ | refine Below.drew ?_))).mono ?_;rintro e w' ⟨rfl,hb⟩;rw [<-HF.out.2.2.2.2.2.2.2.1];unfold bv;have q0:=Ok.cell hb yx a1;have q1:=Ok.cell hb yx a2;have q2:=Ok.cell hb yy b1;have q3:=Ok.cell hb yy b2;have q4:=Ok.cell hb yz k0;have q5:=Ok.cell hb yz k1;obtain ⟨c0,c1,c2,c3⟩:=row_facts (Ok.row' hb HRZ.out))
        | (go_at_call 110;refine (cby_any P4 (s1 != s2) G ex HBG.out.2.2.2.1 HBG.out.2.2.2.2.2 HGP.out Z _ (by repeat (first | assumption | refine Ok.alloc ?_ _ | refine Below.drew ?_))).mono ?_;rintro e w' ⟨rfl,hb⟩;unfold cv;have q0:=Ok.cell hb yx a1;have q1:=Ok.cell hb yx a2;have q2:=Ok.cell hb yy b1;have q3:=Ok.cell hb yy b2;have q4:=Ok.cell hb yz k0;have q5:=Ok.cell hb yz k1;obtain ⟨c0,c1,c2,c3⟩:=row_facts (Ok.row' hb HRZ.out))
        | fail)
       have HR5:Hid _:=Ok.row' hb HRZ.out
       have HB5:Hid (Ok w0 w'):=HWZ.out.step hb
       go_wp2_with fail
       (try simp only [Exit.inBlock,Exit.then])
       refine bodyPost_ret (results_cell_row rfl _ _ (w.heap.size+2) 27 #[_,_] (0,0) _ rfl (row_set2 HR5.out _ _) Tryz.underlying27 rfl infoCg) rfl ?_
       rw [E.out]
       exact ⟨rfl,(HB5.out.set (show w0.heap.size<=w.heap.size+2 by omega) _).set (show w0.heap.size<=w.heap.size+2 by omega) _⟩
      have HT2:Hid _:=tail2
      clear tail2
      have bz:Ok Y Y:=Ok.refl _
      have n1:=new_ne' bz z0
      have n2:=new_ne' bz z1
      have n3:=new_ne' bz zx
      have n4:=new_ne' bz zy
      go_region_held3 (fun w'=>w'.cell? ⟨w.heap.size,0,none⟩=some (.int .u64 (cM:Int))/\w'.cell? ⟨w.heap.size+1,0,none⟩=some (.int .u64 (dM:Int))/\w'.cell? ⟨gx,1,none⟩=some (.int .u64 (f1:Int))/\w'.cell? ⟨gy,1,none⟩=some (.int .u64 (f2:Int))) (go_keep)
       (first
       | (go_at_call 118;refine (btimes_any _ _ (by first | exact HU.out.1 | exact HR1.out.1 | exact HR1.out.2) (by first | exact HU.out.2.2.1 | exact HU.out.1) _ _ (Ok.refl _)).mono ?_;rintro e w' ⟨rfl,hc⟩;(first | rw [<-HF.out.2.2.2.2.1] | rw [<-HF.out.2.2.2.2.2.1] | rw [<-HF.out.2.2.2.2.2.2.1]);unfold bv;have hb:Ok Y w':=Ok.step (by repeat (first | assumption | refine Ok.alloc ?_ _ | refine Below.drew ?_)) hc;(try (first | have rA2:=Ok.row' hc rA | have rA2:=Ok.row' hc (heap_past _ _ _ (lt_row rA) rA)));(try have rA:=rA2);(try have rA:=Ok.row' hc (heap_new0 _ _));(try have x1:=row_facts rA);(try have l1:=lt_row rA);(try have m1:=new_ne' (Ok.refl w') (lt_row rA));have q0:=Ok.cell hb z0 g0;have q1:=Ok.cell hb z1 g2;have q2:=Ok.cell hb zx a1;have q3:=Ok.cell hb zy b1;have n1:=new_ne' hb z0;have n2:=new_ne' hb z1;have n3:=new_ne' hb zx;have n4:=new_ne' hb zy;have lz:=hb.le)
       | (go_at_call 114;refine (bgcd_any _ _ (by first | exact HBG.out.2.1 | exact HBG.out.1) (by first | exact HBG.out.2.2.1 | exact HBG.out.2.2.2.2.1) _ _ (Ok.refl _)).mono ?_;rintro e w' ⟨rfl,hc⟩;(first | rw [<-HF.out.2.2.2.2.2.2.2.2.1] | rw [<-HF.out.2.2.2.2.2.2.2.2.2]);unfold bv;have hb:Ok Y w':=Ok.step (by repeat (first | assumption | refine Ok.alloc ?_ _ | refine Below.drew ?_)) hc;(try (first | have rA2:=Ok.row' hc rA | have rA2:=Ok.row' hc (heap_past _ _ _ (lt_row rA) rA)));(try have rA:=rA2);(try have rA:=Ok.row' hc (heap_new0 _ _));(try have x1:=row_facts rA);(try have l1:=lt_row rA);(try have m1:=new_ne' (Ok.refl w') (lt_row rA));have q0:=Ok.cell hb z0 g0;have q1:=Ok.cell hb z1 g2;have q2:=Ok.cell hb zx a1;have q3:=Ok.cell hb zy b1;have n1:=new_ne' hb z0;have n2:=new_ne' hb z1;have n3:=new_ne' hb zx;have n4:=new_ne' hb zy;have lz:=hb.le)
       | fail)
      ·refine HT2.out _ _ ?_ ?_ ?_
       ·omega
       ·exact heap_new0 _ _
       ·exact hb.alloc _
      ·refine HT2.out _ _ ?_ ?_ ?_
       ·omega
       ·exact row_set2 rA _ _
       ·exact (hb.set (by simp only;omega) _).set (by simp only;omega) _
      ·refine HT2.out _ _ ?_ ?_ ?_
       ·omega
       ·exact row_set2 rA _ _
       ·exact (hb.set (by simp only;omega) _).set (by simp only;omega) _
      ·refine HT2.out _ _ ?_ ?_ ?_
       ·omega
       ·exact row_set2 rA _ _
       ·exact (hb.set (by simp only;omega) _).set (by simp only;omega) _
      ·refine HT2.out _ _ ?_ ?_ ?_
       ·omega
       ·exact row_set2 rA _ _
       ·exact (hb.set (by simp only;omega) _).set (by simp only;omega) _
      ·refine HT2.out _ _ ?_ ?_ ?_
       ·omega
       ·exact row_set2 rA _ _
       ·exact (hb.set (by simp only;omega) _).set (by simp only;omega) _
     have HTAIL:Hid _:=tail
     clear tail
     have bz:Ok W W:=Ok.refl _
     clear rr
     have n1:¬W.heap.size=w.heap.size:=by omega
     have n2:¬W.heap.size=w.heap.size+1:=by omega
     have n3:¬W.heap.size+1=w.heap.size:=by omega
     go_region_held3 (fun w'=>w'.cell? ⟨w.heap.size,0,none⟩=some (.int .u64 (cM:Int))/\w'.cell? ⟨w.heap.size,1,none⟩=some (.int .u64 (cR:Int))/\w'.cell? ⟨w.heap.size+1,0,none⟩=some (.int .u64 (dM:Int))/\w'.cell? ⟨w.heap.size+1,1,none⟩=some (.int .u64 (dR:Int))) (go_keep)
      (first
      | (go_at_call 109;refine (cr_any _ _ (by first | exact HU.out.1 | exact HU.out.2.2.1) (by first | exact HU.out.2.1 | exact HU.out.2.2.2) _ _ (Ok.refl _)).mono ?_;rintro e w' ⟨rfl,hc⟩;(first | (rw [<-HF.out.1,<-HF.out.2.1];unfold iv;rw [HLO.out.1.1,HLO.out.1.2]) | (rw [<-HF.out.2.2.1,<-HF.out.2.2.2.1];unfold iv;rw [HLO.out.2.1,HLO.out.2.2]));have hb:Ok W w':=Ok.step (by repeat (first | assumption | refine Ok.alloc ?_ _ | refine Below.drew ?_)) hc;(try (first | have rA2:=Ok.row' hc rA | have rA2:=Ok.row' hc (heap_past _ _ _ (lt_row rA) rA)));(try (first | have rB2:=Ok.row' hc rB | have rB2:=Ok.row' hc (heap_past _ _ _ (lt_row rB) rB)));(try have x3:=row3_facts rA2);(try have x4:=row3_facts rB2);(try (first | have rA:=Ok.row' hc (heap_new1 _ _ _) | have rA:=Ok.row' hc (heap_new0 _ _)));(try have rB:=Ok.row' hc (heap_past _ _ _ (by simp) (heap_new0 _ _)));(try have x1:=row3_facts rA);(try have x2:=row3_facts rB);(try have l1:=lt_row rA);(try have l2:=lt_row rB);(try have l3:=lt_row rA2);(try have l4:=lt_row rB2);(try have m1:=new_ne' (Ok.refl w') (lt_row rA));(try have m2:=new_ne' (Ok.refl w') (lt_row rB));(try have m3:=new_ne' (Ok.refl w') (lt_row rA2));(try have m4:=new_ne' (Ok.refl w') (lt_row rB2));have q0:=Ok.cell hb z0 g0;have q1:=Ok.cell hb z0 g1;have q2:=Ok.cell hb z1 g2;have q3:=Ok.cell hb z1 g3;have lz:=hb.le;have n1:=new_ne' hb z0;have n2:=new_ne' hb z1;have n3:=new_ne1 hb z0;have n4:=new_ne1 hb z1)
      | fail)
     ·refine HTAIL.out _ _ _ ?_ ?_ ?_ ?_ ?_
      ·omega
      ·omega
      ·exact heap_past _ _ _ (by simp) (heap_new0 _ _)
      ·exact heap_new1 _ _ _
      ·exact (hb.alloc _).alloc _
     ·refine HTAIL.out _ _ _ ?_ ?_ ?_ ?_ ?_
      ·omega
      ·omega
      ·exact heap_new1 _ _ _
      ·exact heap_past _ _ _ (by simp) (heap_new0 _ _)
      ·exact (hb.alloc _).alloc _
     ·refine HTAIL.out _ _ _ ?_ ?_ ?_ ?_ ?_
      ·omega
      ·omega
      ·exact heap_past _ _ _ (by simp;omega) (row_set3 (by assumption) _ _ _)
      ·exact heap_at _ _ _ (by simp)
      ·exact ((((hb).set (by simp only;omega) _).set (by simp only;omega) _).set (by simp only;omega) _).alloc _
     ·refine HTAIL.out _ _ _ ?_ ?_ ?_ ?_ ?_
      ·omega
      ·omega
      ·exact sets3_other (by omega) _ _ _ (row_set3 (by assumption) _ _ _)
      ·exact row_set3 (sets3_other (by omega) _ _ _ (by assumption)) _ _ _
      ·exact ((((((hb).set (by simp only;omega) _).set (by simp only;omega) _).set (by simp only;omega) _).set (by simp only;omega) _).set (by simp only;omega) _).set (by simp only;omega) _
     ·refine HTAIL.out _ _ _ ?_ ?_ ?_ ?_ ?_
      ·omega
      ·omega
      ·exact heap_at _ _ _ (by simp)
      ·exact heap_past _ _ _ (by simp;omega) (row_set3 (by assumption) _ _ _)
      ·exact ((((hb).set (by simp only;omega) _).set (by simp only;omega) _).set (by simp only;omega) _).alloc _
     ·refine HTAIL.out _ _ _ ?_ ?_ ?_ ?_ ?_
      ·omega
      ·omega
      ·exact sets3_other (by omega) _ _ _ (row_set3 (by assumption) _ _ _)
      ·exact row_set3 (sets3_other (by omega) _ _ _ (by assumption)) _ _ _
      ·exact ((((((hb).set (by simp only;omega) _).set (by simp only;omega) _).set (by simp only;omega) _).set (by simp only;omega) _).set (by simp only;omega) _).set (by simp only;omega) _
     ·refine HTAIL.out _ _ _ ?_ ?_ ?_ ?_ ?_
      ·omega
      ·omega
      ·exact heap_past _ _ _ (by simp;omega) (row_set3 (by assumption) _ _ _)
      ·exact heap_at _ _ _ (by simp)
      ·exact ((((hb).set (by simp only;omega) _).set (by simp only;omega) _).set (by simp only;omega) _).alloc _
     ·refine HTAIL.out _ _ _ ?_ ?_ ?_ ?_ ?_
      ·omega
      ·omega
      ·exact sets3_other (by omega) _ _ _ (row_set3 (by assumption) _ _ _)
      ·exact row_set3 (sets3_other (by omega) _ _ _ (by assumption)) _ _ _
      ·exact ((((((hb).set (by simp only;omega) _).set (by simp only;omega) _).set (by simp only;omega) _).set (by simp only;omega) _).set (by simp only;omega) _).set (by simp only;omega) _
     ·refine HTAIL.out _ _ _ ?_ ?_ ?_ ?_ ?_
      ·omega
      ·omega
      ·exact sets3_other (by omega) _ _ _ (row_set3 (by assumption) _ _ _)
      ·exact row_set3 (sets3_other (by omega) _ _ _ (by assumption)) _ _ _
      ·exact ((((((hb).set (by simp only;omega) _).set (by simp only;omega) _).set (by simp only;omega) _).set (by simp only;omega) _).set (by simp only;omega) _).set (by simp only;omega) _
     ·refine HTAIL.out _ _ _ ?_ ?_ ?_ ?_ ?_
      ·omega
      ·omega
      ·exact heap_at _ _ _ (by simp)
      ·exact heap_past _ _ _ (by simp;omega) (row_set3 (by assumption) _ _ _)
      ·exact ((((hb).set (by simp only;omega) _).set (by simp only;omega) _).set (by simp only;omega) _).alloc _
     ·refine HTAIL.out _ _ _ ?_ ?_ ?_ ?_ ?_
      ·omega
      ·omega
      ·exact sets3_other (by omega) _ _ _ (row_set3 (by assumption) _ _ _)
      ·exact row_set3 (sets3_other (by omega) _ _ _ (by assumption)) _ _ _
      ·exact ((((((hb).set (by simp only;omega) _).set (by simp only;omega) _).set (by simp only;omega) _).set (by simp only;omega) _).set (by simp only;omega) _).set (by simp only;omega) _
     ·refine HTAIL.out _ _ _ ?_ ?_ ?_ ?_ ?_
      ·omega
      ·omega
      ·exact sets3_other (by omega) _ _ _ (row_set3 (by assumption) _ _ _)
      ·exact row_set3 (sets3_other (by omega) _ _ _ (by assumption)) _ _ _
      ·exact ((((((hb).set (by simp only;omega) _).set (by simp only;omega) _).set (by simp only;omega) _).set (by simp only;omega) _).set (by simp only;omega) _).set (by simp only;omega) _
    ·have hd:((dM:Int)==0)=false:=by simp [hd0]
     clear hz hq hc hd0
     go_enter Tryz.func40,Tryz.ntmps40
     go_wp2_with fail
     rename_i Qq Kk aK
     obtain ⟨W,hW⟩:∃ W,W=((w.alloc (.cells #[.int .u64 (cM:Int),.int .u64 (cR:Int)] 27)).alloc (.cells #[.int .u64 (dM:Int),.int .u64 (dR:Int)] 27)).alloc (.cells #[.int .u64 0,.int .u64 0] 27):=⟨_,rfl⟩
     have ra:W.heap[w.heap.size]?=some (.cells #[.int .u64 (cM:Int),.int .u64 (cR:Int)] 27):=by rw [hW];exact jj
     have rb:W.heap[w.heap.size+1]?=some (.cells #[.int .u64 (dM:Int),.int .u64 (dR:Int)] 27):=by rw [hW];exact jj
     have rr:W.heap[w.heap.size+2]?=some (.cells #[.int .u64 0,.int .u64 0] 27):=by rw [hW];exact jj
     have HW:Hid (Ok w0 W):=by rw [hW];exact (by repeat (first | exact hok | refine Ok.alloc ?_ _ | refine Ok.draws ?_ _ | fail))
     rw [<-hW]
     clear hW hok
     obtain ⟨g0,g1,_,_⟩:=row_facts ra
     obtain ⟨g2,g3,_,_⟩:=row_facts rb
     have z0:=lt_row ra
     have z1:=lt_row rb
     have HRR:Hid _:=And.intro ra (And.intro rb rr)
     clear ra rb
     have tail:∀ (gx gy:Nat) (Y:World),W.heap.size<=gx->W.heap.size<=gy->Y.heap[gx]?=some (.cells #[.int .u64 0,.int .u64 (f1:Int),.bool s1] 107)->Y.heap[gy]?=some (.cells #[.int .u64 0,.int .u64 (f2:Int),.bool s2] 107)->Ok W Y->Exit.then Kk Qq Exit.normal
       { tmps:=#[.agg #[.int .u64 (cM:Int),.int .u64 (cR:Int)],.agg #[.int .u64 (dM:Int),.int .u64 (dR:Int)],.bool ex,.pointer (some ⟨w.heap.size,0,none⟩),.pointer (some ⟨w.heap.size+1,0,none⟩),undef,.pointer (some ⟨w.heap.size+1+1,0,none⟩),.pointer (some ⟨gx,0,none⟩),.pointer (some ⟨gy,0,none⟩),undef,.pointer (some ⟨w.heap.size,0,none⟩),.int .u64 (cM:Int),.bool false,.bool false,undef,undef,undef,.bool false,undef,undef,undef,undef,undef,undef,.agg #[.int .u64 (cM:Int),.int .u64 (cR:Int)],.agg #[.int .u64 0,.int .u64 0],.bool false,.bool false,.agg #[.int .u64 (dM:Int),.int .u64 (dR:Int)],.agg #[.int .u64 0,.int .u64 0],.bool false,.bool false,undef,.agg #[.int .u64 (cM:Int),.int .u64 (cR:Int)],.agg #[.int .u64 0,.int .u64 (f1:Int),.bool s1],.agg #[.int .u64 (dM:Int),.int .u64 (dR:Int)],.agg #[.int .u64 0,.int .u64 (f2:Int),.bool s2],undef,undef,undef,undef,undef,undef,undef,undef,undef,undef,undef,undef,undef,undef,undef,undef,undef,undef,undef,undef,undef,undef,undef,undef,undef,undef,undef,undef,undef,undef,undef,undef,undef,undef,undef],defers:=[] } Y:=by
      intro gx gy Y hgx hgy hx hy hokY
      have HXY:Hid _:=And.intro hx hy
      obtain ⟨g0,g1,_,_⟩:=row_facts (Ok.row' hokY HRR.out.1)
      obtain ⟨g2,g3,_,_⟩:=row_facts (Ok.row' hokY HRR.out.2.1)
      obtain ⟨a0,a1,a2,_⟩:=row3_facts hx
      obtain ⟨b0,b1,b2,_⟩:=row3_facts hy
      have z0:=lt_row (Ok.row' hokY HRR.out.1)
      have z1:=lt_row (Ok.row' hokY HRR.out.2.1)
      have zx:=lt_row hx
      have zy:=lt_row hy
      have HRES:Hid _:=Ok.row' hokY HRR.out.2.2
      have HWR:Hid (w.heap.size+2<W.heap.size):=lt_row HRR.out.2.2
      have HWY:Hid (Ok w0 Y):=HW.out.step hokY
      clear hx hy hokY
      go_wp2_with fail
      rename_i K2 aK2
      have tail2:∀ (gz:Nat) (Z:World),Y.heap.size<=gz->Z.heap[gz]?=some (cB G)->Ok Y Z->Exit.then K2 Qq Exit.normal
        { tmps:=#[.agg #[.int .u64 (cM:Int),.int .u64 (cR:Int)],.agg #[.int .u64 (dM:Int),.int .u64 (dR:Int)],.bool ex,.pointer (some ⟨w.heap.size,0,none⟩),.pointer (some ⟨w.heap.size+1,0,none⟩),undef,.pointer (some ⟨w.heap.size+1+1,0,none⟩),.pointer (some ⟨gx,0,none⟩),.pointer (some ⟨gy,0,none⟩),.pointer (some ⟨gz,0,none⟩),.pointer (some ⟨w.heap.size,0,none⟩),.int .u64 (cM:Int),.bool false,.bool false,undef,undef,undef,.bool false,undef,undef,undef,undef,undef,undef,.agg #[.int .u64 (cM:Int),.int .u64 (cR:Int)],.agg #[.int .u64 0,.int .u64 0],.bool false,.bool false,.agg #[.int .u64 (dM:Int),.int .u64 (dR:Int)],.agg #[.int .u64 0,.int .u64 0],.bool false,.bool false,undef,.agg #[.int .u64 (cM:Int),.int .u64 (cR:Int)],.agg #[.int .u64 0,.int .u64 (f1:Int),.bool s1],.agg #[.int .u64 (dM:Int),.int .u64 (dR:Int)],.agg #[.int .u64 0,.int .u64 (f2:Int),.bool s2],.pointer (some ⟨w.heap.size,0,none⟩),.int .u64 (cM:Int),.pointer (some ⟨w.heap.size+1,0,none⟩),.int .u64 (dM:Int),.agg #[.int .u64 (hiB P1),.int .u64 (loB P1)],.pointer (some ⟨gx,0,none⟩),.pointer (some ⟨gx,1,none⟩),.int .u64 (f1:Int),.pointer (some ⟨w.heap.size+1,0,none⟩),.int .u64 (dM:Int),.agg #[.int .u64 (hiB P2),.int .u64 (loB P2)],.pointer (some ⟨gy,0,none⟩),.pointer (some ⟨gy,1,none⟩),.int .u64 (f2:Int),.pointer (some ⟨w.heap.size,0,none⟩),.int .u64 (cM:Int),.agg #[.int .u64 (hiB P3),.int .u64 (loB P3)],.agg #[.int .u64 (hiB K),.int .u64 (loB K)],.agg #[.int .u64 (hiB G),.int .u64 (loB G)],undef,undef,undef,undef,undef,undef,undef,undef,undef,undef,undef,undef,undef,undef,undef,undef],defers:=[] } Z:=by
       intro gz Z hgz hz hokZ
       have HRZ:Hid _:=Ok.row' hokZ HRES.out
       have HWZ:Hid (Ok w0 Z):=HWY.out.step hokZ
       obtain ⟨a0,a1,a2,_⟩:=row3_facts (Ok.row' hokZ HXY.out.1)
       obtain ⟨b0,b1,b2,_⟩:=row3_facts (Ok.row' hokZ HXY.out.2)
       obtain ⟨k0,k1,_,_⟩:=cB_facts hz
       have yx:=lt_row (Ok.row' hokZ HXY.out.1)
       have yy:=lt_row (Ok.row' hokZ HXY.out.2)
       have yz:=lt_row hz
       have n1:¬w.heap.size+1+1=gx:=by have:=HWR.out;omega
       have n2:¬w.heap.size+1+1=gy:=by have:=HWR.out;omega
       have n3:¬w.heap.size+1+1=gz:=by have:=lt_row HRES.out;omega
       clear hz hokZ
       go_wp2_with fail
       have bz:Ok Z Z:=Ok.refl _
       go_region_held3 (fun w'=>w'.cell? ⟨gx,1,none⟩=some (.int .u64 (f1:Int))/\w'.cell? ⟨gx,2,none⟩=some (.bool s1)/\w'.cell? ⟨gy,1,none⟩=some (.int .u64 (f2:Int))/\w'.cell? ⟨gy,2,none⟩=some (.bool s2)/\w'.cell? ⟨gz,0,none⟩=some (.int .u64 (hiB G))/\w'.cell? ⟨gz,1,none⟩=some (.int .u64 (loB G))) (go_keep)
        (first
        | (go_at_call 118;refine (btimes_any f1 f2 HR1.out.1 HR1.out.2 Z _ (by repeat (first | assumption | refine Ok.alloc ?_ _ | refine Below.drew ?_))).mono ?_;rintro e w' ⟨rfl,hb⟩;rw [<-HF.out.2.2.2.2.2.2.2.1];unfold bv;have q0:=Ok.cell hb yx a1;have q1:=Ok.cell hb yx a2;have q2:=Ok.cell hb yy b1;have q3:=Ok.cell hb yy b2;have q4:=Ok.cell hb yz k0;have q5:=Ok.cell hb yz k1;obtain ⟨c0,c1,c2,c3⟩:=row_facts (Ok.row' hb HRZ.out))
        | (go_at_call 110;refine (cby_any P4 (s1 != s2) G ex HBG.out.2.2.2.1 HBG.out.2.2.2.2.2 HGP.out Z _ (by repeat (first | assumption | refine Ok.alloc ?_ _ | refine Below.drew ?_))).mono ?_;rintro e w' ⟨rfl,hb⟩;unfold cv;have q0:=Ok.cell hb yx a1;have q1:=Ok.cell hb yx a2;have q2:=Ok.cell hb yy b1;have q3:=Ok.cell hb yy b2;have q4:=Ok.cell hb yz k0;have q5:=Ok.cell hb yz k1;obtain ⟨c0,c1,c2,c3⟩:=row_facts (Ok.row' hb HRZ.out))
        | fail)
       have HR5:Hid _:=Ok.row' hb HRZ.out
       have HB5:Hid (Ok w0 w'):=HWZ.out.step hb
       go_wp2_with fail
       (try simp only [Exit.inBlock,Exit.then])
       refine bodyPost_ret (results_cell_row rfl _ _ (w.heap.size+2) 27 #[_,_] (0,0) _ rfl (row_set2 HR5.out _ _) Tryz.underlying27 rfl infoCg) rfl ?_
       rw [E.out]
       exact ⟨rfl,(HB5.out.set (show w0.heap.size<=w.heap.size+2 by omega) _).set (show w0.heap.size<=w.heap.size+2 by omega) _⟩
      have HT2:Hid _:=tail2
      clear tail2
      have bz:Ok Y Y:=Ok.refl _
      have n1:=new_ne' bz z0
      have n2:=new_ne' bz z1
      have n3:=new_ne' bz zx
      have n4:=new_ne' bz zy
      go_region_held3 (fun w'=>w'.cell? ⟨w.heap.size,0,none⟩=some (.int .u64 (cM:Int))/\w'.cell? ⟨w.heap.size+1,0,none⟩=some (.int .u64 (dM:Int))/\w'.cell? ⟨gx,1,none⟩=some (.int .u64 (f1:Int))/\w'.cell? ⟨gy,1,none⟩=some (.int .u64 (f2:Int))) (go_keep)
       (first
       | (go_at_call 118;refine (btimes_any _ _ (by first | exact HU.out.1 | exact HR1.out.1 | exact HR1.out.2) (by first | exact HU.out.2.2.1 | exact HU.out.1) _ _ (Ok.refl _)).mono ?_;rintro e w' ⟨rfl,hc⟩;(first | rw [<-HF.out.2.2.2.2.1] | rw [<-HF.out.2.2.2.2.2.1] | rw [<-HF.out.2.2.2.2.2.2.1]);unfold bv;have hb:Ok Y w':=Ok.step (by repeat (first | assumption | refine Ok.alloc ?_ _ | refine Below.drew ?_)) hc;(try (first | have rA2:=Ok.row' hc rA | have rA2:=Ok.row' hc (heap_past _ _ _ (lt_row rA) rA)));(try have rA:=rA2);(try have rA:=Ok.row' hc (heap_new0 _ _));(try have x1:=row_facts rA);(try have l1:=lt_row rA);(try have m1:=new_ne' (Ok.refl w') (lt_row rA));have q0:=Ok.cell hb z0 g0;have q1:=Ok.cell hb z1 g2;have q2:=Ok.cell hb zx a1;have q3:=Ok.cell hb zy b1;have n1:=new_ne' hb z0;have n2:=new_ne' hb z1;have n3:=new_ne' hb zx;have n4:=new_ne' hb zy;have lz:=hb.le)
       | (go_at_call 114;refine (bgcd_any _ _ (by first | exact HBG.out.2.1 | exact HBG.out.1) (by first | exact HBG.out.2.2.1 | exact HBG.out.2.2.2.2.1) _ _ (Ok.refl _)).mono ?_;rintro e w' ⟨rfl,hc⟩;(first | rw [<-HF.out.2.2.2.2.2.2.2.2.1] | rw [<-HF.out.2.2.2.2.2.2.2.2.2]);unfold bv;have hb:Ok Y w':=Ok.step (by repeat (first | assumption | refine Ok.alloc ?_ _ | refine Below.drew ?_)) hc;(try (first | have rA2:=Ok.row' hc rA | have rA2:=Ok.row' hc (heap_past _ _ _ (lt_row rA) rA)));(try have rA:=rA2);(try have rA:=Ok.row' hc (heap_new0 _ _));(try have x1:=row_facts rA);(try have l1:=lt_row rA);(try have m1:=new_ne' (Ok.refl w') (lt_row rA));have q0:=Ok.cell hb z0 g0;have q1:=Ok.cell hb z1 g2;have q2:=Ok.cell hb zx a1;have q3:=Ok.cell hb zy b1;have n1:=new_ne' hb z0;have n2:=new_ne' hb z1;have n3:=new_ne' hb zx;have n4:=new_ne' hb zy;have lz:=hb.le)
       | fail)
      ·refine HT2.out _ _ ?_ ?_ ?_
       ·omega
       ·exact heap_new0 _ _
       ·exact hb.alloc _
      ·refine HT2.out _ _ ?_ ?_ ?_
       ·omega
       ·exact row_set2 rA _ _
       ·exact (hb.set (by simp only;omega) _).set (by simp only;omega) _
      ·refine HT2.out _ _ ?_ ?_ ?_
       ·omega
       ·exact row_set2 rA _ _
       ·exact (hb.set (by simp only;omega) _).set (by simp only;omega) _
      ·refine HT2.out _ _ ?_ ?_ ?_
       ·omega
       ·exact row_set2 rA _ _
       ·exact (hb.set (by simp only;omega) _).set (by simp only;omega) _
      ·refine HT2.out _ _ ?_ ?_ ?_
       ·omega
       ·exact row_set2 rA _ _
       ·exact (hb.set (by simp only;omega) _).set (by simp only;omega) _
      ·refine HT2.out _ _ ?_ ?_ ?_
       ·omega
       ·exact row_set2 rA _ _
       ·exact (hb.set (by simp only;omega) _).set (by simp only;omega) _
     have HTAIL:Hid _:=tail
     clear tail
     have bz:Ok W W:=Ok.refl _
     clear rr
     have n1:¬W.heap.size=w.heap.size:=by omega
     have n2:¬W.heap.size=w.heap.size+1:=by omega
     have n3:¬W.heap.size+1=w.heap.size:=by omega
     go_region_held3 (fun w'=>w'.cell? ⟨w.heap.size,0,none⟩=some (.int .u64 (cM:Int))/\w'.cell? ⟨w.heap.size,1,none⟩=some (.int .u64 (cR:Int))/\w'.cell? ⟨w.heap.size+1,0,none⟩=some (.int .u64 (dM:Int))/\w'.cell? ⟨w.heap.size+1,1,none⟩=some (.int .u64 (dR:Int))) (go_keep)
      (first
      | (go_at_call 109;refine (cr_any _ _ (by first | exact HU.out.1 | exact HU.out.2.2.1) (by first | exact HU.out.2.1 | exact HU.out.2.2.2) _ _ (Ok.refl _)).mono ?_;rintro e w' ⟨rfl,hc⟩;(first | (rw [<-HF.out.1,<-HF.out.2.1];unfold iv;rw [HLO.out.1.1,HLO.out.1.2]) | (rw [<-HF.out.2.2.1,<-HF.out.2.2.2.1];unfold iv;rw [HLO.out.2.1,HLO.out.2.2]));have hb:Ok W w':=Ok.step (by repeat (first | assumption | refine Ok.alloc ?_ _ | refine Below.drew ?_)) hc;(try (first | have rA2:=Ok.row' hc rA | have rA2:=Ok.row' hc (heap_past _ _ _ (lt_row rA) rA)));(try (first | have rB2:=Ok.row' hc rB | have rB2:=Ok.row' hc (heap_past _ _ _ (lt_row rB) rB)));(try have x3:=row3_facts rA2);(try have x4:=row3_facts rB2);(try (first | have rA:=Ok.row' hc (heap_new1 _ _ _) | have rA:=Ok.row' hc (heap_new0 _ _)));(try have rB:=Ok.row' hc (heap_past _ _ _ (by simp) (heap_new0 _ _)));(try have x1:=row3_facts rA);(try have x2:=row3_facts rB);(try have l1:=lt_row rA);(try have l2:=lt_row rB);(try have l3:=lt_row rA2);(try have l4:=lt_row rB2);(try have m1:=new_ne' (Ok.refl w') (lt_row rA));(try have m2:=new_ne' (Ok.refl w') (lt_row rB));(try have m3:=new_ne' (Ok.refl w') (lt_row rA2));(try have m4:=new_ne' (Ok.refl w') (lt_row rB2));have q0:=Ok.cell hb z0 g0;have q1:=Ok.cell hb z0 g1;have q2:=Ok.cell hb z1 g2;have q3:=Ok.cell hb z1 g3;have lz:=hb.le;have n1:=new_ne' hb z0;have n2:=new_ne' hb z1;have n3:=new_ne1 hb z0;have n4:=new_ne1 hb z1)
      | fail)
     ·refine HTAIL.out _ _ _ ?_ ?_ ?_ ?_ ?_
      ·omega
      ·omega
      ·exact heap_past _ _ _ (by simp) (heap_new0 _ _)
      ·exact heap_new1 _ _ _
      ·exact (hb.alloc _).alloc _
     ·refine HTAIL.out _ _ _ ?_ ?_ ?_ ?_ ?_
      ·omega
      ·omega
      ·exact heap_new1 _ _ _
      ·exact heap_past _ _ _ (by simp) (heap_new0 _ _)
      ·exact (hb.alloc _).alloc _
     ·refine HTAIL.out _ _ _ ?_ ?_ ?_ ?_ ?_
      ·omega
      ·omega
      ·exact heap_past _ _ _ (by simp;omega) (row_set3 (by assumption) _ _ _)
      ·exact heap_at _ _ _ (by simp)
      ·exact ((((hb).set (by simp only;omega) _).set (by simp only;omega) _).set (by simp only;omega) _).alloc _
     ·refine HTAIL.out _ _ _ ?_ ?_ ?_ ?_ ?_
      ·omega
      ·omega
      ·exact sets3_other (by omega) _ _ _ (row_set3 (by assumption) _ _ _)
      ·exact row_set3 (sets3_other (by omega) _ _ _ (by assumption)) _ _ _
      ·exact ((((((hb).set (by simp only;omega) _).set (by simp only;omega) _).set (by simp only;omega) _).set (by simp only;omega) _).set (by simp only;omega) _).set (by simp only;omega) _
     ·refine HTAIL.out _ _ _ ?_ ?_ ?_ ?_ ?_
      ·omega
      ·omega
      ·exact heap_at _ _ _ (by simp)
      ·exact heap_past _ _ _ (by simp;omega) (row_set3 (by assumption) _ _ _)
      ·exact ((((hb).set (by simp only;omega) _).set (by simp only;omega) _).set (by simp only;omega) _).alloc _
     ·refine HTAIL.out _ _ _ ?_ ?_ ?_ ?_ ?_
      ·omega
      ·omega
      ·exact sets3_other (by omega) _ _ _ (row_set3 (by assumption) _ _ _)
      ·exact row_set3 (sets3_other (by omega) _ _ _ (by assumption)) _ _ _
      ·exact ((((((hb).set (by simp only;omega) _).set (by simp only;omega) _).set (by simp only;omega) _).set (by simp only;omega) _).set (by simp only;omega) _).set (by simp only;omega) _
     ·refine HTAIL.out _ _ _ ?_ ?_ ?_ ?_ ?_
      ·omega
      ·omega
      ·exact heap_past _ _ _ (by simp;omega) (row_set3 (by assumption) _ _ _)
      ·exact heap_at _ _ _ (by simp)
      ·exact ((((hb).set (by simp only;omega) _).set (by simp only;omega) _).set (by simp only;omega) _).alloc _
     ·refine HTAIL.out _ _ _ ?_ ?_ ?_ ?_ ?_
      ·omega
      ·omega
      ·exact sets3_other (by omega) _ _ _ (row_set3 (by assumption) _ _ _)
      ·exact row_set3 (sets3_other (by omega) _ _ _ (by assumption)) _ _ _
      ·exact ((((((hb).set (by simp only;omega) _).set (by simp only;omega) _).set (by simp only;omega) _).set (by simp only;omega) _).set (by simp only;omega) _).set (by simp only;omega) _
     ·refine HTAIL.out _ _ _ ?_ ?_ ?_ ?_ ?_
      ·omega
      ·omega
      ·exact sets3_other (by omega) _ _ _ (row_set3 (by assumption) _ _ _)
      ·exact row_set3 (sets3_other (by omega) _ _ _ (by assumption)) _ _ _
      ·exact ((((((hb).set (by simp only;omega) _).set (by simp only;omega) _).set (by simp only;omega) _).set (by simp only;omega) _).set (by simp only;omega) _).set (by simp only;omega) _
     ·refine HTAIL.out _ _ _ ?_ ?_ ?_ ?_ ?_
      ·omega
      ·omega
      ·exact heap_at _ _ _ (by simp)
      ·exact heap_past _ _ _ (by simp;omega) (row_set3 (by assumption) _ _ _)
      ·exact ((((hb).set (by simp only;omega) _).set (by simp only;omega) _).set (by simp only;omega) _).alloc _
     ·refine HTAIL.out _ _ _ ?_ ?_ ?_ ?_ ?_
      ·omega
      ·omega
      ·exact sets3_other (by omega) _ _ _ (row_set3 (by assumption) _ _ _)
      ·exact row_set3 (sets3_other (by omega) _ _ _ (by assumption)) _ _ _
      ·exact ((((((hb).set (by simp only;omega) _).set (by simp only;omega) _).set (by simp only;omega) _).set (by simp only;omega) _).set (by simp only;omega) _).set (by simp only;omega) _
     ·refine HTAIL.out _ _ _ ?_ ?_ ?_ ?_ ?_
      ·omega
      ·omega
      ·exact sets3_other (by omega) _ _ _ (row_set3 (by assumption) _ _ _)
      ·exact row_set3 (sets3_other (by omega) _ _ _ (by assumption)) _ _ _
      ·exact ((((((hb).set (by simp only;omega) _).set (by simp only;omega) _).set (by simp only;omega) _).set (by simp only;omega) _).set (by simp only;omega) _).set (by simp only;omega) _
end Go.Proofs.YtpjpjhjjhoeijaaGreat
