import Derived.Test.YtpjpjhjjhoeijaaGreatKCadd
set_option linter.all false
namespace Go.Proofs.YtpjpjhjjhoeijaaGreat
open Go.RowKit
def subC (cM cR dM dR:Nat) (e:Bool):Nat×Nat :=
 if cM=0/\dM=0 then (0,bitsN (wrap64 (wrap64 (cR:Int)-wrap64 (dR:Int))))
 else (byG (Nat.gcd cM dM) e,restN (sumF (rF cM cR) (rS cM cR) (rF dM dR) (!rS dM dR)) (sumS (rF cM cR) (rS cM cR) (rF dM dR) (!rS dM dR)) (byG (Nat.gcd cM dM) e))
set_option maxRecDepth 100000 in
set_option maxHeartbeats 4000000 in
theorem csub_any (cM cR dM dR:Nat) (ex:Bool) (h1:U64 cM) (h2:U64 cR) (h3:U64 dM) (h4:U64 dR) (w0 w:World) (hok:Ok w0 w) :
  Calls Tryz.prog 38 #[cv cM cR,cv dM dR,.bool ex] w fun e w'=>e=.returned (cv (subC cM cR dM dR ex).1 (subC cM cR dM dR ex).2)/\Ok w0 w':=by
 have hle:=hok.le
 have HU:Hid _:=And.intro h1 (And.intro h2 (And.intro h3 h4))
 clear h1 h2 h3 h4
 by_cases hz:cM=0/\dM=0
 ·have E:Hid (subC cM cR dM dR ex=(0,bitsN (wrap64 (wrap64 (cR:Int)-wrap64 (dR:Int))))):=by unfold Hid subC;rw [if_pos hz]
  obtain ⟨rfl,rfl⟩:=hz
  obtain ⟨V1,hV1⟩:∃ V,V=wrap64 (cR:Int):=⟨_,rfl⟩
  obtain ⟨V2,hV2⟩:∃ V,V=wrap64 (dR:Int):=⟨_,rfl⟩
  rw [<-hV1,<-hV2] at E
  have HV:Hid _:=And.intro hV1 hV2
  clear hV1 hV2
  obtain ⟨B,hB⟩:∃ B,B=bitsN (wrap64 (V1-V2)):=⟨_,rfl⟩
  rw [<-hB] at E
  have HBB:Hid _:=hB
  clear hB
  unfold cv
  go_enter Tryz.func38,Tryz.ntmps38
  go_wp2_with fail
  obtain ⟨W,hW⟩:∃ W,W=((w.alloc (.cells #[.int .u64 0,.int .u64 (cR:Int)] 27)).alloc (.cells #[.int .u64 0,.int .u64 (dR:Int)] 27)).alloc (.cells #[.int .u64 0,.int .u64 0] 27):=⟨_,rfl⟩
  have ra:W.heap[w.heap.size]?=some (.cells #[.int .u64 0,.int .u64 (cR:Int)] 27):=by rw [hW];exact jj
  have rb:W.heap[w.heap.size+1]?=some (.cells #[.int .u64 0,.int .u64 (dR:Int)] 27):=by rw [hW];exact jj
  have rr:W.heap[w.heap.size+2]?=some (.cells #[.int .u64 0,.int .u64 0] 27):=by rw [hW];exact jj
  have HW:Hid (Ok w0 W):=by rw [hW];exact (by repeat (first | exact hok | refine Ok.alloc ?_ _ | refine Ok.draws ?_ _ | fail))
  rw [<-hW]
  clear hW hok
  have HR:Hid _:=rr
  obtain ⟨a0,a1,_,_⟩:=row_facts ra
  obtain ⟨b0,b1,_,_⟩:=row_facts rb
  have z0:=lt_row ra
  have z1:=lt_row rb
  clear ra rb rr
  have bz:Ok W W:=Ok.refl _
  have n1:¬w.heap.size+1+1=w.heap.size:=by omega
  have n2:¬w.heap.size+1+1=w.heap.size+1:=by omega
  go_region_held3 (fun w'=>w'.cell? ⟨w.heap.size,0,none⟩=some (.int .u64 0)/\w'.cell? ⟨w.heap.size,1,none⟩=some (.int .u64 (cR:Int))/\w'.cell? ⟨w.heap.size+1,0,none⟩=some (.int .u64 0)/\w'.cell? ⟨w.heap.size+1,1,none⟩=some (.int .u64 (dR:Int))) (go_keep)
   (first
   | (go_at_call 108;refine (cnumber_any 0 _ (by first | exact HU.out.2.1 | exact HU.out.2.2.2) W _ (by repeat (first | assumption | refine Ok.alloc ?_ _ | refine Below.drew ?_))).mono ?_;rintro e w' ⟨rfl,hb⟩;(first | rw [<-HV.out.1] | rw [<-HV.out.2]);have q0:=Ok.cell hb z0 a0;have q1:=Ok.cell hb z0 a1;have q2:=Ok.cell hb z1 b0;have q3:=Ok.cell hb z1 b1;obtain ⟨c0,c1,c2,c3⟩:=row_facts (Ok.row' hb HR.out))
   | (go_at_call 99;refine (cconst_any _ W _ (by repeat (first | assumption | refine Ok.alloc ?_ _ | refine Below.drew ?_))).mono ?_;rintro e w' ⟨rfl,hb⟩;unfold cv;have q0:=Ok.cell hb z0 a0;have q1:=Ok.cell hb z0 a1;have q2:=Ok.cell hb z1 b0;have q3:=Ok.cell hb z1 b1;obtain ⟨c0,c1,c2,c3⟩:=row_facts (Ok.row' hb HR.out))
   | fail)
  have HR2:Hid _:=Ok.row' hb HR.out
  have HB2:Hid (Ok w0 w'):=HW.out.step hb
  go_wp2_with fail
  (try simp only [Exit.inBlock,Exit.then])
  refine bodyPost_ret (results_cell_row rfl _ _ (w.heap.size+2) 27 #[_,_] (0,0) _ rfl (row_set2 HR2.out _ _) Tryz.underlying27 rfl infoCg) rfl ?_
  rw [E.out]
  rw [HBB.out,show IntKind.i64.wrap (V1-V2)=wrap64 (V1-V2) by rw [IntKind.wrap_i64];unfold wrap64;omega]
  exact ⟨rfl,(HB2.out.set (show w0.heap.size<=w.heap.size+2 by omega) _).set (show w0.heap.size<=w.heap.size+2 by omega) _⟩
 ·have E:Hid (subC cM cR dM dR ex=(byG (Nat.gcd cM dM) ex,restN (sumF (rF cM cR) (rS cM cR) (rF dM dR) (!rS dM dR)) (sumS (rF cM cR) (rS cM cR) (rF dM dR) (!rS dM dR)) (byG (Nat.gcd cM dM) ex))):=by unfold Hid subC;rw [if_neg hz]
  have HR1:Hid _:=And.intro (rF_rng HU.out.1 HU.out.2.1) (rF_rng HU.out.2.2.1 HU.out.2.2.2)
  obtain ⟨f1,hf1⟩:∃ f,f=rF cM cR:=⟨_,rfl⟩
  obtain ⟨s1,hs1⟩:∃ s,s=rS cM cR:=⟨_,rfl⟩
  obtain ⟨f2,hf2⟩:∃ f,f=rF dM dR:=⟨_,rfl⟩
  obtain ⟨s2,hs2⟩:∃ s,s=rS dM dR:=⟨_,rfl⟩
  rw [<-hf1,<-hs1,<-hf2,<-hs2] at E
  rw [<-hf1,<-hf2] at HR1
  obtain ⟨K,hK⟩:∃ K,K=Nat.gcd cM dM:=⟨_,rfl⟩
  obtain ⟨F,hF⟩:∃ F,F=sumF f1 s1 f2 (!s2):=⟨_,rfl⟩
  obtain ⟨S,hS⟩:∃ S,S=sumS f1 s1 f2 (!s2):=⟨_,rfl⟩
  rw [<-hK,<-hF,<-hS] at E
  have HK:Hid (Big K/\0<K/\Big F/\Big cM/\Big dM):=by
   refine ⟨?_,?_,?_,?_,?_⟩
   ·rw [hK];exact gcd_big HU.out.1 HU.out.2.2.1
   ·rw [hK]
    by_cases hc:cM=0
    ·rw [hc,Nat.gcd_zero_left];omega
    ·exact Nat.gcd_pos_of_pos_left _ (by omega)
   ·rw [hF];exact sumF_big HR1.out.1 HR1.out.2
   ·have:=HU.out.1;unfold U64 at this;unfold Big;omega
   ·have:=HU.out.2.2.1;unfold U64 at this;unfold Big;omega
  have HF:Hid _:=And.intro hf1 (And.intro hs1 (And.intro hf2 (And.intro hs2 (And.intro hK (And.intro hF hS)))))
  clear hf1 hs1 hf2 hs2 hK hF hS
  unfold cv
  by_cases hc:cM=0
  ·have hd:((dM:Int)==0)=false:=by simp;omega
   have HC:Hid _:=hc
   have hc1:((cM:Int)==0)=true:=by simp [hc]
   clear hz hc
   go_enter Tryz.func38,Tryz.ntmps38
   go_wp2_with fail
   obtain ⟨W,hW⟩:∃ W,W=((w.alloc (.cells #[.int .u64 (cM:Int),.int .u64 (cR:Int)] 27)).alloc (.cells #[.int .u64 (dM:Int),.int .u64 (dR:Int)] 27)).alloc (.cells #[.int .u64 0,.int .u64 0] 27):=⟨_,rfl⟩
   have ra:W.heap[w.heap.size]?=some (.cells #[.int .u64 (cM:Int),.int .u64 (cR:Int)] 27):=by rw [hW];exact jj
   have rb:W.heap[w.heap.size+1]?=some (.cells #[.int .u64 (dM:Int),.int .u64 (dR:Int)] 27):=by rw [hW];exact jj
   have rr:W.heap[w.heap.size+2]?=some (.cells #[.int .u64 0,.int .u64 0] 27):=by rw [hW];exact jj
   have HW:Hid (Ok w0 W):=by rw [hW];exact (by repeat (first | exact hok | refine Ok.alloc ?_ _ | refine Ok.draws ?_ _ | fail))
   rw [<-hW]
   clear hW hok
   have HR:Hid _:=rr
   obtain ⟨a0,a1,_,_⟩:=row_facts ra
   obtain ⟨b0,b1,_,_⟩:=row_facts rb
   have z0:=lt_row ra
   have z1:=lt_row rb
   clear ra rb rr
   refine (cr_any dM dR HU.out.2.2.1 HU.out.2.2.2 W W (Ok.refl _)).mono ?_
   rintro e w1 ⟨rfl,hb1⟩
   rw [<-HF.out.2.2.1,<-HF.out.2.2.2.1]
   have a0':=Ok.cell hb1 z0 a0;have a1':=Ok.cell hb1 z0 a1;have b0':=Ok.cell hb1 z1 b0;have b1':=Ok.cell hb1 z1 b1
   have lz:=hb1.le
   have y0:w.heap.size<w1.heap.size:=by omega
   have y1:w.heap.size+1<w1.heap.size:=by omega
   have y2:¬w.heap.size=w1.heap.size:=by omega
   have y3:¬w.heap.size+1=w1.heap.size:=by omega
   unfold iv
   go_wp2_with fail
   obtain ⟨Z,hZ⟩:∃ Z,Z=w1.alloc (.cells #[.int .u64 (hiB f2),.int .u64 (loB f2),.bool (!s2)] 107):=⟨_,rfl⟩
   obtain ⟨gy,hgy⟩:∃ gy,gy=w1.heap.size:=⟨_,rfl⟩
   have ry:Z.heap[gy]?=some (.cells #[.int .u64 (hiB f2),.int .u64 (loB f2),.bool (!s2)] 107):=by rw [hZ];exact heap_at _ _ _ hgy
   have okZ:Ok W Z:=by rw [hZ];exact hb1.alloc _
   rw [<-hZ,<-hgy]
   have n1:¬w.heap.size+1+1=gy:=by have:=lt_row (Ok.row' hb1 HR.out);omega
   have n2:¬w.heap.size+1+1=w.heap.size:=by omega
   have n3:¬w.heap.size+1+1=w.heap.size+1:=by omega
   clear hZ hgy y0 y1 y2 y3 lz a0' a1' b0' b1'
   have HRZ:Hid _:=Ok.row' okZ HR.out
   have HWZ:Hid (Ok w0 Z):=HW.out.step okZ
   have p0:=Ok.cell okZ z0 a0;have p1:=Ok.cell okZ z0 a1;have p2:=Ok.cell okZ z1 b0
   have l0:w.heap.size<Z.heap.size:=Nat.lt_of_lt_of_le z0 okZ.le
   have l1:w.heap.size+1<Z.heap.size:=Nat.lt_of_lt_of_le z1 okZ.le
   obtain ⟨p3,p4,p5,_⟩:=row3_facts ry
   have l2:=lt_row ry
   clear ry okZ a0 a1 b0 b1 z0 z1
   have bz:Ok Z Z:=Ok.refl _
   go_region_held3 (fun w'=>w'.cell? ⟨w.heap.size,0,none⟩=some (.int .u64 (cM:Int))/\w'.cell? ⟨w.heap.size,1,none⟩=some (.int .u64 (cR:Int))/\w'.cell? ⟨w.heap.size+1,0,none⟩=some (.int .u64 (dM:Int))/\w'.cell? ⟨gy,0,none⟩=some (.int .u64 (hiB f2))/\w'.cell? ⟨gy,1,none⟩=some (.int .u64 (loB f2))/\w'.cell? ⟨gy,2,none⟩=some (.bool (!s2))) (go_keep)
    (first
    | (go_at_call 109;refine (cr_any cM cR HU.out.1 HU.out.2.1 Z _ (by repeat (first | assumption | refine Ok.alloc ?_ _ | refine Below.drew ?_))).mono ?_;rintro e w' ⟨rfl,hb⟩;rw [<-HF.out.1,<-HF.out.2.1];have q0:=Ok.cell hb l0 p0;have q1:=Ok.cell hb l0 p1;have q2:=Ok.cell hb l1 p2;have q3:=Ok.cell hb l2 p3;have q4:=Ok.cell hb l2 p4;have q5:=Ok.cell hb l2 p5;obtain ⟨c0,c1,c2,c3⟩:=row_facts (Ok.row' hb HRZ.out))
    | (go_at_call 113;refine (csum_any f1 s1 f2 (!s2) HR1.out.1 HR1.out.2 Z _ (by repeat (first | assumption | refine Ok.alloc ?_ _ | refine Below.drew ?_))).mono ?_;rintro e w' ⟨rfl,hb⟩;rw [<-HF.out.2.2.2.2.2.1,<-HF.out.2.2.2.2.2.2];have q0:=Ok.cell hb l0 p0;have q1:=Ok.cell hb l0 p1;have q2:=Ok.cell hb l1 p2;have q3:=Ok.cell hb l2 p3;have q4:=Ok.cell hb l2 p4;have q5:=Ok.cell hb l2 p5;obtain ⟨c0,c1,c2,c3⟩:=row_facts (Ok.row' hb HRZ.out))
    | (go_at_call 111;refine (bof_any _ (by first | exact HU.out.1 | exact HU.out.2.2.1) Z _ (by repeat (first | assumption | refine Ok.alloc ?_ _ | refine Below.drew ?_))).mono ?_;rintro e w' ⟨rfl,hb⟩;have q0:=Ok.cell hb l0 p0;have q1:=Ok.cell hb l0 p1;have q2:=Ok.cell hb l1 p2;have q3:=Ok.cell hb l2 p3;have q4:=Ok.cell hb l2 p4;have q5:=Ok.cell hb l2 p5;obtain ⟨c0,c1,c2,c3⟩:=row_facts (Ok.row' hb HRZ.out))
    | (go_at_call 114;refine (bgcd_any cM dM HK.out.2.2.2.1 HK.out.2.2.2.2 Z _ (by repeat (first | assumption | refine Ok.alloc ?_ _ | refine Below.drew ?_))).mono ?_;rintro e w' ⟨rfl,hb⟩;rw [<-HF.out.2.2.2.2.1];have q0:=Ok.cell hb l0 p0;have q1:=Ok.cell hb l0 p1;have q2:=Ok.cell hb l1 p2;have q3:=Ok.cell hb l2 p3;have q4:=Ok.cell hb l2 p4;have q5:=Ok.cell hb l2 p5;obtain ⟨c0,c1,c2,c3⟩:=row_facts (Ok.row' hb HRZ.out))
    | (go_at_call 110;refine (cby_any F S K ex HK.out.2.2.1 HK.out.1 HK.out.2.1 Z _ (by repeat (first | assumption | refine Ok.alloc ?_ _ | refine Below.drew ?_))).mono ?_;rintro e w' ⟨rfl,hb⟩;unfold cv;have q0:=Ok.cell hb l0 p0;have q1:=Ok.cell hb l0 p1;have q2:=Ok.cell hb l1 p2;have q3:=Ok.cell hb l2 p3;have q4:=Ok.cell hb l2 p4;have q5:=Ok.cell hb l2 p5;obtain ⟨c0,c1,c2,c3⟩:=row_facts (Ok.row' hb HRZ.out))
    | fail)
   have HR2:Hid _:=Ok.row' hb HRZ.out
   have HB2:Hid (Ok w0 w'):=HWZ.out.step hb
   go_wp2_with fail
   (try simp only [Exit.inBlock,Exit.then])
   refine bodyPost_ret (results_cell_row rfl _ _ (w.heap.size+2) 27 #[_,_] (0,0) _ rfl (row_set2 HR2.out _ _) Tryz.underlying27 rfl infoCg) rfl ?_
   rw [E.out]
   exact ⟨rfl,(HB2.out.set (show w0.heap.size<=w.heap.size+2 by omega) _).set (show w0.heap.size<=w.heap.size+2 by omega) _⟩
  ·have hc1:((cM:Int)==0)=false:=by simp;omega
   clear hz hc
   go_enter Tryz.func38,Tryz.ntmps38
   go_wp2_with fail
   obtain ⟨W,hW⟩:∃ W,W=((w.alloc (.cells #[.int .u64 (cM:Int),.int .u64 (cR:Int)] 27)).alloc (.cells #[.int .u64 (dM:Int),.int .u64 (dR:Int)] 27)).alloc (.cells #[.int .u64 0,.int .u64 0] 27):=⟨_,rfl⟩
   have ra:W.heap[w.heap.size]?=some (.cells #[.int .u64 (cM:Int),.int .u64 (cR:Int)] 27):=by rw [hW];exact jj
   have rb:W.heap[w.heap.size+1]?=some (.cells #[.int .u64 (dM:Int),.int .u64 (dR:Int)] 27):=by rw [hW];exact jj
   have rr:W.heap[w.heap.size+2]?=some (.cells #[.int .u64 0,.int .u64 0] 27):=by rw [hW];exact jj
   have HW:Hid (Ok w0 W):=by rw [hW];exact (by repeat (first | exact hok | refine Ok.alloc ?_ _ | refine Ok.draws ?_ _ | fail))
   rw [<-hW]
   clear hW hok
   have HR:Hid _:=rr
   obtain ⟨a0,a1,_,_⟩:=row_facts ra
   obtain ⟨b0,b1,_,_⟩:=row_facts rb
   have z0:=lt_row ra
   have z1:=lt_row rb
   clear ra rb rr
   refine (cr_any dM dR HU.out.2.2.1 HU.out.2.2.2 W W (Ok.refl _)).mono ?_
   rintro e w1 ⟨rfl,hb1⟩
   rw [<-HF.out.2.2.1,<-HF.out.2.2.2.1]
   have a0':=Ok.cell hb1 z0 a0;have a1':=Ok.cell hb1 z0 a1;have b0':=Ok.cell hb1 z1 b0;have b1':=Ok.cell hb1 z1 b1
   have lz:=hb1.le
   have y0:w.heap.size<w1.heap.size:=by omega
   have y1:w.heap.size+1<w1.heap.size:=by omega
   have y2:¬w.heap.size=w1.heap.size:=by omega
   have y3:¬w.heap.size+1=w1.heap.size:=by omega
   unfold iv
   go_wp2_with fail
   obtain ⟨Z,hZ⟩:∃ Z,Z=w1.alloc (.cells #[.int .u64 (hiB f2),.int .u64 (loB f2),.bool (!s2)] 107):=⟨_,rfl⟩
   obtain ⟨gy,hgy⟩:∃ gy,gy=w1.heap.size:=⟨_,rfl⟩
   have ry:Z.heap[gy]?=some (.cells #[.int .u64 (hiB f2),.int .u64 (loB f2),.bool (!s2)] 107):=by rw [hZ];exact heap_at _ _ _ hgy
   have okZ:Ok W Z:=by rw [hZ];exact hb1.alloc _
   rw [<-hZ,<-hgy]
   have n1:¬w.heap.size+1+1=gy:=by have:=lt_row (Ok.row' hb1 HR.out);omega
   have n2:¬w.heap.size+1+1=w.heap.size:=by omega
   have n3:¬w.heap.size+1+1=w.heap.size+1:=by omega
   clear hZ hgy y0 y1 y2 y3 lz a0' a1' b0' b1'
   have HRZ:Hid _:=Ok.row' okZ HR.out
   have HWZ:Hid (Ok w0 Z):=HW.out.step okZ
   have p0:=Ok.cell okZ z0 a0;have p1:=Ok.cell okZ z0 a1;have p2:=Ok.cell okZ z1 b0
   have l0:w.heap.size<Z.heap.size:=Nat.lt_of_lt_of_le z0 okZ.le
   have l1:w.heap.size+1<Z.heap.size:=Nat.lt_of_lt_of_le z1 okZ.le
   obtain ⟨p3,p4,p5,_⟩:=row3_facts ry
   have l2:=lt_row ry
   clear ry okZ a0 a1 b0 b1 z0 z1
   have bz:Ok Z Z:=Ok.refl _
   go_region_held3 (fun w'=>w'.cell? ⟨w.heap.size,0,none⟩=some (.int .u64 (cM:Int))/\w'.cell? ⟨w.heap.size,1,none⟩=some (.int .u64 (cR:Int))/\w'.cell? ⟨w.heap.size+1,0,none⟩=some (.int .u64 (dM:Int))/\w'.cell? ⟨gy,0,none⟩=some (.int .u64 (hiB f2))/\w'.cell? ⟨gy,1,none⟩=some (.int .u64 (loB f2))/\w'.cell? ⟨gy,2,none⟩=some (.bool (!s2))) (go_keep)
    (first
    | (go_at_call 109;refine (cr_any cM cR HU.out.1 HU.out.2.1 Z _ (by repeat (first | assumption | refine Ok.alloc ?_ _ | refine Below.drew ?_))).mono ?_;rintro e w' ⟨rfl,hb⟩;rw [<-HF.out.1,<-HF.out.2.1];have q0:=Ok.cell hb l0 p0;have q1:=Ok.cell hb l0 p1;have q2:=Ok.cell hb l1 p2;have q3:=Ok.cell hb l2 p3;have q4:=Ok.cell hb l2 p4;have q5:=Ok.cell hb l2 p5;obtain ⟨c0,c1,c2,c3⟩:=row_facts (Ok.row' hb HRZ.out))
    | (go_at_call 113;refine (csum_any f1 s1 f2 (!s2) HR1.out.1 HR1.out.2 Z _ (by repeat (first | assumption | refine Ok.alloc ?_ _ | refine Below.drew ?_))).mono ?_;rintro e w' ⟨rfl,hb⟩;rw [<-HF.out.2.2.2.2.2.1,<-HF.out.2.2.2.2.2.2];have q0:=Ok.cell hb l0 p0;have q1:=Ok.cell hb l0 p1;have q2:=Ok.cell hb l1 p2;have q3:=Ok.cell hb l2 p3;have q4:=Ok.cell hb l2 p4;have q5:=Ok.cell hb l2 p5;obtain ⟨c0,c1,c2,c3⟩:=row_facts (Ok.row' hb HRZ.out))
    | (go_at_call 111;refine (bof_any _ (by first | exact HU.out.1 | exact HU.out.2.2.1) Z _ (by repeat (first | assumption | refine Ok.alloc ?_ _ | refine Below.drew ?_))).mono ?_;rintro e w' ⟨rfl,hb⟩;have q0:=Ok.cell hb l0 p0;have q1:=Ok.cell hb l0 p1;have q2:=Ok.cell hb l1 p2;have q3:=Ok.cell hb l2 p3;have q4:=Ok.cell hb l2 p4;have q5:=Ok.cell hb l2 p5;obtain ⟨c0,c1,c2,c3⟩:=row_facts (Ok.row' hb HRZ.out))
    | (go_at_call 114;refine (bgcd_any cM dM HK.out.2.2.2.1 HK.out.2.2.2.2 Z _ (by repeat (first | assumption | refine Ok.alloc ?_ _ | refine Below.drew ?_))).mono ?_;rintro e w' ⟨rfl,hb⟩;rw [<-HF.out.2.2.2.2.1];have q0:=Ok.cell hb l0 p0;have q1:=Ok.cell hb l0 p1;have q2:=Ok.cell hb l1 p2;have q3:=Ok.cell hb l2 p3;have q4:=Ok.cell hb l2 p4;have q5:=Ok.cell hb l2 p5;obtain ⟨c0,c1,c2,c3⟩:=row_facts (Ok.row' hb HRZ.out))
    | (go_at_call 110;refine (cby_any F S K ex HK.out.2.2.1 HK.out.1 HK.out.2.1 Z _ (by repeat (first | assumption | refine Ok.alloc ?_ _ | refine Below.drew ?_))).mono ?_;rintro e w' ⟨rfl,hb⟩;unfold cv;have q0:=Ok.cell hb l0 p0;have q1:=Ok.cell hb l0 p1;have q2:=Ok.cell hb l1 p2;have q3:=Ok.cell hb l2 p3;have q4:=Ok.cell hb l2 p4;have q5:=Ok.cell hb l2 p5;obtain ⟨c0,c1,c2,c3⟩:=row_facts (Ok.row' hb HRZ.out))
    | fail)
   have HR2:Hid _:=Ok.row' hb HRZ.out
   have HB2:Hid (Ok w0 w'):=HWZ.out.step hb
   go_wp2_with fail
   (try simp only [Exit.inBlock,Exit.then])
   refine bodyPost_ret (results_cell_row rfl _ _ (w.heap.size+2) 27 #[_,_] (0,0) _ rfl (row_set2 HR2.out _ _) Tryz.underlying27 rfl infoCg) rfl ?_
   rw [E.out]
   exact ⟨rfl,(HB2.out.set (show w0.heap.size<=w.heap.size+2 by omega) _).set (show w0.heap.size<=w.heap.size+2 by omega) _⟩
end Go.Proofs.YtpjpjhjjhoeijaaGreat
