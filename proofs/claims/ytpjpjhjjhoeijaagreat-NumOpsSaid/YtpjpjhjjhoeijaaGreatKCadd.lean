import Derived.Test.YtpjpjhjjhoeijaaGreatKCby
set_option maxHeartbeats 8000000
set_option linter.all false
namespace Go.Proofs.YtpjpjhjjhoeijaaGreat
section
open Go.RowKit
def sumF (f1:Nat) (s1:Bool) (f2:Nat) (s2:Bool):Nat:=if s1=s2 then f1+f2 else if f1<f2 then f2-f1 else f1-f2
def sumS (f1:Nat) (s1:Bool) (f2:Nat) (s2:Bool):Bool:=if s1=s2 then s1 else if f1<f2 then !s1 else s1
theorem sum_val (f1:Nat) (s1:Bool) (f2:Nat) (s2:Bool):sval (sumF f1 s1 f2 s2) (sumS f1 s1 f2 s2)=sval f1 s1+sval f2 s2:=by
 unfold sumF sumS sval
 by_cases h:f1<f2
 ·cases s1<;>cases s2<;>simp [h]<;>omega
 ·cases s1<;>cases s2<;>simp [h]<;>omega
set_option maxRecDepth 100000 in
theorem csum_any (f1:Nat) (s1:Bool) (f2:Nat) (s2:Bool) (h1:U64 f1) (h2:U64 f2) (w0 w:World) (hok:Ok w0 w) :
  Calls Tryz.prog 113 #[iv f1 s1,iv f2 s2] w fun e w'=>e=.returned (iv (sumF f1 s1 f2 s2) (sumS f1 s1 f2 s2))/\Ok w0 w':=by
 have hle:=hok.le
 have HB:Hid (Big f1/\Big f2):=by unfold U64 at *;unfold Hid Big;omega
 have HU:Hid _:=And.intro h1 h2
 clear h1 h2
 by_cases hs:s1=s2
 ·have E:Hid (sumF f1 s1 f2 s2=subB f1 (subB 0 f2)/\sumS f1 s1 f2 s2=s1):=by
   have:=HU.out;unfold U64 at this
   refine ⟨?_,?_⟩
   ·unfold sumF subB;rw [if_pos hs];omega
   ·unfold sumS;rw [if_pos hs]
  subst hs
  have HX:Hid (mHi (hiB f1) (loB f1) (mHi 0 0 (hiB f2) (loB f2)) (mLo 0 (loB f2))=hiB (subB f1 (subB 0 f2))/\mLo (loB f1) (mLo 0 (loB f2))=loB (subB f1 (subB 0 f2))):=by
   have z:Big 0:=by unfold Big;omega
   have e1:=mHi_val z HB.out.2
   have e2:=mLo_val z HB.out.2
   rw [show hiB 0=0 from rfl,show loB 0=0 from rfl] at e1
   rw [show loB 0=0 from rfl] at e2
   unfold Hid
   rw [e1,e2]
   exact ⟨mHi_val HB.out.1 (subB_big _ _),mLo_val HB.out.1 (subB_big _ _)⟩
  unfold iv
  go_enter Tryz.func113,Tryz.ntmps113
  go_wp2_with fail
  obtain ⟨W,hW⟩:∃ W,W=((w.alloc (.cells #[.int .u64 (hiB f1),.int .u64 (loB f1),.bool s1] 107)).alloc (.cells #[.int .u64 (hiB f2),.int .u64 (loB f2),.bool s1] 107)).alloc (.cells #[.int .u64 0,.int .u64 0,.bool false] 107):=⟨_,rfl⟩
  have ra:W.heap[w.heap.size]?=some (.cells #[.int .u64 (hiB f1),.int .u64 (loB f1),.bool s1] 107):=by rw [hW];exact jj
  have rb:W.heap[w.heap.size+1]?=some (.cells #[.int .u64 (hiB f2),.int .u64 (loB f2),.bool s1] 107):=by rw [hW];exact jj
  have rr:W.heap[w.heap.size+2]?=some (.cells #[.int .u64 0,.int .u64 0,.bool false] 107):=by rw [hW];exact jj
  have HW:Hid (Ok w0 W):=by rw [hW];exact (by repeat (first | exact hok | refine Ok.alloc ?_ _ | refine Ok.draws ?_ _ | fail))
  rw [<-hW]
  clear hW hok
  have HR:Hid _:=rr
  obtain ⟨a0,a1,a2,_⟩:=row3_facts ra
  obtain ⟨b0,b1,b2,_⟩:=row3_facts rb
  have z0:=lt_row ra
  have z1:=lt_row rb
  clear ra rb rr
  have bz:Ok W W:=Ok.refl _
  have n1:¬w.heap.size+1+1=w.heap.size:=by omega
  have n2:¬w.heap.size+1+1=w.heap.size+1:=by omega
  go_region_held3 (fun w'=>w'.cell? ⟨w.heap.size,0,none⟩=some (.int .u64 (hiB f1))/\w'.cell? ⟨w.heap.size,1,none⟩=some (.int .u64 (loB f1))/\w'.cell? ⟨w.heap.size,2,none⟩=some (.bool s1)/\w'.cell? ⟨w.heap.size+1,0,none⟩=some (.int .u64 (hiB f2))/\w'.cell? ⟨w.heap.size+1,1,none⟩=some (.int .u64 (loB f2))) (go_keep)
   (first
   | (go_at_call 205;refine (bminus_raw _ _ _ _ W _ (by repeat (first | assumption | refine Ok.alloc ?_ _ | refine Below.drew ?_))).mono ?_;rintro e w' ⟨rfl,hb⟩;have q0:=Ok.cell hb z0 a0;have q1:=Ok.cell hb z0 a1;have q2:=Ok.cell hb z0 a2;have q3:=Ok.cell hb z1 b0;have q4:=Ok.cell hb z1 b1;obtain ⟨c0,c1,c2,c3,c4,c5⟩:=row3_facts (Ok.row' hb HR.out))
   | fail)
  have HR2:Hid _:=Ok.row' hb HR.out
  have HB2:Hid (Ok w0 w'):=HW.out.step hb
  go_wp2_with fail
  (try simp only [Exit.inBlock,Exit.then])
  refine bodyPost_ret (results_cell_row rfl _ _ (w.heap.size+2) 107 #[_,_,_] (0,0) _ rfl (row_set3 HR2.out _ _ _) Tryz.underlying107 rfl infoIn) rfl ?_
  rw [E.out.1,E.out.2,<-HX.out.1,<-HX.out.2]
  exact ⟨rfl,((HB2.out.set (show w0.heap.size<=w.heap.size+2 by omega) _).set (show w0.heap.size<=w.heap.size+2 by omega) _).set (show w0.heap.size<=w.heap.size+2 by omega) _⟩
 ·have hs1:(s1==s2)=false:=by simp [hs]
  have hs2:s2 = !s1:=by cases s1<;>cases s2<;>simp at hs ⊢
  unfold iv
  go_enter Tryz.func113,Tryz.ntmps113
  go_wp2_with fail
  obtain ⟨W,hW⟩:∃ W,W=((w.alloc (.cells #[.int .u64 (hiB f1),.int .u64 (loB f1),.bool s1] 107)).alloc (.cells #[.int .u64 (hiB f2),.int .u64 (loB f2),.bool s1] 107)).alloc (.cells #[.int .u64 0,.int .u64 0,.bool false] 107):=⟨_,rfl⟩
  have ra:W.heap[w.heap.size]?=some (.cells #[.int .u64 (hiB f1),.int .u64 (loB f1),.bool s1] 107):=by rw [hW];exact jj
  have rb:W.heap[w.heap.size+1]?=some (.cells #[.int .u64 (hiB f2),.int .u64 (loB f2),.bool s1] 107):=by rw [hW];exact jj
  have rr:W.heap[w.heap.size+2]?=some (.cells #[.int .u64 0,.int .u64 0,.bool false] 107):=by rw [hW];exact jj
  have HW:Hid (Ok w0 W):=by rw [hW];exact (by repeat (first | exact hok | refine Ok.alloc ?_ _ | refine Ok.draws ?_ _ | fail))
  rw [<-hW]
  clear hW hok
  have HR:Hid _:=rr
  have HR0:Hid _:=And.intro ra (And.intro rb rr)
  clear ra rb rr HR
  refine (bless_any f1 f2 W W (Ok.refl _)).mono ?_
  rintro e w1 ⟨rfl,hb1⟩
  have HR:Hid _:=Ok.row' hb1 HR0.out.2.2
  have HB1:Hid (Ok w0 w1):=HW.out.step hb1
  obtain ⟨a0,a1,a2,_⟩:=row3_facts (Ok.row' hb1 HR0.out.1)
  obtain ⟨b0,b1,b2,_⟩:=row3_facts (Ok.row' hb1 HR0.out.2.1)
  have z0:=lt_row (Ok.row' hb1 HR0.out.1)
  have z1:=lt_row (Ok.row' hb1 HR0.out.2.1)
  obtain ⟨c0,c1,c2,c3,c4,c5⟩:=row3_facts HR.out
  by_cases hl:f1<f2
  ·have E:Hid (sumF f1 s1 f2 s2=subB f2 f1/\sumS f1 s1 f2 s2=(!s1)):=by
    refine ⟨?_,?_⟩
    ·unfold sumF;rw [if_neg hs,if_pos hl,subB_le HB.out.2 (by omega)]
    ·unfold sumS;rw [if_neg hs,if_pos hl]
   rw [decide_eq_true hl]
   clear hl hs hs1 hs2
   go_wp2_with fail
   have bz:Ok w1 w1:=Ok.refl _
   have n1:¬w.heap.size+1+1=w.heap.size:=by omega
   have n2:¬w.heap.size+1+1=w.heap.size+1:=by omega
   go_region_held3 (fun w'=>w'.cell? ⟨w.heap.size,0,none⟩=some (.int .u64 (hiB f1))/\w'.cell? ⟨w.heap.size,1,none⟩=some (.int .u64 (loB f1))/\w'.cell? ⟨w.heap.size,2,none⟩=some (.bool s1)/\w'.cell? ⟨w.heap.size+1,0,none⟩=some (.int .u64 (hiB f2))/\w'.cell? ⟨w.heap.size+1,1,none⟩=some (.int .u64 (loB f2))) (go_keep)
    (first
    | (go_at_call 205;refine (bminus_any f2 f1 HB.out.2 HB.out.1 w1 _ (by repeat (first | assumption | refine Ok.alloc ?_ _ | refine Below.drew ?_))).mono ?_;rintro e w' ⟨rfl,hb⟩;unfold bv;have q0:=Ok.cell hb z0 a0;have q1:=Ok.cell hb z0 a1;have q2:=Ok.cell hb z0 a2;have q3:=Ok.cell hb z1 b0;have q4:=Ok.cell hb z1 b1;obtain ⟨c0,c1,c2,c3,c4,c5⟩:=row3_facts (Ok.row' hb HR.out))
    | fail)
   have HR3:Hid _:=Ok.row' hb HR.out
   have HB2:Hid (Ok w0 w'):=Ok.step HB1.out hb
   go_wp2_with fail
   (try simp only [Exit.inBlock,Exit.then])
   refine bodyPost_ret (results_cell_row rfl _ _ (w.heap.size+2) 107 #[_,_,_] (0,0) _ rfl (row_set3 HR3.out _ _ _) Tryz.underlying107 rfl infoIn) rfl ?_
   rw [E.out.1,E.out.2]
   exact ⟨rfl,((HB2.out.set (show w0.heap.size<=w.heap.size+2 by omega) _).set (show w0.heap.size<=w.heap.size+2 by omega) _).set (show w0.heap.size<=w.heap.size+2 by omega) _⟩
  ·have E:Hid (sumF f1 s1 f2 s2=subB f1 f2/\sumS f1 s1 f2 s2=(s1)):=by
    refine ⟨?_,?_⟩
    ·unfold sumF;rw [if_neg hs,if_neg hl,subB_le HB.out.1 (by omega)]
    ·unfold sumS;rw [if_neg hs,if_neg hl]
   rw [decide_eq_false hl]
   clear hl hs hs1 hs2
   go_wp2_with fail
   have bz:Ok w1 w1:=Ok.refl _
   have n1:¬w.heap.size+1+1=w.heap.size:=by omega
   have n2:¬w.heap.size+1+1=w.heap.size+1:=by omega
   go_region_held3 (fun w'=>w'.cell? ⟨w.heap.size,0,none⟩=some (.int .u64 (hiB f1))/\w'.cell? ⟨w.heap.size,1,none⟩=some (.int .u64 (loB f1))/\w'.cell? ⟨w.heap.size,2,none⟩=some (.bool s1)/\w'.cell? ⟨w.heap.size+1,0,none⟩=some (.int .u64 (hiB f2))/\w'.cell? ⟨w.heap.size+1,1,none⟩=some (.int .u64 (loB f2))) (go_keep)
    (first
    | (go_at_call 205;refine (bminus_any f1 f2 HB.out.1 HB.out.2 w1 _ (by repeat (first | assumption | refine Ok.alloc ?_ _ | refine Below.drew ?_))).mono ?_;rintro e w' ⟨rfl,hb⟩;unfold bv;have q0:=Ok.cell hb z0 a0;have q1:=Ok.cell hb z0 a1;have q2:=Ok.cell hb z0 a2;have q3:=Ok.cell hb z1 b0;have q4:=Ok.cell hb z1 b1;obtain ⟨c0,c1,c2,c3,c4,c5⟩:=row3_facts (Ok.row' hb HR.out))
    | fail)
   have HR3:Hid _:=Ok.row' hb HR.out
   have HB2:Hid (Ok w0 w'):=Ok.step HB1.out hb
   go_wp2_with fail
   (try simp only [Exit.inBlock,Exit.then])
   refine bodyPost_ret (results_cell_row rfl _ _ (w.heap.size+2) 107 #[_,_,_] (0,0) _ rfl (row_set3 HR3.out _ _ _) Tryz.underlying107 rfl infoIn) rfl ?_
   rw [E.out.1,E.out.2]
   exact ⟨rfl,((HB2.out.set (show w0.heap.size<=w.heap.size+2 by omega) _).set (show w0.heap.size<=w.heap.size+2 by omega) _).set (show w0.heap.size<=w.heap.size+2 by omega) _⟩
end
section
open Go.RowKit
def addC (cM cR dM dR:Nat) (e:Bool):Nat×Nat :=
 if cM=0/\dM=0 then (0,bitsN (wrap64 (wrap64 (cR:Int)+wrap64 (dR:Int))))
 else (byG (Nat.gcd cM dM) e,restN (sumF (rF cM cR) (rS cM cR) (rF dM dR) (rS dM dR)) (sumS (rF cM cR) (rS cM cR) (rF dM dR) (rS dM dR)) (byG (Nat.gcd cM dM) e))
theorem gcd_big {a b:Nat} (ha:U64 a) (hb:U64 b):Big (Nat.gcd a b):=by
 unfold U64 at *;unfold Big
 by_cases hc:a=0
 ·rw [hc,Nat.gcd_zero_left];omega
 ·have:=Nat.le_of_dvd (by omega) (Nat.gcd_dvd_left a b);omega
theorem sumF_big {f1 f2:Nat} {s1 s2:Bool} (h1:f1<18446744073709551616) (h2:f2<18446744073709551616):Big (sumF f1 s1 f2 s2):=by
 unfold sumF Big;split<;>(try split)<;>omega
set_option maxRecDepth 100000 in
theorem cadd_any (cM cR dM dR:Nat) (ex:Bool) (h1:U64 cM) (h2:U64 cR) (h3:U64 dM) (h4:U64 dR) (w0 w:World) (hok:Ok w0 w) :
  Calls Tryz.prog 36 #[cv cM cR,cv dM dR,.bool ex] w fun e w'=>e=.returned (cv (addC cM cR dM dR ex).1 (addC cM cR dM dR ex).2)/\Ok w0 w':=by
 have hle:=hok.le
 have HU:Hid _:=And.intro h1 (And.intro h2 (And.intro h3 h4))
 clear h1 h2 h3 h4
 by_cases hz:cM=0/\dM=0
 ·have E:Hid (addC cM cR dM dR ex=(0,bitsN (wrap64 (wrap64 (cR:Int)+wrap64 (dR:Int))))):=by unfold Hid addC;rw [if_pos hz]
  obtain ⟨rfl,rfl⟩:=hz
  obtain ⟨V1,hV1⟩:∃ V,V=wrap64 (cR:Int):=⟨_,rfl⟩
  obtain ⟨V2,hV2⟩:∃ V,V=wrap64 (dR:Int):=⟨_,rfl⟩
  rw [<-hV1,<-hV2] at E
  have HV:Hid _:=And.intro hV1 hV2
  clear hV1 hV2
  obtain ⟨B,hB⟩:∃ B,B=bitsN (wrap64 (V1+V2)):=⟨_,rfl⟩
  rw [<-hB] at E
  have HBB:Hid _:=hB
  clear hB
  unfold cv
  go_enter Tryz.func36,Tryz.ntmps36
  go_wp2_with fail
  obtain ⟨W,hW⟩:∃ W,W=((w.alloc (.cells #[.int .u64 0,.int .u64 (cR:Int)] 27)).alloc (.cells #[.int .u64 0,.int .u64 (dR:Int)] 27)).alloc (.cells #[.int .u64 0,.int .u64 0] 27):=⟨_,rfl⟩
  have ra:W.heap[w.heap.size]?=some (.cells #[.int .u64 0,.int .u64 (cR:Int)] 27):=by rw [hW];exact jj
  have rb:W.heap[w.heap.size+1]?=some (.cells #[.int .u64 0,.int .u64 (dR:Int)] 27):=by rw [hW];exact jj
  have rr:W.heap[w.heap.size+2]?=some (.cells #[.int .u64 0,.int .u64 0] 27):=by rw [hW];exact jj
  have HW:Hid (Ok w0 W):=by rw [hW];exact (by repeat (first | exact hok | refine Ok.alloc ?_ _ | refine Ok.draws ?_ _ | fail))
  rw [<-hW]
  clear hW hok
  have HR:Hid _:=rr
  obtain ⟨a0,a1,_,_⟩:=row_facts ra
  obtain ⟨b0,b1,_,_⟩:=row_facts rb
  have z0:=lt_row ra
  have z1:=lt_row rb
  clear ra rb rr
  have bz:Ok W W:=Ok.refl _
  have n1:¬w.heap.size+1+1=w.heap.size:=by omega
  have n2:¬w.heap.size+1+1=w.heap.size+1:=by omega
  go_region_held3 (fun w'=>w'.cell? ⟨w.heap.size,0,none⟩=some (.int .u64 0)/\w'.cell? ⟨w.heap.size,1,none⟩=some (.int .u64 (cR:Int))/\w'.cell? ⟨w.heap.size+1,0,none⟩=some (.int .u64 0)/\w'.cell? ⟨w.heap.size+1,1,none⟩=some (.int .u64 (dR:Int))) (go_keep)
   (first
   | (go_at_call 108;refine (cnumber_any 0 _ (by first | exact HU.out.2.1 | exact HU.out.2.2.2) W _ (by repeat (first | assumption | refine Ok.alloc ?_ _ | refine Below.drew ?_))).mono ?_;rintro e w' ⟨rfl,hb⟩;(first | rw [<-HV.out.1] | rw [<-HV.out.2]);have q0:=Ok.cell hb z0 a0;have q1:=Ok.cell hb z0 a1;have q2:=Ok.cell hb z1 b0;have q3:=Ok.cell hb z1 b1;obtain ⟨c0,c1,c2,c3⟩:=row_facts (Ok.row' hb HR.out))
   | (go_at_call 99;refine (cconst_any _ W _ (by repeat (first | assumption | refine Ok.alloc ?_ _ | refine Below.drew ?_))).mono ?_;rintro e w' ⟨rfl,hb⟩;unfold cv;have q0:=Ok.cell hb z0 a0;have q1:=Ok.cell hb z0 a1;have q2:=Ok.cell hb z1 b0;have q3:=Ok.cell hb z1 b1;obtain ⟨c0,c1,c2,c3⟩:=row_facts (Ok.row' hb HR.out))
   | fail)
  have HR2:Hid _:=Ok.row' hb HR.out
  have HB2:Hid (Ok w0 w'):=HW.out.step hb
  go_wp2_with fail
  (try simp only [Exit.inBlock,Exit.then])
  refine bodyPost_ret (results_cell_row rfl _ _ (w.heap.size+2) 27 #[_,_] (0,0) _ rfl (row_set2 HR2.out _ _) Tryz.underlying27 rfl infoCg) rfl ?_
  rw [E.out]
  rw [HBB.out,show IntKind.i64.wrap (V1+V2)=wrap64 (V1+V2) by rw [IntKind.wrap_i64];unfold wrap64;omega]
  exact ⟨rfl,(HB2.out.set (show w0.heap.size<=w.heap.size+2 by omega) _).set (show w0.heap.size<=w.heap.size+2 by omega) _⟩
 ·have E:Hid (addC cM cR dM dR ex=(byG (Nat.gcd cM dM) ex,restN (sumF (rF cM cR) (rS cM cR) (rF dM dR) (rS dM dR)) (sumS (rF cM cR) (rS cM cR) (rF dM dR) (rS dM dR)) (byG (Nat.gcd cM dM) ex))):=by unfold Hid addC;rw [if_neg hz]
  have HR1:Hid _:=And.intro (rF_rng HU.out.1 HU.out.2.1) (rF_rng HU.out.2.2.1 HU.out.2.2.2)
  obtain ⟨f1,hf1⟩:∃ f,f=rF cM cR:=⟨_,rfl⟩
  obtain ⟨s1,hs1⟩:∃ s,s=rS cM cR:=⟨_,rfl⟩
  obtain ⟨f2,hf2⟩:∃ f,f=rF dM dR:=⟨_,rfl⟩
  obtain ⟨s2,hs2⟩:∃ s,s=rS dM dR:=⟨_,rfl⟩
  rw [<-hf1,<-hs1,<-hf2,<-hs2] at E
  rw [<-hf1,<-hf2] at HR1
  obtain ⟨K,hK⟩:∃ K,K=Nat.gcd cM dM:=⟨_,rfl⟩
  obtain ⟨F,hF⟩:∃ F,F=sumF f1 s1 f2 s2:=⟨_,rfl⟩
  obtain ⟨S,hS⟩:∃ S,S=sumS f1 s1 f2 s2:=⟨_,rfl⟩
  rw [<-hK,<-hF,<-hS] at E
  have HK:Hid (Big K/\0<K/\Big F/\Big cM/\Big dM):=by
   refine ⟨?_,?_,?_,?_,?_⟩
   ·rw [hK];exact gcd_big HU.out.1 HU.out.2.2.1
   ·rw [hK]
    by_cases hc:cM=0
    ·rw [hc,Nat.gcd_zero_left];omega
    ·exact Nat.gcd_pos_of_pos_left _ (by omega)
   ·rw [hF];exact sumF_big HR1.out.1 HR1.out.2
   ·have:=HU.out.1;unfold U64 at this;unfold Big;omega
   ·have:=HU.out.2.2.1;unfold U64 at this;unfold Big;omega
  have HF:Hid _:=And.intro hf1 (And.intro hs1 (And.intro hf2 (And.intro hs2 (And.intro hK (And.intro hF hS)))))
  clear hf1 hs1 hf2 hs2 hK hF hS
  unfold cv
  by_cases hc:cM=0
  ·have hd:((dM:Int)==0)=false:=by simp;omega
   have HC:Hid _:=hc
   have hc1:((cM:Int)==0)=true:=by simp [hc]
   clear hz hc
   go_enter Tryz.func36,Tryz.ntmps36
   go_wp2_with fail
   obtain ⟨W,hW⟩:∃ W,W=((w.alloc (.cells #[.int .u64 (cM:Int),.int .u64 (cR:Int)] 27)).alloc (.cells #[.int .u64 (dM:Int),.int .u64 (dR:Int)] 27)).alloc (.cells #[.int .u64 0,.int .u64 0] 27):=⟨_,rfl⟩
   have ra:W.heap[w.heap.size]?=some (.cells #[.int .u64 (cM:Int),.int .u64 (cR:Int)] 27):=by rw [hW];exact jj
   have rb:W.heap[w.heap.size+1]?=some (.cells #[.int .u64 (dM:Int),.int .u64 (dR:Int)] 27):=by rw [hW];exact jj
   have rr:W.heap[w.heap.size+2]?=some (.cells #[.int .u64 0,.int .u64 0] 27):=by rw [hW];exact jj
   have HW:Hid (Ok w0 W):=by rw [hW];exact (by repeat (first | exact hok | refine Ok.alloc ?_ _ | refine Ok.draws ?_ _ | fail))
   rw [<-hW]
   clear hW hok
   have HR:Hid _:=rr
   obtain ⟨a0,a1,_,_⟩:=row_facts ra
   obtain ⟨b0,b1,_,_⟩:=row_facts rb
   have z0:=lt_row ra
   have z1:=lt_row rb
   clear ra rb rr
   have bz:Ok W W:=Ok.refl _
   have n1:¬w.heap.size+1+1=w.heap.size:=by omega
   have n2:¬w.heap.size+1+1=w.heap.size+1:=by omega
   go_region_held3 (fun w'=>w'.cell? ⟨w.heap.size,0,none⟩=some (.int .u64 (cM:Int))/\w'.cell? ⟨w.heap.size,1,none⟩=some (.int .u64 (cR:Int))/\w'.cell? ⟨w.heap.size+1,0,none⟩=some (.int .u64 (dM:Int))/\w'.cell? ⟨w.heap.size+1,1,none⟩=some (.int .u64 (dR:Int))) (go_keep)
    (first
    | (go_at_call 109;refine (cr_any _ _ (by first | exact HU.out.1 | exact HU.out.2.2.1) (by first | exact HU.out.2.1 | exact HU.out.2.2.2) W _ (by repeat (first | assumption | refine Ok.alloc ?_ _ | refine Below.drew ?_))).mono ?_;rintro e w' ⟨rfl,hb⟩;(first | rw [<-HF.out.1,<-HF.out.2.1] | rw [<-HF.out.2.2.1,<-HF.out.2.2.2.1]);have q0:=Ok.cell hb z0 a0;have q1:=Ok.cell hb z0 a1;have q2:=Ok.cell hb z1 b0;have q3:=Ok.cell hb z1 b1;obtain ⟨c0,c1,c2,c3⟩:=row_facts (Ok.row' hb HR.out))
    | (go_at_call 113;refine (csum_any f1 s1 f2 s2 HR1.out.1 HR1.out.2 W _ (by repeat (first | assumption | refine Ok.alloc ?_ _ | refine Below.drew ?_))).mono ?_;rintro e w' ⟨rfl,hb⟩;rw [<-HF.out.2.2.2.2.2.1,<-HF.out.2.2.2.2.2.2];have q0:=Ok.cell hb z0 a0;have q1:=Ok.cell hb z0 a1;have q2:=Ok.cell hb z1 b0;have q3:=Ok.cell hb z1 b1;obtain ⟨c0,c1,c2,c3⟩:=row_facts (Ok.row' hb HR.out))
    | (go_at_call 111;refine (bof_any _ (by first | exact HU.out.1 | exact HU.out.2.2.1) W _ (by repeat (first | assumption | refine Ok.alloc ?_ _ | refine Below.drew ?_))).mono ?_;rintro e w' ⟨rfl,hb⟩;have q0:=Ok.cell hb z0 a0;have q1:=Ok.cell hb z0 a1;have q2:=Ok.cell hb z1 b0;have q3:=Ok.cell hb z1 b1;obtain ⟨c0,c1,c2,c3⟩:=row_facts (Ok.row' hb HR.out))
    | (go_at_call 114;refine (bgcd_any cM dM HK.out.2.2.2.1 HK.out.2.2.2.2 W _ (by repeat (first | assumption | refine Ok.alloc ?_ _ | refine Below.drew ?_))).mono ?_;rintro e w' ⟨rfl,hb⟩;rw [<-HF.out.2.2.2.2.1];have q0:=Ok.cell hb z0 a0;have q1:=Ok.cell hb z0 a1;have q2:=Ok.cell hb z1 b0;have q3:=Ok.cell hb z1 b1;obtain ⟨c0,c1,c2,c3⟩:=row_facts (Ok.row' hb HR.out))
    | (go_at_call 110;refine (cby_any F S K ex HK.out.2.2.1 HK.out.1 HK.out.2.1 W _ (by repeat (first | assumption | refine Ok.alloc ?_ _ | refine Below.drew ?_))).mono ?_;rintro e w' ⟨rfl,hb⟩;unfold cv;have q0:=Ok.cell hb z0 a0;have q1:=Ok.cell hb z0 a1;have q2:=Ok.cell hb z1 b0;have q3:=Ok.cell hb z1 b1;obtain ⟨c0,c1,c2,c3⟩:=row_facts (Ok.row' hb HR.out))
    | fail)
   have HR2:Hid _:=Ok.row' hb HR.out
   have HB2:Hid (Ok w0 w'):=HW.out.step hb
   go_wp2_with fail
   (try simp only [Exit.inBlock,Exit.then])
   refine bodyPost_ret (results_cell_row rfl _ _ (w.heap.size+2) 27 #[_,_] (0,0) _ rfl (row_set2 HR2.out _ _) Tryz.underlying27 rfl infoCg) rfl ?_
   rw [E.out]
   exact ⟨rfl,(HB2.out.set (show w0.heap.size<=w.heap.size+2 by omega) _).set (show w0.heap.size<=w.heap.size+2 by omega) _⟩
  ·have hc1:((cM:Int)==0)=false:=by simp;omega
   clear hz hc
   go_enter Tryz.func36,Tryz.ntmps36
   go_wp2_with fail
   obtain ⟨W,hW⟩:∃ W,W=((w.alloc (.cells #[.int .u64 (cM:Int),.int .u64 (cR:Int)] 27)).alloc (.cells #[.int .u64 (dM:Int),.int .u64 (dR:Int)] 27)).alloc (.cells #[.int .u64 0,.int .u64 0] 27):=⟨_,rfl⟩
   have ra:W.heap[w.heap.size]?=some (.cells #[.int .u64 (cM:Int),.int .u64 (cR:Int)] 27):=by rw [hW];exact jj
   have rb:W.heap[w.heap.size+1]?=some (.cells #[.int .u64 (dM:Int),.int .u64 (dR:Int)] 27):=by rw [hW];exact jj
   have rr:W.heap[w.heap.size+2]?=some (.cells #[.int .u64 0,.int .u64 0] 27):=by rw [hW];exact jj
   have HW:Hid (Ok w0 W):=by rw [hW];exact (by repeat (first | exact hok | refine Ok.alloc ?_ _ | refine Ok.draws ?_ _ | fail))
   rw [<-hW]
   clear hW hok
   have HR:Hid _:=rr
   obtain ⟨a0,a1,_,_⟩:=row_facts ra
   obtain ⟨b0,b1,_,_⟩:=row_facts rb
   have z0:=lt_row ra
   have z1:=lt_row rb
   clear ra rb rr
   have bz:Ok W W:=Ok.refl _
   have n1:¬w.heap.size+1+1=w.heap.size:=by omega
   have n2:¬w.heap.size+1+1=w.heap.size+1:=by omega
   go_region_held3 (fun w'=>w'.cell? ⟨w.heap.size,0,none⟩=some (.int .u64 (cM:Int))/\w'.cell? ⟨w.heap.size,1,none⟩=some (.int .u64 (cR:Int))/\w'.cell? ⟨w.heap.size+1,0,none⟩=some (.int .u64 (dM:Int))/\w'.cell? ⟨w.heap.size+1,1,none⟩=some (.int .u64 (dR:Int))) (go_keep)
    (first
    | (go_at_call 109;refine (cr_any _ _ (by first | exact HU.out.1 | exact HU.out.2.2.1) (by first | exact HU.out.2.1 | exact HU.out.2.2.2) W _ (by repeat (first | assumption | refine Ok.alloc ?_ _ | refine Below.drew ?_))).mono ?_;rintro e w' ⟨rfl,hb⟩;(first | rw [<-HF.out.1,<-HF.out.2.1] | rw [<-HF.out.2.2.1,<-HF.out.2.2.2.1]);have q0:=Ok.cell hb z0 a0;have q1:=Ok.cell hb z0 a1;have q2:=Ok.cell hb z1 b0;have q3:=Ok.cell hb z1 b1;obtain ⟨c0,c1,c2,c3⟩:=row_facts (Ok.row' hb HR.out))
    | (go_at_call 113;refine (csum_any f1 s1 f2 s2 HR1.out.1 HR1.out.2 W _ (by repeat (first | assumption | refine Ok.alloc ?_ _ | refine Below.drew ?_))).mono ?_;rintro e w' ⟨rfl,hb⟩;rw [<-HF.out.2.2.2.2.2.1,<-HF.out.2.2.2.2.2.2];have q0:=Ok.cell hb z0 a0;have q1:=Ok.cell hb z0 a1;have q2:=Ok.cell hb z1 b0;have q3:=Ok.cell hb z1 b1;obtain ⟨c0,c1,c2,c3⟩:=row_facts (Ok.row' hb HR.out))
    | (go_at_call 111;refine (bof_any _ (by first | exact HU.out.1 | exact HU.out.2.2.1) W _ (by repeat (first | assumption | refine Ok.alloc ?_ _ | refine Below.drew ?_))).mono ?_;rintro e w' ⟨rfl,hb⟩;have q0:=Ok.cell hb z0 a0;have q1:=Ok.cell hb z0 a1;have q2:=Ok.cell hb z1 b0;have q3:=Ok.cell hb z1 b1;obtain ⟨c0,c1,c2,c3⟩:=row_facts (Ok.row' hb HR.out))
    | (go_at_call 114;refine (bgcd_any cM dM HK.out.2.2.2.1 HK.out.2.2.2.2 W _ (by repeat (first | assumption | refine Ok.alloc ?_ _ | refine Below.drew ?_))).mono ?_;rintro e w' ⟨rfl,hb⟩;rw [<-HF.out.2.2.2.2.1];have q0:=Ok.cell hb z0 a0;have q1:=Ok.cell hb z0 a1;have q2:=Ok.cell hb z1 b0;have q3:=Ok.cell hb z1 b1;obtain ⟨c0,c1,c2,c3⟩:=row_facts (Ok.row' hb HR.out))
    | (go_at_call 110;refine (cby_any F S K ex HK.out.2.2.1 HK.out.1 HK.out.2.1 W _ (by repeat (first | assumption | refine Ok.alloc ?_ _ | refine Below.drew ?_))).mono ?_;rintro e w' ⟨rfl,hb⟩;unfold cv;have q0:=Ok.cell hb z0 a0;have q1:=Ok.cell hb z0 a1;have q2:=Ok.cell hb z1 b0;have q3:=Ok.cell hb z1 b1;obtain ⟨c0,c1,c2,c3⟩:=row_facts (Ok.row' hb HR.out))
    | fail)
   have HR2:Hid _:=Ok.row' hb HR.out
   have HB2:Hid (Ok w0 w'):=HW.out.step hb
   go_wp2_with fail
   (try simp only [Exit.inBlock,Exit.then])
   refine bodyPost_ret (results_cell_row rfl _ _ (w.heap.size+2) 27 #[_,_] (0,0) _ rfl (row_set2 HR2.out _ _) Tryz.underlying27 rfl infoCg) rfl ?_
   rw [E.out]
   exact ⟨rfl,(HB2.out.set (show w0.heap.size<=w.heap.size+2 by omega) _).set (show w0.heap.size<=w.heap.size+2 by omega) _⟩
end
end Go.Proofs.YtpjpjhjjhoeijaaGreat
