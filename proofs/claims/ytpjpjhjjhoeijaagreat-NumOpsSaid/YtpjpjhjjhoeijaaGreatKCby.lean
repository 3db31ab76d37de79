import Derived.Test.YtpjpjhjjhoeijaaGreatKCint
set_option maxHeartbeats 8000000
set_option linter.all false
namespace Go.Proofs.YtpjpjhjjhoeijaaGreat
section
open Go.RowKit
theorem cconst_any (v:Int) (w0 w:World) (hok:Ok w0 w) :
  Calls Tryz.prog 99 #[.int .i64 v] w fun e w'=>e=.returned (cv 0 (bitsN v))/\Ok w0 w':=by
 have E:Hid ((bitsN v:Int)=IntKind.u64.wrap v):=by unfold Hid bitsN;rw [u64w];omega
 unfold cv
 go_enter Tryz.func99,Tryz.ntmps99
 go_wp2
 (try simp only [Exit.inBlock, Exit.then]); refine bodyPost_ret (results_cell_row rfl _ _ (w.heap.size) 27 #[_, _] (0, 0) _ rfl jj Tryz.underlying27 rfl infoCg) rfl ?_
 rw [E.out]
 exact ⟨rfl,(by repeat (first | exact hok | refine Ok.alloc ?_ _ | refine Ok.draws ?_ _ | fail))⟩
theorem cnorm_any (M R:Nat) (w0 w:World) (hok:Ok w0 w) :
  Calls Tryz.prog 107 #[cv M R] w fun e w'=>e=.returned (cv (normC M R).1 (normC M R).2)/\Ok w0 w':=by
 unfold cv
 by_cases h:0<M
 ·have E:Hid (normC M R=(M,R%M)):=by unfold Hid normC;rw [if_pos h]
  have h1:(0:Int)<(M:Int):=by omega
  have h2:¬(M:Int)=0:=by omega
  have h3:((M:Int)==0)=false:=by simp;omega
  clear h
  go_enter Tryz.func107,Tryz.ntmps107
  go_wp2
  (try simp only [Exit.inBlock, Exit.then]); refine bodyPost_ret (results_cell_row rfl _ _ (w.heap.size+1) 27 #[_, _] (0, 0) _ rfl jj Tryz.underlying27 rfl infoCg) rfl ?_
  rw [E.out,Int.natCast_emod]
  exact ⟨rfl,(by repeat (first | exact hok | refine Ok.alloc ?_ _ | refine Ok.draws ?_ _ | fail))⟩
 ·have E:Hid (normC M R=(M,R)):=by unfold Hid normC;rw [if_neg h]
  have h1:¬(0:Int)<(M:Int):=by omega
  clear h
  go_enter Tryz.func107,Tryz.ntmps107
  go_wp2
  (try simp only [Exit.inBlock, Exit.then]); refine bodyPost_ret (results_cell_row rfl _ _ (w.heap.size+1) 27 #[_, _] (0, 0) _ rfl jj Tryz.underlying27 rfl infoCg) rfl ?_
  rw [E.out]
  exact ⟨rfl,(by repeat (first | exact hok | refine Ok.alloc ?_ _ | refine Ok.draws ?_ _ | fail))⟩
set_option maxRecDepth 100000 in
theorem cleq_any (cM cR dM dR:Nat) (h1:U64 cM) (h2:U64 cR) (h3:U64 dM) (h4:U64 dR) (w0 w:World) (hok:Ok w0 w) :
  Calls Tryz.prog 51 #[cv cM cR,cv dM dR] w fun e w'=>e=.returned (.bool (leqC cM cR dM dR))/\Ok w0 w':=by
 have hle:=hok.le
 have HU:Hid _:=And.intro h1 (And.intro h2 (And.intro h3 h4))
 clear h1 h2 h3 h4
 by_cases hd:dM=0
 ·have E:Hid (leqC cM cR dM dR=(decide (cM=0)&&decide (cR=dR))):=by unfold Hid leqC;rw [if_pos hd]
  have hd1:(dM:Int)=0:=by omega
  unfold cv
  by_cases hc:cM=0
  ·have hc1:(cM:Int)=0:=by omega
   have E2:Hid (((cR:Int)==(dR:Int))=leqC cM cR dM dR):=by
    unfold Hid;rw [E.out,decide_eq_true hc,Bool.true_and]
    by_cases e:cR=dR
    ·simp [e]
    ·simp [e];omega
   clear hd hc
   rw [hd1,hc1]
   clear hd1 hc1
   go_enter Tryz.func51,Tryz.ntmps51
   go_wp2_with fail
   go_ret
   exact ⟨retb E2.out,(by repeat (first | exact hok | refine Ok.alloc ?_ _ | refine Ok.draws ?_ _ | fail))⟩
  ·have hc1:((cM:Int)==0)=false:=by simp;omega
   have E2:Hid (false=leqC cM cR dM dR):=by unfold Hid;rw [E.out,decide_eq_false hc,Bool.false_and]
   clear hd hc
   rw [hd1]
   clear hd1
   go_enter Tryz.func51,Tryz.ntmps51
   go_wp2_with fail
   go_ret
   exact ⟨retb E2.out,(by repeat (first | exact hok | refine Ok.alloc ?_ _ | refine Ok.draws ?_ _ | fail))⟩
 ·have E:Hid (leqC cM cR dM dR=(decide (cM%dM=0)&&decide (restN (rF cM cR) (rS cM cR) dM=restN (rF dM dR) (rS dM dR) dM))):=by unfold Hid leqC;rw [if_neg hd]
  have hd1:((dM:Int)==0)=false:=by simp;omega
  have hd2:¬(dM:Int)=0:=by omega
  have hd3:¬dM=0:=hd
  have hd4:(dM==0)=false:=by simp [hd]
  have hd5:(0:Int)<=(dM:Int):=by omega
  have hd6:(0:Int)<=(cM:Int):=by omega
  have hd7:(cM:Int).tmod (dM:Int)=(cM:Int)%(dM:Int):=Int.tmod_eq_emod_of_nonneg (by omega)
  have HD:Hid (0<dM):=by unfold Hid;omega
  have HB:Hid (Big dM/\Big (rF cM cR)/\Big (rF dM dR)):=by
   have a:=rF_rng HU.out.1 HU.out.2.1
   have b:=rF_rng HU.out.2.2.1 HU.out.2.2.2
   have c:=HU.out.2.2.1
   unfold U64 at c;unfold Hid Big;omega
  obtain ⟨f1,hf1⟩:∃ f,f=rF cM cR:=⟨_,rfl⟩
  obtain ⟨s1,hs1⟩:∃ s,s=rS cM cR:=⟨_,rfl⟩
  obtain ⟨f2,hf2⟩:∃ f,f=rF dM dR:=⟨_,rfl⟩
  obtain ⟨s2,hs2⟩:∃ s,s=rS dM dR:=⟨_,rfl⟩
  obtain ⟨t1,ht1⟩:∃ t,t=restN f1 s1 dM:=⟨_,rfl⟩
  obtain ⟨t2,ht2⟩:∃ t,t=restN f2 s2 dM:=⟨_,rfl⟩
  rw [<-hf1,<-hs1,<-hf2,<-hs2,<-ht1,<-ht2] at E
  rw [<-hf1,<-hf2] at HB
  have HF:Hid _:=And.intro hf1 (And.intro hs1 (And.intro hf2 (And.intro hs2 (And.intro ht1 ht2))))
  clear hf1 hs1 hf2 hs2 ht1 ht2 hd
  by_cases hc:cM%dM=0
  ·have hc1:((cM:Int)%(dM:Int)==0)=true:=by rw [<-Int.natCast_emod,hc];rfl
   have hc2:(cM:Int)%(dM:Int)=0:=by rw [<-Int.natCast_emod,hc];rfl
   rw [decide_eq_true hc,Bool.true_and] at E
   have E2:Hid ((loB t1==loB t2)=leqC cM cR dM dR):=by
    have a:=restN_lt (f:=f1) (s:=s1) HD.out
    have b:=restN_lt (f:=f2) (s:=s2) HD.out
    have c:=HU.out.2.2.1
    rw [<-HF.out.2.2.2.2.1] at a
    rw [<-HF.out.2.2.2.2.2] at b
    unfold U64 at c
    unfold Hid
    rw [E.out,(big_small (n:=t1) (by omega)).2,(big_small (n:=t2) (by omega)).2]
    by_cases e:t1=t2
    ·simp [e]
    ·simp [e];omega
   have p1:hiB t1=0:=by
    have a:=restN_lt (f:=f1) (s:=s1) HD.out
    have c:=HU.out.2.2.1
    rw [<-HF.out.2.2.2.2.1] at a
    unfold U64 at c
    exact (big_small (by omega)).1
   have p2:hiB t2=0:=by
    have b:=restN_lt (f:=f2) (s:=s2) HD.out
    have c:=HU.out.2.2.1
    rw [<-HF.out.2.2.2.2.2] at b
    unfold U64 at c
    exact (big_small (by omega)).1
   clear hc
   by_cases ee:loB t1=loB t2
   ·have e1:(loB t1==loB t2)=true:=by simp [ee]
    rw [e1] at E2
    unfold cv
    go_enter Tryz.func51,Tryz.ntmps51
    go_wp2_with fail
    obtain ⟨W,hW⟩:∃ W,W=(w.alloc (.cells #[.int .u64 (cM:Int),.int .u64 (cR:Int)] 27)).alloc (.cells #[.int .u64 (dM:Int),.int .u64 (dR:Int)] 27):=⟨_,rfl⟩
    have ra:W.heap[w.heap.size]?=some (.cells #[.int .u64 (cM:Int),.int .u64 (cR:Int)] 27):=by rw [hW];exact jj
    have rr:W.heap[w.heap.size+1]?=some (.cells #[.int .u64 (dM:Int),.int .u64 (dR:Int)] 27):=by rw [hW];exact jj
    have HW:Hid (Ok w0 W):=by rw [hW];exact (by repeat (first | exact hok | refine Ok.alloc ?_ _ | refine Ok.draws ?_ _ | fail))
    rw [<-hW]
    clear hW hok
    obtain ⟨g0,g1,_,_⟩:=row_facts ra
    obtain ⟨g2,g3,_,_⟩:=row_facts rr
    have z0:=lt_row ra
    have z1:=lt_row rr
    clear ra rr
    have bz:Ok W W:=Ok.refl _
    go_region_held3 (fun w'=>w'.cell? ⟨w.heap.size,0,none⟩=some (.int .u64 (cM:Int))/\w'.cell? ⟨w.heap.size,1,none⟩=some (.int .u64 (cR:Int))/\w'.cell? ⟨w.heap.size+1,0,none⟩=some (.int .u64 (dM:Int))/\w'.cell? ⟨w.heap.size+1,1,none⟩=some (.int .u64 (dR:Int))) (go_keep)
     (first
     | (go_at_call 109;refine (cr_any _ _ (by first | exact HU.out.1 | exact HU.out.2.2.1) (by first | exact HU.out.2.1 | exact HU.out.2.2.2) W _ (by repeat (first | assumption | refine Ok.alloc ?_ _ | refine Below.drew ?_))).mono ?_;rintro e w' ⟨rfl,hb⟩;(first | rw [<-HF.out.1,<-HF.out.2.1] | rw [<-HF.out.2.2.1,<-HF.out.2.2.2.1]);have q0:=Ok.cell hb z0 g0;have q1:=Ok.cell hb z0 g1;have q2:=Ok.cell hb z1 g2;have q3:=Ok.cell hb z1 g3)
     | (go_at_call 111;refine (bof_any dM HU.out.2.2.1 W _ (by repeat (first | assumption | refine Ok.alloc ?_ _ | refine Below.drew ?_))).mono ?_;rintro e w' ⟨rfl,hb⟩;have q0:=Ok.cell hb z0 g0;have q1:=Ok.cell hb z0 g1;have q2:=Ok.cell hb z1 g2;have q3:=Ok.cell hb z1 g3)
     | (go_at_call 131;refine (crest_any _ _ dM (by first | exact HB.out.2.1 | exact HB.out.2.2) HB.out.1 HD.out W _ (by repeat (first | assumption | refine Ok.alloc ?_ _ | refine Below.drew ?_))).mono ?_;rintro e w' ⟨rfl,hb⟩;(first | rw [<-HF.out.2.2.2.2.1] | rw [<-HF.out.2.2.2.2.2]);unfold bv;have q0:=Ok.cell hb z0 g0;have q1:=Ok.cell hb z0 g1;have q2:=Ok.cell hb z1 g2;have q3:=Ok.cell hb z1 g3)
     | fail)
    go_wp2_with fail
    go_ret
    exact ⟨retb E2.out,by repeat (first | exact HW.out.step hb | refine Ok.draws ?_ _)⟩
   ·have e1:(loB t1==loB t2)=false:=by simp [ee]
    rw [e1] at E2
    unfold cv
    go_enter Tryz.func51,Tryz.ntmps51
    go_wp2_with fail
    obtain ⟨W,hW⟩:∃ W,W=(w.alloc (.cells #[.int .u64 (cM:Int),.int .u64 (cR:Int)] 27)).alloc (.cells #[.int .u64 (dM:Int),.int .u64 (dR:Int)] 27):=⟨_,rfl⟩
    have ra:W.heap[w.heap.size]?=some (.cells #[.int .u64 (cM:Int),.int .u64 (cR:Int)] 27):=by rw [hW];exact jj
    have rr:W.heap[w.heap.size+1]?=some (.cells #[.int .u64 (dM:Int),.int .u64 (dR:Int)] 27):=by rw [hW];exact jj
    have HW:Hid (Ok w0 W):=by rw [hW];exact (by repeat (first | exact hok | refine Ok.alloc ?_ _ | refine Ok.draws ?_ _ | fail))
    rw [<-hW]
    clear hW hok
    obtain ⟨g0,g1,_,_⟩:=row_facts ra
    obtain ⟨g2,g3,_,_⟩:=row_facts rr
    have z0:=lt_row ra
    have z1:=lt_row rr
    clear ra rr
    have bz:Ok W W:=Ok.refl _
    go_region_held3 (fun w'=>w'.cell? ⟨w.heap.size,0,none⟩=some (.int .u64 (cM:Int))/\w'.cell? ⟨w.heap.size,1,none⟩=some (.int .u64 (cR:Int))/\w'.cell? ⟨w.heap.size+1,0,none⟩=some (.int .u64 (dM:Int))/\w'.cell? ⟨w.heap.size+1,1,none⟩=some (.int .u64 (dR:Int))) (go_keep)
     (first
     | (go_at_call 109;refine (cr_any _ _ (by first | exact HU.out.1 | exact HU.out.2.2.1) (by first | exact HU.out.2.1 | exact HU.out.2.2.2) W _ (by repeat (first | assumption | refine Ok.alloc ?_ _ | refine Below.drew ?_))).mono ?_;rintro e w' ⟨rfl,hb⟩;(first | rw [<-HF.out.1,<-HF.out.2.1] | rw [<-HF.out.2.2.1,<-HF.out.2.2.2.1]);have q0:=Ok.cell hb z0 g0;have q1:=Ok.cell hb z0 g1;have q2:=Ok.cell hb z1 g2;have q3:=Ok.cell hb z1 g3)
     | (go_at_call 111;refine (bof_any dM HU.out.2.2.1 W _ (by repeat (first | assumption | refine Ok.alloc ?_ _ | refine Below.drew ?_))).mono ?_;rintro e w' ⟨rfl,hb⟩;have q0:=Ok.cell hb z0 g0;have q1:=Ok.cell hb z0 g1;have q2:=Ok.cell hb z1 g2;have q3:=Ok.cell hb z1 g3)
     | (go_at_call 131;refine (crest_any _ _ dM (by first | exact HB.out.2.1 | exact HB.out.2.2) HB.out.1 HD.out W _ (by repeat (first | assumption | refine Ok.alloc ?_ _ | refine Below.drew ?_))).mono ?_;rintro e w' ⟨rfl,hb⟩;(first | rw [<-HF.out.2.2.2.2.1] | rw [<-HF.out.2.2.2.2.2]);unfold bv;have q0:=Ok.cell hb z0 g0;have q1:=Ok.cell hb z0 g1;have q2:=Ok.cell hb z1 g2;have q3:=Ok.cell hb z1 g3)
     | fail)
    go_wp2_with fail
    go_ret
    exact ⟨retb E2.out,by repeat (first | exact HW.out.step hb | refine Ok.draws ?_ _)⟩
  ·have hc1:((cM:Int)%(dM:Int)==0)=false:=by rw [<-Int.natCast_emod];simp;omega
   rw [decide_eq_false hc,Bool.false_and] at E
   have hc2:¬(cM:Int)%(dM:Int)=0:=by rw [<-Int.natCast_emod];omega
   clear hc
   unfold cv
   go_enter Tryz.func51,Tryz.ntmps51
   go_wp2_with fail
   go_quiet (fail)
   go_wp2_with fail
   go_ret
   exact ⟨retb E.out.symm,by repeat (first | exact hok | refine Ok.draws ?_ _ | refine Ok.alloc ?_ _)⟩
end
section
open Go.RowKit
theorem addMod_a {a b m:Nat} (ha:a<m) (hb:b<m) (h:m-b<=a):(a+b)%m=a-(m-b):=by
 have:a+b=(a-(m-b))+m:=by omega
 rw [this,Nat.add_mod_right,Nat.mod_eq_of_lt (by omega)]
theorem addMod_b {a b m:Nat} (hb:b<m) (h:¬m-b<=a):(a+b)%m=a+b:=Nat.mod_eq_of_lt (by omega)
theorem caddMod_any (a b m:Nat) (ha:a<m) (hb:b<m) (hm:U64 m) (w:World) :
  Calls Tryz.prog 202 #[.int .u64 (a:Int),.int .u64 (b:Int),.int .u64 (m:Int)] w fun e w'=>e=.returned (.int .u64 (((a+b)%m:Nat):Int))/\w'=w:=by
 unfold U64 at hm
 obtain ⟨r,hr⟩:∃ r,r=(a+b)%m:=⟨_,rfl⟩
 rw [<-hr]
 have hw:IntKind.u64.wrap ((m:Int)-(b:Int))=(m:Int)-(b:Int):=by rw [u64w];omega
 by_cases h:m-b<=a
 ·have E:Hid (r=a-(m-b)):=by unfold Hid;rw [hr];exact addMod_a ha hb h
  have h2:(m:Int)-(b:Int)<=(a:Int):=by omega
  have HX:Hid _:=And.intro ha (And.intro hb (And.intro hm h))
  clear ha hb h hm hr
  go_enter Tryz.func202,Tryz.ntmps202
  go_wp2_with fail
  go_ret
  refine ⟨retu ?_,rfl⟩
  have e1:=HX.out
  have e2:=E.out
  first | omega | (rw [u64w];omega)
 ·have E:Hid (r=a+b):=by unfold Hid;rw [hr];exact addMod_b hb h
  have h2:¬(m:Int)-(b:Int)<=(a:Int):=by omega
  have HX:Hid _:=And.intro ha (And.intro hb (And.intro hm h))
  clear ha hb h hm hr
  go_enter Tryz.func202,Tryz.ntmps202
  go_wp2_with fail
  go_ret
  refine ⟨retu ?_,rfl⟩
  have e1:=HX.out
  have e2:=E.out
  first | omega | (rw [u64w];omega)
end
section
open Go.RowKit
attribute [local go_sem] field_lo
def atN (M:Nat) (v:Int):Nat:=restN (rF 0 (bitsN v)) (rS 0 (bitsN v)) M
def upN (M R:Nat) (v:Int):Nat:=(restN (rF M R) (rS M R) M+(M-atN M v)%M)%M
def upC (M R:Nat) (v:Int):Int×Bool :=
 if M=0 then (if wrap64 (R:Int)<v then (0,false) else (wrap64 (R:Int),true))
 else if 9223372036854775807-v<(upN M R v:Int) then (0,false) else (v+(upN M R v:Int),true)
set_option maxRecDepth 100000 in
theorem cup_any (M R:Nat) (v:Int) (h1:U64 M) (h2:U64 R) (hv:In64 v) (w0 w:World) (hok:Ok w0 w) :
  Calls Tryz.prog 105 #[cv M R,.int .i64 v] w fun e w'=>e=.returned (.tuple #[.int .i64 (upC M R v).1,.bool (upC M R v).2])/\Ok w0 w':=by
 have hle:=hok.le
 have HU:Hid _:=And.intro h1 (And.intro h2 hv)
 clear h1 h2 hv
 by_cases hz:M=0
 ·obtain ⟨V1,hV1⟩:∃ V,V=wrap64 (R:Int):=⟨_,rfl⟩
  have E:Hid (upC M R v=if V1<v then (0,false) else (V1,true)):=by unfold Hid upC;rw [if_pos hz,hV1]
  subst hz
  have HV:Hid _:=hV1
  clear hV1
  unfold cv
  go_enter Tryz.func105,Tryz.ntmps105
  go_wp2_with fail
  have ra:(w.alloc (.cells #[.int .u64 0,.int .u64 (R:Int)] 27)).heap[w.heap.size]?=some (.cells #[.int .u64 0,.int .u64 (R:Int)] 27):=heap_new0 _ _
  refine (cnumber_any 0 R HU.out.2.1 _ _ (Ok.refl _)).mono ?_
  rintro e w1 ⟨rfl,hb1⟩
  rw [<-HV.out]
  have HK:Hid (Ok w0 w1):=Ok.step (hok.alloc _) hb1
  obtain ⟨a0,a1,_,_⟩:=row_facts (Ok.row' hb1 ra)
  clear ra hb1 hok
  by_cases hc:V1<v
  ·go_wp2_with fail
   (try simp only [Exit.inBlock,Exit.then])
   refine bodyPost_ret (results_tmp2 rfl _ _ _) rfl ?_
   rw [E.out,if_pos hc]
   exact ⟨rfl,HK.out⟩
  ·have HC:Hid _:=hc
   go_wp2_with fail
   refine (cnumber_any 0 R HU.out.2.1 _ _ (Ok.refl _)).mono ?_
   rintro e w2 ⟨rfl,hb2⟩
   rw [<-HV.out]
   go_wp2_with fail
   (try simp only [Exit.inBlock,Exit.then])
   refine bodyPost_ret (results_tmp2 rfl _ _ _) rfl ?_
   rw [E.out,if_neg HC.out]
   exact ⟨rfl,HK.out.step hb2⟩
 ·obtain ⟨f1,hf1⟩:∃ f,f=rF M R:=⟨_,rfl⟩
  obtain ⟨s1,hs1⟩:∃ s,s=rS M R:=⟨_,rfl⟩
  obtain ⟨B,hBb⟩:∃ B,B=bitsN v:=⟨_,rfl⟩
  obtain ⟨f2,hf2⟩:∃ f,f=rF 0 B:=⟨_,rfl⟩
  obtain ⟨s2,hs2⟩:∃ s,s=rS 0 B:=⟨_,rfl⟩
  obtain ⟨Y,hY⟩:∃ Y,Y=restN f1 s1 M:=⟨_,rfl⟩
  obtain ⟨A,hA⟩:∃ A,A=restN f2 s2 M:=⟨_,rfl⟩
  obtain ⟨D,hD⟩:∃ D,D=(M-A)%M:=⟨_,rfl⟩
  obtain ⟨N,hN⟩:∃ N,N=(Y+D)%M:=⟨_,rfl⟩
  have hBU:U64 B:=by rw [hBb];exact bitsN_u64 v
  have E:Hid (upC M R v=if 9223372036854775807-v<(N:Int) then (0,false) else (v+(N:Int),true)):=by
   have e:upN M R v=N:=by rw [hN,hD,hY,hA,hf1,hs1,hf2,hs2,hBb];rfl
   unfold Hid upC;rw [if_neg hz,e]
  have HM:Hid (0<M/\Big M/\Big f1/\Big f2):=by
   have a:=HU.out.1
   have b:=rF_rng HU.out.1 HU.out.2.1
   have c:=rF_rng (M:=0) (by unfold U64;omega) hBU
   rw [<-hf1] at b
   rw [<-hf2] at c
   unfold U64 at a;unfold Hid Big;omega
  have yl:Y<M:=by rw [hY];exact restN_lt HM.out.1
  have al:A<M:=by rw [hA];exact restN_lt HM.out.1
  have dl:D<M:=by rw [hD];exact Nat.mod_lt _ HM.out.1
  have nl:N<M:=by rw [hN];exact Nat.mod_lt _ HM.out.1
  have mu:M<18446744073709551616:=HU.out.1
  have hYl:loB Y=(Y:Int):=(big_small (by omega)).2
  have hAl:loB A=(A:Int):=(big_small (by omega)).2
  have hw:IntKind.u64.wrap ((M:Int)-(A:Int))=(M:Int)-(A:Int):=by rw [u64w];omega
  have hDd:((M:Int)-(A:Int))%(M:Int)=(D:Int):=by
   rw [hD,Int.natCast_emod,Int.ofNat_sub (by omega)]
  have hDt:((M:Int)-(A:Int)).tmod (M:Int)=(D:Int):=by rw [Int.tmod_eq_emod_of_nonneg (by omega)];exact hDd
  have HF:Hid _:=And.intro hf1 (And.intro hs1 (And.intro hBb (And.intro hf2 (And.intro hs2 (And.intro hY (And.intro hA hN))))))
  have HL:Hid _:=And.intro yl (And.intro al (And.intro dl (And.intro nl mu)))
  have hz1:((M:Int)==0)=false:=by simp;omega
  have hz2:¬(M:Int)=0:=by omega
  have hz3:(M==0)=false:=by simp [hz]
  have HBU:Hid _:=hBU
  clear hf1 hs1 hBb hf2 hs2 hY hA hD hN yl al dl nl mu hBU
  unfold cv
  go_enter Tryz.func105,Tryz.ntmps105
  go_wp2_with fail
  obtain ⟨W,hW⟩:∃ W,W=w.alloc (.cells #[.int .u64 (M:Int),.int .u64 (R:Int)] 27):=⟨_,rfl⟩
  have ra:W.heap[w.heap.size]?=some (.cells #[.int .u64 (M:Int),.int .u64 (R:Int)] 27):=by rw [hW];exact jj
  have HW:Hid (Ok w0 W):=by rw [hW];exact (by repeat (first | exact hok | refine Ok.alloc ?_ _ | refine Ok.draws ?_ _ | fail))
  rw [<-hW]
  clear hW hok
  obtain ⟨a0,a1,_,_⟩:=row_facts ra
  have z0:=lt_row ra
  clear ra
  have bz:Ok W W:=Ok.refl _
  go_region_held3 (fun w'=>w'.cell? ⟨w.heap.size,0,none⟩=some (.int .u64 (M:Int))/\w'.cell? ⟨w.heap.size,1,none⟩=some (.int .u64 (R:Int))) (go_keep)
   (first
   | (go_at_call 109;refine (cr_any M R HU.out.1 HU.out.2.1 W _ (by repeat (first | assumption | refine Ok.alloc ?_ _ | refine Below.drew ?_))).mono ?_;rintro e w' ⟨rfl,hb⟩;rw [<-HF.out.1,<-HF.out.2.1];have q0:=Ok.cell hb z0 a0;have q1:=Ok.cell hb z0 a1)
   | (go_at_call 111;refine (bof_any M HU.out.1 W _ (by repeat (first | assumption | refine Ok.alloc ?_ _ | refine Below.drew ?_))).mono ?_;rintro e w' ⟨rfl,hb⟩;have q0:=Ok.cell hb z0 a0;have q1:=Ok.cell hb z0 a1)
   | (go_at_call 131;refine (crest_any f1 s1 M HM.out.2.2.1 HM.out.2.1 HM.out.1 W _ (by repeat (first | assumption | refine Ok.alloc ?_ _ | refine Below.drew ?_))).mono ?_;rintro e w' ⟨rfl,hb⟩;rw [<-HF.out.2.2.2.2.2.1];unfold bv;have q0:=Ok.cell hb z0 a0;have q1:=Ok.cell hb z0 a1)
   | fail)
  go_wp2_with fail
  go_region_held3 (fun w'=>w'.cell? ⟨w.heap.size,0,none⟩=some (.int .u64 (M:Int))/\w'.cell? ⟨w.heap.size,1,none⟩=some (.int .u64 (R:Int))) (go_keep)
   (first
   | (go_at_call 99;refine (cconst_any v W _ (by repeat (first | assumption | refine Ok.alloc ?_ _ | refine Below.drew ?_))).mono ?_;rintro e w' ⟨rfl,hb⟩;rw [<-HF.out.2.2.1];have q0:=Ok.cell hb z0 a0;have q1:=Ok.cell hb z0 a1)
   | (go_at_call 109;refine (cr_any 0 B (by unfold U64;omega) HBU.out W _ (by repeat (first | assumption | refine Ok.alloc ?_ _ | refine Below.drew ?_))).mono ?_;rintro e w' ⟨rfl,hb⟩;rw [<-HF.out.2.2.2.1,<-HF.out.2.2.2.2.1];have q0:=Ok.cell hb z0 a0;have q1:=Ok.cell hb z0 a1)
   | (go_at_call 111;refine (bof_any M HU.out.1 W _ (by repeat (first | assumption | refine Ok.alloc ?_ _ | refine Below.drew ?_))).mono ?_;rintro e w' ⟨rfl,hb⟩;have q0:=Ok.cell hb z0 a0;have q1:=Ok.cell hb z0 a1)
   | (go_at_call 131;refine (crest_any f2 s2 M HM.out.2.2.2 HM.out.2.1 HM.out.1 W _ (by repeat (first | assumption | refine Ok.alloc ?_ _ | refine Below.drew ?_))).mono ?_;rintro e w' ⟨rfl,hb⟩;rw [<-HF.out.2.2.2.2.2.2.1];unfold bv;have q0:=Ok.cell hb z0 a0;have q1:=Ok.cell hb z0 a1)
   | fail)
  go_wp2_with fail
  have hvw:IntKind.u64.wrap (9223372036854775807-IntKind.u64.wrap v)=9223372036854775807-v:=by
   have:=HU.out.2.2;unfold In64 at this;rw [u64w,u64w];omega
  go_region_held3 (fun w'=>w'.cell? ⟨w.heap.size,0,none⟩=some (.int .u64 (M:Int))/\w'.cell? ⟨w.heap.size,1,none⟩=some (.int .u64 (R:Int))) (go_keep)
   (first
   | (go_at_call 202;refine (caddMod_any Y D M HL.out.1 HL.out.2.2.1 HU.out.1 _).mono ?_;rintro e w'' ⟨rfl,rfl⟩;rw [<-HF.out.2.2.2.2.2.2.2])
   | fail)
  have HK:Hid (Ok w0 w'):=HW.out.step hb
  by_cases hc:9223372036854775807-v<(N:Int)
  ·go_wp2_with fail
   (try simp only [Exit.inBlock,Exit.then])
   refine bodyPost_ret (results_tmp2 rfl _ _ _) rfl ?_
   rw [E.out,if_pos hc]
   exact ⟨rfl,by repeat (first | exact HK.out | refine Ok.draws ?_ 1)⟩
  ·have HC:Hid _:=hc
   have hr:wrap64 (IntKind.u64.wrap (IntKind.u64.wrap v+(N:Int)))=v+(N:Int):=by
    have:=HU.out.2.2;unfold In64 at this;rw [u64w,u64w];unfold wrap64;omega
   go_wp2_with fail
   (try simp only [Exit.inBlock,Exit.then])
   refine bodyPost_ret (results_tmp2 rfl _ _ _) rfl ?_
   rw [E.out,if_neg HC.out]
   exact ⟨rfl,by repeat (first | exact HK.out | refine Ok.draws ?_ 1)⟩
end
section
open Go.RowKit
def mHi (x y z t:Int):Int:=if y<t then IntKind.u64.wrap (IntKind.u64.wrap (x-z)-1) else IntKind.u64.wrap (x-z)
def mLo (y t:Int):Int:=IntKind.u64.wrap (y-t)
theorem mHi_val {a b:Nat} (ha:Big a) (hb:Big b):mHi (hiB a) (loB a) (hiB b) (loB b)=hiB (subB a b):=by
 unfold mHi
 by_cases h:loB a<loB b
 ·rw [if_pos h,wrap2,(sub_c ha hb h).1]
 ·rw [if_neg h,u64w,(sub_n ha hb h).1]
theorem mLo_val {a b:Nat} (ha:Big a) (hb:Big b):mLo (loB a) (loB b)=loB (subB a b):=by
 unfold mLo
 by_cases h:loB a<loB b
 ·rw [u64w,(sub_c ha hb h).2]
 ·rw [u64w,(sub_n ha hb h).2]
theorem bminus_raw (x y z t:Int) (w0 w:World) (hok:Ok w0 w) :
  Calls Tryz.prog 205 #[.agg #[.int .u64 x,.int .u64 y],.agg #[.int .u64 z,.int .u64 t]] w fun e w'=>e=.returned (.agg #[.int .u64 (mHi x y z t),.int .u64 (mLo y t)])/\Ok w0 w':=by
 by_cases h:y<t
 ·have E:Hid (mHi x y z t=IntKind.u64.wrap (IntKind.u64.wrap (x-z)-1)):=by unfold Hid mHi;rw [if_pos h]
  go_enter Tryz.func205,Tryz.ntmps205
  go_wp2
  (try simp only [Exit.inBlock, Exit.then]); refine bodyPost_ret (results_cell_row rfl _ _ (w.heap.size+2) 105 #[_, _] (0, 0) _ rfl jj Tryz.underlying105 rfl infoBg) rfl ?_
  rw [E.out]
  exact ⟨rfl,(by repeat (first | exact hok | refine Ok.alloc ?_ _ | refine Ok.draws ?_ _ | fail))⟩
 ·have E:Hid (mHi x y z t=IntKind.u64.wrap (x-z)):=by unfold Hid mHi;rw [if_neg h]
  go_enter Tryz.func205,Tryz.ntmps205
  go_wp2
  (try simp only [Exit.inBlock, Exit.then]); refine bodyPost_ret (results_cell_row rfl _ _ (w.heap.size+2) 105 #[_, _] (0, 0) _ rfl jj Tryz.underlying105 rfl infoBg) rfl ?_
  rw [E.out]
  exact ⟨rfl,(by repeat (first | exact hok | refine Ok.alloc ?_ _ | refine Ok.draws ?_ _ | fail))⟩
end
section
open Go.RowKit
theorem new_ne' {W w':World} {a:Nat} (hb:Ok W w') (h:a<W.heap.size):¬w'.heap.size=a:=by have:=hb.le;omega
end
section
open Go.RowKit
def byG (g:Nat) (exact:Bool):Nat:=if exact=true/\g<18446744073709551616 then g else twoN g
theorem twoN_pos (g:Nat):0<twoN g:=by
 unfold twoN;split
 ·exact Nat.pow_pos (by omega)
 ·omega
theorem twoN_u64 (g:Nat):U64 (twoN g):=by
 unfold twoN U64
 split
 ·rename_i i h
  have h2:=List.mem_of_find?_eq_some h
  have h3:i<63:=by simpa using h2
  have:(2:Nat) ^ i<2 ^ 64:=Nat.pow_lt_pow_right (by omega) (by omega)
  exact this
 ·omega
set_option maxRecDepth 100000 in
theorem cby_any (f:Nat) (s:Bool) (g:Nat) (exact':Bool) (hf:Big f) (hg:Big g) (hg0:0<g) (w0 w:World) (hok:Ok w0 w) :
  Calls Tryz.prog 110 #[iv f s,bv g,.bool exact'] w fun e w'=>e=.returned (cv (byG g exact') (restN f s (byG g exact')))/\Ok w0 w':=by
 have hle:=hok.le
 have HP:Hid _:=And.intro hf (And.intro hg hg0)
 clear hf hg hg0
 unfold iv bv
 by_cases hc:exact'=true/\g<18446744073709551616
 ·have E:Hid (byG g exact'=g):=by unfold Hid byG;rw [if_pos hc]
  obtain ⟨rfl,hs⟩:=hc
  have e1:(hiB g==0)=true:=by rw [(big_small hs).1];rfl
  have HL:Hid (loB g=(g:Int)):=(big_small hs).2
  have HU:Hid (U64 g):=hs
  clear hs
  go_enter Tryz.func110,Tryz.ntmps110
  go_wp2_with fail
  obtain ⟨W,hW⟩:∃ W,W=((w.alloc (.cells #[.int .u64 (hiB f),.int .u64 (loB f),.bool s] 107)).alloc (.cells #[.int .u64 (hiB g),.int .u64 (loB g)] 105)).alloc (.cells #[.int .u64 0,.int .u64 0] 27):=⟨_,rfl⟩
  have ra:W.heap[w.heap.size]?=some (.cells #[.int .u64 (hiB f),.int .u64 (loB f),.bool s] 107):=by rw [hW];exact jj
  have rb:W.heap[w.heap.size+1]?=some (.cells #[.int .u64 (hiB g),.int .u64 (loB g)] 105):=by rw [hW];exact jj
  have rr:W.heap[w.heap.size+2]?=some (.cells #[.int .u64 0,.int .u64 0] 27):=by rw [hW];exact jj
  have HW:Hid (Ok w0 W):=by rw [hW];exact (by repeat (first | exact hok | refine Ok.alloc ?_ _ | refine Ok.draws ?_ _ | fail))
  rw [<-hW]
  clear hW hok
  have HR:Hid _:=rr
  clear ra rb rr
  rw [HL.out]
  refine (cclass_any f s g HP.out.1 HU.out HP.out.2.2 W W (Ok.refl _)).mono ?_
  rintro e w' ⟨rfl,hb⟩
  have HR2:Hid _:=Ok.row' hb HR.out
  have HB2:Hid (Ok w0 w'):=HW.out.step hb
  obtain ⟨c0,c1,c2,c3⟩:=row_facts HR2.out
  unfold cv
  go_wp2_with fail
  (try simp only [Exit.inBlock,Exit.then])
  refine bodyPost_ret (results_cell_row rfl _ _ (w.heap.size+2) 27 #[_,_] (0,0) _ rfl (row_set2 HR2.out _ _) Tryz.underlying27 rfl infoCg) rfl ?_
  rw [E.out]
  exact ⟨rfl,(HB2.out.set (show w0.heap.size<=w.heap.size+2 by omega) _).set (show w0.heap.size<=w.heap.size+2 by omega) _⟩
 ·have E:Hid (byG g exact'=twoN g):=by unfold Hid byG;rw [if_neg hc]
  have HT:Hid _:=And.intro (twoN_pos g) (twoN_u64 g)
  obtain ⟨T,hT⟩:∃ T,T=twoN g:=⟨_,rfl⟩
  rw [<-hT] at E HT
  have HTT:Hid _:=hT
  clear hT
  cases exact' with
  | false =>
   clear hc
   go_enter Tryz.func110,Tryz.ntmps110
   go_wp2_with fail
   obtain ⟨W,hW⟩:∃ W,W=((w.alloc (.cells #[.int .u64 (hiB f),.int .u64 (loB f),.bool s] 107)).alloc (.cells #[.int .u64 (hiB g),.int .u64 (loB g)] 105)).alloc (.cells #[.int .u64 0,.int .u64 0] 27):=⟨_,rfl⟩
   have ra:W.heap[w.heap.size]?=some (.cells #[.int .u64 (hiB f),.int .u64 (loB f),.bool s] 107):=by rw [hW];exact jj
   have rb:W.heap[w.heap.size+1]?=some (.cells #[.int .u64 (hiB g),.int .u64 (loB g)] 105):=by rw [hW];exact jj
   have rr:W.heap[w.heap.size+2]?=some (.cells #[.int .u64 0,.int .u64 0] 27):=by rw [hW];exact jj
   have HW:Hid (Ok w0 W):=by rw [hW];exact (by repeat (first | exact hok | refine Ok.alloc ?_ _ | refine Ok.draws ?_ _ | fail))
   rw [<-hW]
   clear hW hok
   have HR:Hid _:=rr
   obtain ⟨a0,a1,a2,_⟩:=row3_facts ra
   obtain ⟨b0,b1,_,_⟩:=row_facts rb
   have z0:=lt_row ra
   have z1:=lt_row rb
   clear ra rb rr
   have bz:Ok W W:=Ok.refl _
   have n1:¬w.heap.size+1+1=w.heap.size:=by omega
   have n2:¬w.heap.size+1+1=w.heap.size+1:=by omega
   go_region_held3 (fun w'=>w'.cell? ⟨w.heap.size,0,none⟩=some (.int .u64 (hiB f))/\w'.cell? ⟨w.heap.size,1,none⟩=some (.int .u64 (loB f))/\w'.cell? ⟨w.heap.size,2,none⟩=some (.bool s)/\w'.cell? ⟨w.heap.size+1,0,none⟩=some (.int .u64 (hiB g))/\w'.cell? ⟨w.heap.size+1,1,none⟩=some (.int .u64 (loB g))) (go_keep)
    (first
    | (go_at_call 203;refine (btwo_any g HP.out.2.1 W _ (by repeat (first | assumption | refine Ok.alloc ?_ _ | refine Below.drew ?_))).mono ?_;rintro e w' ⟨rfl,hb⟩;rw [<-HTT.out];have q0:=Ok.cell hb z0 a0;have q1:=Ok.cell hb z0 a1;have q2:=Ok.cell hb z0 a2;have q3:=Ok.cell hb z1 b0;have q4:=Ok.cell hb z1 b1;obtain ⟨c0,c1,c2,c3⟩:=row_facts (Ok.row' hb HR.out))
    | (go_at_call 123;refine (cclass_any f s T HP.out.1 HT.out.2 HT.out.1 W _ (by repeat (first | assumption | refine Ok.alloc ?_ _ | refine Below.drew ?_))).mono ?_;rintro e w' ⟨rfl,hb⟩;unfold cv;have q0:=Ok.cell hb z0 a0;have q1:=Ok.cell hb z0 a1;have q2:=Ok.cell hb z0 a2;have q3:=Ok.cell hb z1 b0;have q4:=Ok.cell hb z1 b1;obtain ⟨c0,c1,c2,c3⟩:=row_facts (Ok.row' hb HR.out))
    | fail)
   have HR2:Hid _:=Ok.row' hb HR.out
   have HB2:Hid (Ok w0 w'):=HW.out.step hb
   go_wp2_with fail
   (try simp only [Exit.inBlock,Exit.then])
   refine bodyPost_ret (results_cell_row rfl _ _ (w.heap.size+2) 27 #[_,_] (0,0) _ rfl (row_set2 HR2.out _ _) Tryz.underlying27 rfl infoCg) rfl ?_
   rw [E.out]
   exact ⟨rfl,(HB2.out.set (show w0.heap.size<=w.heap.size+2 by omega) _).set (show w0.heap.size<=w.heap.size+2 by omega) _⟩
  | true =>
   have e1:(hiB g==0)=false:=by
    have:¬g<18446744073709551616:=fun h=>hc ⟨rfl,h⟩
    unfold hiB;simp;omega
   clear hc
   go_enter Tryz.func110,Tryz.ntmps110
   go_wp2_with fail
   obtain ⟨W,hW⟩:∃ W,W=((w.alloc (.cells #[.int .u64 (hiB f),.int .u64 (loB f),.bool s] 107)).alloc (.cells #[.int .u64 (hiB g),.int .u64 (loB g)] 105)).alloc (.cells #[.int .u64 0,.int .u64 0] 27):=⟨_,rfl⟩
   have ra:W.heap[w.heap.size]?=some (.cells #[.int .u64 (hiB f),.int .u64 (loB f),.bool s] 107):=by rw [hW];exact jj
   have rb:W.heap[w.heap.size+1]?=some (.cells #[.int .u64 (hiB g),.int .u64 (loB g)] 105):=by rw [hW];exact jj
   have rr:W.heap[w.heap.size+2]?=some (.cells #[.int .u64 0,.int .u64 0] 27):=by rw [hW];exact jj
   have HW:Hid (Ok w0 W):=by rw [hW];exact (by repeat (first | exact hok | refine Ok.alloc ?_ _ | refine Ok.draws ?_ _ | fail))
   rw [<-hW]
   clear hW hok
   have HR:Hid _:=rr
   obtain ⟨a0,a1,a2,_⟩:=row3_facts ra
   obtain ⟨b0,b1,_,_⟩:=row_facts rb
   have z0:=lt_row ra
   have z1:=lt_row rb
   clear ra rb rr
   have bz:Ok W W:=Ok.refl _
   have n1:¬w.heap.size+1+1=w.heap.size:=by omega
   have n2:¬w.heap.size+1+1=w.heap.size+1:=by omega
   go_region_held3 (fun w'=>w'.cell? ⟨w.heap.size,0,none⟩=some (.int .u64 (hiB f))/\w'.cell? ⟨w.heap.size,1,none⟩=some (.int .u64 (loB f))/\w'.cell? ⟨w.heap.size,2,none⟩=some (.bool s)/\w'.cell? ⟨w.heap.size+1,0,none⟩=some (.int .u64 (hiB g))/\w'.cell? ⟨w.heap.size+1,1,none⟩=some (.int .u64 (loB g))) (go_keep)
    (first
    | (go_at_call 203;refine (btwo_any g HP.out.2.1 W _ (by repeat (first | assumption | refine Ok.alloc ?_ _ | refine Below.drew ?_))).mono ?_;rintro e w' ⟨rfl,hb⟩;rw [<-HTT.out];have q0:=Ok.cell hb z0 a0;have q1:=Ok.cell hb z0 a1;have q2:=Ok.cell hb z0 a2;have q3:=Ok.cell hb z1 b0;have q4:=Ok.cell hb z1 b1;obtain ⟨c0,c1,c2,c3⟩:=row_facts (Ok.row' hb HR.out))
    | (go_at_call 123;refine (cclass_any f s T HP.out.1 HT.out.2 HT.out.1 W _ (by repeat (first | assumption | refine Ok.alloc ?_ _ | refine Below.drew ?_))).mono ?_;rintro e w' ⟨rfl,hb⟩;unfold cv;have q0:=Ok.cell hb z0 a0;have q1:=Ok.cell hb z0 a1;have q2:=Ok.cell hb z0 a2;have q3:=Ok.cell hb z1 b0;have q4:=Ok.cell hb z1 b1;obtain ⟨c0,c1,c2,c3⟩:=row_facts (Ok.row' hb HR.out))
    | fail)
   have HR2:Hid _:=Ok.row' hb HR.out
   have HB2:Hid (Ok w0 w'):=HW.out.step hb
   go_wp2_with fail
   (try simp only [Exit.inBlock,Exit.then])
   refine bodyPost_ret (results_cell_row rfl _ _ (w.heap.size+2) 27 #[_,_] (0,0) _ rfl (row_set2 HR2.out _ _) Tryz.underlying27 rfl infoCg) rfl ?_
   rw [E.out]
   exact ⟨rfl,(HB2.out.set (show w0.heap.size<=w.heap.size+2 by omega) _).set (show w0.heap.size<=w.heap.size+2 by omega) _⟩
end
end Go.Proofs.YtpjpjhjjhoeijaaGreat
