import Derived.Test.YtnjmjnmhldhaoaaGreatKCset
set_option maxHeartbeats 8000000
set_option linter.all false
namespace Go.Proofs.YtnjmjnmhldhaoaaGreat
section
open Go.RowKit
theorem addMod_a {a b m:Nat} (ha:a<m) (hb:b<m) (h:m-b<=a):(a+b)%m=a-(m-b):=by
 have:a+b=(a-(m-b))+m:=by omega
 rw [this,Nat.add_mod_right,Nat.mod_eq_of_lt (by omega)]
theorem addMod_b {a b m:Nat} (hb:b<m) (h:¬m-b<=a):(a+b)%m=a+b:=Nat.mod_eq_of_lt (by omega)
theorem caddMod_any (a b m:Nat) (ha:a<m) (hb:b<m) (hm:U64 m) (w:World) :
  Calls Tryz.prog 167 #[.int .u64 (a:Int),.int .u64 (b:Int),.int .u64 (m:Int)] w fun e w'=>e=.returned (.int .u64 (((a+b)%m:Nat):Int))/\w'=w:=by
 unfold U64 at hm
 obtain ⟨r,hr⟩:∃ r,r=(a+b)%m:=⟨_,rfl⟩
 rw [<-hr]
 have hw:IntKind.u64.wrap ((m:Int)-(b:Int))=(m:Int)-(b:Int):=by rw [u64w];omega
 by_cases h:m-b<=a
 ·have E:Hid (r=a-(m-b)):=by unfold Hid;rw [hr];exact addMod_a ha hb h
  have h2:(m:Int)-(b:Int)<=(a:Int):=by omega
  have HX:Hid _:=And.intro ha (And.intro hb (And.intro hm h))
  clear ha hb h hm hr
  go_enter Tryz.func167,Tryz.ntmps167
  go_wp2_with fail
  go_ret
  refine ⟨retu ?_,rfl⟩
  have e1:=HX.out
  have e2:=E.out
  first | omega | (rw [u64w];omega)
 ·have E:Hid (r=a+b):=by unfold Hid;rw [hr];exact addMod_b hb h
  have h2:¬(m:Int)-(b:Int)<=(a:Int):=by omega
  have HX:Hid _:=And.intro ha (And.intro hb (And.intro hm h))
  clear ha hb h hm hr
  go_enter Tryz.func167,Tryz.ntmps167
  go_wp2_with fail
  go_ret
  refine ⟨retu ?_,rfl⟩
  have e1:=HX.out
  have e2:=E.out
  first | omega | (rw [u64w];omega)
end
section
open Go.RowKit
attribute [local go_sem] field_lo
def atN (M:Nat) (v:Int):Nat:=restN (rF 0 (bitsN v)) (rS 0 (bitsN v)) M
def upN (M R:Nat) (v:Int):Nat:=(restN (rF M R) (rS M R) M+(M-atN M v)%M)%M
def upC (M R:Nat) (v:Int):Int×Bool :=
 if M=0 then (if wrap64 (R:Int)<v then (0,false) else (wrap64 (R:Int),true))
 else if 9223372036854775807-v<(upN M R v:Int) then (0,false) else (v+(upN M R v:Int),true)
set_option maxRecDepth 100000 in
theorem cup_any (M R:Nat) (v:Int) (h1:U64 M) (h2:U64 R) (hv:In64 v) (w0 w:World) (hok:Ok w0 w) :
  Calls Tryz.prog 106 #[cv M R,.int .i64 v] w fun e w'=>e=.returned (.tuple #[.int .i64 (upC M R v).1,.bool (upC M R v).2])/\Ok w0 w':=by
 have hle:=hok.le
 have HU:Hid _:=And.intro h1 (And.intro h2 hv)
 clear h1 h2 hv
 by_cases hz:M=0
 ·obtain ⟨V1,hV1⟩:∃ V,V=wrap64 (R:Int):=⟨_,rfl⟩
  have E:Hid (upC M R v=if V1<v then (0,false) else (V1,true)):=by unfold Hid upC;rw [if_pos hz,hV1]
  subst hz
  have HV:Hid _:=hV1
  clear hV1
  unfold cv
  go_enter Tryz.func106,Tryz.ntmps106
  go_wp2_with fail
  have ra:(w.alloc (.cells #[.int .u64 0,.int .u64 (R:Int)] 27)).heap[w.heap.size]?=some (.cells #[.int .u64 0,.int .u64 (R:Int)] 27):=heap_new0 _ _
  refine (cnumber_any 0 R HU.out.2.1 _ _ (Ok.refl _)).mono ?_
  rintro e w1 ⟨rfl,hb1⟩
  rw [<-HV.out]
  have HK:Hid (Ok w0 w1):=Ok.step (hok.alloc _) hb1
  obtain ⟨a0,a1,_,_⟩:=row_facts (Ok.row' hb1 ra)
  clear ra hb1 hok
  by_cases hc:V1<v
  ·go_wp2_with fail
   (try simp only [Exit.inBlock,Exit.then])
   refine bodyPost_ret (results_tmp2 rfl _ _ _) rfl ?_
   rw [E.out,if_pos hc]
   exact ⟨rfl,HK.out⟩
  ·have HC:Hid _:=hc
   go_wp2_with fail
   refine (cnumber_any 0 R HU.out.2.1 _ _ (Ok.refl _)).mono ?_
   rintro e w2 ⟨rfl,hb2⟩
   rw [<-HV.out]
   go_wp2_with fail
   (try simp only [Exit.inBlock,Exit.then])
   refine bodyPost_ret (results_tmp2 rfl _ _ _) rfl ?_
   rw [E.out,if_neg HC.out]
   exact ⟨rfl,HK.out.step hb2⟩
 ·obtain ⟨f1,hf1⟩:∃ f,f=rF M R:=⟨_,rfl⟩
  obtain ⟨s1,hs1⟩:∃ s,s=rS M R:=⟨_,rfl⟩
  obtain ⟨B,hBb⟩:∃ B,B=bitsN v:=⟨_,rfl⟩
  obtain ⟨f2,hf2⟩:∃ f,f=rF 0 B:=⟨_,rfl⟩
  obtain ⟨s2,hs2⟩:∃ s,s=rS 0 B:=⟨_,rfl⟩
  obtain ⟨Y,hY⟩:∃ Y,Y=restN f1 s1 M:=⟨_,rfl⟩
  obtain ⟨A,hA⟩:∃ A,A=restN f2 s2 M:=⟨_,rfl⟩
  obtain ⟨D,hD⟩:∃ D,D=(M-A)%M:=⟨_,rfl⟩
  obtain ⟨N,hN⟩:∃ N,N=(Y+D)%M:=⟨_,rfl⟩
  have hBU:U64 B:=by rw [hBb];exact bitsN_u64 v
  have E:Hid (upC M R v=if 9223372036854775807-v<(N:Int) then (0,false) else (v+(N:Int),true)):=by
   have e:upN M R v=N:=by rw [hN,hD,hY,hA,hf1,hs1,hf2,hs2,hBb];rfl
   unfold Hid upC;rw [if_neg hz,e]
  have HM:Hid (0<M/\Big M/\Big f1/\Big f2):=by
   have a:=HU.out.1
   have b:=rF_rng HU.out.1 HU.out.2.1
   have c:=rF_rng (M:=0) (by unfold U64;omega) hBU
   rw [<-hf1] at b
   rw [<-hf2] at c
   unfold U64 at a;unfold Hid Big;omega
  have yl:Y<M:=by rw [hY];exact restN_lt HM.out.1
  have al:A<M:=by rw [hA];exact restN_lt HM.out.1
  have dl:D<M:=by rw [hD];exact Nat.mod_lt _ HM.out.1
  have nl:N<M:=by rw [hN];exact Nat.mod_lt _ HM.out.1
  have mu:M<18446744073709551616:=HU.out.1
  have hYl:loB Y=(Y:Int):=(big_small (by omega)).2
  have hAl:loB A=(A:Int):=(big_small (by omega)).2
  have hw:IntKind.u64.wrap ((M:Int)-(A:Int))=(M:Int)-(A:Int):=by rw [u64w];omega
  have hDd:((M:Int)-(A:Int))%(M:Int)=(D:Int):=by
   rw [hD,Int.natCast_emod,Int.ofNat_sub (by omega)]
  have hDt:((M:Int)-(A:Int)).tmod (M:Int)=(D:Int):=by rw [Int.tmod_eq_emod_of_nonneg (by omega)];exact hDd
  have HF:Hid _:=And.intro hf1 (And.intro hs1 (And.intro hBb (And.intro hf2 (And.intro hs2 (And.intro hY (And.intro hA hN))))))
  have HL:Hid _:=And.intro yl (And.intro al (And.intro dl (And.intro nl mu)))
  have hz1:((M:Int)==0)=false:=by simp;omega
  have hz2:¬(M:Int)=0:=by omega
  have hz3:(M==0)=false:=by simp [hz]
  have HBU:Hid _:=hBU
  clear hf1 hs1 hBb hf2 hs2 hY hA hD hN yl al dl nl mu hBU
  unfold cv
  go_enter Tryz.func106,Tryz.ntmps106
  go_wp2_with fail
  obtain ⟨W,hW⟩:∃ W,W=w.alloc (.cells #[.int .u64 (M:Int),.int .u64 (R:Int)] 27):=⟨_,rfl⟩
  have ra:W.heap[w.heap.size]?=some (.cells #[.int .u64 (M:Int),.int .u64 (R:Int)] 27):=by rw [hW];exact jj
  have HW:Hid (Ok w0 W):=by rw [hW];exact (by repeat (first | exact hok | refine Ok.alloc ?_ _ | refine Ok.draws ?_ _ | fail))
  rw [<-hW]
  clear hW hok
  obtain ⟨a0,a1,_,_⟩:=row_facts ra
  have z0:=lt_row ra
  clear ra
  have bz:Ok W W:=Ok.refl _
  go_region_held3 (fun w'=>w'.cell? ⟨w.heap.size,0,none⟩=some (.int .u64 (M:Int))/\w'.cell? ⟨w.heap.size,1,none⟩=some (.int .u64 (R:Int))) (go_keep)
   (first
   | (go_at_call 63;refine (cr_any M R HU.out.1 HU.out.2.1 W _ (by repeat (first | assumption | refine Ok.alloc ?_ _ | refine Below.drew ?_))).mono ?_;rintro e w' ⟨rfl,hb⟩;rw [<-HF.out.1,<-HF.out.2.1];have q0:=Ok.cell hb z0 a0;have q1:=Ok.cell hb z0 a1)
   | (go_at_call 64;refine (bof_any M HU.out.1 W _ (by repeat (first | assumption | refine Ok.alloc ?_ _ | refine Below.drew ?_))).mono ?_;rintro e w' ⟨rfl,hb⟩;have q0:=Ok.cell hb z0 a0;have q1:=Ok.cell hb z0 a1)
   | (go_at_call 62;refine (crest_any f1 s1 M HM.out.2.2.1 HM.out.2.1 HM.out.1 W _ (by repeat (first | assumption | refine Ok.alloc ?_ _ | refine Below.drew ?_))).mono ?_;rintro e w' ⟨rfl,hb⟩;rw [<-HF.out.2.2.2.2.2.1];unfold bv;have q0:=Ok.cell hb z0 a0;have q1:=Ok.cell hb z0 a1)
   | fail)
  go_wp2_with fail
  go_region_held3 (fun w'=>w'.cell? ⟨w.heap.size,0,none⟩=some (.int .u64 (M:Int))/\w'.cell? ⟨w.heap.size,1,none⟩=some (.int .u64 (R:Int))) (go_keep)
   (first
   | (go_at_call 55;refine (cconst_any v W _ (by repeat (first | assumption | refine Ok.alloc ?_ _ | refine Below.drew ?_))).mono ?_;rintro e w' ⟨rfl,hb⟩;rw [<-HF.out.2.2.1];have q0:=Ok.cell hb z0 a0;have q1:=Ok.cell hb z0 a1)
   | (go_at_call 63;refine (cr_any 0 B (by unfold U64;omega) HBU.out W _ (by repeat (first | assumption | refine Ok.alloc ?_ _ | refine Below.drew ?_))).mono ?_;rintro e w' ⟨rfl,hb⟩;rw [<-HF.out.2.2.2.1,<-HF.out.2.2.2.2.1];have q0:=Ok.cell hb z0 a0;have q1:=Ok.cell hb z0 a1)
   | (go_at_call 64;refine (bof_any M HU.out.1 W _ (by repeat (first | assumption | refine Ok.alloc ?_ _ | refine Below.drew ?_))).mono ?_;rintro e w' ⟨rfl,hb⟩;have q0:=Ok.cell hb z0 a0;have q1:=Ok.cell hb z0 a1)
   | (go_at_call 62;refine (crest_any f2 s2 M HM.out.2.2.2 HM.out.2.1 HM.out.1 W _ (by repeat (first | assumption | refine Ok.alloc ?_ _ | refine Below.drew ?_))).mono ?_;rintro e w' ⟨rfl,hb⟩;rw [<-HF.out.2.2.2.2.2.2.1];unfold bv;have q0:=Ok.cell hb z0 a0;have q1:=Ok.cell hb z0 a1)
   | fail)
  go_wp2_with fail
  have hvw:IntKind.u64.wrap (9223372036854775807-IntKind.u64.wrap v)=9223372036854775807-v:=by
   have:=HU.out.2.2;unfold In64 at this;rw [u64w,u64w];omega
  go_region_held3 (fun w'=>w'.cell? ⟨w.heap.size,0,none⟩=some (.int .u64 (M:Int))/\w'.cell? ⟨w.heap.size,1,none⟩=some (.int .u64 (R:Int))) (go_keep)
   (first
   | (go_at_call 167;refine (caddMod_any Y D M HL.out.1 HL.out.2.2.1 HU.out.1 _).mono ?_;rintro e w'' ⟨rfl,rfl⟩;rw [<-HF.out.2.2.2.2.2.2.2])
   | fail)
  have HK:Hid (Ok w0 w'):=HW.out.step hb
  by_cases hc:9223372036854775807-v<(N:Int)
  ·go_wp2_with fail
   (try simp only [Exit.inBlock,Exit.then])
   refine bodyPost_ret (results_tmp2 rfl _ _ _) rfl ?_
   rw [E.out,if_pos hc]
   exact ⟨rfl,by repeat (first | exact HK.out | refine Ok.draws ?_ 1)⟩
  ·have HC:Hid _:=hc
   have hr:wrap64 (IntKind.u64.wrap (IntKind.u64.wrap v+(N:Int)))=v+(N:Int):=by
    have:=HU.out.2.2;unfold In64 at this;rw [u64w,u64w];unfold wrap64;omega
   go_wp2_with fail
   (try simp only [Exit.inBlock,Exit.then])
   refine bodyPost_ret (results_tmp2 rfl _ _ _) rfl ?_
   rw [E.out,if_neg HC.out]
   exact ⟨rfl,by repeat (first | exact HK.out | refine Ok.draws ?_ 1)⟩
end
section
open Go.RowKit
attribute [local go_sem] field_lo
def downN (M R:Nat) (v:Int):Nat:=(atN M v+(M-restN (rF M R) (rS M R) M)%M)%M
def downC (M R:Nat) (v:Int):Int×Bool :=
 if M=0 then (if v<wrap64 (R:Int) then (0,false) else (wrap64 (R:Int),true))
 else if v+9223372036854775808<(downN M R v:Int) then (0,false) else (v-(downN M R v:Int),true)
set_option maxRecDepth 100000 in
theorem cdown_any (M R:Nat) (v:Int) (h1:U64 M) (h2:U64 R) (hv:In64 v) (w0 w:World) (hok:Ok w0 w) :
  Calls Tryz.prog 107 #[cv M R,.int .i64 v] w fun e w'=>e=.returned (.tuple #[.int .i64 (downC M R v).1,.bool (downC M R v).2])/\Ok w0 w':=by
 have hle:=hok.le
 have HU:Hid _:=And.intro h1 (And.intro h2 hv)
 clear h1 h2 hv
 by_cases hz:M=0
 ·obtain ⟨V1,hV1⟩:∃ V,V=wrap64 (R:Int):=⟨_,rfl⟩
  have E:Hid (downC M R v=if v<V1 then (0,false) else (V1,true)):=by unfold Hid downC;rw [if_pos hz,hV1]
  subst hz
  have HV:Hid _:=hV1
  clear hV1
  unfold cv
  go_enter Tryz.func107,Tryz.ntmps107
  go_wp2_with fail
  have ra:(w.alloc (.cells #[.int .u64 0,.int .u64 (R:Int)] 27)).heap[w.heap.size]?=some (.cells #[.int .u64 0,.int .u64 (R:Int)] 27):=heap_new0 _ _
  refine (cnumber_any 0 R HU.out.2.1 _ _ (Ok.refl _)).mono ?_
  rintro e w1 ⟨rfl,hb1⟩
  rw [<-HV.out]
  have HK:Hid (Ok w0 w1):=Ok.step (hok.alloc _) hb1
  obtain ⟨a0,a1,_,_⟩:=row_facts (Ok.row' hb1 ra)
  clear ra hb1 hok
  by_cases hc:v<V1
  ·go_wp2_with fail
   (try simp only [Exit.inBlock,Exit.then])
   refine bodyPost_ret (results_tmp2 rfl _ _ _) rfl ?_
   rw [E.out,if_pos hc]
   exact ⟨rfl,HK.out⟩
  ·have HC:Hid _:=hc
   go_wp2_with fail
   refine (cnumber_any 0 R HU.out.2.1 _ _ (Ok.refl _)).mono ?_
   rintro e w2 ⟨rfl,hb2⟩
   rw [<-HV.out]
   go_wp2_with fail
   (try simp only [Exit.inBlock,Exit.then])
   refine bodyPost_ret (results_tmp2 rfl _ _ _) rfl ?_
   rw [E.out,if_neg HC.out]
   exact ⟨rfl,HK.out.step hb2⟩
 ·obtain ⟨f1,hf1⟩:∃ f,f=rF M R:=⟨_,rfl⟩
  obtain ⟨s1,hs1⟩:∃ s,s=rS M R:=⟨_,rfl⟩
  obtain ⟨B,hBb⟩:∃ B,B=bitsN v:=⟨_,rfl⟩
  obtain ⟨f2,hf2⟩:∃ f,f=rF 0 B:=⟨_,rfl⟩
  obtain ⟨s2,hs2⟩:∃ s,s=rS 0 B:=⟨_,rfl⟩
  obtain ⟨Y,hY⟩:∃ Y,Y=restN f1 s1 M:=⟨_,rfl⟩
  obtain ⟨A,hA⟩:∃ A,A=restN f2 s2 M:=⟨_,rfl⟩
  obtain ⟨D,hD⟩:∃ D,D=(M-Y)%M:=⟨_,rfl⟩
  obtain ⟨N,hN⟩:∃ N,N=(A+D)%M:=⟨_,rfl⟩
  have hBU:U64 B:=by rw [hBb];exact bitsN_u64 v
  have E:Hid (downC M R v=if v+9223372036854775808<(N:Int) then (0,false) else (v-(N:Int),true)):=by
   have e:downN M R v=N:=by rw [hN,hD,hY,hA,hf1,hs1,hf2,hs2,hBb];rfl
   unfold Hid downC;rw [if_neg hz,e]
  have HM:Hid (0<M/\Big M/\Big f1/\Big f2):=by
   have a:=HU.out.1
   have b:=rF_rng HU.out.1 HU.out.2.1
   have c:=rF_rng (M:=0) (by unfold U64;omega) hBU
   rw [<-hf1] at b
   rw [<-hf2] at c
   unfold U64 at a;unfold Hid Big;omega
  have yl:Y<M:=by rw [hY];exact restN_lt HM.out.1
  have al:A<M:=by rw [hA];exact restN_lt HM.out.1
  have dl:D<M:=by rw [hD];exact Nat.mod_lt _ HM.out.1
  have nl:N<M:=by rw [hN];exact Nat.mod_lt _ HM.out.1
  have mu:M<18446744073709551616:=HU.out.1
  have hYl:loB Y=(Y:Int):=(big_small (by omega)).2
  have hAl:loB A=(A:Int):=(big_small (by omega)).2
  have hw:IntKind.u64.wrap ((M:Int)-(Y:Int))=(M:Int)-(Y:Int):=by rw [u64w];omega
  have hDd:((M:Int)-(Y:Int))%(M:Int)=(D:Int):=by
   rw [hD,Int.natCast_emod,Int.ofNat_sub (by omega)]
  have hDt:((M:Int)-(Y:Int)).tmod (M:Int)=(D:Int):=by rw [Int.tmod_eq_emod_of_nonneg (by omega)];exact hDd
  have HF:Hid _:=And.intro hf1 (And.intro hs1 (And.intro hBb (And.intro hf2 (And.intro hs2 (And.intro hY (And.intro hA hN))))))
  have HL:Hid _:=And.intro yl (And.intro al (And.intro dl (And.intro nl mu)))
  have hz1:((M:Int)==0)=false:=by simp;omega
  have hz2:¬(M:Int)=0:=by omega
  have hz3:(M==0)=false:=by simp [hz]
  have HBU:Hid _:=hBU
  clear hf1 hs1 hBb hf2 hs2 hY hA hD hN yl al dl nl mu hBU
  unfold cv
  go_enter Tryz.func107,Tryz.ntmps107
  go_wp2_with fail
  obtain ⟨W,hW⟩:∃ W,W=w.alloc (.cells #[.int .u64 (M:Int),.int .u64 (R:Int)] 27):=⟨_,rfl⟩
  have ra:W.heap[w.heap.size]?=some (.cells #[.int .u64 (M:Int),.int .u64 (R:Int)] 27):=by rw [hW];exact jj
  have HW:Hid (Ok w0 W):=by rw [hW];exact (by repeat (first | exact hok | refine Ok.alloc ?_ _ | refine Ok.draws ?_ _ | fail))
  rw [<-hW]
  clear hW hok
  obtain ⟨a0,a1,_,_⟩:=row_facts ra
  have z0:=lt_row ra
  clear ra
  have bz:Ok W W:=Ok.refl _
  go_region_held3 (fun w'=>w'.cell? ⟨w.heap.size,0,none⟩=some (.int .u64 (M:Int))/\w'.cell? ⟨w.heap.size,1,none⟩=some (.int .u64 (R:Int))) (go_keep)
   (first
   | (go_at_call 63;refine (cr_any M R HU.out.1 HU.out.2.1 W _ (by repeat (first | assumption | refine Ok.alloc ?_ _ | refine Below.drew ?_))).mono ?_;rintro e w' ⟨rfl,hb⟩;rw [<-HF.out.1,<-HF.out.2.1];have q0:=Ok.cell hb z0 a0;have q1:=Ok.cell hb z0 a1)
   | (go_at_call 64;refine (bof_any M HU.out.1 W _ (by repeat (first | assumption | refine Ok.alloc ?_ _ | refine Below.drew ?_))).mono ?_;rintro e w' ⟨rfl,hb⟩;have q0:=Ok.cell hb z0 a0;have q1:=Ok.cell hb z0 a1)
   | (go_at_call 62;refine (crest_any f1 s1 M HM.out.2.2.1 HM.out.2.1 HM.out.1 W _ (by repeat (first | assumption | refine Ok.alloc ?_ _ | refine Below.drew ?_))).mono ?_;rintro e w' ⟨rfl,hb⟩;rw [<-HF.out.2.2.2.2.2.1];unfold bv;have q0:=Ok.cell hb z0 a0;have q1:=Ok.cell hb z0 a1)
   | fail)
  go_wp2_with fail
  go_region_held3 (fun w'=>w'.cell? ⟨w.heap.size,0,none⟩=some (.int .u64 (M:Int))/\w'.cell? ⟨w.heap.size,1,none⟩=some (.int .u64 (R:Int))) (go_keep)
   (first
   | (go_at_call 55;refine (cconst_any v W _ (by repeat (first | assumption | refine Ok.alloc ?_ _ | refine Below.drew ?_))).mono ?_;rintro e w' ⟨rfl,hb⟩;rw [<-HF.out.2.2.1];have q0:=Ok.cell hb z0 a0;have q1:=Ok.cell hb z0 a1)
   | (go_at_call 63;refine (cr_any 0 B (by unfold U64;omega) HBU.out W _ (by repeat (first | assumption | refine Ok.alloc ?_ _ | refine Below.drew ?_))).mono ?_;rintro e w' ⟨rfl,hb⟩;rw [<-HF.out.2.2.2.1,<-HF.out.2.2.2.2.1];have q0:=Ok.cell hb z0 a0;have q1:=Ok.cell hb z0 a1)
   | (go_at_call 64;refine (bof_any M HU.out.1 W _ (by repeat (first | assumption | refine Ok.alloc ?_ _ | refine Below.drew ?_))).mono ?_;rintro e w' ⟨rfl,hb⟩;have q0:=Ok.cell hb z0 a0;have q1:=Ok.cell hb z0 a1)
   | (go_at_call 62;refine (crest_any f2 s2 M HM.out.2.2.2 HM.out.2.1 HM.out.1 W _ (by repeat (first | assumption | refine Ok.alloc ?_ _ | refine Below.drew ?_))).mono ?_;rintro e w' ⟨rfl,hb⟩;rw [<-HF.out.2.2.2.2.2.2.1];unfold bv;have q0:=Ok.cell hb z0 a0;have q1:=Ok.cell hb z0 a1)
   | fail)
  go_wp2_with fail
  have hvw:IntKind.u64.wrap (IntKind.u64.wrap v-9223372036854775808)=v+9223372036854775808:=by
   have:=HU.out.2.2;unfold In64 at this;rw [u64w,u64w];omega
  go_region_held3 (fun w'=>w'.cell? ⟨w.heap.size,0,none⟩=some (.int .u64 (M:Int))/\w'.cell? ⟨w.heap.size,1,none⟩=some (.int .u64 (R:Int))) (go_keep)
   (first
   | (go_at_call 167;refine (caddMod_any A D M HL.out.2.1 HL.out.2.2.1 HU.out.1 _).mono ?_;rintro e w'' ⟨rfl,rfl⟩;rw [<-HF.out.2.2.2.2.2.2.2])
   | fail)
  have HK:Hid (Ok w0 w'):=HW.out.step hb
  by_cases hc:v+9223372036854775808<(N:Int)
  ·go_wp2_with fail
   (try simp only [Exit.inBlock,Exit.then])
   refine bodyPost_ret (results_tmp2 rfl _ _ _) rfl ?_
   rw [E.out,if_pos hc]
   exact ⟨rfl,by repeat (first | exact HK.out | refine Ok.draws ?_ 1)⟩
  ·have HC:Hid _:=hc
   have hr:wrap64 (IntKind.u64.wrap (IntKind.u64.wrap v-(N:Int)))=v-(N:Int):=by
    have:=HU.out.2.2;unfold In64 at this;rw [u64w,u64w];unfold wrap64;omega
   go_wp2_with fail
   (try simp only [Exit.inBlock,Exit.then])
   refine bodyPost_ret (results_tmp2 rfl _ _ _) rfl ?_
   rw [E.out,if_neg HC.out]
   exact ⟨rfl,by repeat (first | exact HK.out | refine Ok.draws ?_ 1)⟩
end
section
open Go.RowKit
theorem atN_val {M:Nat} {v:Int} (hM:0<M) (hv:In64 v):(atN M v:Int)=v%(M:Int):=by
 unfold atN;rw [rest_mod hM,rI_zero,wrap_bits hv]
theorem mod_sub_val {M a b:Nat} {x y:Int} (hM:0<M) (ha:(a:Int)=x%(M:Int)) (hb:(b:Int)=y%(M:Int)):(((a+(M-b)%M)%M:Nat):Int)=(x-y)%(M:Int):=by
 have hbl:b<M:=by have:=Int.emod_lt_of_pos y (show (0:Int)<M by omega);omega
 rw [Int.natCast_emod,Int.natCast_add,Int.natCast_emod,Int.ofNat_sub (by omega),Int.add_emod_emod,ha,hb,<-Int.add_sub_assoc,Int.sub_emod_emod]
 rw [Int.emod_eq_emod_iff_emod_sub_eq_zero]
 apply Int.emod_eq_zero_of_dvd
 refine ⟨1-x/(M:Int),?_⟩
 have:=Int.emod_add_mul_ediv x (M:Int)
 rw [Int.mul_sub,Int.mul_one]
 omega
theorem upN_val {M R:Nat} {v:Int} (hM:0<M) (hv:In64 v):(upN M R v:Int)=(rI M R-v)%(M:Int):=mod_sub_val hM (rest_mod hM) (atN_val hM hv)
theorem downN_val {M R:Nat} {v:Int} (hM:0<M) (hv:In64 v):(downN M R v:Int)=(v-rI M R)%(M:Int):=mod_sub_val hM (atN_val hM hv) (rest_mod hM)
theorem next_up {m r v x:Int} (hm:0<m) (hx:m ∣ x-r) (h:v<=x):v+(r-v)%m<=x:=by
 have h1:(x-v)%m=(r-v)%m:=by
  rw [Int.emod_eq_emod_iff_emod_sub_eq_zero,show x-v-(r-v)=x-r by omega]
  exact Int.emod_eq_zero_of_dvd hx
 have h2:=Int.emod_add_mul_ediv (x-v) m
 have h3:0<=m*((x-v)/m):=Int.mul_nonneg (by omega) (Int.ediv_nonneg (by omega) (by omega))
 omega
theorem next_in {m r v:Int}:m ∣ v+(r-v)%m-r:=by
 have:=Int.emod_add_mul_ediv (r-v) m
 exact ⟨-((r-v)/m),by rw [Int.mul_neg];omega⟩
theorem next_down {m r v x:Int} (hm:0<m) (hx:m ∣ x-r) (h:x<=v):x<=v-(v-r)%m:=by
 have h1:(v-x)%m=(v-r)%m:=by
  rw [Int.emod_eq_emod_iff_emod_sub_eq_zero,show v-x-(v-r) = -(x-r) by omega]
  exact Int.emod_eq_zero_of_dvd ((Int.dvd_neg).2 hx)
 have h2:=Int.emod_add_mul_ediv (v-x) m
 have h3:0<=m*((v-x)/m):=Int.mul_nonneg (by omega) (Int.ediv_nonneg (by omega) (by omega))
 omega
theorem prev_in {m r v:Int}:m ∣ v-(v-r)%m-r:=by
 have:=Int.emod_add_mul_ediv (v-r) m
 exact ⟨(v-r)/m,by omega⟩
theorem up_is {M R:Nat} {v:Int} (hv:In64 v) :
  ((upC M R v).2=true->MemC M R (upC M R v).1/\v<=(upC M R v).1/\In64 (upC M R v).1/\∀ x,MemC M R x->v<=x->(upC M R v).1<=x) /\
  ((upC M R v).2=false->(upC M R v).1=0/\∀ x,MemC M R x->In64 x->x<v):=by
 unfold upC
 by_cases hM:M=0
 ·subst hM
  rw [if_pos rfl]
  by_cases h:wrap64 (R:Int)<v
  ·rw [if_pos h]
   refine ⟨by simp,fun _=>⟨rfl,fun x hx _=>?_⟩⟩
   rw [memC_zero] at hx;omega
  ·rw [if_neg h]
   refine ⟨fun _=>⟨memC_zero.2 rfl,by simp only;omega,wrap64_in _,fun x hx _=>?_⟩,by simp⟩
   rw [memC_zero] at hx;simp only;omega
 ·rw [if_neg hM,upN_val (by omega) hv]
  have hm:(0:Int)<(M:Int):=by omega
  have n0:=Int.emod_nonneg (rI M R-v) (show (M:Int)≠0 by omega)
  unfold In64 at hv
  by_cases h:9223372036854775807-v<(rI M R-v)%(M:Int)
  ·rw [if_pos h]
   refine ⟨by simp,fun _=>⟨rfl,fun x hx hi=>?_⟩⟩
   rw [memC_dvd] at hx
   unfold In64 at hi
   by_cases c:v<=x
   ·have:=next_up hm hx c;omega
   ·omega
  ·rw [if_neg h]
   refine ⟨fun _=>⟨(memC_dvd _ _ _).2 next_in,by simp only;omega,by unfold In64;simp only;omega,fun x hx c=>next_up hm ((memC_dvd _ _ _).1 hx) c⟩,by simp⟩
theorem down_is {M R:Nat} {v:Int} (hv:In64 v) :
  ((downC M R v).2=true->MemC M R (downC M R v).1/\(downC M R v).1<=v/\In64 (downC M R v).1/\∀ x,MemC M R x->x<=v->x<=(downC M R v).1) /\
  ((downC M R v).2=false->(downC M R v).1=0/\∀ x,MemC M R x->In64 x->v<x):=by
 unfold downC
 by_cases hM:M=0
 ·subst hM
  rw [if_pos rfl]
  by_cases h:v<wrap64 (R:Int)
  ·rw [if_pos h]
   refine ⟨by simp,fun _=>⟨rfl,fun x hx _=>?_⟩⟩
   rw [memC_zero] at hx;omega
  ·rw [if_neg h]
   refine ⟨fun _=>⟨memC_zero.2 rfl,by simp only;omega,wrap64_in _,fun x hx _=>?_⟩,by simp⟩
   rw [memC_zero] at hx;simp only;omega
 ·rw [if_neg hM,downN_val (by omega) hv]
  have hm:(0:Int)<(M:Int):=by omega
  have n0:=Int.emod_nonneg (v-rI M R) (show (M:Int)≠0 by omega)
  unfold In64 at hv
  by_cases h:v+9223372036854775808<(v-rI M R)%(M:Int)
  ·rw [if_pos h]
   refine ⟨by simp,fun _=>⟨rfl,fun x hx hi=>?_⟩⟩
   rw [memC_dvd] at hx
   unfold In64 at hi
   by_cases c:x<=v
   ·have:=next_down hm hx c;omega
   ·omega
  ·rw [if_neg h]
   refine ⟨fun _=>⟨(memC_dvd _ _ _).2 prev_in,by simp only;omega,by unfold In64;simp only;omega,fun x hx c=>next_down hm ((memC_dvd _ _ _).1 hx) c⟩,by simp⟩
end
end Go.Proofs.YtnjmjnmhldhaoaaGreat
