import Derived.Test.YtnjmjnmhldhaoaaGreatKJr
set_option linter.all false
namespace Go.Proofs.YtnjmjnmhldhaoaaGreat
open Go.RowKit
def rowV (l h:Int):Obj:=.cells #[.int .i64 l,.int .i64 h] 24
theorem pisnone_any (l h:Int) (w0 w:World) (hok:Ok w0 w) :
  Calls Tryz.prog 199 #[.agg #[.int .i64 l,.int .i64 h]] w fun e w'=>e=.returned (.bool (decide (h<l)))/\Ok w0 w':=by
 refine (pisnone_ex l h w).mono ?_
 rintro e w' ⟨rfl,rfl⟩
 exact ⟨rfl,hok.alloc _⟩
theorem pisone_any (l h:Int) (w0 w:World) (hok:Ok w0 w) :
  Calls Tryz.prog 232 #[.agg #[.int .i64 l,.int .i64 h]] w fun e w'=>e=.returned (.bool (decide (l=h)))/\Ok w0 w':=by
 refine (Jpisone_ex l h w).mono ?_
 rintro e w' ⟨rfl,rfl⟩
 exact ⟨rfl,hok.alloc _⟩
theorem pnone_any (w0 w:World) (hok:Ok w0 w) :
  Calls Tryz.prog 200 #[] w fun e w'=>e=.returned (.agg #[.int .i64 1,.int .i64 0])/\Ok w0 w':=by
 refine (pnone_ex w).mono ?_
 rintro e w' ⟨rfl,rfl⟩
 exact ⟨rfl,hok.alloc _⟩
theorem pwrem_o (a b:Int) (hb:b≠0) (w0 w:World) (hok:Ok w0 w) :
  Calls Tryz.prog 246 #[.int .i64 a,.int .i64 b] w fun e w'=>e=.returned (.tuple #[.int .i64 (a.tmod b),.bool true])/\Ok w0 w':=by
 refine (pwrem_any a b hb w).mono ?_
 rintro e w' ⟨rfl,rfl⟩
 exact ⟨rfl,hok⟩
theorem pfarthest_is (l h B:Int) (e:max (farI l) (farI h)=B) (hl:In64 l) (hh:In64 h) (w0 w:World) (hok:Ok w0 w) :
  Calls Tryz.prog 247 #[.agg #[.int .i64 l,.int .i64 h]] w fun e w'=>e=.returned (.int .u64 B)/\Ok w0 w':=by
 rw [<-e];exact pfarthest_any l h hl hh w0 w hok
def NearAt (l h N:Int):Prop:=In64 l/\In64 h/\nearF l h=N
theorem pnearest_o (l h N:Int) (e:NearAt l h N) (w0 w:World) (hok:Ok w0 w) :
  Calls Tryz.prog 248 #[.agg #[.int .i64 l,.int .i64 h]] w fun e w'=>e=.returned (.int .u64 N)/\Ok w0 w':=by
 rw [<-e.2.2];exact pnearest_any l h e.1 e.2.1 w0 w hok
theorem near_rem {bl bh:Int} (h1:In64 bl) (h2:In64 bh):remNear bl bh=min (nearF (rDn bl bh).1 (rDn bl bh).2) (nearF (rUp bl bh).1 (rUp bl bh).2):=by
 have e1:nearF (rDn bl bh).1 (rDn bl bh).2=(if (rDn bl bh).2<(rDn bl bh).1 then 18446744073709551615 else farI (rDn bl bh).2):=by
  unfold nearF
  rcases rDn_cases h1 h2 with c | c
  ·rw [c];rfl
  ·rw [if_neg (by omega),if_neg (by omega)];unfold farI;split<;>split<;>omega
 have e2:nearF (rUp bl bh).1 (rUp bl bh).2=(if (rUp bl bh).2<(rUp bl bh).1 then 18446744073709551615 else farI (rUp bl bh).1):=by
  unfold nearF
  rcases rUp_cases h1 h2 with c | c
  ·rw [c];rfl
  ·rw [if_neg (by omega),if_neg (by omega)];unfold farI;split<;>split<;>omega
 rw [e1,e2];rfl
theorem most_rem {bl bh:Int} (h1:In64 bl) (h2:In64 bh) (hn:¬((rDn bl bh).2<(rDn bl bh).1/\(rUp bl bh).2<(rUp bl bh).1)):remMost bl bh=max (farI bl) (farI bh):=by
 unfold remMost
 unfold rDn rUp meetI at *
 unfold In64 at h1 h2
 rcases normR (max bl (-9223372036854775808)) (min bh (-1)) with ⟨a1,a2⟩ | ⟨a1,a2⟩<;>rcases normR (max bl 1) (min bh 9223372036854775807) with ⟨c1,c2⟩ | ⟨c1,c2⟩<;>rw [a2,c2] at hn ⊢ <;> simp only at hn ⊢
 ·exact absurd ⟨by omega,by omega⟩ hn
 ·rw [if_pos (by omega),if_neg (by omega)];unfold farI;split<;>split<;>split<;>omega
 ·rw [if_neg (by omega),if_pos (by omega)];unfold farI;split<;>split<;>split<;>omega
 ·rw [if_neg (by omega),if_neg (by omega)];unfold farI;split<;>split<;>split<;>split<;>omega
theorem dn_in {bl bh:Int} (h1:In64 bl) (h2:In64 bh):In64 (rDn bl bh).1/\In64 (rDn bl bh).2:=by
 rcases rDn_cases h1 h2 with c | c
 ·rw [c];unfold In64;simp
 ·unfold In64;omega
theorem up_in {bl bh:Int} (h1:In64 bl) (h2:In64 bh):In64 (rUp bl bh).1/\In64 (rUp bl bh).2:=by
 rcases rUp_cases h1 h2 with c | c
 ·rw [c];unfold In64;simp
 ·unfold In64;omega
theorem rem_nz {bl bh:Int} (h:bl=bh) (hn:¬((rDn bl bh).2<(rDn bl bh).1/\(rUp bl bh).2<(rUp bl bh).1)):bl≠0:=by
 rintro rfl
 subst h
 exact hn ⟨by decide,by decide⟩
theorem rem_one {a b:Int}:(if b = -1 then 0 else a.tmod b)=a.tmod b:=by
 split
 ·rename_i h;subst h;rw [Int.tmod_neg,Int.tmod_one]
 ·rfl
theorem bound_u {B:Int} (h:1<=B/\B<=9223372036854775808):IntKind.u64.wrap (B-1)=B-1:=by rw [u64w];omega
theorem far_pos1 {bl bh:Int} (h1:In64 bl) (h2:In64 bh) (hn:¬((rDn bl bh).2<(rDn bl bh).1/\(rUp bl bh).2<(rUp bl bh).1)):1<=max (farI bl) (farI bh)/\max (farI bl) (farI bh)<=9223372036854775808:=by
 have b1:=far_bd bl h1
 have b2:=far_bd bh h2
 refine ⟨?_,by omega⟩
 by_cases c:bl=0/\bh=0
 ·obtain ⟨rfl,rfl⟩:=c
  exact absurd ⟨by decide,by decide⟩ hn
 ·unfold farI;split<;>split<;>omega
set_option maxHeartbeats 4000000 in
theorem Jprem_any (al ah bl bh:Int) (w0 w:World) (hok:Ok w0 w) (ha1:In64 al) (ha2:In64 ah) (hb1:In64 bl) (hb2:In64 bh) :
  Calls Tryz.prog 210 #[.agg #[.int .i64 al,.int .i64 ah],.agg #[.int .i64 bl,.int .i64 bh]] w fun e w'=>e=.returned (.tuple #[.agg #[.int .i64 (remI al ah bl bh).1,.int .i64 (remI al ah bl bh).2.1],.bool (remI al ah bl bh).2.2])/\Ok w0 w':=by
 obtain ⟨⟨D1,D2⟩,hD⟩:∃ p,rDn bl bh=p:=⟨_,rfl⟩
 obtain ⟨⟨U1,U2⟩,hU⟩:∃ p,rUp bl bh=p:=⟨_,rfl⟩
 have hDi:=dn_in hb1 hb2
 have hUi:=up_in hb1 hb2
 rw [hD] at hDi
 rw [hU] at hUi
 have HI:Hid (In64 al/\In64 ah/\In64 bl/\In64 bh):=⟨ha1,ha2,hb1,hb2⟩
 have HD:Hid (rDn bl bh=(D1,D2)):=hD
 have HU:Hid (rUp bl bh=(U1,U2)):=hU
 obtain ⟨N1,HN1⟩:∃ N1,Hid (NearAt D1 D2 N1):=⟨_,hDi.1,hDi.2,rfl⟩
 obtain ⟨N2,HN2⟩:∃ N2,Hid (NearAt U1 U2 N2):=⟨_,hUi.1,hUi.2,rfl⟩
 obtain ⟨FA,HF⟩:∃ FA,Hid (max (farI al) (farI ah)=FA):=⟨_,rfl⟩
 obtain ⟨B,HB⟩:∃ B,Hid (max (farI bl) (farI bh)=B):=⟨_,rfl⟩
 have ER:Hid (remNear bl bh=min N1 N2):=by unfold Hid;rw [near_rem hb1 hb2,hD,hU];rw [show nearF (D1,D2).1 (D1,D2).2=N1 from HN1.out.2.2,show nearF (U1,U2).1 (U1,U2).2=N2 from HN2.out.2.2]
 have hmf:∀ (fn:Fn) (first cap:Array Value) (w:World),(Instr.makeFunc fn first cap).run Tryz.prog w=.ok (.func fn first cap) w:=fun _ _ _ _=>rfl
 have hle:=hok.le
 clear hD hU hDi hUi ha1 ha2 hb1 hb2
 go_enter Tryz.func210,Tryz.ntmps210
 go_wp2_with (first | (go_at_call 240;refine (pupto_ex _ _).mono ?_;rintro e w' ⟨rfl,rfl⟩) | fail)
 refine (pwithin_any _ _ _ _ _ _ (Ok.refl _)).mono ?_
 rw [show meetI bl bh (-9223372036854775808) (-1)=(D1,D2) from HD.out]
 rintro e w1 ⟨rfl,hb1⟩
 have HA:Hid (w1.heap[w.heap.size]?=some (rowV al ah)/\w1.heap[w.heap.size+1]?=some (rowV bl bh)/\w1.heap[w.heap.size+2]?=some (rowV 0 0)/\Ok w0 w1):=⟨Ok.row' hb1 jj,Ok.row' hb1 jj,Ok.row' hb1 jj,Ok.step (by repeat (first | exact hok | refine Ok.alloc ?_ _ | refine Ok.draws ?_ _ | fail)) hb1⟩
 clear hb1
 go_wp2_with (first | (go_at_call 242;refine (pfrom_ex _ _).mono ?_;rintro e w' ⟨rfl,rfl⟩) | fail)
 refine (pwithin_any _ _ _ _ _ _ (Ok.refl _)).mono ?_
 rw [show meetI bl bh 1 9223372036854775807=(U1,U2) from HU.out]
 rintro e w2 ⟨rfl,hb2⟩
 have HA2:Hid (w2.heap[w.heap.size]?=some (rowV al ah)/\w2.heap[w.heap.size+1]?=some (rowV bl bh)/\w2.heap[w.heap.size+2]?=some (rowV 0 0)/\Ok w0 w2):=by
  have hb3:Ok w1 w2:=Ok.step ((Ok.refl _).alloc _) hb2
  exact ⟨Ok.row' hb3 HA.out.1,Ok.row' hb3 HA.out.2.1,Ok.row' hb3 HA.out.2.2.1,Ok.step HA.out.2.2.2 hb3⟩
 have s0:=lt_row HA2.out.1;have s1:=lt_row HA2.out.2.1;have s2:=lt_row HA2.out.2.2.1
 obtain ⟨a0,a1,_,_⟩:=row_facts HA2.out.1
 have t0:¬w.heap.size=w2.heap.size:=by omega
 have t1:¬w.heap.size=w2.heap.size+1:=by omega
 have t2:w.heap.size<w2.heap.size+1:=by omega
 clear HA hb2
 go_wp2_with fail
 obtain ⟨gd,hgd⟩:∃ gd,gd=w2.heap.size:=⟨_,rfl⟩
 obtain ⟨gu,hgu⟩:∃ gu,gu=w2.heap.size+1:=⟨_,rfl⟩
 obtain ⟨Y,hY⟩:∃ Y,Y=(w2.alloc (.cells #[.int .i64 D1,.int .i64 D2] 24)).alloc (.cells #[.int .i64 U1,.int .i64 U2] 24):=⟨_,rfl⟩
 have ok2:Ok w2 Y:=by rw [hY];exact ((Ok.refl _).alloc _).alloc _
 have rd:Y.heap[gd]?=some (rowV D1 D2):=by rw [hY,hgd];exact heap_past _ _ _ (by simp) (heap_new0 _ _)
 have ru:Y.heap[gu]?=some (rowV U1 U2):=by rw [hY,hgu];exact heap_at _ _ _ (by simp)
 rw [<-hY,<-hgu,<-hgd]
 clear hY hgd hgu t0 t1 t2 a0 a1 s0 s1 s2
 have ra:=Ok.row' ok2 HA2.out.1
 have rb:=Ok.row' ok2 HA2.out.2.1
 have HY:Hid (Y.heap[w.heap.size+2]?=some (rowV 0 0)/\Ok w0 Y/\w0.heap.size<=w.heap.size):=⟨Ok.row' ok2 HA2.out.2.2.1,Ok.step HA2.out.2.2.2 ok2,hle⟩
 obtain ⟨a0,a1,_,_⟩:=row_facts ra
 obtain ⟨b0,b1,_,_⟩:=row_facts rb
 obtain ⟨d0,d1,_,_⟩:=row_facts rd
 obtain ⟨u0,u1,_,_⟩:=row_facts ru
 obtain ⟨r0,r1,r2,r3⟩:=row_facts HY.out.1
 have ya:=lt_row ra;have yb:=lt_row rb;have yd:=lt_row rd;have yu:=lt_row ru
 have hbN:Ok Y Y:=Ok.refl _
 clear ra rb rd ru ok2 HA2 hok hle
 by_cases c1:ah<al
 ·have k1:decide (ah<al)=true:=decide_eq_true c1
  have E:Hid (remI al ah bl bh=(1,0,true)):=by unfold Hid remI;rw [if_pos (Or.inl c1)]
  go_wp2_with (first | (go_at_call 199;refine (pisnone_any _ _ Y _ (by assumption)).mono ?_;rintro e wN ⟨rfl,hbN⟩;have a0':=Ok.cell hbN ya a0;have a1':=Ok.cell hbN ya a1;have b0':=Ok.cell hbN yb b0;have b1':=Ok.cell hbN yb b1;have d0':=Ok.cell hbN yd d0;have d1':=Ok.cell hbN yd d1;have u0':=Ok.cell hbN yu u0;have u1':=Ok.cell hbN yu u1;obtain ⟨r0',r1',r2',r3'⟩:=row_facts (Ok.row' hbN HY.out.1)) | (go_at_call 200;refine (pnone_any Y _ (by assumption)).mono ?_;rintro e wN ⟨rfl,hbN⟩;have a0':=Ok.cell hbN ya a0;have a1':=Ok.cell hbN ya a1;have b0':=Ok.cell hbN yb b0;have b1':=Ok.cell hbN yb b1;have d0':=Ok.cell hbN yd d0;have d1':=Ok.cell hbN yd d1;have u0':=Ok.cell hbN yu u0;have u1':=Ok.cell hbN yu u1;obtain ⟨r0',r1',r2',r3'⟩:=row_facts (Ok.row' hbN HY.out.1)) | fail)
  (try simp only [Exit.inBlock,Exit.then])
  refine bodyPost_ret (results_iv rfl _ _ (w.heap.size+2) 24 #[_,_] (0,0) _ rfl (row_set2 (Ok.row' hbN HY.out.1) _ _) Tryz.underlying24 rfl infoI) rfl ?_
  have hw:=HY.out.2.2
  exact ⟨retib E.out,((Ok.step HY.out.2.1 hbN).set (show w0.heap.size<=w.heap.size+2 by omega) _).set (show w0.heap.size<=w.heap.size+2 by omega) _⟩
 ·have k1:decide (ah<al)=false:=decide_eq_false c1
  by_cases c2:D2<D1/\U2<U1
  ·have k2:decide (D2<D1)=true:=decide_eq_true c2.1
   have k3:decide (U2<U1)=true:=decide_eq_true c2.2
   have E:Hid (remI al ah bl bh=(1,0,true)):=by unfold Hid remI;rw [if_pos (Or.inr (by rw [HD.out,HU.out];exact c2))]
   clear c2
   go_wp2_with (first | (go_at_call 199;refine (pisnone_any _ _ Y _ (by assumption)).mono ?_;rintro e wN ⟨rfl,hbN⟩;have a0':=Ok.cell hbN ya a0;have a1':=Ok.cell hbN ya a1;have b0':=Ok.cell hbN yb b0;have b1':=Ok.cell hbN yb b1;have d0':=Ok.cell hbN yd d0;have d1':=Ok.cell hbN yd d1;have u0':=Ok.cell hbN yu u0;have u1':=Ok.cell hbN yu u1;obtain ⟨r0',r1',r2',r3'⟩:=row_facts (Ok.row' hbN HY.out.1)) | (go_at_call 200;refine (pnone_any Y _ (by assumption)).mono ?_;rintro e wN ⟨rfl,hbN⟩;have a0':=Ok.cell hbN ya a0;have a1':=Ok.cell hbN ya a1;have b0':=Ok.cell hbN yb b0;have b1':=Ok.cell hbN yb b1;have d0':=Ok.cell hbN yd d0;have d1':=Ok.cell hbN yd d1;have u0':=Ok.cell hbN yu u0;have u1':=Ok.cell hbN yu u1;obtain ⟨r0',r1',r2',r3'⟩:=row_facts (Ok.row' hbN HY.out.1)) | fail)
   (try simp only [Exit.inBlock,Exit.then])
   refine bodyPost_ret (results_iv rfl _ _ (w.heap.size+2) 24 #[_,_] (0,0) _ rfl (row_set2 (Ok.row' hbN HY.out.1) _ _) Tryz.underlying24 rfl infoI) rfl ?_
   have hw:=HY.out.2.2
   exact ⟨retib E.out,((Ok.step HY.out.2.1 hbN).set (show w0.heap.size<=w.heap.size+2 by omega) _).set (show w0.heap.size<=w.heap.size+2 by omega) _⟩
  ·have HC:Hid (¬(ah<al\/((rDn bl bh).2<(rDn bl bh).1/\(rUp bl bh).2<(rUp bl bh).1))):=by
    rintro (h | h)
    ·exact c1 h
    ·rw [HD.out,HU.out] at h;exact c2 h
   have HC2:Hid (¬((rDn bl bh).2<(rDn bl bh).1/\(rUp bl bh).2<(rUp bl bh).1)):=fun h=>HC.out (Or.inr h)
   have hB1:=far_pos1 HI.out.2.2.1 HI.out.2.2.2 HC2.out
   rw [HB.out] at hB1
   have HM:Hid (remMost bl bh=B):=by unfold Hid;rw [most_rem HI.out.2.2.1 HI.out.2.2.2 HC2.out,HB.out]
   have HP:Hid (1<=B/\B<=9223372036854775808):=hB1
   obtain ⟨P,hP⟩:∃ P,B-1=P:=⟨_,rfl⟩
   have HW1:Hid (wrap64 (IntKind.u64.wrap (B-1))=P):=by unfold Hid;rw [bound_u hB1,hP];exact wrap64_id ⟨by omega,by omega⟩
   have HW2:Hid (wrap64 (-wrap64 (IntKind.u64.wrap (B-1))) = -P):=by unfold Hid;rw [HW1.out];exact wrap64_id ⟨by omega,by omega⟩
   have HPB:Hid (B-1=P):=hP
   clear hP hB1
   rcases hDn:decide (D2<D1) with _ | _
   ·clear c2
    by_cases c3:al=ah
    ·have k4:decide (al=ah)=true:=decide_eq_true c3
     by_cases c4:bl=bh
     ·have k5:decide (bl=bh)=true:=decide_eq_true c4
      have HZ:Hid (bl≠0):=rem_nz c4 HC2.out
      have E:Hid (remI al ah bl bh=(al.tmod bl,al.tmod bl,true)):=by unfold Hid remI;rw [if_neg HC.out,if_pos ⟨c3,c4⟩,rem_one]
      clear c3 c4
      go_wp2_with (first | (go_at_call 199;refine (pisnone_any _ _ Y _ (by assumption)).mono ?_;rintro e wN ⟨rfl,hbN⟩;have a0':=Ok.cell hbN ya a0;have a1':=Ok.cell hbN ya a1;have b0':=Ok.cell hbN yb b0;have b1':=Ok.cell hbN yb b1;have d0':=Ok.cell hbN yd d0;have d1':=Ok.cell hbN yd d1;have u0':=Ok.cell hbN yu u0;have u1':=Ok.cell hbN yu u1;obtain ⟨r0',r1',r2',r3'⟩:=row_facts (Ok.row' hbN HY.out.1)) | (go_at_call 232;refine (pisone_any _ _ Y _ (by assumption)).mono ?_;rintro e wN ⟨rfl,hbN⟩;have a0':=Ok.cell hbN ya a0;have a1':=Ok.cell hbN ya a1;have b0':=Ok.cell hbN yb b0;have b1':=Ok.cell hbN yb b1;have d0':=Ok.cell hbN yd d0;have d1':=Ok.cell hbN yd d1;have u0':=Ok.cell hbN yu u0;have u1':=Ok.cell hbN yu u1;obtain ⟨r0',r1',r2',r3'⟩:=row_facts (Ok.row' hbN HY.out.1)) | (go_at_call 246;refine (pwrem_o _ _ HZ.out Y _ (by assumption)).mono ?_;rintro e wN ⟨rfl,hbN⟩;have a0':=Ok.cell hbN ya a0;have a1':=Ok.cell hbN ya a1;have b0':=Ok.cell hbN yb b0;have b1':=Ok.cell hbN yb b1;have d0':=Ok.cell hbN yd d0;have d1':=Ok.cell hbN yd d1;have u0':=Ok.cell hbN yu u0;have u1':=Ok.cell hbN yu u1;obtain ⟨r0',r1',r2',r3'⟩:=row_facts (Ok.row' hbN HY.out.1)) | fail)
      (try simp only [Exit.inBlock,Exit.then])
      refine bodyPost_ret (results_iv rfl _ _ (w.heap.size+2) 24 #[_,_] (0,0) _ rfl (row_set2 (Ok.row' hbN HY.out.1) _ _) Tryz.underlying24 rfl infoI) rfl ?_
      have hw:=HY.out.2.2
      exact ⟨retib E.out,((Ok.step HY.out.2.1 hbN).set (show w0.heap.size<=w.heap.size+2 by omega) _).set (show w0.heap.size<=w.heap.size+2 by omega) _⟩
     ·have k5:decide (bl=bh)=false:=decide_eq_false c4
      have HQ:Hid (¬(al=ah/\bl=bh)):=fun h=>c4 h.2
      clear c3 c4
      go_wp2_with (first | (go_at_call 199;refine (pisnone_any _ _ Y _ (by assumption)).mono ?_;rintro e wN ⟨rfl,hbN⟩;have a0':=Ok.cell hbN ya a0;have a1':=Ok.cell hbN ya a1;have b0':=Ok.cell hbN yb b0;have b1':=Ok.cell hbN yb b1;have d0':=Ok.cell hbN yd d0;have d1':=Ok.cell hbN yd d1;have u0':=Ok.cell hbN yu u0;have u1':=Ok.cell hbN yu u1;obtain ⟨r0',r1',r2',r3'⟩:=row_facts (Ok.row' hbN HY.out.1)) | (go_at_call 232;refine (pisone_any _ _ Y _ (by assumption)).mono ?_;rintro e wN ⟨rfl,hbN⟩;have a0':=Ok.cell hbN ya a0;have a1':=Ok.cell hbN ya a1;have b0':=Ok.cell hbN yb b0;have b1':=Ok.cell hbN yb b1;have d0':=Ok.cell hbN yd d0;have d1':=Ok.cell hbN yd d1;have u0':=Ok.cell hbN yu u0;have u1':=Ok.cell hbN yu u1;obtain ⟨r0',r1',r2',r3'⟩:=row_facts (Ok.row' hbN HY.out.1)) | fail)
      by_cases c5:N2<N1
      ·have ER2:Hid (remNear bl bh=N2):=by unfold Hid;rw [ER.out];omega
       by_cases c6:FA<N2
       ·have E:Hid (remI al ah bl bh=(al,ah,true)):=remI_near HC.out HQ.out (by rw [HF.out,ER2.out];exact c6)
        have za:=Nat.lt_of_lt_of_le ya hbN.le
        have zb:=Nat.lt_of_lt_of_le yb hbN.le
        have zd:=Nat.lt_of_lt_of_le yd hbN.le
        have zu:=Nat.lt_of_lt_of_le yu hbN.le
        have bx:Ok wN wN:=Ok.refl _
        have bx':Ok wN wN.drew:=Below.drew (Ok.refl _)
        go_region_held3 (fun w'=>w'.cell? ⟨w.heap.size,0,none⟩=some (.int .i64 al)/\w'.cell? ⟨w.heap.size,1,none⟩=some (.int .i64 ah)/\w'.cell? ⟨gd,0,none⟩=some (.int .i64 D1)/\w'.cell? ⟨gd,1,none⟩=some (.int .i64 D2)/\w'.cell? ⟨gu,0,none⟩=some (.int .i64 U1)/\w'.cell? ⟨gu,1,none⟩=some (.int .i64 U2)) (go_keep)
         (first
         | (go_at_call 247;refine (pfarthest_is _ _ FA HF.out HI.out.1 HI.out.2.1 wN _ (by assumption)).mono ?_;rintro e wM ⟨rfl,hbM⟩;have a0'':=Ok.cell hbM za a0';have a1'':=Ok.cell hbM za a1';have d0'':=Ok.cell hbM zd d0';have d1'':=Ok.cell hbM zd d1';have u0'':=Ok.cell hbM zu u0';have u1'':=Ok.cell hbM zu u1')
         | (go_at_call 248;refine (pnearest_o _ _ _ (by first | exact HN1.out | exact HN2.out) wN _ (by assumption)).mono ?_;rintro e wM ⟨rfl,hbM⟩;have a0'':=Ok.cell hbM za a0';have a1'':=Ok.cell hbM za a1';have d0'':=Ok.cell hbM zd d0';have d1'':=Ok.cell hbM zd d1';have u0'':=Ok.cell hbM zu u0';have u1'':=Ok.cell hbM zu u1')
         | fail)
        have hbW:Ok Y wM:=Ok.step hbN hbM
        have q0:=Ok.cell hbW ya a0;have q1:=Ok.cell hbW ya a1
        obtain ⟨r0'',r1'',r2'',r3''⟩:=row_facts (Ok.row' hbW HY.out.1)
        go_wp2_with fail
        (try simp only [Exit.inBlock,Exit.then])
        refine bodyPost_ret (results_iv rfl _ _ (w.heap.size+2) 24 #[_,_] (0,0) _ rfl (row_set2 (Ok.row' hbW HY.out.1) _ _) Tryz.underlying24 rfl infoI) rfl ?_
        have hw:=HY.out.2.2
        exact ⟨retib E.out,((Ok.step HY.out.2.1 hbW).set (show w0.heap.size<=w.heap.size+2 by omega) _).set (show w0.heap.size<=w.heap.size+2 by omega) _⟩
       ·replace c6:N2<=FA:=by omega
        have E:Hid (remI al ah bl bh=(min 0 (max al (-P)),max 0 (min ah P),true)):=by unfold Hid;rw [remI_far HC.out HQ.out (by rw [HF.out,ER2.out];omega),HM.out,HPB.out]
        have za:=Nat.lt_of_lt_of_le ya hbN.le
        have zb:=Nat.lt_of_lt_of_le yb hbN.le
        have zd:=Nat.lt_of_lt_of_le yd hbN.le
        have zu:=Nat.lt_of_lt_of_le yu hbN.le
        have bx:Ok wN wN:=Ok.refl _
        have bx':Ok wN wN.drew:=Below.drew (Ok.refl _)
        go_region_held3 (fun w'=>w'.cell? ⟨w.heap.size,0,none⟩=some (.int .i64 al)/\w'.cell? ⟨w.heap.size,1,none⟩=some (.int .i64 ah)/\w'.cell? ⟨gd,0,none⟩=some (.int .i64 D1)/\w'.cell? ⟨gd,1,none⟩=some (.int .i64 D2)/\w'.cell? ⟨gu,0,none⟩=some (.int .i64 U1)/\w'.cell? ⟨gu,1,none⟩=some (.int .i64 U2)) (go_keep)
         (first
         | (go_at_call 247;refine (pfarthest_is _ _ FA HF.out HI.out.1 HI.out.2.1 wN _ (by assumption)).mono ?_;rintro e wM ⟨rfl,hbM⟩;have a0'':=Ok.cell hbM za a0';have a1'':=Ok.cell hbM za a1';have d0'':=Ok.cell hbM zd d0';have d1'':=Ok.cell hbM zd d1';have u0'':=Ok.cell hbM zu u0';have u1'':=Ok.cell hbM zu u1')
         | (go_at_call 248;refine (pnearest_o _ _ _ (by first | exact HN1.out | exact HN2.out) wN _ (by assumption)).mono ?_;rintro e wM ⟨rfl,hbM⟩;have a0'':=Ok.cell hbM za a0';have a1'':=Ok.cell hbM za a1';have d0'':=Ok.cell hbM zd d0';have d1'':=Ok.cell hbM zd d1';have u0'':=Ok.cell hbM zu u0';have u1'':=Ok.cell hbM zu u1')
         | fail)
        have ha0:=Ok.cell hbM za a0'
        have hbW:Ok Y wM:=Ok.step hbN hbM
        have q0:=Ok.cell hbW ya a0;have q1:=Ok.cell hbW ya a1;have q2:=Ok.cell hbW yb b0;have q3:=Ok.cell hbW yb b1
        go_wp2_with (first | (go_at_call 247;refine (pfarthest_is _ _ B HB.out HI.out.2.2.1 HI.out.2.2.2 Y _ hbW).mono ?_;rintro e wN ⟨rfl,hbN⟩;have a0':=Ok.cell hbN ya a0;have a1':=Ok.cell hbN ya a1;have b0':=Ok.cell hbN yb b0;have b1':=Ok.cell hbN yb b1;have d0':=Ok.cell hbN yd d0;have d1':=Ok.cell hbN yd d1;have u0':=Ok.cell hbN yu u0;have u1':=Ok.cell hbN yu u1;obtain ⟨r0',r1',r2',r3'⟩:=row_facts (Ok.row' hbN HY.out.1)) | fail)
        all_goals (try simp only [Exit.inBlock,Exit.then])
        all_goals refine bodyPost_ret (results_iv rfl _ _ (w.heap.size+2) 24 #[_,_] (0,0) _ rfl (row_set2 (Ok.row' hbN HY.out.1) _ _) Tryz.underlying24 rfl infoI) rfl ?_
        all_goals (have hw:=HY.out.2.2;refine ⟨retib (E.out.trans ?_),((Ok.step HY.out.2.1 hbN).set (show w0.heap.size<=w.heap.size+2 by omega) _).set (show w0.heap.size<=w.heap.size+2 by omega) _⟩;simp only [Prod.mk.injEq,and_true];have e1:=HW1.out;have e2:=HW2.out;omega)
      ·replace c5:N1<=N2:=by omega
       have ER2:Hid (remNear bl bh=N1):=by unfold Hid;rw [ER.out];omega
       by_cases c6:FA<N1
       ·have E:Hid (remI al ah bl bh=(al,ah,true)):=remI_near HC.out HQ.out (by rw [HF.out,ER2.out];exact c6)
        have za:=Nat.lt_of_lt_of_le ya hbN.le
        have zb:=Nat.lt_of_lt_of_le yb hbN.le
        have zd:=Nat.lt_of_lt_of_le yd hbN.le
        have zu:=Nat.lt_of_lt_of_le yu hbN.le
        have bx:Ok wN wN:=Ok.refl _
        have bx':Ok wN wN.drew:=Below.drew (Ok.refl _)
        go_region_held3 (fun w'=>w'.cell? ⟨w.heap.size,0,none⟩=some (.int .i64 al)/\w'.cell? ⟨w.heap.size,1,none⟩=some (.int .i64 ah)/\w'.cell? ⟨gd,0,none⟩=some (.int .i64 D1)/\w'.cell? ⟨gd,1,none⟩=some (.int .i64 D2)/\w'.cell? ⟨gu,0,none⟩=some (.int .i64 U1)/\w'.cell? ⟨gu,1,none⟩=some (.int .i64 U2)) (go_keep)
         (first
         | (go_at_call 247;refine (pfarthest_is _ _ FA HF.out HI.out.1 HI.out.2.1 wN _ (by assumption)).mono ?_;rintro e wM ⟨rfl,hbM⟩;have a0'':=Ok.cell hbM za a0';have a1'':=Ok.cell hbM za a1';have d0'':=Ok.cell hbM zd d0';have d1'':=Ok.cell hbM zd d1';have u0'':=Ok.cell hbM zu u0';have u1'':=Ok.cell hbM zu u1')
         | (go_at_call 248;refine (pnearest_o _ _ _ (by first | exact HN1.out | exact HN2.out) wN _ (by assumption)).mono ?_;rintro e wM ⟨rfl,hbM⟩;have a0'':=Ok.cell hbM za a0';have a1'':=Ok.cell hbM za a1';have d0'':=Ok.cell hbM zd d0';have d1'':=Ok.cell hbM zd d1';have u0'':=Ok.cell hbM zu u0';have u1'':=Ok.cell hbM zu u1')
         | fail)
        have hbW:Ok Y wM:=Ok.step hbN hbM
        have q0:=Ok.cell hbW ya a0;have q1:=Ok.cell hbW ya a1
        obtain ⟨r0'',r1'',r2'',r3''⟩:=row_facts (Ok.row' hbW HY.out.1)
        go_wp2_with fail
        (try simp only [Exit.inBlock,Exit.then])
        refine bodyPost_ret (results_iv rfl _ _ (w.heap.size+2) 24 #[_,_] (0,0) _ rfl (row_set2 (Ok.row' hbW HY.out.1) _ _) Tryz.underlying24 rfl infoI) rfl ?_
        have hw:=HY.out.2.2
        exact ⟨retib E.out,((Ok.step HY.out.2.1 hbW).set (show w0.heap.size<=w.heap.size+2 by omega) _).set (show w0.heap.size<=w.heap.size+2 by omega) _⟩
       ·replace c6:N1<=FA:=by omega
        have E:Hid (remI al ah bl bh=(min 0 (max al (-P)),max 0 (min ah P),true)):=by unfold Hid;rw [remI_far HC.out HQ.out (by rw [HF.out,ER2.out];omega),HM.out,HPB.out]
        have za:=Nat.lt_of_lt_of_le ya hbN.le
        have zb:=Nat.lt_of_lt_of_le yb hbN.le
        have zd:=Nat.lt_of_lt_of_le yd hbN.le
        have zu:=Nat.lt_of_lt_of_le yu hbN.le
        have bx:Ok wN wN:=Ok.refl _
        have bx':Ok wN wN.drew:=Below.drew (Ok.refl _)
        go_region_held3 (fun w'=>w'.cell? ⟨w.heap.size,0,none⟩=some (.int .i64 al)/\w'.cell? ⟨w.heap.size,1,none⟩=some (.int .i64 ah)/\w'.cell? ⟨gd,0,none⟩=some (.int .i64 D1)/\w'.cell? ⟨gd,1,none⟩=some (.int .i64 D2)/\w'.cell? ⟨gu,0,none⟩=some (.int .i64 U1)/\w'.cell? ⟨gu,1,none⟩=some (.int .i64 U2)) (go_keep)
         (first
         | (go_at_call 247;refine (pfarthest_is _ _ FA HF.out HI.out.1 HI.out.2.1 wN _ (by assumption)).mono ?_;rintro e wM ⟨rfl,hbM⟩;have a0'':=Ok.cell hbM za a0';have a1'':=Ok.cell hbM za a1';have d0'':=Ok.cell hbM zd d0';have d1'':=Ok.cell hbM zd d1';have u0'':=Ok.cell hbM zu u0';have u1'':=Ok.cell hbM zu u1')
         | (go_at_call 248;refine (pnearest_o _ _ _ (by first | exact HN1.out | exact HN2.out) wN _ (by assumption)).mono ?_;rintro e wM ⟨rfl,hbM⟩;have a0'':=Ok.cell hbM za a0';have a1'':=Ok.cell hbM za a1';have d0'':=Ok.cell hbM zd d0';have d1'':=Ok.cell hbM zd d1';have u0'':=Ok.cell hbM zu u0';have u1'':=Ok.cell hbM zu u1')
         | fail)
        have ha0:=Ok.cell hbM za a0'
        have hbW:Ok Y wM:=Ok.step hbN hbM
        have q0:=Ok.cell hbW ya a0;have q1:=Ok.cell hbW ya a1;have q2:=Ok.cell hbW yb b0;have q3:=Ok.cell hbW yb b1
        go_wp2_with (first | (go_at_call 247;refine (pfarthest_is _ _ B HB.out HI.out.2.2.1 HI.out.2.2.2 Y _ hbW).mono ?_;rintro e wN ⟨rfl,hbN⟩;have a0':=Ok.cell hbN ya a0;have a1':=Ok.cell hbN ya a1;have b0':=Ok.cell hbN yb b0;have b1':=Ok.cell hbN yb b1;have d0':=Ok.cell hbN yd d0;have d1':=Ok.cell hbN yd d1;have u0':=Ok.cell hbN yu u0;have u1':=Ok.cell hbN yu u1;obtain ⟨r0',r1',r2',r3'⟩:=row_facts (Ok.row' hbN HY.out.1)) | fail)
        all_goals (try simp only [Exit.inBlock,Exit.then])
        all_goals refine bodyPost_ret (results_iv rfl _ _ (w.heap.size+2) 24 #[_,_] (0,0) _ rfl (row_set2 (Ok.row' hbN HY.out.1) _ _) Tryz.underlying24 rfl infoI) rfl ?_
        all_goals (have hw:=HY.out.2.2;refine ⟨retib (E.out.trans ?_),((Ok.step HY.out.2.1 hbN).set (show w0.heap.size<=w.heap.size+2 by omega) _).set (show w0.heap.size<=w.heap.size+2 by omega) _⟩;simp only [Prod.mk.injEq,and_true];have e1:=HW1.out;have e2:=HW2.out;omega)
    ·have k4:decide (al=ah)=false:=decide_eq_false c3
     have HQ:Hid (¬(al=ah/\bl=bh)):=fun h=>c3 h.1
     clear c3
     go_wp2_with (first | (go_at_call 199;refine (pisnone_any _ _ Y _ (by assumption)).mono ?_;rintro e wN ⟨rfl,hbN⟩;have a0':=Ok.cell hbN ya a0;have a1':=Ok.cell hbN ya a1;have b0':=Ok.cell hbN yb b0;have b1':=Ok.cell hbN yb b1;have d0':=Ok.cell hbN yd d0;have d1':=Ok.cell hbN yd d1;have u0':=Ok.cell hbN yu u0;have u1':=Ok.cell hbN yu u1;obtain ⟨r0',r1',r2',r3'⟩:=row_facts (Ok.row' hbN HY.out.1)) | (go_at_call 232;refine (pisone_any _ _ Y _ (by assumption)).mono ?_;rintro e wN ⟨rfl,hbN⟩;have a0':=Ok.cell hbN ya a0;have a1':=Ok.cell hbN ya a1;have b0':=Ok.cell hbN yb b0;have b1':=Ok.cell hbN yb b1;have d0':=Ok.cell hbN yd d0;have d1':=Ok.cell hbN yd d1;have u0':=Ok.cell hbN yu u0;have u1':=Ok.cell hbN yu u1;obtain ⟨r0',r1',r2',r3'⟩:=row_facts (Ok.row' hbN HY.out.1)) | fail)
     by_cases c5:N2<N1
     ·have ER2:Hid (remNear bl bh=N2):=by unfold Hid;rw [ER.out];omega
      by_cases c6:FA<N2
      ·have E:Hid (remI al ah bl bh=(al,ah,true)):=remI_near HC.out HQ.out (by rw [HF.out,ER2.out];exact c6)
       have za:=Nat.lt_of_lt_of_le ya hbN.le
       have zb:=Nat.lt_of_lt_of_le yb hbN.le
       have zd:=Nat.lt_of_lt_of_le yd hbN.le
       have zu:=Nat.lt_of_lt_of_le yu hbN.le
       have bx:Ok wN wN:=Ok.refl _
       have bx':Ok wN wN.drew:=Below.drew (Ok.refl _)
       go_region_held3 (fun w'=>w'.cell? ⟨w.heap.size,0,none⟩=some (.int .i64 al)/\w'.cell? ⟨w.heap.size,1,none⟩=some (.int .i64 ah)/\w'.cell? ⟨gd,0,none⟩=some (.int .i64 D1)/\w'.cell? ⟨gd,1,none⟩=some (.int .i64 D2)/\w'.cell? ⟨gu,0,none⟩=some (.int .i64 U1)/\w'.cell? ⟨gu,1,none⟩=some (.int .i64 U2)) (go_keep)
        (first
        | (go_at_call 247;refine (pfarthest_is _ _ FA HF.out HI.out.1 HI.out.2.1 wN _ (by assumption)).mono ?_;rintro e wM ⟨rfl,hbM⟩;have a0'':=Ok.cell hbM za a0';have a1'':=Ok.cell hbM za a1';have d0'':=Ok.cell hbM zd d0';have d1'':=Ok.cell hbM zd d1';have u0'':=Ok.cell hbM zu u0';have u1'':=Ok.cell hbM zu u1')
        | (go_at_call 248;refine (pnearest_o _ _ _ (by first | exact HN1.out | exact HN2.out) wN _ (by assumption)).mono ?_;rintro e wM ⟨rfl,hbM⟩;have a0'':=Ok.cell hbM za a0';have a1'':=Ok.cell hbM za a1';have d0'':=Ok.cell hbM zd d0';have d1'':=Ok.cell hbM zd d1';have u0'':=Ok.cell hbM zu u0';have u1'':=Ok.cell hbM zu u1')
        | fail)
       have hbW:Ok Y wM:=Ok.step hbN hbM
       have q0:=Ok.cell hbW ya a0;have q1:=Ok.cell hbW ya a1
       obtain ⟨r0'',r1'',r2'',r3''⟩:=row_facts (Ok.row' hbW HY.out.1)
       go_wp2_with fail
       (try simp only [Exit.inBlock,Exit.then])
       refine bodyPost_ret (results_iv rfl _ _ (w.heap.size+2) 24 #[_,_] (0,0) _ rfl (row_set2 (Ok.row' hbW HY.out.1) _ _) Tryz.underlying24 rfl infoI) rfl ?_
       have hw:=HY.out.2.2
       exact ⟨retib E.out,((Ok.step HY.out.2.1 hbW).set (show w0.heap.size<=w.heap.size+2 by omega) _).set (show w0.heap.size<=w.heap.size+2 by omega) _⟩
      ·replace c6:N2<=FA:=by omega
       have E:Hid (remI al ah bl bh=(min 0 (max al (-P)),max 0 (min ah P),true)):=by unfold Hid;rw [remI_far HC.out HQ.out (by rw [HF.out,ER2.out];omega),HM.out,HPB.out]
       have za:=Nat.lt_of_lt_of_le ya hbN.le
       have zb:=Nat.lt_of_lt_of_le yb hbN.le
       have zd:=Nat.lt_of_lt_of_le yd hbN.le
       have zu:=Nat.lt_of_lt_of_le yu hbN.le
       have bx:Ok wN wN:=Ok.refl _
       have bx':Ok wN wN.drew:=Below.drew (Ok.refl _)
       go_region_held3 (fun w'=>w'.cell? ⟨w.heap.size,0,none⟩=some (.int .i64 al)/\w'.cell? ⟨w.heap.size,1,none⟩=some (.int .i64 ah)/\w'.cell? ⟨gd,0,none⟩=some (.int .i64 D1)/\w'.cell? ⟨gd,1,none⟩=some (.int .i64 D2)/\w'.cell? ⟨gu,0,none⟩=some (.int .i64 U1)/\w'.cell? ⟨gu,1,none⟩=some (.int .i64 U2)) (go_keep)
        (first
        | (go_at_call 247;refine (pfarthest_is _ _ FA HF.out HI.out.1 HI.out.2.1 wN _ (by assumption)).mono ?_;rintro e wM ⟨rfl,hbM⟩;have a0'':=Ok.cell hbM za a0';have a1'':=Ok.cell hbM za a1';have d0'':=Ok.cell hbM zd d0';have d1'':=Ok.cell hbM zd d1';have u0'':=Ok.cell hbM zu u0';have u1'':=Ok.cell hbM zu u1')
        | (go_at_call 248;refine (pnearest_o _ _ _ (by first | exact HN1.out | exact HN2.out) wN _ (by assumption)).mono ?_;rintro e wM ⟨rfl,hbM⟩;have a0'':=Ok.cell hbM za a0';have a1'':=Ok.cell hbM za a1';have d0'':=Ok.cell hbM zd d0';have d1'':=Ok.cell hbM zd d1';have u0'':=Ok.cell hbM zu u0';have u1'':=Ok.cell hbM zu u1')
        | fail)
       have ha0:=Ok.cell hbM za a0'
       have hbW:Ok Y wM:=Ok.step hbN hbM
       have q0:=Ok.cell hbW ya a0;have q1:=Ok.cell hbW ya a1;have q2:=Ok.cell hbW yb b0;have q3:=Ok.cell hbW yb b1
       go_wp2_with (first | (go_at_call 247;refine (pfarthest_is _ _ B HB.out HI.out.2.2.1 HI.out.2.2.2 Y _ hbW).mono ?_;rintro e wN ⟨rfl,hbN⟩;have a0':=Ok.cell hbN ya a0;have a1':=Ok.cell hbN ya a1;have b0':=Ok.cell hbN yb b0;have b1':=Ok.cell hbN yb b1;have d0':=Ok.cell hbN yd d0;have d1':=Ok.cell hbN yd d1;have u0':=Ok.cell hbN yu u0;have u1':=Ok.cell hbN yu u1;obtain ⟨r0',r1',r2',r3'⟩:=row_facts (Ok.row' hbN HY.out.1)) | fail)
       all_goals (try simp only [Exit.inBlock,Exit.then])
       all_goals refine bodyPost_ret (results_iv rfl _ _ (w.heap.size+2) 24 #[_,_] (0,0) _ rfl (row_set2 (Ok.row' hbN HY.out.1) _ _) Tryz.underlying24 rfl infoI) rfl ?_
       all_goals (have hw:=HY.out.2.2;refine ⟨retib (E.out.trans ?_),((Ok.step HY.out.2.1 hbN).set (show w0.heap.size<=w.heap.size+2 by omega) _).set (show w0.heap.size<=w.heap.size+2 by omega) _⟩;simp only [Prod.mk.injEq,and_true];have e1:=HW1.out;have e2:=HW2.out;omega)
     ·replace c5:N1<=N2:=by omega
      have ER2:Hid (remNear bl bh=N1):=by unfold Hid;rw [ER.out];omega
      by_cases c6:FA<N1
      ·have E:Hid (remI al ah bl bh=(al,ah,true)):=remI_near HC.out HQ.out (by rw [HF.out,ER2.out];exact c6)
       have za:=Nat.lt_of_lt_of_le ya hbN.le
       have zb:=Nat.lt_of_lt_of_le yb hbN.le
       have zd:=Nat.lt_of_lt_of_le yd hbN.le
       have zu:=Nat.lt_of_lt_of_le yu hbN.le
       have bx:Ok wN wN:=Ok.refl _
       have bx':Ok wN wN.drew:=Below.drew (Ok.refl _)
       go_region_held3 (fun w'=>w'.cell? ⟨w.heap.size,0,none⟩=some (.int .i64 al)/\w'.cell? ⟨w.heap.size,1,none⟩=some (.int .i64 ah)/\w'.cell? ⟨gd,0,none⟩=some (.int .i64 D1)/\w'.cell? ⟨gd,1,none⟩=some (.int .i64 D2)/\w'.cell? ⟨gu,0,none⟩=some (.int .i64 U1)/\w'.cell? ⟨gu,1,none⟩=some (.int .i64 U2)) (go_keep)
        (first
        | (go_at_call 247;refine (pfarthest_is _ _ FA HF.out HI.out.1 HI.out.2.1 wN _ (by assumption)).mono ?_;rintro e wM ⟨rfl,hbM⟩;have a0'':=Ok.cell hbM za a0';have a1'':=Ok.cell hbM za a1';have d0'':=Ok.cell hbM zd d0';have d1'':=Ok.cell hbM zd d1';have u0'':=Ok.cell hbM zu u0';have u1'':=Ok.cell hbM zu u1')
        | (go_at_call 248;refine (pnearest_o _ _ _ (by first | exact HN1.out | exact HN2.out) wN _ (by assumption)).mono ?_;rintro e wM ⟨rfl,hbM⟩;have a0'':=Ok.cell hbM za a0';have a1'':=Ok.cell hbM za a1';have d0'':=Ok.cell hbM zd d0';have d1'':=Ok.cell hbM zd d1';have u0'':=Ok.cell hbM zu u0';have u1'':=Ok.cell hbM zu u1')
        | fail)
       have hbW:Ok Y wM:=Ok.step hbN hbM
       have q0:=Ok.cell hbW ya a0;have q1:=Ok.cell hbW ya a1
       obtain ⟨r0'',r1'',r2'',r3''⟩:=row_facts (Ok.row' hbW HY.out.1)
       go_wp2_with fail
       (try simp only [Exit.inBlock,Exit.then])
       refine bodyPost_ret (results_iv rfl _ _ (w.heap.size+2) 24 #[_,_] (0,0) _ rfl (row_set2 (Ok.row' hbW HY.out.1) _ _) Tryz.underlying24 rfl infoI) rfl ?_
       have hw:=HY.out.2.2
       exact ⟨retib E.out,((Ok.step HY.out.2.1 hbW).set (show w0.heap.size<=w.heap.size+2 by omega) _).set (show w0.heap.size<=w.heap.size+2 by omega) _⟩
      ·replace c6:N1<=FA:=by omega
       have E:Hid (remI al ah bl bh=(min 0 (max al (-P)),max 0 (min ah P),true)):=by unfold Hid;rw [remI_far HC.out HQ.out (by rw [HF.out,ER2.out];omega),HM.out,HPB.out]
       have za:=Nat.lt_of_lt_of_le ya hbN.le
       have zb:=Nat.lt_of_lt_of_le yb hbN.le
       have zd:=Nat.lt_of_lt_of_le yd hbN.le
       have zu:=Nat.lt_of_lt_of_le yu hbN.le
       have bx:Ok wN wN:=Ok.refl _
       have bx':Ok wN wN.drew:=Below.drew (Ok.refl _)
       go_region_held3 (fun w'=>w'.cell? ⟨w.heap.size,0,none⟩=some (.int .i64 al)/\w'.cell? ⟨w.heap.size,1,none⟩=some (.int .i64 ah)/\w'.cell? ⟨gd,0,none⟩=some (.int .i64 D1)/\w'.cell? ⟨gd,1,none⟩=some (.int .i64 D2)/\w'.cell? ⟨gu,0,none⟩=some (.int .i64 U1)/\w'.cell? ⟨gu,1,none⟩=some (.int .i64 U2)) (go_keep)
        (first
        | (go_at_call 247;refine (pfarthest_is _ _ FA HF.out HI.out.1 HI.out.2.1 wN _ (by assumption)).mono ?_;rintro e wM ⟨rfl,hbM⟩;have a0'':=Ok.cell hbM za a0';have a1'':=Ok.cell hbM za a1';have d0'':=Ok.cell hbM zd d0';have d1'':=Ok.cell hbM zd d1';have u0'':=Ok.cell hbM zu u0';have u1'':=Ok.cell hbM zu u1')
        | (go_at_call 248;refine (pnearest_o _ _ _ (by first | exact HN1.out | exact HN2.out) wN _ (by assumption)).mono ?_;rintro e wM ⟨rfl,hbM⟩;have a0'':=Ok.cell hbM za a0';have a1'':=Ok.cell hbM za a1';have d0'':=Ok.cell hbM zd d0';have d1'':=Ok.cell hbM zd d1';have u0'':=Ok.cell hbM zu u0';have u1'':=Ok.cell hbM zu u1')
        | fail)
       have ha0:=Ok.cell hbM za a0'
       have hbW:Ok Y wM:=Ok.step hbN hbM
       have q0:=Ok.cell hbW ya a0;have q1:=Ok.cell hbW ya a1;have q2:=Ok.cell hbW yb b0;have q3:=Ok.cell hbW yb b1
       go_wp2_with (first | (go_at_call 247;refine (pfarthest_is _ _ B HB.out HI.out.2.2.1 HI.out.2.2.2 Y _ hbW).mono ?_;rintro e wN ⟨rfl,hbN⟩;have a0':=Ok.cell hbN ya a0;have a1':=Ok.cell hbN ya a1;have b0':=Ok.cell hbN yb b0;have b1':=Ok.cell hbN yb b1;have d0':=Ok.cell hbN yd d0;have d1':=Ok.cell hbN yd d1;have u0':=Ok.cell hbN yu u0;have u1':=Ok.cell hbN yu u1;obtain ⟨r0',r1',r2',r3'⟩:=row_facts (Ok.row' hbN HY.out.1)) | fail)
       all_goals (try simp only [Exit.inBlock,Exit.then])
       all_goals refine bodyPost_ret (results_iv rfl _ _ (w.heap.size+2) 24 #[_,_] (0,0) _ rfl (row_set2 (Ok.row' hbN HY.out.1) _ _) Tryz.underlying24 rfl infoI) rfl ?_
       all_goals (have hw:=HY.out.2.2;refine ⟨retib (E.out.trans ?_),((Ok.step HY.out.2.1 hbN).set (show w0.heap.size<=w.heap.size+2 by omega) _).set (show w0.heap.size<=w.heap.size+2 by omega) _⟩;simp only [Prod.mk.injEq,and_true];have e1:=HW1.out;have e2:=HW2.out;omega)
   ·have k3:decide (U2<U1)=false:=decide_eq_false (fun h=>c2 ⟨by simpa using hDn,h⟩)
    clear c2
    by_cases c3:al=ah
    ·have k4:decide (al=ah)=true:=decide_eq_true c3
     by_cases c4:bl=bh
     ·have k5:decide (bl=bh)=true:=decide_eq_true c4
      have HZ:Hid (bl≠0):=rem_nz c4 HC2.out
      have E:Hid (remI al ah bl bh=(al.tmod bl,al.tmod bl,true)):=by unfold Hid remI;rw [if_neg HC.out,if_pos ⟨c3,c4⟩,rem_one]
      clear c3 c4
      go_wp2_with (first | (go_at_call 199;refine (pisnone_any _ _ Y _ (by assumption)).mono ?_;rintro e wN ⟨rfl,hbN⟩;have a0':=Ok.cell hbN ya a0;have a1':=Ok.cell hbN ya a1;have b0':=Ok.cell hbN yb b0;have b1':=Ok.cell hbN yb b1;have d0':=Ok.cell hbN yd d0;have d1':=Ok.cell hbN yd d1;have u0':=Ok.cell hbN yu u0;have u1':=Ok.cell hbN yu u1;obtain ⟨r0',r1',r2',r3'⟩:=row_facts (Ok.row' hbN HY.out.1)) | (go_at_call 232;refine (pisone_any _ _ Y _ (by assumption)).mono ?_;rintro e wN ⟨rfl,hbN⟩;have a0':=Ok.cell hbN ya a0;have a1':=Ok.cell hbN ya a1;have b0':=Ok.cell hbN yb b0;have b1':=Ok.cell hbN yb b1;have d0':=Ok.cell hbN yd d0;have d1':=Ok.cell hbN yd d1;have u0':=Ok.cell hbN yu u0;have u1':=Ok.cell hbN yu u1;obtain ⟨r0',r1',r2',r3'⟩:=row_facts (Ok.row' hbN HY.out.1)) | (go_at_call 246;refine (pwrem_o _ _ HZ.out Y _ (by assumption)).mono ?_;rintro e wN ⟨rfl,hbN⟩;have a0':=Ok.cell hbN ya a0;have a1':=Ok.cell hbN ya a1;have b0':=Ok.cell hbN yb b0;have b1':=Ok.cell hbN yb b1;have d0':=Ok.cell hbN yd d0;have d1':=Ok.cell hbN yd d1;have u0':=Ok.cell hbN yu u0;have u1':=Ok.cell hbN yu u1;obtain ⟨r0',r1',r2',r3'⟩:=row_facts (Ok.row' hbN HY.out.1)) | fail)
      (try simp only [Exit.inBlock,Exit.then])
      refine bodyPost_ret (results_iv rfl _ _ (w.heap.size+2) 24 #[_,_] (0,0) _ rfl (row_set2 (Ok.row' hbN HY.out.1) _ _) Tryz.underlying24 rfl infoI) rfl ?_
      have hw:=HY.out.2.2
      exact ⟨retib E.out,((Ok.step HY.out.2.1 hbN).set (show w0.heap.size<=w.heap.size+2 by omega) _).set (show w0.heap.size<=w.heap.size+2 by omega) _⟩
     ·have k5:decide (bl=bh)=false:=decide_eq_false c4
      have HQ:Hid (¬(al=ah/\bl=bh)):=fun h=>c4 h.2
      clear c3 c4
      go_wp2_with (first | (go_at_call 199;refine (pisnone_any _ _ Y _ (by assumption)).mono ?_;rintro e wN ⟨rfl,hbN⟩;have a0':=Ok.cell hbN ya a0;have a1':=Ok.cell hbN ya a1;have b0':=Ok.cell hbN yb b0;have b1':=Ok.cell hbN yb b1;have d0':=Ok.cell hbN yd d0;have d1':=Ok.cell hbN yd d1;have u0':=Ok.cell hbN yu u0;have u1':=Ok.cell hbN yu u1;obtain ⟨r0',r1',r2',r3'⟩:=row_facts (Ok.row' hbN HY.out.1)) | (go_at_call 232;refine (pisone_any _ _ Y _ (by assumption)).mono ?_;rintro e wN ⟨rfl,hbN⟩;have a0':=Ok.cell hbN ya a0;have a1':=Ok.cell hbN ya a1;have b0':=Ok.cell hbN yb b0;have b1':=Ok.cell hbN yb b1;have d0':=Ok.cell hbN yd d0;have d1':=Ok.cell hbN yd d1;have u0':=Ok.cell hbN yu u0;have u1':=Ok.cell hbN yu u1;obtain ⟨r0',r1',r2',r3'⟩:=row_facts (Ok.row' hbN HY.out.1)) | fail)
      by_cases c5:N2<N1
      ·have ER2:Hid (remNear bl bh=N2):=by unfold Hid;rw [ER.out];omega
       by_cases c6:FA<N2
       ·have E:Hid (remI al ah bl bh=(al,ah,true)):=remI_near HC.out HQ.out (by rw [HF.out,ER2.out];exact c6)
        have za:=Nat.lt_of_lt_of_le ya hbN.le
        have zb:=Nat.lt_of_lt_of_le yb hbN.le
        have zd:=Nat.lt_of_lt_of_le yd hbN.le
        have zu:=Nat.lt_of_lt_of_le yu hbN.le
        have bx:Ok wN wN:=Ok.refl _
        have bx':Ok wN wN.drew:=Below.drew (Ok.refl _)
        go_region_held3 (fun w'=>w'.cell? ⟨w.heap.size,0,none⟩=some (.int .i64 al)/\w'.cell? ⟨w.heap.size,1,none⟩=some (.int .i64 ah)/\w'.cell? ⟨gd,0,none⟩=some (.int .i64 D1)/\w'.cell? ⟨gd,1,none⟩=some (.int .i64 D2)/\w'.cell? ⟨gu,0,none⟩=some (.int .i64 U1)/\w'.cell? ⟨gu,1,none⟩=some (.int .i64 U2)) (go_keep)
         (first
         | (go_at_call 247;refine (pfarthest_is _ _ FA HF.out HI.out.1 HI.out.2.1 wN _ (by assumption)).mono ?_;rintro e wM ⟨rfl,hbM⟩;have a0'':=Ok.cell hbM za a0';have a1'':=Ok.cell hbM za a1';have d0'':=Ok.cell hbM zd d0';have d1'':=Ok.cell hbM zd d1';have u0'':=Ok.cell hbM zu u0';have u1'':=Ok.cell hbM zu u1')
         | (go_at_call 248;refine (pnearest_o _ _ _ (by first | exact HN1.out | exact HN2.out) wN _ (by assumption)).mono ?_;rintro e wM ⟨rfl,hbM⟩;have a0'':=Ok.cell hbM za a0';have a1'':=Ok.cell hbM za a1';have d0'':=Ok.cell hbM zd d0';have d1'':=Ok.cell hbM zd d1';have u0'':=Ok.cell hbM zu u0';have u1'':=Ok.cell hbM zu u1')
         | fail)
        have hbW:Ok Y wM:=Ok.step hbN hbM
        have q0:=Ok.cell hbW ya a0;have q1:=Ok.cell hbW ya a1
        obtain ⟨r0'',r1'',r2'',r3''⟩:=row_facts (Ok.row' hbW HY.out.1)
        go_wp2_with fail
        (try simp only [Exit.inBlock,Exit.then])
        refine bodyPost_ret (results_iv rfl _ _ (w.heap.size+2) 24 #[_,_] (0,0) _ rfl (row_set2 (Ok.row' hbW HY.out.1) _ _) Tryz.underlying24 rfl infoI) rfl ?_
        have hw:=HY.out.2.2
        exact ⟨retib E.out,((Ok.step HY.out.2.1 hbW).set (show w0.heap.size<=w.heap.size+2 by omega) _).set (show w0.heap.size<=w.heap.size+2 by omega) _⟩
       ·replace c6:N2<=FA:=by omega
        have E:Hid (remI al ah bl bh=(min 0 (max al (-P)),max 0 (min ah P),true)):=by unfold Hid;rw [remI_far HC.out HQ.out (by rw [HF.out,ER2.out];omega),HM.out,HPB.out]
        have za:=Nat.lt_of_lt_of_le ya hbN.le
        have zb:=Nat.lt_of_lt_of_le yb hbN.le
        have zd:=Nat.lt_of_lt_of_le yd hbN.le
        have zu:=Nat.lt_of_lt_of_le yu hbN.le
        have bx:Ok wN wN:=Ok.refl _
        have bx':Ok wN wN.drew:=Below.drew (Ok.refl _)
        go_region_held3 (fun w'=>w'.cell? ⟨w.heap.size,0,none⟩=some (.int .i64 al)/\w'.cell? ⟨w.heap.size,1,none⟩=some (.int .i64 ah)/\w'.cell? ⟨gd,0,none⟩=some (.int .i64 D1)/\w'.cell? ⟨gd,1,none⟩=some (.int .i64 D2)/\w'.cell? ⟨gu,0,none⟩=some (.int .i64 U1)/\w'.cell? ⟨gu,1,none⟩=some (.int .i64 U2)) (go_keep)
         (first
         | (go_at_call 247;refine (pfarthest_is _ _ FA HF.out HI.out.1 HI.out.2.1 wN _ (by assumption)).mono ?_;rintro e wM ⟨rfl,hbM⟩;have a0'':=Ok.cell hbM za a0';have a1'':=Ok.cell hbM za a1';have d0'':=Ok.cell hbM zd d0';have d1'':=Ok.cell hbM zd d1';have u0'':=Ok.cell hbM zu u0';have u1'':=Ok.cell hbM zu u1')
         | (go_at_call 248;refine (pnearest_o _ _ _ (by first | exact HN1.out | exact HN2.out) wN _ (by assumption)).mono ?_;rintro e wM ⟨rfl,hbM⟩;have a0'':=Ok.cell hbM za a0';have a1'':=Ok.cell hbM za a1';have d0'':=Ok.cell hbM zd d0';have d1'':=Ok.cell hbM zd d1';have u0'':=Ok.cell hbM zu u0';have u1'':=Ok.cell hbM zu u1')
         | fail)
        have ha0:=Ok.cell hbM za a0'
        have hbW:Ok Y wM:=Ok.step hbN hbM
        have q0:=Ok.cell hbW ya a0;have q1:=Ok.cell hbW ya a1;have q2:=Ok.cell hbW yb b0;have q3:=Ok.cell hbW yb b1
        go_wp2_with (first | (go_at_call 247;refine (pfarthest_is _ _ B HB.out HI.out.2.2.1 HI.out.2.2.2 Y _ hbW).mono ?_;rintro e wN ⟨rfl,hbN⟩;have a0':=Ok.cell hbN ya a0;have a1':=Ok.cell hbN ya a1;have b0':=Ok.cell hbN yb b0;have b1':=Ok.cell hbN yb b1;have d0':=Ok.cell hbN yd d0;have d1':=Ok.cell hbN yd d1;have u0':=Ok.cell hbN yu u0;have u1':=Ok.cell hbN yu u1;obtain ⟨r0',r1',r2',r3'⟩:=row_facts (Ok.row' hbN HY.out.1)) | fail)
        all_goals (try simp only [Exit.inBlock,Exit.then])
        all_goals refine bodyPost_ret (results_iv rfl _ _ (w.heap.size+2) 24 #[_,_] (0,0) _ rfl (row_set2 (Ok.row' hbN HY.out.1) _ _) Tryz.underlying24 rfl infoI) rfl ?_
        all_goals (have hw:=HY.out.2.2;refine ⟨retib (E.out.trans ?_),((Ok.step HY.out.2.1 hbN).set (show w0.heap.size<=w.heap.size+2 by omega) _).set (show w0.heap.size<=w.heap.size+2 by omega) _⟩;simp only [Prod.mk.injEq,and_true];have e1:=HW1.out;have e2:=HW2.out;omega)
      ·replace c5:N1<=N2:=by omega
       have ER2:Hid (remNear bl bh=N1):=by unfold Hid;rw [ER.out];omega
       by_cases c6:FA<N1
       ·have E:Hid (remI al ah bl bh=(al,ah,true)):=remI_near HC.out HQ.out (by rw [HF.out,ER2.out];exact c6)
        have za:=Nat.lt_of_lt_of_le ya hbN.le
        have zb:=Nat.lt_of_lt_of_le yb hbN.le
        have zd:=Nat.lt_of_lt_of_le yd hbN.le
        have zu:=Nat.lt_of_lt_of_le yu hbN.le
        have bx:Ok wN wN:=Ok.refl _
        have bx':Ok wN wN.drew:=Below.drew (Ok.refl _)
        go_region_held3 (fun w'=>w'.cell? ⟨w.heap.size,0,none⟩=some (.int .i64 al)/\w'.cell? ⟨w.heap.size,1,none⟩=some (.int .i64 ah)/\w'.cell? ⟨gd,0,none⟩=some (.int .i64 D1)/\w'.cell? ⟨gd,1,none⟩=some (.int .i64 D2)/\w'.cell? ⟨gu,0,none⟩=some (.int .i64 U1)/\w'.cell? ⟨gu,1,none⟩=some (.int .i64 U2)) (go_keep)
         (first
         | (go_at_call 247;refine (pfarthest_is _ _ FA HF.out HI.out.1 HI.out.2.1 wN _ (by assumption)).mono ?_;rintro e wM ⟨rfl,hbM⟩;have a0'':=Ok.cell hbM za a0';have a1'':=Ok.cell hbM za a1';have d0'':=Ok.cell hbM zd d0';have d1'':=Ok.cell hbM zd d1';have u0'':=Ok.cell hbM zu u0';have u1'':=Ok.cell hbM zu u1')
         | (go_at_call 248;refine (pnearest_o _ _ _ (by first | exact HN1.out | exact HN2.out) wN _ (by assumption)).mono ?_;rintro e wM ⟨rfl,hbM⟩;have a0'':=Ok.cell hbM za a0';have a1'':=Ok.cell hbM za a1';have d0'':=Ok.cell hbM zd d0';have d1'':=Ok.cell hbM zd d1';have u0'':=Ok.cell hbM zu u0';have u1'':=Ok.cell hbM zu u1')
         | fail)
        have hbW:Ok Y wM:=Ok.step hbN hbM
        have q0:=Ok.cell hbW ya a0;have q1:=Ok.cell hbW ya a1
        obtain ⟨r0'',r1'',r2'',r3''⟩:=row_facts (Ok.row' hbW HY.out.1)
        go_wp2_with fail
        (try simp only [Exit.inBlock,Exit.then])
        refine bodyPost_ret (results_iv rfl _ _ (w.heap.size+2) 24 #[_,_] (0,0) _ rfl (row_set2 (Ok.row' hbW HY.out.1) _ _) Tryz.underlying24 rfl infoI) rfl ?_
        have hw:=HY.out.2.2
        exact ⟨retib E.out,((Ok.step HY.out.2.1 hbW).set (show w0.heap.size<=w.heap.size+2 by omega) _).set (show w0.heap.size<=w.heap.size+2 by omega) _⟩
       ·replace c6:N1<=FA:=by omega
        have E:Hid (remI al ah bl bh=(min 0 (max al (-P)),max 0 (min ah P),true)):=by unfold Hid;rw [remI_far HC.out HQ.out (by rw [HF.out,ER2.out];omega),HM.out,HPB.out]
        have za:=Nat.lt_of_lt_of_le ya hbN.le
        have zb:=Nat.lt_of_lt_of_le yb hbN.le
        have zd:=Nat.lt_of_lt_of_le yd hbN.le
        have zu:=Nat.lt_of_lt_of_le yu hbN.le
        have bx:Ok wN wN:=Ok.refl _
        have bx':Ok wN wN.drew:=Below.drew (Ok.refl _)
        go_region_held3 (fun w'=>w'.cell? ⟨w.heap.size,0,none⟩=some (.int .i64 al)/\w'.cell? ⟨w.heap.size,1,none⟩=some (.int .i64 ah)/\w'.cell? ⟨gd,0,none⟩=some (.int .i64 D1)/\w'.cell? ⟨gd,1,none⟩=some (.int .i64 D2)/\w'.cell? ⟨gu,0,none⟩=some (.int .i64 U1)/\w'.cell? ⟨gu,1,none⟩=some (.int .i64 U2)) (go_keep)
         (first
         | (go_at_call 247;refine (pfarthest_is _ _ FA HF.out HI.out.1 HI.out.2.1 wN _ (by assumption)).mono ?_;rintro e wM ⟨rfl,hbM⟩;have a0'':=Ok.cell hbM za a0';have a1'':=Ok.cell hbM za a1';have d0'':=Ok.cell hbM zd d0';have d1'':=Ok.cell hbM zd d1';have u0'':=Ok.cell hbM zu u0';have u1'':=Ok.cell hbM zu u1')
         | (go_at_call 248;refine (pnearest_o _ _ _ (by first | exact HN1.out | exact HN2.out) wN _ (by assumption)).mono ?_;rintro e wM ⟨rfl,hbM⟩;have a0'':=Ok.cell hbM za a0';have a1'':=Ok.cell hbM za a1';have d0'':=Ok.cell hbM zd d0';have d1'':=Ok.cell hbM zd d1';have u0'':=Ok.cell hbM zu u0';have u1'':=Ok.cell hbM zu u1')
         | fail)
        have ha0:=Ok.cell hbM za a0'
        have hbW:Ok Y wM:=Ok.step hbN hbM
        have q0:=Ok.cell hbW ya a0;have q1:=Ok.cell hbW ya a1;have q2:=Ok.cell hbW yb b0;have q3:=Ok.cell hbW yb b1
        go_wp2_with (first | (go_at_call 247;refine (pfarthest_is _ _ B HB.out HI.out.2.2.1 HI.out.2.2.2 Y _ hbW).mono ?_;rintro e wN ⟨rfl,hbN⟩;have a0':=Ok.cell hbN ya a0;have a1':=Ok.cell hbN ya a1;have b0':=Ok.cell hbN yb b0;have b1':=Ok.cell hbN yb b1;have d0':=Ok.cell hbN yd d0;have d1':=Ok.cell hbN yd d1;have u0':=Ok.cell hbN yu u0;have u1':=Ok.cell hbN yu u1;obtain ⟨r0',r1',r2',r3'⟩:=row_facts (Ok.row' hbN HY.out.1)) | fail)
        all_goals (try simp only [Exit.inBlock,Exit.then])
        all_goals refine bodyPost_ret (results_iv rfl _ _ (w.heap.size+2) 24 #[_,_] (0,0) _ rfl (row_set2 (Ok.row' hbN HY.out.1) _ _) Tryz.underlying24 rfl infoI) rfl ?_
        all_goals (have hw:=HY.out.2.2;refine ⟨retib (E.out.trans ?_),((Ok.step HY.out.2.1 hbN).set (show w0.heap.size<=w.heap.size+2 by omega) _).set (show w0.heap.size<=w.heap.size+2 by omega) _⟩;simp only [Prod.mk.injEq,and_true];have e1:=HW1.out;have e2:=HW2.out;omega)
    ·have k4:decide (al=ah)=false:=decide_eq_false c3
     have HQ:Hid (¬(al=ah/\bl=bh)):=fun h=>c3 h.1
     clear c3
     go_wp2_with (first | (go_at_call 199;refine (pisnone_any _ _ Y _ (by assumption)).mono ?_;rintro e wN ⟨rfl,hbN⟩;have a0':=Ok.cell hbN ya a0;have a1':=Ok.cell hbN ya a1;have b0':=Ok.cell hbN yb b0;have b1':=Ok.cell hbN yb b1;have d0':=Ok.cell hbN yd d0;have d1':=Ok.cell hbN yd d1;have u0':=Ok.cell hbN yu u0;have u1':=Ok.cell hbN yu u1;obtain ⟨r0',r1',r2',r3'⟩:=row_facts (Ok.row' hbN HY.out.1)) | (go_at_call 232;refine (pisone_any _ _ Y _ (by assumption)).mono ?_;rintro e wN ⟨rfl,hbN⟩;have a0':=Ok.cell hbN ya a0;have a1':=Ok.cell hbN ya a1;have b0':=Ok.cell hbN yb b0;have b1':=Ok.cell hbN yb b1;have d0':=Ok.cell hbN yd d0;have d1':=Ok.cell hbN yd d1;have u0':=Ok.cell hbN yu u0;have u1':=Ok.cell hbN yu u1;obtain ⟨r0',r1',r2',r3'⟩:=row_facts (Ok.row' hbN HY.out.1)) | fail)
     by_cases c5:N2<N1
     ·have ER2:Hid (remNear bl bh=N2):=by unfold Hid;rw [ER.out];omega
      by_cases c6:FA<N2
      ·have E:Hid (remI al ah bl bh=(al,ah,true)):=remI_near HC.out HQ.out (by rw [HF.out,ER2.out];exact c6)
       have za:=Nat.lt_of_lt_of_le ya hbN.le
       have zb:=Nat.lt_of_lt_of_le yb hbN.le
       have zd:=Nat.lt_of_lt_of_le yd hbN.le
       have zu:=Nat.lt_of_lt_of_le yu hbN.le
       have bx:Ok wN wN:=Ok.refl _
       have bx':Ok wN wN.drew:=Below.drew (Ok.refl _)
       go_region_held3 (fun w'=>w'.cell? ⟨w.heap.size,0,none⟩=some (.int .i64 al)/\w'.cell? ⟨w.heap.size,1,none⟩=some (.int .i64 ah)/\w'.cell? ⟨gd,0,none⟩=some (.int .i64 D1)/\w'.cell? ⟨gd,1,none⟩=some (.int .i64 D2)/\w'.cell? ⟨gu,0,none⟩=some (.int .i64 U1)/\w'.cell? ⟨gu,1,none⟩=some (.int .i64 U2)) (go_keep)
        (first
        | (go_at_call 247;refine (pfarthest_is _ _ FA HF.out HI.out.1 HI.out.2.1 wN _ (by assumption)).mono ?_;rintro e wM ⟨rfl,hbM⟩;have a0'':=Ok.cell hbM za a0';have a1'':=Ok.cell hbM za a1';have d0'':=Ok.cell hbM zd d0';have d1'':=Ok.cell hbM zd d1';have u0'':=Ok.cell hbM zu u0';have u1'':=Ok.cell hbM zu u1')
        | (go_at_call 248;refine (pnearest_o _ _ _ (by first | exact HN1.out | exact HN2.out) wN _ (by assumption)).mono ?_;rintro e wM ⟨rfl,hbM⟩;have a0'':=Ok.cell hbM za a0';have a1'':=Ok.cell hbM za a1';have d0'':=Ok.cell hbM zd d0';have d1'':=Ok.cell hbM zd d1';have u0'':=Ok.cell hbM zu u0';have u1'':=Ok.cell hbM zu u1')
        | fail)
       have hbW:Ok Y wM:=Ok.step hbN hbM
       have q0:=Ok.cell hbW ya a0;have q1:=Ok.cell hbW ya a1
       obtain ⟨r0'',r1'',r2'',r3''⟩:=row_facts (Ok.row' hbW HY.out.1)
       go_wp2_with fail
       (try simp only [Exit.inBlock,Exit.then])
       refine bodyPost_ret (results_iv rfl _ _ (w.heap.size+2) 24 #[_,_] (0,0) _ rfl (row_set2 (Ok.row' hbW HY.out.1) _ _) Tryz.underlying24 rfl infoI) rfl ?_
       have hw:=HY.out.2.2
       exact ⟨retib E.out,((Ok.step HY.out.2.1 hbW).set (show w0.heap.size<=w.heap.size+2 by omega) _).set (show w0.heap.size<=w.heap.size+2 by omega) _⟩
      ·replace c6:N2<=FA:=by omega
       have E:Hid (remI al ah bl bh=(min 0 (max al (-P)),max 0 (min ah P),true)):=by unfold Hid;rw [remI_far HC.out HQ.out (by rw [HF.out,ER2.out];omega),HM.out,HPB.out]
       have za:=Nat.lt_of_lt_of_le ya hbN.le
       have zb:=Nat.lt_of_lt_of_le yb hbN.le
       have zd:=Nat.lt_of_lt_of_le yd hbN.le
       have zu:=Nat.lt_of_lt_of_le yu hbN.le
       have bx:Ok wN wN:=Ok.refl _
       have bx':Ok wN wN.drew:=Below.drew (Ok.refl _)
       go_region_held3 (fun w'=>w'.cell? ⟨w.heap.size,0,none⟩=some (.int .i64 al)/\w'.cell? ⟨w.heap.size,1,none⟩=some (.int .i64 ah)/\w'.cell? ⟨gd,0,none⟩=some (.int .i64 D1)/\w'.cell? ⟨gd,1,none⟩=some (.int .i64 D2)/\w'.cell? ⟨gu,0,none⟩=some (.int .i64 U1)/\w'.cell? ⟨gu,1,none⟩=some (.int .i64 U2)) (go_keep)
        (first
        | (go_at_call 247;refine (pfarthest_is _ _ FA HF.out HI.out.1 HI.out.2.1 wN _ (by assumption)).mono ?_;rintro e wM ⟨rfl,hbM⟩;have a0'':=Ok.cell hbM za a0';have a1'':=Ok.cell hbM za a1';have d0'':=Ok.cell hbM zd d0';have d1'':=Ok.cell hbM zd d1';have u0'':=Ok.cell hbM zu u0';have u1'':=Ok.cell hbM zu u1')
        | (go_at_call 248;refine (pnearest_o _ _ _ (by first | exact HN1.out | exact HN2.out) wN _ (by assumption)).mono ?_;rintro e wM ⟨rfl,hbM⟩;have a0'':=Ok.cell hbM za a0';have a1'':=Ok.cell hbM za a1';have d0'':=Ok.cell hbM zd d0';have d1'':=Ok.cell hbM zd d1';have u0'':=Ok.cell hbM zu u0';have u1'':=Ok.cell hbM zu u1')
        | fail)
       have ha0:=Ok.cell hbM za a0'
       have hbW:Ok Y wM:=Ok.step hbN hbM
       have q0:=Ok.cell hbW ya a0;have q1:=Ok.cell hbW ya a1;have q2:=Ok.cell hbW yb b0;have q3:=Ok.cell hbW yb b1
       go_wp2_with (first | (go_at_call 247;refine (pfarthest_is _ _ B HB.out HI.out.2.2.1 HI.out.2.2.2 Y _ hbW).mono ?_;rintro e wN ⟨rfl,hbN⟩;have a0':=Ok.cell hbN ya a0;have a1':=Ok.cell hbN ya a1;have b0':=Ok.cell hbN yb b0;have b1':=Ok.cell hbN yb b1;have d0':=Ok.cell hbN yd d0;have d1':=Ok.cell hbN yd d1;have u0':=Ok.cell hbN yu u0;have u1':=Ok.cell hbN yu u1;obtain ⟨r0',r1',r2',r3'⟩:=row_facts (Ok.row' hbN HY.out.1)) | fail)
       all_goals (try simp only [Exit.inBlock,Exit.then])
       all_goals refine bodyPost_ret (results_iv rfl _ _ (w.heap.size+2) 24 #[_,_] (0,0) _ rfl (row_set2 (Ok.row' hbN HY.out.1) _ _) Tryz.underlying24 rfl infoI) rfl ?_
       all_goals (have hw:=HY.out.2.2;refine ⟨retib (E.out.trans ?_),((Ok.step HY.out.2.1 hbN).set (show w0.heap.size<=w.heap.size+2 by omega) _).set (show w0.heap.size<=w.heap.size+2 by omega) _⟩;simp only [Prod.mk.injEq,and_true];have e1:=HW1.out;have e2:=HW2.out;omega)
     ·replace c5:N1<=N2:=by omega
      have ER2:Hid (remNear bl bh=N1):=by unfold Hid;rw [ER.out];omega
      by_cases c6:FA<N1
      ·have E:Hid (remI al ah bl bh=(al,ah,true)):=remI_near HC.out HQ.out (by rw [HF.out,ER2.out];exact c6)
       have za:=Nat.lt_of_lt_of_le ya hbN.le
       have zb:=Nat.lt_of_lt_of_le yb hbN.le
       have zd:=Nat.lt_of_lt_of_le yd hbN.le
       have zu:=Nat.lt_of_lt_of_le yu hbN.le
       have bx:Ok wN wN:=Ok.refl _
       have bx':Ok wN wN.drew:=Below.drew (Ok.refl _)
       go_region_held3 (fun w'=>w'.cell? ⟨w.heap.size,0,none⟩=some (.int .i64 al)/\w'.cell? ⟨w.heap.size,1,none⟩=some (.int .i64 ah)/\w'.cell? ⟨gd,0,none⟩=some (.int .i64 D1)/\w'.cell? ⟨gd,1,none⟩=some (.int .i64 D2)/\w'.cell? ⟨gu,0,none⟩=some (.int .i64 U1)/\w'.cell? ⟨gu,1,none⟩=some (.int .i64 U2)) (go_keep)
        (first
        | (go_at_call 247;refine (pfarthest_is _ _ FA HF.out HI.out.1 HI.out.2.1 wN _ (by assumption)).mono ?_;rintro e wM ⟨rfl,hbM⟩;have a0'':=Ok.cell hbM za a0';have a1'':=Ok.cell hbM za a1';have d0'':=Ok.cell hbM zd d0';have d1'':=Ok.cell hbM zd d1';have u0'':=Ok.cell hbM zu u0';have u1'':=Ok.cell hbM zu u1')
        | (go_at_call 248;refine (pnearest_o _ _ _ (by first | exact HN1.out | exact HN2.out) wN _ (by assumption)).mono ?_;rintro e wM ⟨rfl,hbM⟩;have a0'':=Ok.cell hbM za a0';have a1'':=Ok.cell hbM za a1';have d0'':=Ok.cell hbM zd d0';have d1'':=Ok.cell hbM zd d1';have u0'':=Ok.cell hbM zu u0';have u1'':=Ok.cell hbM zu u1')
        | fail)
       have hbW:Ok Y wM:=Ok.step hbN hbM
       have q0:=Ok.cell hbW ya a0;have q1:=Ok.cell hbW ya a1
       obtain ⟨r0'',r1'',r2'',r3''⟩:=row_facts (Ok.row' hbW HY.out.1)
       go_wp2_with fail
       (try simp only [Exit.inBlock,Exit.then])
       refine bodyPost_ret (results_iv rfl _ _ (w.heap.size+2) 24 #[_,_] (0,0) _ rfl (row_set2 (Ok.row' hbW HY.out.1) _ _) Tryz.underlying24 rfl infoI) rfl ?_
       have hw:=HY.out.2.2
       exact ⟨retib E.out,((Ok.step HY.out.2.1 hbW).set (show w0.heap.size<=w.heap.size+2 by omega) _).set (show w0.heap.size<=w.heap.size+2 by omega) _⟩
      ·replace c6:N1<=FA:=by omega
       have E:Hid (remI al ah bl bh=(min 0 (max al (-P)),max 0 (min ah P),true)):=by unfold Hid;rw [remI_far HC.out HQ.out (by rw [HF.out,ER2.out];omega),HM.out,HPB.out]
       have za:=Nat.lt_of_lt_of_le ya hbN.le
       have zb:=Nat.lt_of_lt_of_le yb hbN.le
       have zd:=Nat.lt_of_lt_of_le yd hbN.le
       have zu:=Nat.lt_of_lt_of_le yu hbN.le
       have bx:Ok wN wN:=Ok.refl _
       have bx':Ok wN wN.drew:=Below.drew (Ok.refl _)
       go_region_held3 (fun w'=>w'.cell? ⟨w.heap.size,0,none⟩=some (.int .i64 al)/\w'.cell? ⟨w.heap.size,1,none⟩=some (.int .i64 ah)/\w'.cell? ⟨gd,0,none⟩=some (.int .i64 D1)/\w'.cell? ⟨gd,1,none⟩=some (.int .i64 D2)/\w'.cell? ⟨gu,0,none⟩=some (.int .i64 U1)/\w'.cell? ⟨gu,1,none⟩=some (.int .i64 U2)) (go_keep)
        (first
        | (go_at_call 247;refine (pfarthest_is _ _ FA HF.out HI.out.1 HI.out.2.1 wN _ (by assumption)).mono ?_;rintro e wM ⟨rfl,hbM⟩;have a0'':=Ok.cell hbM za a0';have a1'':=Ok.cell hbM za a1';have d0'':=Ok.cell hbM zd d0';have d1'':=Ok.cell hbM zd d1';have u0'':=Ok.cell hbM zu u0';have u1'':=Ok.cell hbM zu u1')
        | (go_at_call 248;refine (pnearest_o _ _ _ (by first | exact HN1.out | exact HN2.out) wN _ (by assumption)).mono ?_;rintro e wM ⟨rfl,hbM⟩;have a0'':=Ok.cell hbM za a0';have a1'':=Ok.cell hbM za a1';have d0'':=Ok.cell hbM zd d0';have d1'':=Ok.cell hbM zd d1';have u0'':=Ok.cell hbM zu u0';have u1'':=Ok.cell hbM zu u1')
        | fail)
       have ha0:=Ok.cell hbM za a0'
       have hbW:Ok Y wM:=Ok.step hbN hbM
       have q0:=Ok.cell hbW ya a0;have q1:=Ok.cell hbW ya a1;have q2:=Ok.cell hbW yb b0;have q3:=Ok.cell hbW yb b1
       go_wp2_with (first | (go_at_call 247;refine (pfarthest_is _ _ B HB.out HI.out.2.2.1 HI.out.2.2.2 Y _ hbW).mono ?_;rintro e wN ⟨rfl,hbN⟩;have a0':=Ok.cell hbN ya a0;have a1':=Ok.cell hbN ya a1;have b0':=Ok.cell hbN yb b0;have b1':=Ok.cell hbN yb b1;have d0':=Ok.cell hbN yd d0;have d1':=Ok.cell hbN yd d1;have u0':=Ok.cell hbN yu u0;have u1':=Ok.cell hbN yu u1;obtain ⟨r0',r1',r2',r3'⟩:=row_facts (Ok.row' hbN HY.out.1)) | fail)
       all_goals (try simp only [Exit.inBlock,Exit.then])
       all_goals refine bodyPost_ret (results_iv rfl _ _ (w.heap.size+2) 24 #[_,_] (0,0) _ rfl (row_set2 (Ok.row' hbN HY.out.1) _ _) Tryz.underlying24 rfl infoI) rfl ?_
       all_goals (have hw:=HY.out.2.2;refine ⟨retib (E.out.trans ?_),((Ok.step HY.out.2.1 hbN).set (show w0.heap.size<=w.heap.size+2 by omega) _).set (show w0.heap.size<=w.heap.size+2 by omega) _⟩;simp only [Prod.mk.injEq,and_true];have e1:=HW1.out;have e2:=HW2.out;omega)
end Go.Proofs.YtnjmjnmhldhaoaaGreat
