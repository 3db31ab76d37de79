import Derived.Test.YtpjpjhjjhoeijaaGreatKIsp
set_option maxHeartbeats 8000000
set_option linter.all false
namespace Go.Proofs.YtpjpjhjjhoeijaaGreat
open Go.RowKit
theorem small_in {v:Int} (h:In64 v):Small v:=by unfold In64 at h;unfold Small;omega
theorem wof_o (v:Int) (hv:In64 v) (w0 w:World) (hok:Ok w0 w) :
  Calls Tryz.prog 104 #[.int .i64 v] w fun e w'=>e=.returned (.agg #[.int .i64 (hiW v),.int .u64 (loW v)])/\Ok w0 w':=by
 refine (wof_any v hv w).mono ?_
 rintro e w' ⟨rfl,rfl⟩
 exact ⟨rfl,hok.alloc _⟩
theorem wneg_o (v:Int) (hv:In64 v) (w0 w:World) (hok:Ok w0 w) :
  Calls Tryz.prog 103 #[.agg #[.int .i64 0,.int .u64 0],.agg #[.int .i64 (hiW v),.int .u64 (loW v)]] w fun e w'=>e=.returned (.agg #[.int .i64 (hiW (-v)),.int .u64 (loW (-v))])/\Ok w0 w':=by
 have h:=wminus_any 0 v w0 w hok (by unfold Small;omega) (small_in hv)
 rw [Int.zero_sub,show hiW 0=0 by unfold hiW;omega,show loW 0=0 by unfold loW;omega] at h
 exact h
theorem negI_no {l h:Int} (hc:l<=h):negI l h=spanI (-h) (-l):=by unfold negI;rw [if_neg (by omega)]
theorem negI_yes {l h:Int} (hc:h<l):negI l h=(1,0,true):=by unfold negI;rw [if_pos hc]
theorem rneg_any (l h:Int) (w0 w:World) (hok:Ok w0 w) (hl:In64 l) (hh:In64 h) :
  Calls Tryz.prog 32 #[.agg #[.int .i64 l,.int .i64 h]] w fun e w'=>e=.returned (.tuple #[.agg #[.int .i64 (negI l h).1,.int .i64 (negI l h).2.1],.bool (negI l h).2.2])/\Ok w0 w':=by
 by_cases hc:h<l
 ·have E:Hid _:=negI_yes hc
  have d:decide (h<l)=true:=decide_eq_true hc
  go_enter Tryz.func32,Tryz.ntmps32
  go_wp2_with (first | (go_at_call 101;refine (rnone_any _).mono ?_;rintro e w' ⟨rfl,rfl⟩) | (go_at_call 100;refine (rempty_ex _ _ _).mono ?_;rintro e w' ⟨rfl,rfl⟩))
  (try simp only [Exit.inBlock, Exit.then]); refine bodyPost_ret (results_iv rfl _ _ (w.heap.size + 1) 24 #[_, _] (0, 0) _ rfl jj Tryz.underlying24 rfl infoI) rfl ?_
  exact ⟨retib E.out,(by repeat (first | exact hok | refine Ok.alloc ?_ _ | refine Ok.draws ?_ _ | fail))⟩
 ·replace hc:l<=h:=by omega
  have E:Hid _:=negI_no hc
  have d:decide (h<l)=false:=decide_eq_false (by omega)
  have S1:Small (-h):=by unfold Small;unfold In64 at hh;omega
  have S2:Small (-l):=by unfold Small;unfold In64 at hl;omega
  have hle : -h <= -l:=by omega
  have hw0:=hok.le
  go_enter Tryz.func32,Tryz.ntmps32
  go_wp2_with (first | (go_at_call 100;refine (rempty_ex _ _ _).mono ?_;rintro e w' ⟨rfl,rfl⟩))
  obtain ⟨W,hW⟩:∃ W,W=((w.alloc (.cells #[.int .i64 l,.int .i64 h] 24)).alloc (.cells #[.int .i64 0,.int .i64 0] 24)).alloc (.cells #[.int .i64 l,.int .i64 h] 24):=⟨_,rfl⟩
  have ra:W.heap[w.heap.size]?=some (.cells #[.int .i64 l,.int .i64 h] 24):=by rw [hW];exact jj
  have rr:W.heap[w.heap.size+1]?=some (.cells #[.int .i64 0,.int .i64 0] 24):=by rw [hW];exact jj
  have hokW:Ok w0 W:=by rw [hW];exact (by repeat (first | exact hok | refine Ok.alloc ?_ _ | refine Ok.draws ?_ _ | fail))
  have hsz:w.heap.size+2<=W.heap.size:=by rw [hW];simp
  rw [<-hW]
  clear hW
  obtain ⟨c0,c1,_,_⟩:=row_facts ra
  have g0:w.heap.size<W.heap.size:=by omega
  have HRR:Hid _:=rr
  clear ra rr
  have hb0:Ok W W:=Ok.refl _
  go_region_held3 (fun w'=>w'.cell? ⟨w.heap.size,0,none⟩=some (.int .i64 l)/\w'.cell? ⟨w.heap.size,1,none⟩=some (.int .i64 h)) (go_keep)
   (first
   | (go_at_call 104;refine (wof_o _ (by assumption) W _ (by first | assumption | exact Ok.draws (by assumption) 1)).mono ?_;rintro e w' ⟨rfl,hb⟩;have d0:=Ok.cell hb g0 c0;have d1:=Ok.cell hb g0 c1)
   | (go_at_call 103;refine (wneg_o _ (by assumption) W _ (by assumption)).mono ?_;rintro e w' ⟨rfl,hb⟩;have d0:=Ok.cell hb g0 c0;have d1:=Ok.cell hb g0 c1)
   | (go_at_call 102;refine (wspan_any _ _ W _ (by assumption) S1 S2 hle).mono ?_;rintro e w' ⟨rfl,hb⟩;have hr:=Ok.row hb (g:=w.heap.size+1) (by omega) HRR.out;obtain ⟨k0,k1,k2,k3⟩:=row_facts hr;have hn:=Ok.le hb;have d0:=Ok.cell hb g0 c0;have d1:=Ok.cell hb g0 c1)
   | fail)
  go_wp2_with fail
  (try simp only [Exit.inBlock,Exit.then])
  refine bodyPost_ret (results_iv rfl _ _ (w.heap.size+1) 24 #[_,_] (0,0) _ rfl (row_set2 hr _ _) Tryz.underlying24 rfl infoI) rfl ?_
  exact ⟨retib E.out,((hokW.step hb).set (by simp;omega) _).set (by simp;omega) _⟩
theorem addI_no {al ah bl bh:Int} (ha:al<=ah) (hb:bl<=bh):addI al ah bl bh=spanI (al+bl) (ah+bh):=by unfold addI;rw [if_neg (by omega)]
theorem addI_yes {al ah bl bh:Int} (h:ah<al\/bh<bl):addI al ah bl bh=(1,0,true):=by unfold addI;rw [if_pos h]
theorem radd_any (al ah bl bh:Int) (w0 w:World) (hok:Ok w0 w) (ha1:In64 al) (ha2:In64 ah) (hb1:In64 bl) (hb2:In64 bh) :
  Calls Tryz.prog 35 #[.agg #[.int .i64 al,.int .i64 ah],.agg #[.int .i64 bl,.int .i64 bh]] w fun e w'=>e=.returned (.tuple #[.agg #[.int .i64 (addI al ah bl bh).1,.int .i64 (addI al ah bl bh).2.1],.bool (addI al ah bl bh).2.2])/\Ok w0 w':=by
 by_cases hc:ah<al
 ·have E:Hid _:=addI_yes (bl:=bl) (bh:=bh) (Or.inl hc)
  have d:decide (ah<al)=true:=decide_eq_true hc
  go_enter Tryz.func35,Tryz.ntmps35
  go_wp2_with (first | (go_at_call 101;refine (rnone_any _).mono ?_;rintro e w' ⟨rfl,rfl⟩) | (go_at_call 100;refine (rempty_ex _ _ _).mono ?_;rintro e w' ⟨rfl,rfl⟩))
  (try simp only [Exit.inBlock, Exit.then]); refine bodyPost_ret (results_iv rfl _ _ (w.heap.size + 2) 24 #[_, _] (0, 0) _ rfl jj Tryz.underlying24 rfl infoI) rfl ?_
  exact ⟨retib E.out,(by repeat (first | exact hok | refine Ok.alloc ?_ _ | refine Ok.draws ?_ _ | fail))⟩
 ·by_cases hc2:bh<bl
  ·have E:Hid _:=addI_yes (al:=al) (ah:=ah) (Or.inr hc2)
   have d:decide (ah<al)=false:=decide_eq_false hc
   have d2:decide (bh<bl)=true:=decide_eq_true hc2
   go_enter Tryz.func35,Tryz.ntmps35
   go_wp2_with (first | (go_at_call 101;refine (rnone_any _).mono ?_;rintro e w' ⟨rfl,rfl⟩) | (go_at_call 100;refine (rempty_ex _ _ _).mono ?_;rintro e w' ⟨rfl,rfl⟩))
   (try simp only [Exit.inBlock, Exit.then]); refine bodyPost_ret (results_iv rfl _ _ (w.heap.size + 2) 24 #[_, _] (0, 0) _ rfl jj Tryz.underlying24 rfl infoI) rfl ?_
   exact ⟨retib E.out,(by repeat (first | exact hok | refine Ok.alloc ?_ _ | refine Ok.draws ?_ _ | fail))⟩
  ·have E:Hid _:=addI_no (show al<=ah by omega) (show bl<=bh by omega)
   have d:decide (ah<al)=false:=decide_eq_false hc
   have d2:decide (bh<bl)=false:=decide_eq_false hc2
   have S1:Small (al+bl):=by unfold Small;unfold In64 at ha1 hb1 hb2;omega
   have S2:Small (ah+bh):=by unfold Small;unfold In64 at ha2 hb1 hb2;omega
   have hle:al+bl<=ah+bh:=by omega
   have hw0:=hok.le
   go_enter Tryz.func35,Tryz.ntmps35
   go_wp2_with (first | (go_at_call 100;refine (rempty_ex _ _ _).mono ?_;rintro e w' ⟨rfl,rfl⟩))
   obtain ⟨W,hW⟩:∃ W,W=((((w.alloc (.cells #[.int .i64 al,.int .i64 ah] 24)).alloc (.cells #[.int .i64 bl,.int .i64 bh] 24)).alloc (.cells #[.int .i64 0,.int .i64 0] 24)).alloc (.cells #[.int .i64 al,.int .i64 ah] 24)).alloc (.cells #[.int .i64 bl,.int .i64 bh] 24):=⟨_,rfl⟩
   have ra:W.heap[w.heap.size]?=some (.cells #[.int .i64 al,.int .i64 ah] 24):=by rw [hW];exact jj
   have rb:W.heap[w.heap.size+1]?=some (.cells #[.int .i64 bl,.int .i64 bh] 24):=by rw [hW];exact jj
   have rr:W.heap[w.heap.size+2]?=some (.cells #[.int .i64 0,.int .i64 0] 24):=by rw [hW];exact jj
   have hokW:Ok w0 W:=by rw [hW];exact (by repeat (first | exact hok | refine Ok.alloc ?_ _ | refine Ok.draws ?_ _ | fail))
   have hsz:w.heap.size+3<=W.heap.size:=by rw [hW];simp
   rw [<-hW]
   clear hW
   obtain ⟨c0,c1,_,_⟩:=row_facts ra
   obtain ⟨c2,c3,_,_⟩:=row_facts rb
   have g0:w.heap.size<W.heap.size:=by omega
   have g1:w.heap.size+1<W.heap.size:=by omega
   have HRR:Hid _:=rr
   clear ra rb rr
   have hb0:Ok W W:=Ok.refl _
   have ne0:¬w.heap.size=w.heap.size+1+1:=by omega
   have ne1:¬w.heap.size+1+1=w.heap.size:=by omega
   have hb00:Ok W W.drew:=Below.drew (Below.refl _ _)
   go_region_held3 (fun w'=>w'.cell? ⟨w.heap.size,0,none⟩=some (.int .i64 al)/\w'.cell? ⟨w.heap.size,1,none⟩=some (.int .i64 ah)/\w'.cell? ⟨w.heap.size+1,0,none⟩=some (.int .i64 bl)/\w'.cell? ⟨w.heap.size+1,1,none⟩=some (.int .i64 bh)) (go_keep)
    (first
    | (go_at_call 104;refine (wof_o _ (by assumption) W _ (by assumption)).mono ?_;rintro e w' ⟨rfl,hb⟩;have d0:=Ok.cell hb g0 c0;have d1:=Ok.cell hb g0 c1;have d2:=Ok.cell hb g1 c2;have d3:=Ok.cell hb g1 c3)
    | (go_at_call 112;refine (wplus_any _ _ W _ (by assumption) (small_in (by assumption)) (small_in (by assumption))).mono ?_;rintro e w' ⟨rfl,hb⟩;have d0:=Ok.cell hb g0 c0;have d1:=Ok.cell hb g0 c1;have d2:=Ok.cell hb g1 c2;have d3:=Ok.cell hb g1 c3)
    | (go_at_call 102;refine (wspan_any _ _ W _ (by assumption) S1 S2 hle).mono ?_;rintro e w' ⟨rfl,hb⟩;have hr:=Ok.row hb (g:=w.heap.size+2) (by omega) HRR.out;obtain ⟨k0,k1,k2,k3⟩:=row_facts hr;have hn:=Ok.le hb;have d0:=Ok.cell hb g0 c0;have d1:=Ok.cell hb g0 c1;have d2:=Ok.cell hb g1 c2;have d3:=Ok.cell hb g1 c3)
    | fail)
   go_wp2_with fail
   (try simp only [Exit.inBlock,Exit.then])
   refine bodyPost_ret (results_iv rfl _ _ (w.heap.size+2) 24 #[_,_] (0,0) _ rfl (row_set2 hr _ _) Tryz.underlying24 rfl infoI) rfl ?_
   exact ⟨retib E.out,((hokW.step hb).set (by simp;omega) _).set (by simp;omega) _⟩
theorem subI_no {al ah bl bh:Int} (ha:al<=ah) (hb:bl<=bh):subI al ah bl bh=spanI (al-bh) (ah-bl):=by unfold subI;rw [if_neg (by omega)]
theorem subI_yes {al ah bl bh:Int} (h:ah<al\/bh<bl):subI al ah bl bh=(1,0,true):=by unfold subI;rw [if_pos h]
theorem rsub_any (al ah bl bh:Int) (w0 w:World) (hok:Ok w0 w) (ha1:In64 al) (ha2:In64 ah) (hb1:In64 bl) (hb2:In64 bh) :
  Calls Tryz.prog 37 #[.agg #[.int .i64 al,.int .i64 ah],.agg #[.int .i64 bl,.int .i64 bh]] w fun e w'=>e=.returned (.tuple #[.agg #[.int .i64 (subI al ah bl bh).1,.int .i64 (subI al ah bl bh).2.1],.bool (subI al ah bl bh).2.2])/\Ok w0 w':=by
 by_cases hc:ah<al
 ·have E:Hid _:=subI_yes (bl:=bl) (bh:=bh) (Or.inl hc)
  have d:decide (ah<al)=true:=decide_eq_true hc
  go_enter Tryz.func37,Tryz.ntmps37
  go_wp2_with (first | (go_at_call 101;refine (rnone_any _).mono ?_;rintro e w' ⟨rfl,rfl⟩) | (go_at_call 100;refine (rempty_ex _ _ _).mono ?_;rintro e w' ⟨rfl,rfl⟩))
  (try simp only [Exit.inBlock, Exit.then]); refine bodyPost_ret (results_iv rfl _ _ (w.heap.size + 2) 24 #[_, _] (0, 0) _ rfl jj Tryz.underlying24 rfl infoI) rfl ?_
  exact ⟨retib E.out,(by repeat (first | exact hok | refine Ok.alloc ?_ _ | refine Ok.draws ?_ _ | fail))⟩
 ·by_cases hc2:bh<bl
  ·have E:Hid _:=subI_yes (al:=al) (ah:=ah) (Or.inr hc2)
   have d:decide (ah<al)=false:=decide_eq_false hc
   have d2:decide (bh<bl)=true:=decide_eq_true hc2
   go_enter Tryz.func37,Tryz.ntmps37
   go_wp2_with (first | (go_at_call 101;refine (rnone_any _).mono ?_;rintro e w' ⟨rfl,rfl⟩) | (go_at_call 100;refine (rempty_ex _ _ _).mono ?_;rintro e w' ⟨rfl,rfl⟩))
   (try simp only [Exit.inBlock, Exit.then]); refine bodyPost_ret (results_iv rfl _ _ (w.heap.size + 2) 24 #[_, _] (0, 0) _ rfl jj Tryz.underlying24 rfl infoI) rfl ?_
   exact ⟨retib E.out,(by repeat (first | exact hok | refine Ok.alloc ?_ _ | refine Ok.draws ?_ _ | fail))⟩
  ·have E:Hid _:=subI_no (show al<=ah by omega) (show bl<=bh by omega)
   have d:decide (ah<al)=false:=decide_eq_false hc
   have d2:decide (bh<bl)=false:=decide_eq_false hc2
   have S1:Small (al-bh):=by unfold Small;unfold In64 at ha1 hb1 hb2;omega
   have S2:Small (ah-bl):=by unfold Small;unfold In64 at ha2 hb1 hb2;omega
   have hle:al-bh<=ah-bl:=by omega
   have hw0:=hok.le
   go_enter Tryz.func37,Tryz.ntmps37
   go_wp2_with (first | (go_at_call 100;refine (rempty_ex _ _ _).mono ?_;rintro e w' ⟨rfl,rfl⟩))
   obtain ⟨W,hW⟩:∃ W,W=((((w.alloc (.cells #[.int .i64 al,.int .i64 ah] 24)).alloc (.cells #[.int .i64 bl,.int .i64 bh] 24)).alloc (.cells #[.int .i64 0,.int .i64 0] 24)).alloc (.cells #[.int .i64 al,.int .i64 ah] 24)).alloc (.cells #[.int .i64 bl,.int .i64 bh] 24):=⟨_,rfl⟩
   have ra:W.heap[w.heap.size]?=some (.cells #[.int .i64 al,.int .i64 ah] 24):=by rw [hW];exact jj
   have rb:W.heap[w.heap.size+1]?=some (.cells #[.int .i64 bl,.int .i64 bh] 24):=by rw [hW];exact jj
   have rr:W.heap[w.heap.size+2]?=some (.cells #[.int .i64 0,.int .i64 0] 24):=by rw [hW];exact jj
   have hokW:Ok w0 W:=by rw [hW];exact (by repeat (first | exact hok | refine Ok.alloc ?_ _ | refine Ok.draws ?_ _ | fail))
   have hsz:w.heap.size+3<=W.heap.size:=by rw [hW];simp
   rw [<-hW]
   clear hW
   obtain ⟨c0,c1,_,_⟩:=row_facts ra
   obtain ⟨c2,c3,_,_⟩:=row_facts rb
   have g0:w.heap.size<W.heap.size:=by omega
   have g1:w.heap.size+1<W.heap.size:=by omega
   have HRR:Hid _:=rr
   clear ra rb rr
   have hb0:Ok W W:=Ok.refl _
   have ne0:¬w.heap.size=w.heap.size+1+1:=by omega
   have ne1:¬w.heap.size+1+1=w.heap.size:=by omega
   have hb00:Ok W W.drew:=Below.drew (Below.refl _ _)
   go_region_held3 (fun w'=>w'.cell? ⟨w.heap.size,0,none⟩=some (.int .i64 al)/\w'.cell? ⟨w.heap.size,1,none⟩=some (.int .i64 ah)/\w'.cell? ⟨w.heap.size+1,0,none⟩=some (.int .i64 bl)/\w'.cell? ⟨w.heap.size+1,1,none⟩=some (.int .i64 bh)) (go_keep)
    (first
    | (go_at_call 104;refine (wof_o _ (by assumption) W _ (by assumption)).mono ?_;rintro e w' ⟨rfl,hb⟩;have d0:=Ok.cell hb g0 c0;have d1:=Ok.cell hb g0 c1;have d2:=Ok.cell hb g1 c2;have d3:=Ok.cell hb g1 c3)
    | (go_at_call 103;refine (wminus_any _ _ W _ (by assumption) (small_in (by assumption)) (small_in (by assumption))).mono ?_;rintro e w' ⟨rfl,hb⟩;have d0:=Ok.cell hb g0 c0;have d1:=Ok.cell hb g0 c1;have d2:=Ok.cell hb g1 c2;have d3:=Ok.cell hb g1 c3)
    | (go_at_call 102;refine (wspan_any _ _ W _ (by assumption) S1 S2 hle).mono ?_;rintro e w' ⟨rfl,hb⟩;have hr:=Ok.row hb (g:=w.heap.size+2) (by omega) HRR.out;obtain ⟨k0,k1,k2,k3⟩:=row_facts hr;have hn:=Ok.le hb;have d0:=Ok.cell hb g0 c0;have d1:=Ok.cell hb g0 c1;have d2:=Ok.cell hb g1 c2;have d3:=Ok.cell hb g1 c3)
    | fail)
   go_wp2_with fail
   (try simp only [Exit.inBlock,Exit.then])
   refine bodyPost_ret (results_iv rfl _ _ (w.heap.size+2) 24 #[_,_] (0,0) _ rfl (row_set2 hr _ _) Tryz.underlying24 rfl infoI) rfl ?_
   exact ⟨retib E.out,((hokW.step hb).set (by simp;omega) _).set (by simp;omega) _⟩
end Go.Proofs.YtpjpjhjjhoeijaaGreat
