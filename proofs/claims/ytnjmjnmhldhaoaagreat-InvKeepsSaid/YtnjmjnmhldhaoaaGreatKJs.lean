import Derived.Test.YtnjmjnmhldhaoaaGreatKJcg
set_option maxHeartbeats 8000000
set_option linter.all false
namespace Go.Proofs.YtnjmjnmhldhaoaaGreat
section
open Go.RowKit
theorem pthi_d (W:Int->Int->Int) (al ah bl bh L H:Int) (bf:Nat) (w:World) (hop:OpAt 228 al ah bl bh W) (hbf:w.heap[bf]?=some (.cells #[.func (.func 228) #[] #[]] 183 (0,0))) (h:cL W al ah bl bh 4=L/\cH W al ah bl bh 4=H) :
  Calls Tryz.prog 253 #[.agg #[.int .i64 al,.int .i64 ah],.agg #[.int .i64 bl,.int .i64 bh],.pointer (some ⟨bf,0,none⟩)] w fun e w'=>e=.returned (.agg #[.int .i64 (tW L),.int .i64 (wrap64 L),.int .i64 (tW H),.int .i64 (wrap64 H)])/\Ok w w':=by
 rw [<-h.1,<-h.2];exact pthr 228 (fun _ _ _=>by kernel_rfl) W al ah bl bh bf w hop hbf
theorem pgap_d_c (W2:Int->Int->Int) (al ah bl bh:Int) (w0 w:World) (hok:Ok w0 w) (hop:OpAt 228 al ah bl bh W2) (hc:al<=ah) (hc2:bl<=bh) :
  Calls Tryz.prog 225 #[.func (.func 228) #[] #[],.agg #[.int .i64 al,.int .i64 ah],.agg #[.int .i64 bl,.int .i64 bh]] w fun e w'=>e=.returned (.tuple #[.agg #[.int .i64 (hullW (cL W2 al ah bl bh 4) (cH W2 al ah bl bh 4)).1,.int .i64 (hullW (cL W2 al ah bl bh 4) (cH W2 al ah bl bh 4)).2],.bool (exW (cL W2 al ah bl bh 4) (cH W2 al ah bl bh 4))])/\Ok w0 w':=by
 have d:decide (ah<al)=false:=decide_eq_false (by omega)
 have d2:decide (bh<bl)=false:=decide_eq_false (by omega)
 have HO:Hid _:=hop
 clear hop
 generalize hL:cL W2 al ah bl bh 4=L
 generalize hH:cH W2 al ah bl bh 4=H
 have HLH:Hid (cL W2 al ah bl bh 4=L/\cH W2 al ah bl bh 4=H):=⟨hL,hH⟩
 clear hL hH
 go_enter Tryz.func225,Tryz.ntmps225
 go_wp2_with (first | (go_at_call 199;refine (pisnone_ex _ _ _).mono ?_;rintro e w' ⟨rfl,rfl⟩) | fail)
 obtain ⟨W,hW⟩:∃ W,W=((((w.alloc (.cells #[.int .i64 al,.int .i64 ah] 24)).alloc (.cells #[.int .i64 bl,.int .i64 bh] 24)).alloc (.cells #[.int .i64 0,.int .i64 0] 24)).alloc (.cells #[.int .i64 al,.int .i64 ah] 24)).alloc (.cells #[.int .i64 bl,.int .i64 bh] 24):=⟨_,rfl⟩
 have ra:W.heap[w.heap.size]?=some (.cells #[.int .i64 al,.int .i64 ah] 24):=by rw [hW];exact jj
 have rb:W.heap[w.heap.size+1]?=some (.cells #[.int .i64 bl,.int .i64 bh] 24):=by rw [hW];exact jj
 have rr:W.heap[w.heap.size+2]?=some (.cells #[.int .i64 0,.int .i64 0] 24):=by rw [hW];exact jj
 have hokW:Ok w0 W:=by rw [hW];exact (by repeat (first | exact hok | refine Ok.alloc ?_ _ | refine Ok.draws ?_ _ | fail))
 have hw0:=hok.le
 rw [<-hW]
 clear hW
 obtain ⟨c0,c1,_,_⟩:=row_facts ra
 obtain ⟨c2,c3,_,_⟩:=row_facts rb
 have g0:=lt_row ra
 have g1:=lt_row rb
 have HW:Hid (W.heap[w.heap.size+2]?=some (.cells #[.int .i64 0,.int .i64 0] 24)/\Ok w0 W/\w0.heap.size<=w.heap.size):=⟨rr,hokW,hw0⟩
 clear ra rb rr hokW hw0 hok
 have hm0:=World.new_ne W _ c0
 have hm1:=World.new_ne W _ c1
 have hm2:=World.new_ne W _ c2
 have hm3:=World.new_ne W _ c3
 have hn0:¬w.heap.size=W.heap.size:=by omega
 have hn1:¬w.heap.size+1=W.heap.size:=by omega
 have hn2:¬w.heap.size=W.heap.size+1:=by omega
 have hn3:¬w.heap.size+1=W.heap.size+1:=by omega
 have hp0:¬W.heap.size+1=w.heap.size:=by omega
 have hp1:¬W.heap.size=w.heap.size:=by omega
 have hp2:¬W.heap.size=w.heap.size+1:=by omega
 have hp3:¬W.heap.size+1=w.heap.size+1:=by omega
 refine wp_cut2 (fun a1 w1=>∃ g bf,a1=⟨#[.func (.func 228) #[] #[],.agg #[.int .i64 al,.int .i64 ah],.agg #[.int .i64 bl,.int .i64 bh],undef,.pointer (some ⟨w.heap.size,0,none⟩),.pointer (some ⟨w.heap.size+1,0,none⟩),.pointer (some ⟨w.heap.size+1+1,0,none⟩),.bool false,.pointer (some ⟨g,0,none⟩),.agg #[.int .i64 al,.int .i64 ah],.bool false,.bool false,.agg #[.int .i64 bl,.int .i64 bh],.bool false,.bool false,undef,.func (.func 228) #[] #[],.func (.func 253) #[] #[.pointer (some ⟨bf,0,none⟩)],.agg #[.int .i64 al,.int .i64 ah],.agg #[.int .i64 bl,.int .i64 bh],.agg #[.int .i64 (tW L),.int .i64 (wrap64 L),.int .i64 (tW H),.int .i64 (wrap64 H)],undef,undef,undef,undef],[]⟩/\Hid (Spn W w1 g L H)) ?_ ?_
 ·go_region_held3 (fun w'=>w'.cell? ⟨w.heap.size,0,none⟩=some (.int .i64 al)/\w'.cell? ⟨w.heap.size,1,none⟩=some (.int .i64 ah)/\w'.cell? ⟨w.heap.size+1,0,none⟩=some (.int .i64 bl)/\w'.cell? ⟨w.heap.size+1,1,none⟩=some (.int .i64 bh)) (go_keep)
   (first
   | (go_at_call 229;refine (pthrough_ex _ _).mono ?_;rintro e w' ⟨rfl,rfl⟩)
   | (go_at_call 253;refine (pthi_d W2 _ _ _ _ L H _ _ HO.out jj HLH.out).mono ?_;rintro e w2 ⟨rfl,hb2⟩;have hbW:Ok W w2:=Ok.step (by repeat (first | exact Ok.refl _ | refine Ok.alloc ?_ _ | refine Ok.draws ?_ _ | exact Below.drew (Ok.refl _))) hb2;have e0:=Ok.cell hbW g0 c0;have e1:=Ok.cell hbW g0 c1;have e2:=Ok.cell hbW g1 c2;have e3:=Ok.cell hbW g1 c3;have j0:¬w2.heap.size=w.heap.size:=(by have:=hbW.le;omega);have j1:¬w2.heap.size=w.heap.size+1:=(by have:=hbW.le;omega);have j2:¬w.heap.size=w2.heap.size:=(by have:=hbW.le;omega);have j3:¬w.heap.size+1=w2.heap.size:=(by have:=hbW.le;omega);first | (have HQ:Hid _:=rowA (o:=.cells #[.int .i64 0,.int .i64 0,.int .i64 0,.int .i64 0] 187) hb2;obtain ⟨⟨q0,q1,q2,q3⟩,q4,q5,q6,q7⟩:=row_facts4 HQ.out) | (have HQ:Hid _:=rowB (o:=.cells #[.int .i64 0,.int .i64 0,.int .i64 0,.int .i64 0] 187) hb2;obtain ⟨⟨q0,q1,q2,q3⟩,q4,q5,q6,q7⟩:=row_facts4 HQ.out) | skip)
   | fail)
  all_goals (refine ⟨_,_,rfl,?_⟩;first | with_reducible exact thr_a hbW | ((with_reducible refine thr_b hbW HQ.out ?_);omega))
 ·rintro a1 w1 ⟨g,bf,rfl,HT⟩
  clear c0 c1 c2 c3 g0 g1 hm0 hm1 hm2 hm3 hn0 hn1 hn2 hn3 hp0 hp1 hp2 hp3 d d2
  have rg:=HT.out.2.1
  obtain ⟨⟨q0,q1,q2,q3⟩,_,_,_,_⟩:=row_facts4 rg
  have sg:=lt_row rg
  have rr:=Ok.row' HT.out.1 HW.out.1
  obtain ⟨p0,p1,p2,p3⟩:=row_facts rr
  have HR:Hid (w1.heap[w.heap.size+2]?=some (.cells #[.int .i64 0,.int .i64 0] 24)/\Ok w0 w1):=⟨rr,Ok.step HW.out.2.1 HT.out.1⟩
  clear rg rr
  have bx:Ok w1 w1:=Ok.refl _
  have bx':Ok w1 w1.drew:=Below.drew (Ok.refl _)
  have ne1:¬g=w.heap.size+1+1:=by have h1:=HT.out.2.2;have h2:=lt_row HW.out.1;omega
  have ne2:¬w.heap.size+1+1=g:=by omega
  simp only [Exit.then]
  go_wp2_with fail
  go_region_held3 (fun w'=>w'.cell? ⟨g,0,none⟩=some (.int .i64 (tW L))/\w'.cell? ⟨g,1,none⟩=some (.int .i64 (wrap64 L))/\w'.cell? ⟨g,2,none⟩=some (.int .i64 (tW H))/\w'.cell? ⟨g,3,none⟩=some (.int .i64 (wrap64 H))) (go_keep)
   (first
   | (go_at_call 233;refine (phull_any _ _ w1 _ (by assumption)).mono ?_;rintro e w3 ⟨rfl,hb3⟩;have e0:=Ok.cell hb3 sg q0;have e1:=Ok.cell hb3 sg q1;have e2:=Ok.cell hb3 sg q2;have e3:=Ok.cell hb3 sg q3;obtain ⟨k0,k1,k2,k3⟩:=row_facts (Ok.row' hb3 HR.out.1))
   | (go_at_call 231;refine (pexact_any _ _ w1 _ (by assumption)).mono ?_;rintro e w3 ⟨rfl,hb3⟩;have e0:=Ok.cell hb3 sg q0;have e1:=Ok.cell hb3 sg q1;have e2:=Ok.cell hb3 sg q2;have e3:=Ok.cell hb3 sg q3;obtain ⟨k0,k1,k2,k3⟩:=row_facts (Ok.row' hb3 HR.out.1))
   | fail)
  go_wp2_with fail
  (try simp only [Exit.inBlock,Exit.then])
  refine bodyPost_ret (results_iv rfl _ _ (w.heap.size+2) 24 #[_,_] (0,0) _ rfl (row_set2 (Ok.row' hb3 HR.out.1) _ _) Tryz.underlying24 rfl infoI) rfl ?_
  have hw:=HW.out.2.2
  exact ⟨rfl,((Ok.step HR.out.2 hb3).set (show w0.heap.size<=w.heap.size+2 by omega) _).set (show w0.heap.size<=w.heap.size+2 by omega) _⟩
theorem pgap_d_n (al ah bl bh:Int) (w0 w:World) (hok:Ok w0 w) (hc:ah<al\/bh<bl) :
  Calls Tryz.prog 225 #[.func (.func 228) #[] #[],.agg #[.int .i64 al,.int .i64 ah],.agg #[.int .i64 bl,.int .i64 bh]] w fun e w'=>e=.returned (.tuple #[.agg #[.int .i64 1,.int .i64 0],.bool true])/\Ok w0 w':=by
 by_cases h1:ah<al
 ·have d:decide (ah<al)=true:=decide_eq_true h1
  go_enter Tryz.func225,Tryz.ntmps225
  go_wp2_with (first | (go_at_call 199;refine (pisnone_ex _ _ _).mono ?_;rintro e w' ⟨rfl,rfl⟩) | (go_at_call 200;refine (pnone_ex _).mono ?_;rintro e w' ⟨rfl,rfl⟩) | fail)
  (try simp only [Exit.inBlock, Exit.then]); refine bodyPost_ret (results_iv rfl _ _ (w.heap.size + 2) 24 #[_, _] (0, 0) _ rfl jj Tryz.underlying24 rfl infoI) rfl ?_
  exact ⟨rfl,(by repeat (first | exact hok | refine Ok.alloc ?_ _ | refine Ok.draws ?_ _ | fail))⟩
 ·have d:decide (ah<al)=false:=decide_eq_false h1
  have d2:decide (bh<bl)=true:=decide_eq_true (by omega)
  go_enter Tryz.func225,Tryz.ntmps225
  go_wp2_with (first | (go_at_call 199;refine (pisnone_ex _ _ _).mono ?_;rintro e w' ⟨rfl,rfl⟩) | (go_at_call 200;refine (pnone_ex _).mono ?_;rintro e w' ⟨rfl,rfl⟩) | fail)
  (try simp only [Exit.inBlock, Exit.then]); refine bodyPost_ret (results_iv rfl _ _ (w.heap.size + 2) 24 #[_, _] (0, 0) _ rfl jj Tryz.underlying24 rfl infoI) rfl ?_
  exact ⟨rfl,(by repeat (first | exact hok | refine Ok.alloc ?_ _ | refine Ok.draws ?_ _ | fail))⟩
end
section
open Go.RowKit
theorem pthi_s (W:Int->Int->Int) (al ah bl bh L H:Int) (bf:Nat) (w:World) (hop:OpAt 226 al ah bl bh W) (hbf:w.heap[bf]?=some (.cells #[.func (.func 226) #[] #[]] 183 (0,0))) (h:cL W al ah bl bh 4=L/\cH W al ah bl bh 4=H) :
  Calls Tryz.prog 253 #[.agg #[.int .i64 al,.int .i64 ah],.agg #[.int .i64 bl,.int .i64 bh],.pointer (some ⟨bf,0,none⟩)] w fun e w'=>e=.returned (.agg #[.int .i64 (tW L),.int .i64 (wrap64 L),.int .i64 (tW H),.int .i64 (wrap64 H)])/\Ok w w':=by
 rw [<-h.1,<-h.2];exact pthr 226 (fun _ _ _=>by kernel_rfl) W al ah bl bh bf w hop hbf
theorem pgap_s_c (W2:Int->Int->Int) (al ah bl bh:Int) (w0 w:World) (hok:Ok w0 w) (hop:OpAt 226 al ah bl bh W2) (hc:al<=ah) (hc2:bl<=bh) :
  Calls Tryz.prog 225 #[.func (.func 226) #[] #[],.agg #[.int .i64 al,.int .i64 ah],.agg #[.int .i64 bl,.int .i64 bh]] w fun e w'=>e=.returned (.tuple #[.agg #[.int .i64 (hullW (cL W2 al ah bl bh 4) (cH W2 al ah bl bh 4)).1,.int .i64 (hullW (cL W2 al ah bl bh 4) (cH W2 al ah bl bh 4)).2],.bool (exW (cL W2 al ah bl bh 4) (cH W2 al ah bl bh 4))])/\Ok w0 w':=by
 have d:decide (ah<al)=false:=decide_eq_false (by omega)
 have d2:decide (bh<bl)=false:=decide_eq_false (by omega)
 have HO:Hid _:=hop
 clear hop
 generalize hL:cL W2 al ah bl bh 4=L
 generalize hH:cH W2 al ah bl bh 4=H
 have HLH:Hid (cL W2 al ah bl bh 4=L/\cH W2 al ah bl bh 4=H):=⟨hL,hH⟩
 clear hL hH
 go_enter Tryz.func225,Tryz.ntmps225
 go_wp2_with (first | (go_at_call 199;refine (pisnone_ex _ _ _).mono ?_;rintro e w' ⟨rfl,rfl⟩) | fail)
 obtain ⟨W,hW⟩:∃ W,W=((((w.alloc (.cells #[.int .i64 al,.int .i64 ah] 24)).alloc (.cells #[.int .i64 bl,.int .i64 bh] 24)).alloc (.cells #[.int .i64 0,.int .i64 0] 24)).alloc (.cells #[.int .i64 al,.int .i64 ah] 24)).alloc (.cells #[.int .i64 bl,.int .i64 bh] 24):=⟨_,rfl⟩
 have ra:W.heap[w.heap.size]?=some (.cells #[.int .i64 al,.int .i64 ah] 24):=by rw [hW];exact jj
 have rb:W.heap[w.heap.size+1]?=some (.cells #[.int .i64 bl,.int .i64 bh] 24):=by rw [hW];exact jj
 have rr:W.heap[w.heap.size+2]?=some (.cells #[.int .i64 0,.int .i64 0] 24):=by rw [hW];exact jj
 have hokW:Ok w0 W:=by rw [hW];exact (by repeat (first | exact hok | refine Ok.alloc ?_ _ | refine Ok.draws ?_ _ | fail))
 have hw0:=hok.le
 rw [<-hW]
 clear hW
 obtain ⟨c0,c1,_,_⟩:=row_facts ra
 obtain ⟨c2,c3,_,_⟩:=row_facts rb
 have g0:=lt_row ra
 have g1:=lt_row rb
 have HW:Hid (W.heap[w.heap.size+2]?=some (.cells #[.int .i64 0,.int .i64 0] 24)/\Ok w0 W/\w0.heap.size<=w.heap.size):=⟨rr,hokW,hw0⟩
 clear ra rb rr hokW hw0 hok
 have hm0:=World.new_ne W _ c0
 have hm1:=World.new_ne W _ c1
 have hm2:=World.new_ne W _ c2
 have hm3:=World.new_ne W _ c3
 have hn0:¬w.heap.size=W.heap.size:=by omega
 have hn1:¬w.heap.size+1=W.heap.size:=by omega
 have hn2:¬w.heap.size=W.heap.size+1:=by omega
 have hn3:¬w.heap.size+1=W.heap.size+1:=by omega
 have hp0:¬W.heap.size+1=w.heap.size:=by omega
 have hp1:¬W.heap.size=w.heap.size:=by omega
 have hp2:¬W.heap.size=w.heap.size+1:=by omega
 have hp3:¬W.heap.size+1=w.heap.size+1:=by omega
 refine wp_cut2 (fun a1 w1=>∃ g bf,a1=⟨#[.func (.func 226) #[] #[],.agg #[.int .i64 al,.int .i64 ah],.agg #[.int .i64 bl,.int .i64 bh],undef,.pointer (some ⟨w.heap.size,0,none⟩),.pointer (some ⟨w.heap.size+1,0,none⟩),.pointer (some ⟨w.heap.size+1+1,0,none⟩),.bool false,.pointer (some ⟨g,0,none⟩),.agg #[.int .i64 al,.int .i64 ah],.bool false,.bool false,.agg #[.int .i64 bl,.int .i64 bh],.bool false,.bool false,undef,.func (.func 226) #[] #[],.func (.func 253) #[] #[.pointer (some ⟨bf,0,none⟩)],.agg #[.int .i64 al,.int .i64 ah],.agg #[.int .i64 bl,.int .i64 bh],.agg #[.int .i64 (tW L),.int .i64 (wrap64 L),.int .i64 (tW H),.int .i64 (wrap64 H)],undef,undef,undef,undef],[]⟩/\Hid (Spn W w1 g L H)) ?_ ?_
 ·go_region_held3 (fun w'=>w'.cell? ⟨w.heap.size,0,none⟩=some (.int .i64 al)/\w'.cell? ⟨w.heap.size,1,none⟩=some (.int .i64 ah)/\w'.cell? ⟨w.heap.size+1,0,none⟩=some (.int .i64 bl)/\w'.cell? ⟨w.heap.size+1,1,none⟩=some (.int .i64 bh)) (go_keep)
   (first
   | (go_at_call 229;refine (pthrough_ex _ _).mono ?_;rintro e w' ⟨rfl,rfl⟩)
   | (go_at_call 253;refine (pthi_s W2 _ _ _ _ L H _ _ HO.out jj HLH.out).mono ?_;rintro e w2 ⟨rfl,hb2⟩;have hbW:Ok W w2:=Ok.step (by repeat (first | exact Ok.refl _ | refine Ok.alloc ?_ _ | refine Ok.draws ?_ _ | exact Below.drew (Ok.refl _))) hb2;have e0:=Ok.cell hbW g0 c0;have e1:=Ok.cell hbW g0 c1;have e2:=Ok.cell hbW g1 c2;have e3:=Ok.cell hbW g1 c3;have j0:¬w2.heap.size=w.heap.size:=(by have:=hbW.le;omega);have j1:¬w2.heap.size=w.heap.size+1:=(by have:=hbW.le;omega);have j2:¬w.heap.size=w2.heap.size:=(by have:=hbW.le;omega);have j3:¬w.heap.size+1=w2.heap.size:=(by have:=hbW.le;omega);first | (have HQ:Hid _:=rowA (o:=.cells #[.int .i64 0,.int .i64 0,.int .i64 0,.int .i64 0] 187) hb2;obtain ⟨⟨q0,q1,q2,q3⟩,q4,q5,q6,q7⟩:=row_facts4 HQ.out) | (have HQ:Hid _:=rowB (o:=.cells #[.int .i64 0,.int .i64 0,.int .i64 0,.int .i64 0] 187) hb2;obtain ⟨⟨q0,q1,q2,q3⟩,q4,q5,q6,q7⟩:=row_facts4 HQ.out) | skip)
   | fail)
  all_goals (refine ⟨_,_,rfl,?_⟩;first | with_reducible exact thr_a hbW | ((with_reducible refine thr_b hbW HQ.out ?_);omega))
 ·rintro a1 w1 ⟨g,bf,rfl,HT⟩
  clear c0 c1 c2 c3 g0 g1 hm0 hm1 hm2 hm3 hn0 hn1 hn2 hn3 hp0 hp1 hp2 hp3 d d2
  have rg:=HT.out.2.1
  obtain ⟨⟨q0,q1,q2,q3⟩,_,_,_,_⟩:=row_facts4 rg
  have sg:=lt_row rg
  have rr:=Ok.row' HT.out.1 HW.out.1
  obtain ⟨p0,p1,p2,p3⟩:=row_facts rr
  have HR:Hid (w1.heap[w.heap.size+2]?=some (.cells #[.int .i64 0,.int .i64 0] 24)/\Ok w0 w1):=⟨rr,Ok.step HW.out.2.1 HT.out.1⟩
  clear rg rr
  have bx:Ok w1 w1:=Ok.refl _
  have bx':Ok w1 w1.drew:=Below.drew (Ok.refl _)
  have ne1:¬g=w.heap.size+1+1:=by have h1:=HT.out.2.2;have h2:=lt_row HW.out.1;omega
  have ne2:¬w.heap.size+1+1=g:=by omega
  simp only [Exit.then]
  go_wp2_with fail
  go_region_held3 (fun w'=>w'.cell? ⟨g,0,none⟩=some (.int .i64 (tW L))/\w'.cell? ⟨g,1,none⟩=some (.int .i64 (wrap64 L))/\w'.cell? ⟨g,2,none⟩=some (.int .i64 (tW H))/\w'.cell? ⟨g,3,none⟩=some (.int .i64 (wrap64 H))) (go_keep)
   (first
   | (go_at_call 233;refine (phull_any _ _ w1 _ (by assumption)).mono ?_;rintro e w3 ⟨rfl,hb3⟩;have e0:=Ok.cell hb3 sg q0;have e1:=Ok.cell hb3 sg q1;have e2:=Ok.cell hb3 sg q2;have e3:=Ok.cell hb3 sg q3;obtain ⟨k0,k1,k2,k3⟩:=row_facts (Ok.row' hb3 HR.out.1))
   | (go_at_call 231;refine (pexact_any _ _ w1 _ (by assumption)).mono ?_;rintro e w3 ⟨rfl,hb3⟩;have e0:=Ok.cell hb3 sg q0;have e1:=Ok.cell hb3 sg q1;have e2:=Ok.cell hb3 sg q2;have e3:=Ok.cell hb3 sg q3;obtain ⟨k0,k1,k2,k3⟩:=row_facts (Ok.row' hb3 HR.out.1))
   | fail)
  go_wp2_with fail
  (try simp only [Exit.inBlock,Exit.then])
  refine bodyPost_ret (results_iv rfl _ _ (w.heap.size+2) 24 #[_,_] (0,0) _ rfl (row_set2 (Ok.row' hb3 HR.out.1) _ _) Tryz.underlying24 rfl infoI) rfl ?_
  have hw:=HW.out.2.2
  exact ⟨rfl,((Ok.step HR.out.2 hb3).set (show w0.heap.size<=w.heap.size+2 by omega) _).set (show w0.heap.size<=w.heap.size+2 by omega) _⟩
theorem pgap_s_n (al ah bl bh:Int) (w0 w:World) (hok:Ok w0 w) (hc:ah<al\/bh<bl) :
  Calls Tryz.prog 225 #[.func (.func 226) #[] #[],.agg #[.int .i64 al,.int .i64 ah],.agg #[.int .i64 bl,.int .i64 bh]] w fun e w'=>e=.returned (.tuple #[.agg #[.int .i64 1,.int .i64 0],.bool true])/\Ok w0 w':=by
 by_cases h1:ah<al
 ·have d:decide (ah<al)=true:=decide_eq_true h1
  go_enter Tryz.func225,Tryz.ntmps225
  go_wp2_with (first | (go_at_call 199;refine (pisnone_ex _ _ _).mono ?_;rintro e w' ⟨rfl,rfl⟩) | (go_at_call 200;refine (pnone_ex _).mono ?_;rintro e w' ⟨rfl,rfl⟩) | fail)
  (try simp only [Exit.inBlock, Exit.then]); refine bodyPost_ret (results_iv rfl _ _ (w.heap.size + 2) 24 #[_, _] (0, 0) _ rfl jj Tryz.underlying24 rfl infoI) rfl ?_
  exact ⟨rfl,(by repeat (first | exact hok | refine Ok.alloc ?_ _ | refine Ok.draws ?_ _ | fail))⟩
 ·have d:decide (ah<al)=false:=decide_eq_false h1
  have d2:decide (bh<bl)=true:=decide_eq_true (by omega)
  go_enter Tryz.func225,Tryz.ntmps225
  go_wp2_with (first | (go_at_call 199;refine (pisnone_ex _ _ _).mono ?_;rintro e w' ⟨rfl,rfl⟩) | (go_at_call 200;refine (pnone_ex _).mono ?_;rintro e w' ⟨rfl,rfl⟩) | fail)
  (try simp only [Exit.inBlock, Exit.then]); refine bodyPost_ret (results_iv rfl _ _ (w.heap.size + 2) 24 #[_, _] (0, 0) _ rfl jj Tryz.underlying24 rfl infoI) rfl ?_
  exact ⟨rfl,(by repeat (first | exact hok | refine Ok.alloc ?_ _ | refine Ok.draws ?_ _ | fail))⟩
end
section
open Go.RowKit
theorem pgap_s_any (al ah bl bh:Int) (w0 w:World) (hok:Ok w0 w) (ha1:In64 al) (ha2:In64 ah) (hb1:In64 bl) (hb2:In64 bh) :
  Calls Tryz.prog 225 #[.func (.func 226) #[] #[],.agg #[.int .i64 al,.int .i64 ah],.agg #[.int .i64 bl,.int .i64 bh]] w fun e w'=>e=.returned (.tuple #[.agg #[.int .i64 (addI al ah bl bh).1,.int .i64 (addI al ah bl bh).2.1],.bool (addI al ah bl bh).2.2])/\Ok w0 w':=by
 by_cases h:ah<al\/bh<bl
 ·rw [show addI al ah bl bh=(1,0,true) by unfold addI;rw [if_pos h]]
  exact pgap_s_n al ah bl bh w0 w hok h
 ·have hc:al<=ah:=by omega
  have hc2:bl<=bh:=by omega
  have E:=cL_add hc hc2
  have H:=pgap_s_c _ al ah bl bh w0 w hok (op_sum ha1 ha2 hb1 hb2) hc hc2
  rw [E.1,E.2] at H
  have Q:addI al ah bl bh=((hullW (al+bl) (ah+bh)).1,(hullW (al+bl) (ah+bh)).2,exW (al+bl) (ah+bh)):=by
   unfold addI;rw [if_neg h];exact span_hullW (by omega)
  rw [Q]
  exact H
theorem pgap_d_any (al ah bl bh:Int) (w0 w:World) (hok:Ok w0 w) (ha1:In64 al) (ha2:In64 ah) (hb1:In64 bl) (hb2:In64 bh) :
  Calls Tryz.prog 225 #[.func (.func 228) #[] #[],.agg #[.int .i64 al,.int .i64 ah],.agg #[.int .i64 bl,.int .i64 bh]] w fun e w'=>e=.returned (.tuple #[.agg #[.int .i64 (subI al ah bl bh).1,.int .i64 (subI al ah bl bh).2.1],.bool (subI al ah bl bh).2.2])/\Ok w0 w':=by
 by_cases h:ah<al\/bh<bl
 ·rw [show subI al ah bl bh=(1,0,true) by unfold subI;rw [if_pos h]]
  exact pgap_d_n al ah bl bh w0 w hok h
 ·have hc:al<=ah:=by omega
  have hc2:bl<=bh:=by omega
  have E:=cL_sub hc hc2
  have H:=pgap_d_c _ al ah bl bh w0 w hok (op_dif ha1 ha2 hb1 hb2) hc hc2
  rw [E.1,E.2] at H
  have Q:subI al ah bl bh=((hullW (al-bh) (ah-bl)).1,(hullW (al-bh) (ah-bl)).2,exW (al-bh) (ah-bl)):=by
   unfold subI;rw [if_neg h];exact span_hullW (by omega)
  rw [Q]
  exact H
theorem Jpadd_any (al ah bl bh:Int) (w0 w:World) (hok:Ok w0 w) (ha1:In64 al) (ha2:In64 ah) (hb1:In64 bl) (hb2:In64 bh) :
  Calls Tryz.prog 203 #[.agg #[.int .i64 al,.int .i64 ah],.agg #[.int .i64 bl,.int .i64 bh]] w fun e w'=>e=.returned (.tuple #[.agg #[.int .i64 (addI al ah bl bh).1,.int .i64 (addI al ah bl bh).2.1],.bool (addI al ah bl bh).2.2])/\Ok w0 w':=by
 have hle:=hok.le
 have HA:Hid (In64 al/\In64 ah/\In64 bl/\In64 bh):=⟨ha1,ha2,hb1,hb2⟩
 clear ha1 ha2 hb1 hb2
 go_enter Tryz.func203,Tryz.ntmps203
 go_wp2_with fail
 refine (pgap_s_any _ _ _ _ _ _ (Ok.refl _) HA.out.1 HA.out.2.1 HA.out.2.2.1 HA.out.2.2.2).mono ?_
 rintro e w' ⟨rfl,hb⟩
 have hr:Hid _:=Ok.row' (g:=w.heap.size+2) (o:=.cells #[.int .i64 0,.int .i64 0] 24) hb jj
 obtain ⟨k0,k1,k2,k3⟩:=row_facts hr.out
 go_wp2_with fail
 (try simp only [Exit.inBlock,Exit.then])
 refine bodyPost_ret (results_iv rfl _ _ (w.heap.size+2) 24 #[_,_] (0,0) _ rfl (row_set2 hr.out _ _) Tryz.underlying24 rfl infoI) rfl ?_
 exact ⟨rfl,((Ok.step (by repeat (first | exact hok | refine Ok.alloc ?_ _ | refine Ok.draws ?_ _ | fail)) hb).set (show w0.heap.size<=w.heap.size+2 by omega) _).set (show w0.heap.size<=w.heap.size+2 by omega) _⟩
theorem Jpsub_any (al ah bl bh:Int) (w0 w:World) (hok:Ok w0 w) (ha1:In64 al) (ha2:In64 ah) (hb1:In64 bl) (hb2:In64 bh) :
  Calls Tryz.prog 205 #[.agg #[.int .i64 al,.int .i64 ah],.agg #[.int .i64 bl,.int .i64 bh]] w fun e w'=>e=.returned (.tuple #[.agg #[.int .i64 (subI al ah bl bh).1,.int .i64 (subI al ah bl bh).2.1],.bool (subI al ah bl bh).2.2])/\Ok w0 w':=by
 have hle:=hok.le
 have HA:Hid (In64 al/\In64 ah/\In64 bl/\In64 bh):=⟨ha1,ha2,hb1,hb2⟩
 clear ha1 ha2 hb1 hb2
 go_enter Tryz.func205,Tryz.ntmps205
 go_wp2_with fail
 refine (pgap_d_any _ _ _ _ _ _ (Ok.refl _) HA.out.1 HA.out.2.1 HA.out.2.2.1 HA.out.2.2.2).mono ?_
 rintro e w' ⟨rfl,hb⟩
 have hr:Hid _:=Ok.row' (g:=w.heap.size+2) (o:=.cells #[.int .i64 0,.int .i64 0] 24) hb jj
 obtain ⟨k0,k1,k2,k3⟩:=row_facts hr.out
 go_wp2_with fail
 (try simp only [Exit.inBlock,Exit.then])
 refine bodyPost_ret (results_iv rfl _ _ (w.heap.size+2) 24 #[_,_] (0,0) _ rfl (row_set2 hr.out _ _) Tryz.underlying24 rfl infoI) rfl ?_
 exact ⟨rfl,((Ok.step (by repeat (first | exact hok | refine Ok.alloc ?_ _ | refine Ok.draws ?_ _ | fail)) hb).set (show w0.heap.size<=w.heap.size+2 by omega) _).set (show w0.heap.size<=w.heap.size+2 by omega) _⟩
theorem neg_sub (al ah:Int):subI 0 0 al ah=negI al ah:=by
 unfold subI negI
 by_cases h:ah<al
 ·rw [if_pos h,if_pos (Or.inr h)]
 ·rw [if_neg h,if_neg (by omega),Int.zero_sub,Int.zero_sub]
theorem Jpneg_any (al ah:Int) (w0 w:World) (hok:Ok w0 w) (ha1:In64 al) (ha2:In64 ah) :
  Calls Tryz.prog 223 #[.agg #[.int .i64 al,.int .i64 ah]] w fun e w'=>e=.returned (.tuple #[.agg #[.int .i64 (negI al ah).1,.int .i64 (negI al ah).2.1],.bool (negI al ah).2.2])/\Ok w0 w':=by
 have hle:=hok.le
 rw [<-neg_sub]
 have HA:Hid (In64 al/\In64 ah):=⟨ha1,ha2⟩
 clear ha1 ha2
 go_enter Tryz.func223,Tryz.ntmps223
 go_wp2_with fail
 refine (Jpsub_any _ _ _ _ _ _ (Ok.refl _) ⟨by omega,by omega⟩ ⟨by omega,by omega⟩ HA.out.1 HA.out.2).mono ?_
 rintro e w' ⟨rfl,hb⟩
 have hr:Hid _:=Ok.row' (g:=w.heap.size+1) (o:=.cells #[.int .i64 0,.int .i64 0] 24) hb jj
 obtain ⟨k0,k1,k2,k3⟩:=row_facts hr.out
 go_wp2_with fail
 (try simp only [Exit.inBlock,Exit.then])
 refine bodyPost_ret (results_iv rfl _ _ (w.heap.size+1) 24 #[_,_] (0,0) _ rfl (row_set2 hr.out _ _) Tryz.underlying24 rfl infoI) rfl ?_
 exact ⟨rfl,((Ok.step (by repeat (first | exact hok | refine Ok.alloc ?_ _ | refine Ok.draws ?_ _ | fail)) hb).set (show w0.heap.size<=w.heap.size+1 by omega) _).set (show w0.heap.size<=w.heap.size+1 by omega) _⟩
end
end Go.Proofs.YtnjmjnmhldhaoaaGreat
