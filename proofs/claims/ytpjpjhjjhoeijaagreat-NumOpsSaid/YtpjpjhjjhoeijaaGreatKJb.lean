import Derived.Test.YtpjpjhjjhoeijaaGreatKIwid
set_option maxHeartbeats 8000000
set_option linter.all false
namespace Go.Proofs.YtpjpjhjjhoeijaaGreat
section
open Go.RowKit
theorem pnone_ex (w:World) :
  Calls Tryz.prog 179 #[] w fun e w'=>e=.returned (.agg #[.int .i64 1,.int .i64 0])/\w'=w.alloc (.cells #[.int .i64 1,.int .i64 0] 24):=by
 go_enter Tryz.func179,Tryz.ntmps179
 go_wp2
 try simp only [Exit.inBlock,Exit.then]
 refine bodyPost_ret (results_cell_row rfl _ _ w.heap.size 24 _ (0,0) _ rfl (heap_new0 _ _) Tryz.underlying24 rfl infoI) rfl ?_
 exact ⟨rfl,rfl⟩
theorem Jpall_ex (w:World) :
  Calls Tryz.prog 185 #[] w fun e w'=>e=.returned (.agg #[.int .i64 (-9223372036854775808),.int .i64 9223372036854775807])/\w'=w.alloc (.cells #[.int .i64 (-9223372036854775808),.int .i64 9223372036854775807] 24):=by
 go_enter Tryz.func185,Tryz.ntmps185
 go_wp2
 try simp only [Exit.inBlock,Exit.then]
 refine bodyPost_ret (results_cell_row rfl _ _ w.heap.size 24 _ (0,0) _ rfl (heap_new0 _ _) Tryz.underlying24 rfl infoI) rfl ?_
 exact ⟨rfl,rfl⟩
theorem pisnone_ex (l h:Int) (w:World) :
  Calls Tryz.prog 127 #[.agg #[.int .i64 l,.int .i64 h]] w fun e w'=>e=.returned (.bool (decide (h<l)))/\w'=w.alloc (.cells #[.int .i64 l,.int .i64 h] 24):=by
 go_enter Tryz.func127,Tryz.ntmps127
 go_wp2
 go_ret
 exact ⟨rfl,rfl⟩
theorem Jpisone_ex (l h:Int) (w:World) :
  Calls Tryz.prog 183 #[.agg #[.int .i64 l,.int .i64 h]] w fun e w'=>e=.returned (.bool (decide (l=h)))/\w'=w.alloc (.cells #[.int .i64 l,.int .i64 h] 24):=by
 go_enter Tryz.func183,Tryz.ntmps183
 go_wp2
 go_ret
 exact ⟨retb (by by_cases h:l=h<;>simp [h]),rfl⟩
theorem ptidy_yes (l h:Int) (w:World) (hc:h<l) :
  Calls Tryz.prog 128 #[.agg #[.int .i64 l,.int .i64 h]] w fun e w'=>e=.returned (.agg #[.int .i64 (normI l h).1,.int .i64 (normI l h).2])/\w'=(((w.alloc (.cells #[.int .i64 l,.int .i64 h] 24)).alloc (.cells #[.int .i64 1,.int .i64 0] 24)).alloc (.cells #[.int .i64 l,.int .i64 h] 24)).alloc (.cells #[.int .i64 1,.int .i64 0] 24):=by
 have E:Hid (normI l h=(1,0)):=by unfold Hid normI;rw [if_pos hc]
 have d:decide (h<l)=true:=decide_eq_true hc
 go_enter Tryz.func128,Tryz.ntmps128
 go_wp2_with (first | (go_at_call 127;refine (pisnone_ex _ _ _).mono ?_;rintro e w' ⟨rfl,rfl⟩) | (go_at_call 179;refine (pnone_ex _).mono ?_;rintro e w' ⟨rfl,rfl⟩) | fail)
 (try simp only [Exit.inBlock, Exit.then]); refine bodyPost_ret (results_cell_row rfl _ _ (w.heap.size+1) 24 #[_, _] (0, 0) _ rfl jj Tryz.underlying24 rfl infoI) rfl ?_
 exact ⟨reti E.out,rfl⟩
theorem ptidy_no (l h:Int) (w:World) (hc:l<=h) :
  Calls Tryz.prog 128 #[.agg #[.int .i64 l,.int .i64 h]] w fun e w'=>e=.returned (.agg #[.int .i64 (normI l h).1,.int .i64 (normI l h).2])/\w'=((w.alloc (.cells #[.int .i64 l,.int .i64 h] 24)).alloc (.cells #[.int .i64 l,.int .i64 h] 24)).alloc (.cells #[.int .i64 l,.int .i64 h] 24):=by
 have E:Hid (normI l h=(l,h)):=by unfold Hid normI;rw [if_neg (by omega)]
 have d:decide (h<l)=false:=decide_eq_false (by omega)
 go_enter Tryz.func128,Tryz.ntmps128
 go_wp2_with (first | (go_at_call 127;refine (pisnone_ex _ _ _).mono ?_;rintro e w' ⟨rfl,rfl⟩) | (go_at_call 179;refine (pnone_ex _).mono ?_;rintro e w' ⟨rfl,rfl⟩) | fail)
 (try simp only [Exit.inBlock, Exit.then]); refine bodyPost_ret (results_cell_row rfl _ _ (w.heap.size+1) 24 #[_, _] (0, 0) _ rfl jj Tryz.underlying24 rfl infoI) rfl ?_
 exact ⟨reti E.out,rfl⟩
theorem phas_ex (al ah v:Int) (w:World) :
  Calls Tryz.prog 79 #[.agg #[.int .i64 al,.int .i64 ah],.int .i64 v] w fun e w'=>e=.returned (.bool (hasI al ah v))/\w'=w.alloc (.cells #[.int .i64 al,.int .i64 ah] 24):=by
 go_enter Tryz.func79,Tryz.ntmps79
 go_wp2
 all_goals go_ret
 all_goals refine ⟨retb ?_,rfl⟩
 ·unfold hasI;simp [*]
 ·unfold hasI;rename_i h0;rw [decide_eq_false (show ¬al<=v by omega),Bool.false_and]
theorem Jphas_any (al ah v:Int) (w0 w:World) (hok:Ok w0 w) :
  Calls Tryz.prog 79 #[.agg #[.int .i64 al,.int .i64 ah],.int .i64 v] w fun e w'=>e=.returned (.bool (hasI al ah v))/\Ok w0 w':=by
 refine (phas_ex al ah v w).mono ?_
 rintro e w' ⟨rfl,rfl⟩
 exact ⟨rfl,hok.alloc _⟩
theorem leqI_none {al ah bl bh:Int} (h:ah<al):leqI al ah bl bh=true:=by unfold leqI;rw [decide_eq_true h,Bool.true_or]
theorem leqI_yes {al ah bl bh:Int} (h:al<=ah) (h1:hasI bl bh al=true) (h2:hasI bl bh ah=true):leqI al ah bl bh=true:=by
 unfold hasI at h1 h2;simp only [Bool.and_eq_true,decide_eq_true_eq] at h1 h2
 unfold leqI;rw [decide_eq_true h1.1,decide_eq_true h2.2];simp
theorem leqI_no1 {al ah bl bh:Int} (h:al<=ah) (h1:hasI bl bh al=false):leqI al ah bl bh=false:=by
 unfold hasI at h1;simp only [Bool.and_eq_false_iff,decide_eq_false_iff_not] at h1
 unfold leqI;rw [decide_eq_false (show ¬ah<al by omega),Bool.false_or,Bool.and_eq_false_iff];simp only [decide_eq_false_iff_not];omega
theorem leqI_no2 {al ah bl bh:Int} (h:al<=ah) (h1:hasI bl bh ah=false):leqI al ah bl bh=false:=by
 unfold hasI at h1;simp only [Bool.and_eq_false_iff,decide_eq_false_iff_not] at h1
 unfold leqI;rw [decide_eq_false (show ¬ah<al by omega),Bool.false_or,Bool.and_eq_false_iff];simp only [decide_eq_false_iff_not];omega
theorem Jpleq_any (al ah bl bh:Int) (w0 w:World) (hok:Ok w0 w) :
  Calls Tryz.prog 81 #[.agg #[.int .i64 al,.int .i64 ah],.agg #[.int .i64 bl,.int .i64 bh]] w fun e w'=>e=.returned (.bool (leqI al ah bl bh))/\Ok w0 w':=by
 by_cases ha:ah<al
 ·have E:Hid _:=leqI_none (bl:=bl) (bh:=bh) ha
  have d:decide (ah<al)=true:=decide_eq_true ha
  go_enter Tryz.func81,Tryz.ntmps81
  go_wp2_with (first | (go_at_call 127;refine (pisnone_ex _ _ _).mono ?_;rintro e w' ⟨rfl,rfl⟩) | (go_at_call 79;refine (phas_ex _ _ _ _).mono ?_;rintro e w' ⟨rfl,rfl⟩) | fail)
  go_ret
  exact ⟨retb E.out.symm,(by repeat (first | exact hok | refine Ok.alloc ?_ _ | refine Ok.draws ?_ _ | fail))⟩
 ·have d:decide (ah<al)=false:=decide_eq_false ha
  replace ha:al<=ah:=by omega
  rcases h1:hasI bl bh al with _ | _
  ·have E:Hid _:=leqI_no1 ha h1
   go_enter Tryz.func81,Tryz.ntmps81
   go_wp2_with (first | (go_at_call 127;refine (pisnone_ex _ _ _).mono ?_;rintro e w' ⟨rfl,rfl⟩) | (go_at_call 79;refine (phas_ex _ _ _ _).mono ?_;rintro e w' ⟨rfl,rfl⟩) | fail)
   go_ret
   exact ⟨retb E.out.symm,(by repeat (first | exact hok | refine Ok.alloc ?_ _ | refine Ok.draws ?_ _ | fail))⟩
  ·rcases h2:hasI bl bh ah with _ | _
   ·have E:Hid _:=leqI_no2 ha h2
    go_enter Tryz.func81,Tryz.ntmps81
    go_wp2_with (first | (go_at_call 127;refine (pisnone_ex _ _ _).mono ?_;rintro e w' ⟨rfl,rfl⟩) | (go_at_call 79;refine (phas_ex _ _ _ _).mono ?_;rintro e w' ⟨rfl,rfl⟩) | fail)
    go_ret
    exact ⟨retb E.out.symm,(by repeat (first | exact hok | refine Ok.alloc ?_ _ | refine Ok.draws ?_ _ | fail))⟩
   ·have E:Hid _:=leqI_yes ha h1 h2
    go_enter Tryz.func81,Tryz.ntmps81
    go_wp2_with (first | (go_at_call 127;refine (pisnone_ex _ _ _).mono ?_;rintro e w' ⟨rfl,rfl⟩) | (go_at_call 79;refine (phas_ex _ _ _ _).mono ?_;rintro e w' ⟨rfl,rfl⟩) | fail)
    go_ret
    exact ⟨retb E.out.symm,(by repeat (first | exact hok | refine Ok.alloc ?_ _ | refine Ok.draws ?_ _ | fail))⟩
theorem Jpjoin_any (al ah bl bh:Int) (w0 w:World) (hok:Ok w0 w) :
  Calls Tryz.prog 83 #[.agg #[.int .i64 al,.int .i64 ah],.agg #[.int .i64 bl,.int .i64 bh]] w fun e w'=>e=.returned (.agg #[.int .i64 (joinI al ah bl bh).1,.int .i64 (joinI al ah bl bh).2])/\Ok w0 w':=by
 by_cases ha:ah<al
 ·have E:Hid (joinI al ah bl bh=((normI bl bh).1,(normI bl bh).2)):=joinI_a ha
  have d:decide (ah<al)=true:=decide_eq_true ha
  by_cases hb:bh<bl
  ·go_enter Tryz.func83,Tryz.ntmps83
   go_wp2_with (first | (go_at_call 127;refine (pisnone_ex _ _ _).mono ?_;rintro e w' ⟨rfl,rfl⟩) | (go_at_call 128;refine (ptidy_yes _ _ _ hb).mono ?_;rintro e w' ⟨rfl,rfl⟩) | fail)
   (try simp only [Exit.inBlock, Exit.then]); refine bodyPost_ret (results_cell_row rfl _ _ (w.heap.size+2) 24 #[_, _] (0, 0) _ rfl jj Tryz.underlying24 rfl infoI) rfl ?_
   exact ⟨reti E.out,(by repeat (first | exact hok | refine Ok.alloc ?_ _ | refine Ok.draws ?_ _ | fail))⟩
  ·replace hb:bl<=bh:=by omega
   go_enter Tryz.func83,Tryz.ntmps83
   go_wp2_with (first | (go_at_call 127;refine (pisnone_ex _ _ _).mono ?_;rintro e w' ⟨rfl,rfl⟩) | (go_at_call 128;refine (ptidy_no _ _ _ hb).mono ?_;rintro e w' ⟨rfl,rfl⟩) | fail)
   (try simp only [Exit.inBlock, Exit.then]); refine bodyPost_ret (results_cell_row rfl _ _ (w.heap.size+2) 24 #[_, _] (0, 0) _ rfl jj Tryz.underlying24 rfl infoI) rfl ?_
   exact ⟨reti E.out,(by repeat (first | exact hok | refine Ok.alloc ?_ _ | refine Ok.draws ?_ _ | fail))⟩
 ·have d:decide (ah<al)=false:=decide_eq_false ha
  replace ha:al<=ah:=by omega
  by_cases hb:bh<bl
  ·have E:Hid (joinI al ah bl bh=(al,ah)):=joinI_b ha hb
   have d2:decide (bh<bl)=true:=decide_eq_true hb
   go_enter Tryz.func83,Tryz.ntmps83
   go_wp2_with (first | (go_at_call 127;refine (pisnone_ex _ _ _).mono ?_;rintro e w' ⟨rfl,rfl⟩) | fail)
   (try simp only [Exit.inBlock, Exit.then]); refine bodyPost_ret (results_cell_row rfl _ _ (w.heap.size+2) 24 #[_, _] (0, 0) _ rfl jj Tryz.underlying24 rfl infoI) rfl ?_
   exact ⟨reti E.out,(by repeat (first | exact hok | refine Ok.alloc ?_ _ | refine Ok.draws ?_ _ | fail))⟩
  ·have d2:decide (bh<bl)=false:=decide_eq_false hb
   replace hb:bl<=bh:=by omega
   have E:Hid (joinI al ah bl bh=(min al bl,max ah bh)):=joinI_c ha hb
   go_enter Tryz.func83,Tryz.ntmps83
   go_wp2_with (first | (go_at_call 127;refine (pisnone_ex _ _ _).mono ?_;rintro e w' ⟨rfl,rfl⟩) | fail)
   all_goals ((try simp only [Exit.inBlock, Exit.then]); refine bodyPost_ret (results_cell_row rfl _ _ (w.heap.size+2) 24 #[_, _] (0, 0) _ rfl jj Tryz.underlying24 rfl infoI) rfl ?_)
   all_goals exact ⟨reti (by rw [E.out];congr 1<;>omega),(by repeat (first | exact hok | refine Ok.alloc ?_ _ | refine Ok.draws ?_ _ | fail))⟩
theorem Jpmeet_any (al ah bl bh:Int) (w0 w:World) (hok:Ok w0 w) :
  Calls Tryz.prog 86 #[.agg #[.int .i64 al,.int .i64 ah],.agg #[.int .i64 bl,.int .i64 bh]] w fun e w'=>e=.returned (.agg #[.int .i64 (meetI al ah bl bh).1,.int .i64 (meetI al ah bl bh).2])/\Ok w0 w':=by
 by_cases h1:al<bl
 ·by_cases h2:bh<ah
  ·skip
   have E0:meetI al ah bl bh=normI bl bh:=by unfold meetI;rw [show max al bl=bl by omega,show min ah bh=bh by omega]
   by_cases hx:bh<bl
   ·have hb:bh<bl:=hx
    have E:Hid (meetI al ah bl bh=((normI bl bh).1,(normI bl bh).2)):=E0
    clear hx E0
    go_enter Tryz.func86,Tryz.ntmps86
    go_wp2_with (first | (go_at_call 128;refine (ptidy_yes _ _ _ hb).mono ?_;rintro e w' ⟨rfl,rfl⟩) | fail)
    (try simp only [Exit.inBlock, Exit.then]); refine bodyPost_ret (results_cell_row rfl _ _ (w.heap.size+2) 24 #[_, _] (0, 0) _ rfl jj Tryz.underlying24 rfl infoI) rfl ?_
    exact ⟨reti E.out,(by repeat (first | exact hok | refine Ok.alloc ?_ _ | refine Ok.draws ?_ _ | fail))⟩
   ·have hb:bl<=bh:=by omega
    have E:Hid (meetI al ah bl bh=((normI bl bh).1,(normI bl bh).2)):=E0
    clear hx E0
    go_enter Tryz.func86,Tryz.ntmps86
    go_wp2_with (first | (go_at_call 128;refine (ptidy_no _ _ _ hb).mono ?_;rintro e w' ⟨rfl,rfl⟩) | fail)
    (try simp only [Exit.inBlock, Exit.then]); refine bodyPost_ret (results_cell_row rfl _ _ (w.heap.size+2) 24 #[_, _] (0, 0) _ rfl jj Tryz.underlying24 rfl infoI) rfl ?_
    exact ⟨reti E.out,(by repeat (first | exact hok | refine Ok.alloc ?_ _ | refine Ok.draws ?_ _ | fail))⟩
  ·replace h2:ah<=bh:=by omega
   have E0:meetI al ah bl bh=normI bl ah:=by unfold meetI;rw [show max al bl=bl by omega,show min ah bh=ah by omega]
   by_cases hx:ah<bl
   ·have hb:ah<bl:=hx
    have E:Hid (meetI al ah bl bh=((normI bl ah).1,(normI bl ah).2)):=E0
    clear hx E0
    go_enter Tryz.func86,Tryz.ntmps86
    go_wp2_with (first | (go_at_call 128;refine (ptidy_yes _ _ _ hb).mono ?_;rintro e w' ⟨rfl,rfl⟩) | fail)
    (try simp only [Exit.inBlock, Exit.then]); refine bodyPost_ret (results_cell_row rfl _ _ (w.heap.size+2) 24 #[_, _] (0, 0) _ rfl jj Tryz.underlying24 rfl infoI) rfl ?_
    exact ⟨reti E.out,(by repeat (first | exact hok | refine Ok.alloc ?_ _ | refine Ok.draws ?_ _ | fail))⟩
   ·have hb:bl<=ah:=by omega
    have E:Hid (meetI al ah bl bh=((normI bl ah).1,(normI bl ah).2)):=E0
    clear hx E0
    go_enter Tryz.func86,Tryz.ntmps86
    go_wp2_with (first | (go_at_call 128;refine (ptidy_no _ _ _ hb).mono ?_;rintro e w' ⟨rfl,rfl⟩) | fail)
    (try simp only [Exit.inBlock, Exit.then]); refine bodyPost_ret (results_cell_row rfl _ _ (w.heap.size+2) 24 #[_, _] (0, 0) _ rfl jj Tryz.underlying24 rfl infoI) rfl ?_
    exact ⟨reti E.out,(by repeat (first | exact hok | refine Ok.alloc ?_ _ | refine Ok.draws ?_ _ | fail))⟩
 ·replace h1:bl<=al:=by omega
  by_cases h2:bh<ah
  ·skip
   have E0:meetI al ah bl bh=normI al bh:=by unfold meetI;rw [show max al bl=al by omega,show min ah bh=bh by omega]
   by_cases hx:bh<al
   ·have hb:bh<al:=hx
    have E:Hid (meetI al ah bl bh=((normI al bh).1,(normI al bh).2)):=E0
    clear hx E0
    go_enter Tryz.func86,Tryz.ntmps86
    go_wp2_with (first | (go_at_call 128;refine (ptidy_yes _ _ _ hb).mono ?_;rintro e w' ⟨rfl,rfl⟩) | fail)
    (try simp only [Exit.inBlock, Exit.then]); refine bodyPost_ret (results_cell_row rfl _ _ (w.heap.size+2) 24 #[_, _] (0, 0) _ rfl jj Tryz.underlying24 rfl infoI) rfl ?_
    exact ⟨reti E.out,(by repeat (first | exact hok | refine Ok.alloc ?_ _ | refine Ok.draws ?_ _ | fail))⟩
   ·have hb:al<=bh:=by omega
    have E:Hid (meetI al ah bl bh=((normI al bh).1,(normI al bh).2)):=E0
    clear hx E0
    go_enter Tryz.func86,Tryz.ntmps86
    go_wp2_with (first | (go_at_call 128;refine (ptidy_no _ _ _ hb).mono ?_;rintro e w' ⟨rfl,rfl⟩) | fail)
    (try simp only [Exit.inBlock, Exit.then]); refine bodyPost_ret (results_cell_row rfl _ _ (w.heap.size+2) 24 #[_, _] (0, 0) _ rfl jj Tryz.underlying24 rfl infoI) rfl ?_
    exact ⟨reti E.out,(by repeat (first | exact hok | refine Ok.alloc ?_ _ | refine Ok.draws ?_ _ | fail))⟩
  ·replace h2:ah<=bh:=by omega
   have E0:meetI al ah bl bh=normI al ah:=by unfold meetI;rw [show max al bl=al by omega,show min ah bh=ah by omega]
   by_cases hx:ah<al
   ·have hb:ah<al:=hx
    have E:Hid (meetI al ah bl bh=((normI al ah).1,(normI al ah).2)):=E0
    clear hx E0
    go_enter Tryz.func86,Tryz.ntmps86
    go_wp2_with (first | (go_at_call 128;refine (ptidy_yes _ _ _ hb).mono ?_;rintro e w' ⟨rfl,rfl⟩) | fail)
    (try simp only [Exit.inBlock, Exit.then]); refine bodyPost_ret (results_cell_row rfl _ _ (w.heap.size+2) 24 #[_, _] (0, 0) _ rfl jj Tryz.underlying24 rfl infoI) rfl ?_
    exact ⟨reti E.out,(by repeat (first | exact hok | refine Ok.alloc ?_ _ | refine Ok.draws ?_ _ | fail))⟩
   ·have hb:al<=ah:=by omega
    have E:Hid (meetI al ah bl bh=((normI al ah).1,(normI al ah).2)):=E0
    clear hx E0
    go_enter Tryz.func86,Tryz.ntmps86
    go_wp2_with (first | (go_at_call 128;refine (ptidy_no _ _ _ hb).mono ?_;rintro e w' ⟨rfl,rfl⟩) | fail)
    (try simp only [Exit.inBlock, Exit.then]); refine bodyPost_ret (results_cell_row rfl _ _ (w.heap.size+2) 24 #[_, _] (0, 0) _ rfl jj Tryz.underlying24 rfl infoI) rfl ?_
    exact ⟨reti E.out,(by repeat (first | exact hok | refine Ok.alloc ?_ _ | refine Ok.draws ?_ _ | fail))⟩
end
section
open Go.RowKit
theorem pbelow_ne (v:Int) (tb o cap:Nat) (ts:List Int) (w:World) (hT:IntsAt w tb o ts) :
  Calls Tryz.prog 129 #[.int .i64 v,.slice (some ⟨tb,o,none⟩) ts.length cap] w fun e w'=>e=.returned (.int .i64 (wLo v ts))/\w'=w:=by
 have htl:(ts.length:Int)<=4611686018427387904:=by have:=hT.2.2;omega
 have HT:Hid _:=hT
 clear hT
 go_enter Tryz.func129,Tryz.ntmps129
 go_wp2_with fail
 go_loop [5,10] (fun b i=>∃ (k:Nat) (m:Int),k<=ts.length/\i=.int .i64 k/\b=.int .i64 m/\Hid (m=(ts.take k).foldl (stLo v) (-9223372036854775808))) (fun _ i=>(ts.length-intOf i).toNat)
 case atStart=>exact ⟨0,_,by omega,rfl,rfl,rfl⟩
 case round =>
  obtain ⟨k,m,hk,rfl,rfl,hval⟩:=hrel
  by_cases hk1:k<ts.length
  ·have hk2:(k:Int)<ts.length:=by omega
   have ct:=HT.out.1 k hk1
   have hst:Hid ((ts.take (k+1)).foldl (stLo v) (-9223372036854775808)=stLo v m ts[k]):=by unfold Hid;rw [fold_take hk1,hval.out]
   generalize ts[k]=t at *
   by_cases c1:t<=v
   ·by_cases c2:m<t
    ·have hv:Hid (stLo v m t=t):=by unfold Hid stLo;rw [if_pos ⟨c1,c2⟩]
     go_wp2_with fail
     refine ⟨⟨k+1,t,by omega,rfl,rfl,?_⟩,by simp only [intOf];omega⟩
     unfold Hid;rw [hst.out,hv.out]
    ·replace c2:t<=m:=by omega
     have hv:Hid (stLo v m t=m):=by unfold Hid stLo;rw [if_neg (by omega)]
     go_wp2_with fail
     refine ⟨⟨k+1,m,by omega,rfl,rfl,?_⟩,by simp only [intOf];omega⟩
     unfold Hid;rw [hst.out,hv.out]
   ·replace c1:v<t:=by omega
    have hv:Hid (stLo v m t=m):=by unfold Hid stLo;rw [if_neg (by omega)]
    go_wp2_with fail
    refine ⟨⟨k+1,m,by omega,rfl,rfl,?_⟩,by simp only [intOf];omega⟩
    unfold Hid;rw [hst.out,hv.out]
  ·have hke:k=ts.length:=by omega
   have HV:Hid (m=wLo v ts):=by unfold Hid wLo;rw [hval.out,hke,List.take_length]
   subst hke
   clear hval
   go_wp2_with fail
   go_ret
   exact ⟨by rw [HV.out];rfl,rfl⟩
theorem pbelow_e (v:Int) (ao:Option Addr) (cap:Nat) (w:World) :
  Calls Tryz.prog 129 #[.int .i64 v,.slice ao 0 cap] w fun e w'=>e=.returned (.int .i64 (wLo v []))/\w'=w:=by
 go_enter Tryz.func129,Tryz.ntmps129
 go_wp2_with fail
 go_loop [5,10] (fun b i=>b=.int .i64 (-9223372036854775808)/\i=.int .i64 0) (fun _ _=>0)
 case atStart=>exact ⟨rfl,rfl⟩
 case round =>
  obtain ⟨rfl,rfl⟩:=hrel
  go_wp2_with fail
  go_ret
  exact ⟨rfl,rfl⟩
theorem pbelow_any (v:Int) (s:Value) (ts:List Int) (w:World) (hT:SInts w s ts) :
  Calls Tryz.prog 129 #[.int .i64 v,s] w fun e w'=>e=.returned (.int .i64 (wLo v ts))/\w'=w:=by
 rcases hT with ⟨tb,o,cap,rfl,hT⟩ | ⟨ao,cap,rfl,rfl⟩
 ·exact pbelow_ne v tb o cap ts w hT
 ·exact pbelow_e v ao cap w
theorem pabove_ne (v:Int) (tb o cap:Nat) (ts:List Int) (w:World) (hT:IntsAt w tb o ts) :
  Calls Tryz.prog 130 #[.int .i64 v,.slice (some ⟨tb,o,none⟩) ts.length cap] w fun e w'=>e=.returned (.int .i64 (wHi v ts))/\w'=w:=by
 have htl:(ts.length:Int)<=4611686018427387904:=by have:=hT.2.2;omega
 have HT:Hid _:=hT
 clear hT
 go_enter Tryz.func130,Tryz.ntmps130
 go_wp2_with fail
 go_loop [5,10] (fun b i=>∃ (k:Nat) (m:Int),k<=ts.length/\i=.int .i64 k/\b=.int .i64 m/\Hid (m=(ts.take k).foldl (stHi v) 9223372036854775807)) (fun _ i=>(ts.length-intOf i).toNat)
 case atStart=>exact ⟨0,_,by omega,rfl,rfl,rfl⟩
 case round =>
  obtain ⟨k,m,hk,rfl,rfl,hval⟩:=hrel
  by_cases hk1:k<ts.length
  ·have hk2:(k:Int)<ts.length:=by omega
   have ct:=HT.out.1 k hk1
   have hst:Hid ((ts.take (k+1)).foldl (stHi v) 9223372036854775807=stHi v m ts[k]):=by unfold Hid;rw [fold_take hk1,hval.out]
   generalize ts[k]=t at *
   by_cases c1:v<=t
   ·by_cases c2:t<m
    ·have hv:Hid (stHi v m t=t):=by unfold Hid stHi;rw [if_pos ⟨c1,c2⟩]
     go_wp2_with fail
     refine ⟨⟨k+1,t,by omega,rfl,rfl,?_⟩,by simp only [intOf];omega⟩
     unfold Hid;rw [hst.out,hv.out]
    ·replace c2:m<=t:=by omega
     have hv:Hid (stHi v m t=m):=by unfold Hid stHi;rw [if_neg (by omega)]
     go_wp2_with fail
     refine ⟨⟨k+1,m,by omega,rfl,rfl,?_⟩,by simp only [intOf];omega⟩
     unfold Hid;rw [hst.out,hv.out]
   ·replace c1:t<v:=by omega
    have hv:Hid (stHi v m t=m):=by unfold Hid stHi;rw [if_neg (by omega)]
    go_wp2_with fail
    refine ⟨⟨k+1,m,by omega,rfl,rfl,?_⟩,by simp only [intOf];omega⟩
    unfold Hid;rw [hst.out,hv.out]
  ·have hke:k=ts.length:=by omega
   have HV:Hid (m=wHi v ts):=by unfold Hid wHi;rw [hval.out,hke,List.take_length]
   subst hke
   clear hval
   go_wp2_with fail
   go_ret
   exact ⟨by rw [HV.out];rfl,rfl⟩
theorem pabove_e (v:Int) (ao:Option Addr) (cap:Nat) (w:World) :
  Calls Tryz.prog 130 #[.int .i64 v,.slice ao 0 cap] w fun e w'=>e=.returned (.int .i64 (wHi v []))/\w'=w:=by
 go_enter Tryz.func130,Tryz.ntmps130
 go_wp2_with fail
 go_loop [5,10] (fun b i=>b=.int .i64 9223372036854775807/\i=.int .i64 0) (fun _ _=>0)
 case atStart=>exact ⟨rfl,rfl⟩
 case round =>
  obtain ⟨rfl,rfl⟩:=hrel
  go_wp2_with fail
  go_ret
  exact ⟨rfl,rfl⟩
theorem pabove_any (v:Int) (s:Value) (ts:List Int) (w:World) (hT:SInts w s ts) :
  Calls Tryz.prog 130 #[.int .i64 v,s] w fun e w'=>e=.returned (.int .i64 (wHi v ts))/\w'=w:=by
 rcases hT with ⟨tb,o,cap,rfl,hT⟩ | ⟨ao,cap,rfl,rfl⟩
 ·exact pabove_ne v tb o cap ts w hT
 ·exact pabove_e v ao cap w
theorem SInts.ok {w w1:World} {v:Value} {ts:List Int} (h:SInts w v ts) (hb:Ok w w1):SInts w1 v ts:=by
 rcases h with ⟨tb,o,cap,e,hT⟩ | ⟨ao,cap,e,et⟩
 ·exact Or.inl ⟨tb,o,cap,e,hT.ok hb⟩
 ·exact Or.inr ⟨ao,cap,e,et⟩
theorem pwiden_any (al ah bl bh:Int) (v:Value) (ts:List Int) (w0 w:World) (hok:Ok w0 w) (hT:SInts w v ts) :
  Calls Tryz.prog 49 #[.agg #[.int .i64 al,.int .i64 ah],.agg #[.int .i64 bl,.int .i64 bh],v] w fun e w'=>e=.returned (.agg #[.int .i64 (widenI al ah bl bh ts).1,.int .i64 (widenI al ah bl bh ts).2])/\Ok w0 w':=by
 have HT:Hid (SInts w v ts):=hT
 clear hT
 by_cases ha:ah<al
 ·have E:Hid (widenI al ah bl bh ts=((normI bl bh).1,(normI bl bh).2)):=by unfold Hid widenI;rw [if_pos ha]
  have d:decide (ah<al)=true:=decide_eq_true ha
  by_cases hb:bh<bl
  ·go_enter Tryz.func49,Tryz.ntmps49
   go_wp2_with (first | (go_at_call 127;refine (pisnone_ex _ _ _).mono ?_;rintro e w' ⟨rfl,rfl⟩) | (go_at_call 128;refine (ptidy_yes _ _ _ hb).mono ?_;rintro e w' ⟨rfl,rfl⟩) | fail)
   (try simp only [Exit.inBlock, Exit.then]); refine bodyPost_ret (results_cell_row rfl _ _ (w.heap.size+2) 24 #[_, _] (0, 0) _ rfl jj Tryz.underlying24 rfl infoI) rfl ?_
   exact ⟨reti E.out,(by repeat (first | exact hok | refine Ok.alloc ?_ _ | refine Ok.draws ?_ _ | fail))⟩
  ·replace hb:bl<=bh:=by omega
   go_enter Tryz.func49,Tryz.ntmps49
   go_wp2_with (first | (go_at_call 127;refine (pisnone_ex _ _ _).mono ?_;rintro e w' ⟨rfl,rfl⟩) | (go_at_call 128;refine (ptidy_no _ _ _ hb).mono ?_;rintro e w' ⟨rfl,rfl⟩) | fail)
   (try simp only [Exit.inBlock, Exit.then]); refine bodyPost_ret (results_cell_row rfl _ _ (w.heap.size+2) 24 #[_, _] (0, 0) _ rfl jj Tryz.underlying24 rfl infoI) rfl ?_
   exact ⟨reti E.out,(by repeat (first | exact hok | refine Ok.alloc ?_ _ | refine Ok.draws ?_ _ | fail))⟩
 ·have d:decide (ah<al)=false:=decide_eq_false ha
  replace ha:al<=ah:=by omega
  by_cases hb:bh<bl
  ·have E:Hid (widenI al ah bl bh ts=(al,ah)):=by unfold Hid widenI;rw [if_neg (by omega),if_pos hb]
   have d2:decide (bh<bl)=true:=decide_eq_true hb
   go_enter Tryz.func49,Tryz.ntmps49
   go_wp2_with (first | (go_at_call 127;refine (pisnone_ex _ _ _).mono ?_;rintro e w' ⟨rfl,rfl⟩) | fail)
   (try simp only [Exit.inBlock, Exit.then]); refine bodyPost_ret (results_cell_row rfl _ _ (w.heap.size+2) 24 #[_, _] (0, 0) _ rfl jj Tryz.underlying24 rfl infoI) rfl ?_
   exact ⟨reti E.out,(by repeat (first | exact hok | refine Ok.alloc ?_ _ | refine Ok.draws ?_ _ | fail))⟩
  ·have d2:decide (bh<bl)=false:=decide_eq_false hb
   replace hb:bl<=bh:=by omega
   have E0:widenI al ah bl bh ts=(if bl<al then wLo bl ts else al,if ah<bh then wHi bh ts else ah):=by unfold widenI;rw [if_neg (by omega),if_neg (by omega)]
   by_cases h1:bl<al
   ·by_cases h2:ah<bh
    ·skip
     have E:Hid (widenI al ah bl bh ts=(wLo bl ts,wHi bh ts)):=by unfold Hid;rw [E0,if_pos h1,if_pos h2]
     clear E0
     go_enter Tryz.func49,Tryz.ntmps49
     go_wp2_with (first | (go_at_call 127;refine (pisnone_ex _ _ _).mono ?_;rintro e w' ⟨rfl,rfl⟩) | (go_at_call 129;refine (pbelow_any _ _ ts _ (HT.out.ok (by repeat (first | exact Ok.refl _ | refine Ok.alloc ?_ _)))).mono ?_;rintro e w' ⟨rfl,rfl⟩) | (go_at_call 130;refine (pabove_any _ _ ts _ (HT.out.ok (by repeat (first | exact Ok.refl _ | refine Ok.alloc ?_ _)))).mono ?_;rintro e w' ⟨rfl,rfl⟩) | fail)
     (try simp only [Exit.inBlock, Exit.then]); refine bodyPost_ret (results_cell_row rfl _ _ (w.heap.size+2) 24 #[_, _] (0, 0) _ rfl jj Tryz.underlying24 rfl infoI) rfl ?_
     exact ⟨reti E.out,(by repeat (first | exact hok | refine Ok.alloc ?_ _ | refine Ok.draws ?_ _ | fail))⟩
    ·replace h2:bh<=ah:=by omega
     have E:Hid (widenI al ah bl bh ts=(wLo bl ts,ah)):=by unfold Hid;rw [E0,if_pos h1,if_neg (by omega)]
     clear E0
     go_enter Tryz.func49,Tryz.ntmps49
     go_wp2_with (first | (go_at_call 127;refine (pisnone_ex _ _ _).mono ?_;rintro e w' ⟨rfl,rfl⟩) | (go_at_call 129;refine (pbelow_any _ _ ts _ (HT.out.ok (by repeat (first | exact Ok.refl _ | refine Ok.alloc ?_ _)))).mono ?_;rintro e w' ⟨rfl,rfl⟩) | (go_at_call 130;refine (pabove_any _ _ ts _ (HT.out.ok (by repeat (first | exact Ok.refl _ | refine Ok.alloc ?_ _)))).mono ?_;rintro e w' ⟨rfl,rfl⟩) | fail)
     (try simp only [Exit.inBlock, Exit.then]); refine bodyPost_ret (results_cell_row rfl _ _ (w.heap.size+2) 24 #[_, _] (0, 0) _ rfl jj Tryz.underlying24 rfl infoI) rfl ?_
     exact ⟨reti E.out,(by repeat (first | exact hok | refine Ok.alloc ?_ _ | refine Ok.draws ?_ _ | fail))⟩
   ·replace h1:al<=bl:=by omega
    by_cases h2:ah<bh
    ·skip
     have E:Hid (widenI al ah bl bh ts=(al,wHi bh ts)):=by unfold Hid;rw [E0,if_neg (by omega),if_pos h2]
     clear E0
     go_enter Tryz.func49,Tryz.ntmps49
     go_wp2_with (first | (go_at_call 127;refine (pisnone_ex _ _ _).mono ?_;rintro e w' ⟨rfl,rfl⟩) | (go_at_call 129;refine (pbelow_any _ _ ts _ (HT.out.ok (by repeat (first | exact Ok.refl _ | refine Ok.alloc ?_ _)))).mono ?_;rintro e w' ⟨rfl,rfl⟩) | (go_at_call 130;refine (pabove_any _ _ ts _ (HT.out.ok (by repeat (first | exact Ok.refl _ | refine Ok.alloc ?_ _)))).mono ?_;rintro e w' ⟨rfl,rfl⟩) | fail)
     (try simp only [Exit.inBlock, Exit.then]); refine bodyPost_ret (results_cell_row rfl _ _ (w.heap.size+2) 24 #[_, _] (0, 0) _ rfl jj Tryz.underlying24 rfl infoI) rfl ?_
     exact ⟨reti E.out,(by repeat (first | exact hok | refine Ok.alloc ?_ _ | refine Ok.draws ?_ _ | fail))⟩
    ·replace h2:bh<=ah:=by omega
     have E:Hid (widenI al ah bl bh ts=(al,ah)):=by unfold Hid;rw [E0,if_neg (by omega),if_neg (by omega)]
     clear E0
     go_enter Tryz.func49,Tryz.ntmps49
     go_wp2_with (first | (go_at_call 127;refine (pisnone_ex _ _ _).mono ?_;rintro e w' ⟨rfl,rfl⟩) | (go_at_call 129;refine (pbelow_any _ _ ts _ (HT.out.ok (by repeat (first | exact Ok.refl _ | refine Ok.alloc ?_ _)))).mono ?_;rintro e w' ⟨rfl,rfl⟩) | (go_at_call 130;refine (pabove_any _ _ ts _ (HT.out.ok (by repeat (first | exact Ok.refl _ | refine Ok.alloc ?_ _)))).mono ?_;rintro e w' ⟨rfl,rfl⟩) | fail)
     (try simp only [Exit.inBlock, Exit.then]); refine bodyPost_ret (results_cell_row rfl _ _ (w.heap.size+2) 24 #[_, _] (0, 0) _ rfl jj Tryz.underlying24 rfl infoI) rfl ?_
     exact ⟨reti E.out,(by repeat (first | exact hok | refine Ok.alloc ?_ _ | refine Ok.draws ?_ _ | fail))⟩
end
end Go.Proofs.YtpjpjhjjhoeijaaGreat
