import Derived.Shelf.Spec.BitsCarry
import Derived.Test.YtnjmjnmhldhaoaaGreatKIdv
set_option maxHeartbeats 8000000
set_option linter.all false
namespace Go.Proofs.YtnjmjnmhldhaoaaGreat
section
open Go.RowKit
theorem pnone_ex (w:World) :
  Calls Tryz.prog 200 #[] w fun e w'=>e=.returned (.agg #[.int .i64 1,.int .i64 0])/\w'=w.alloc (.cells #[.int .i64 1,.int .i64 0] 24):=by
 go_enter Tryz.func200,Tryz.ntmps200
 go_wp2
 try simp only [Exit.inBlock,Exit.then]
 refine bodyPost_ret (results_cell_row rfl _ _ w.heap.size 24 _ (0,0) _ rfl (heap_new0 _ _) Tryz.underlying24 rfl infoI) rfl ?_
 exact ⟨rfl,rfl⟩
theorem Jpall_ex (w:World) :
  Calls Tryz.prog 234 #[] w fun e w'=>e=.returned (.agg #[.int .i64 (-9223372036854775808),.int .i64 9223372036854775807])/\w'=w.alloc (.cells #[.int .i64 (-9223372036854775808),.int .i64 9223372036854775807] 24):=by
 go_enter Tryz.func234,Tryz.ntmps234
 go_wp2
 try simp only [Exit.inBlock,Exit.then]
 refine bodyPost_ret (results_cell_row rfl _ _ w.heap.size 24 _ (0,0) _ rfl (heap_new0 _ _) Tryz.underlying24 rfl infoI) rfl ?_
 exact ⟨rfl,rfl⟩
theorem pisnone_ex (l h:Int) (w:World) :
  Calls Tryz.prog 199 #[.agg #[.int .i64 l,.int .i64 h]] w fun e w'=>e=.returned (.bool (decide (h<l)))/\w'=w.alloc (.cells #[.int .i64 l,.int .i64 h] 24):=by
 go_enter Tryz.func199,Tryz.ntmps199
 go_wp2
 go_ret
 exact ⟨rfl,rfl⟩
theorem Jpisone_ex (l h:Int) (w:World) :
  Calls Tryz.prog 232 #[.agg #[.int .i64 l,.int .i64 h]] w fun e w'=>e=.returned (.bool (decide (l=h)))/\w'=w.alloc (.cells #[.int .i64 l,.int .i64 h] 24):=by
 go_enter Tryz.func232,Tryz.ntmps232
 go_wp2
 go_ret
 exact ⟨retb (by by_cases h:l=h<;>simp [h]),rfl⟩
theorem ptidy_yes (l h:Int) (w:World) (hc:h<l) :
  Calls Tryz.prog 154 #[.agg #[.int .i64 l,.int .i64 h]] w fun e w'=>e=.returned (.agg #[.int .i64 (normI l h).1,.int .i64 (normI l h).2])/\w'=(((w.alloc (.cells #[.int .i64 l,.int .i64 h] 24)).alloc (.cells #[.int .i64 1,.int .i64 0] 24)).alloc (.cells #[.int .i64 l,.int .i64 h] 24)).alloc (.cells #[.int .i64 1,.int .i64 0] 24):=by
 have E:Hid (normI l h=(1,0)):=by unfold Hid normI;rw [if_pos hc]
 have d:decide (h<l)=true:=decide_eq_true hc
 go_enter Tryz.func154,Tryz.ntmps154
 go_wp2_with (first | (go_at_call 199;refine (pisnone_ex _ _ _).mono ?_;rintro e w' ⟨rfl,rfl⟩) | (go_at_call 200;refine (pnone_ex _).mono ?_;rintro e w' ⟨rfl,rfl⟩) | fail)
 (try simp only [Exit.inBlock, Exit.then]); refine bodyPost_ret (results_cell_row rfl _ _ (w.heap.size+1) 24 #[_, _] (0, 0) _ rfl jj Tryz.underlying24 rfl infoI) rfl ?_
 exact ⟨reti E.out,rfl⟩
theorem ptidy_no (l h:Int) (w:World) (hc:l<=h) :
  Calls Tryz.prog 154 #[.agg #[.int .i64 l,.int .i64 h]] w fun e w'=>e=.returned (.agg #[.int .i64 (normI l h).1,.int .i64 (normI l h).2])/\w'=((w.alloc (.cells #[.int .i64 l,.int .i64 h] 24)).alloc (.cells #[.int .i64 l,.int .i64 h] 24)).alloc (.cells #[.int .i64 l,.int .i64 h] 24):=by
 have E:Hid (normI l h=(l,h)):=by unfold Hid normI;rw [if_neg (by omega)]
 have d:decide (h<l)=false:=decide_eq_false (by omega)
 go_enter Tryz.func154,Tryz.ntmps154
 go_wp2_with (first | (go_at_call 199;refine (pisnone_ex _ _ _).mono ?_;rintro e w' ⟨rfl,rfl⟩) | (go_at_call 200;refine (pnone_ex _).mono ?_;rintro e w' ⟨rfl,rfl⟩) | fail)
 (try simp only [Exit.inBlock, Exit.then]); refine bodyPost_ret (results_cell_row rfl _ _ (w.heap.size+1) 24 #[_, _] (0, 0) _ rfl jj Tryz.underlying24 rfl infoI) rfl ?_
 exact ⟨reti E.out,rfl⟩
theorem phas_ex (al ah v:Int) (w:World) :
  Calls Tryz.prog 158 #[.agg #[.int .i64 al,.int .i64 ah],.int .i64 v] w fun e w'=>e=.returned (.bool (hasI al ah v))/\w'=w.alloc (.cells #[.int .i64 al,.int .i64 ah] 24):=by
 go_enter Tryz.func158,Tryz.ntmps158
 go_wp2
 all_goals go_ret
 all_goals refine ⟨retb ?_,rfl⟩
 ·unfold hasI;simp [*]
 ·unfold hasI;rename_i h0;rw [decide_eq_false (show ¬al<=v by omega),Bool.false_and]
theorem Jphas_any (al ah v:Int) (w0 w:World) (hok:Ok w0 w) :
  Calls Tryz.prog 158 #[.agg #[.int .i64 al,.int .i64 ah],.int .i64 v] w fun e w'=>e=.returned (.bool (hasI al ah v))/\Ok w0 w':=by
 refine (phas_ex al ah v w).mono ?_
 rintro e w' ⟨rfl,rfl⟩
 exact ⟨rfl,hok.alloc _⟩
theorem Jpjoin_any (al ah bl bh:Int) (w0 w:World) (hok:Ok w0 w) :
  Calls Tryz.prog 244 #[.agg #[.int .i64 al,.int .i64 ah],.agg #[.int .i64 bl,.int .i64 bh]] w fun e w'=>e=.returned (.agg #[.int .i64 (joinI al ah bl bh).1,.int .i64 (joinI al ah bl bh).2])/\Ok w0 w':=by
 by_cases ha:ah<al
 ·have E:Hid (joinI al ah bl bh=((normI bl bh).1,(normI bl bh).2)):=joinI_a ha
  have d:decide (ah<al)=true:=decide_eq_true ha
  by_cases hb:bh<bl
  ·go_enter Tryz.func244,Tryz.ntmps244
   go_wp2_with (first | (go_at_call 199;refine (pisnone_ex _ _ _).mono ?_;rintro e w' ⟨rfl,rfl⟩) | (go_at_call 154;refine (ptidy_yes _ _ _ hb).mono ?_;rintro e w' ⟨rfl,rfl⟩) | fail)
   (try simp only [Exit.inBlock, Exit.then]); refine bodyPost_ret (results_cell_row rfl _ _ (w.heap.size+2) 24 #[_, _] (0, 0) _ rfl jj Tryz.underlying24 rfl infoI) rfl ?_
   exact ⟨reti E.out,(by repeat (first | exact hok | refine Ok.alloc ?_ _ | refine Ok.draws ?_ _ | fail))⟩
  ·replace hb:bl<=bh:=by omega
   go_enter Tryz.func244,Tryz.ntmps244
   go_wp2_with (first | (go_at_call 199;refine (pisnone_ex _ _ _).mono ?_;rintro e w' ⟨rfl,rfl⟩) | (go_at_call 154;refine (ptidy_no _ _ _ hb).mono ?_;rintro e w' ⟨rfl,rfl⟩) | fail)
   (try simp only [Exit.inBlock, Exit.then]); refine bodyPost_ret (results_cell_row rfl _ _ (w.heap.size+2) 24 #[_, _] (0, 0) _ rfl jj Tryz.underlying24 rfl infoI) rfl ?_
   exact ⟨reti E.out,(by repeat (first | exact hok | refine Ok.alloc ?_ _ | refine Ok.draws ?_ _ | fail))⟩
 ·have d:decide (ah<al)=false:=decide_eq_false ha
  replace ha:al<=ah:=by omega
  by_cases hb:bh<bl
  ·have E:Hid (joinI al ah bl bh=(al,ah)):=joinI_b ha hb
   have d2:decide (bh<bl)=true:=decide_eq_true hb
   go_enter Tryz.func244,Tryz.ntmps244
   go_wp2_with (first | (go_at_call 199;refine (pisnone_ex _ _ _).mono ?_;rintro e w' ⟨rfl,rfl⟩) | fail)
   (try simp only [Exit.inBlock, Exit.then]); refine bodyPost_ret (results_cell_row rfl _ _ (w.heap.size+2) 24 #[_, _] (0, 0) _ rfl jj Tryz.underlying24 rfl infoI) rfl ?_
   exact ⟨reti E.out,(by repeat (first | exact hok | refine Ok.alloc ?_ _ | refine Ok.draws ?_ _ | fail))⟩
  ·have d2:decide (bh<bl)=false:=decide_eq_false hb
   replace hb:bl<=bh:=by omega
   have E:Hid (joinI al ah bl bh=(min al bl,max ah bh)):=joinI_c ha hb
   go_enter Tryz.func244,Tryz.ntmps244
   go_wp2_with (first | (go_at_call 199;refine (pisnone_ex _ _ _).mono ?_;rintro e w' ⟨rfl,rfl⟩) | fail)
   all_goals ((try simp only [Exit.inBlock, Exit.then]); refine bodyPost_ret (results_cell_row rfl _ _ (w.heap.size+2) 24 #[_, _] (0, 0) _ rfl jj Tryz.underlying24 rfl infoI) rfl ?_)
   all_goals exact ⟨reti (by rw [E.out];congr 1<;>omega),(by repeat (first | exact hok | refine Ok.alloc ?_ _ | refine Ok.draws ?_ _ | fail))⟩
theorem Jpmeet_any (al ah bl bh:Int) (w0 w:World) (hok:Ok w0 w) :
  Calls Tryz.prog 84 #[.agg #[.int .i64 al,.int .i64 ah],.agg #[.int .i64 bl,.int .i64 bh]] w fun e w'=>e=.returned (.agg #[.int .i64 (meetI al ah bl bh).1,.int .i64 (meetI al ah bl bh).2])/\Ok w0 w':=by
 by_cases h1:al<bl
 ·by_cases h2:bh<ah
  ·skip
   have E0:meetI al ah bl bh=normI bl bh:=by unfold meetI;rw [show max al bl=bl by omega,show min ah bh=bh by omega]
   by_cases hx:bh<bl
   ·have hb:bh<bl:=hx
    have E:Hid (meetI al ah bl bh=((normI bl bh).1,(normI bl bh).2)):=E0
    clear hx E0
    go_enter Tryz.func84,Tryz.ntmps84
    go_wp2_with (first | (go_at_call 154;refine (ptidy_yes _ _ _ hb).mono ?_;rintro e w' ⟨rfl,rfl⟩) | fail)
    (try simp only [Exit.inBlock, Exit.then]); refine bodyPost_ret (results_cell_row rfl _ _ (w.heap.size+2) 24 #[_, _] (0, 0) _ rfl jj Tryz.underlying24 rfl infoI) rfl ?_
    exact ⟨reti E.out,(by repeat (first | exact hok | refine Ok.alloc ?_ _ | refine Ok.draws ?_ _ | fail))⟩
   ·have hb:bl<=bh:=by omega
    have E:Hid (meetI al ah bl bh=((normI bl bh).1,(normI bl bh).2)):=E0
    clear hx E0
    go_enter Tryz.func84,Tryz.ntmps84
    go_wp2_with (first | (go_at_call 154;refine (ptidy_no _ _ _ hb).mono ?_;rintro e w' ⟨rfl,rfl⟩) | fail)
    (try simp only [Exit.inBlock, Exit.then]); refine bodyPost_ret (results_cell_row rfl _ _ (w.heap.size+2) 24 #[_, _] (0, 0) _ rfl jj Tryz.underlying24 rfl infoI) rfl ?_
    exact ⟨reti E.out,(by repeat (first | exact hok | refine Ok.alloc ?_ _ | refine Ok.draws ?_ _ | fail))⟩
  ·replace h2:ah<=bh:=by omega
   have E0:meetI al ah bl bh=normI bl ah:=by unfold meetI;rw [show max al bl=bl by omega,show min ah bh=ah by omega]
   by_cases hx:ah<bl
   ·have hb:ah<bl:=hx
    have E:Hid (meetI al ah bl bh=((normI bl ah).1,(normI bl ah).2)):=E0
    clear hx E0
    go_enter Tryz.func84,Tryz.ntmps84
    go_wp2_with (first | (go_at_call 154;refine (ptidy_yes _ _ _ hb).mono ?_;rintro e w' ⟨rfl,rfl⟩) | fail)
    (try simp only [Exit.inBlock, Exit.then]); refine bodyPost_ret (results_cell_row rfl _ _ (w.heap.size+2) 24 #[_, _] (0, 0) _ rfl jj Tryz.underlying24 rfl infoI) rfl ?_
    exact ⟨reti E.out,(by repeat (first | exact hok | refine Ok.alloc ?_ _ | refine Ok.draws ?_ _ | fail))⟩
   ·have hb:bl<=ah:=by omega
    have E:Hid (meetI al ah bl bh=((normI bl ah).1,(normI bl ah).2)):=E0
    clear hx E0
    go_enter Tryz.func84,Tryz.ntmps84
    go_wp2_with (first | (go_at_call 154;refine (ptidy_no _ _ _ hb).mono ?_;rintro e w' ⟨rfl,rfl⟩) | fail)
    (try simp only [Exit.inBlock, Exit.then]); refine bodyPost_ret (results_cell_row rfl _ _ (w.heap.size+2) 24 #[_, _] (0, 0) _ rfl jj Tryz.underlying24 rfl infoI) rfl ?_
    exact ⟨reti E.out,(by repeat (first | exact hok | refine Ok.alloc ?_ _ | refine Ok.draws ?_ _ | fail))⟩
 ·replace h1:bl<=al:=by omega
  by_cases h2:bh<ah
  ·skip
   have E0:meetI al ah bl bh=normI al bh:=by unfold meetI;rw [show max al bl=al by omega,show min ah bh=bh by omega]
   by_cases hx:bh<al
   ·have hb:bh<al:=hx
    have E:Hid (meetI al ah bl bh=((normI al bh).1,(normI al bh).2)):=E0
    clear hx E0
    go_enter Tryz.func84,Tryz.ntmps84
    go_wp2_with (first | (go_at_call 154;refine (ptidy_yes _ _ _ hb).mono ?_;rintro e w' ⟨rfl,rfl⟩) | fail)
    (try simp only [Exit.inBlock, Exit.then]); refine bodyPost_ret (results_cell_row rfl _ _ (w.heap.size+2) 24 #[_, _] (0, 0) _ rfl jj Tryz.underlying24 rfl infoI) rfl ?_
    exact ⟨reti E.out,(by repeat (first | exact hok | refine Ok.alloc ?_ _ | refine Ok.draws ?_ _ | fail))⟩
   ·have hb:al<=bh:=by omega
    have E:Hid (meetI al ah bl bh=((normI al bh).1,(normI al bh).2)):=E0
    clear hx E0
    go_enter Tryz.func84,Tryz.ntmps84
    go_wp2_with (first | (go_at_call 154;refine (ptidy_no _ _ _ hb).mono ?_;rintro e w' ⟨rfl,rfl⟩) | fail)
    (try simp only [Exit.inBlock, Exit.then]); refine bodyPost_ret (results_cell_row rfl _ _ (w.heap.size+2) 24 #[_, _] (0, 0) _ rfl jj Tryz.underlying24 rfl infoI) rfl ?_
    exact ⟨reti E.out,(by repeat (first | exact hok | refine Ok.alloc ?_ _ | refine Ok.draws ?_ _ | fail))⟩
  ·replace h2:ah<=bh:=by omega
   have E0:meetI al ah bl bh=normI al ah:=by unfold meetI;rw [show max al bl=al by omega,show min ah bh=ah by omega]
   by_cases hx:ah<al
   ·have hb:ah<al:=hx
    have E:Hid (meetI al ah bl bh=((normI al ah).1,(normI al ah).2)):=E0
    clear hx E0
    go_enter Tryz.func84,Tryz.ntmps84
    go_wp2_with (first | (go_at_call 154;refine (ptidy_yes _ _ _ hb).mono ?_;rintro e w' ⟨rfl,rfl⟩) | fail)
    (try simp only [Exit.inBlock, Exit.then]); refine bodyPost_ret (results_cell_row rfl _ _ (w.heap.size+2) 24 #[_, _] (0, 0) _ rfl jj Tryz.underlying24 rfl infoI) rfl ?_
    exact ⟨reti E.out,(by repeat (first | exact hok | refine Ok.alloc ?_ _ | refine Ok.draws ?_ _ | fail))⟩
   ·have hb:al<=ah:=by omega
    have E:Hid (meetI al ah bl bh=((normI al ah).1,(normI al ah).2)):=E0
    clear hx E0
    go_enter Tryz.func84,Tryz.ntmps84
    go_wp2_with (first | (go_at_call 154;refine (ptidy_no _ _ _ hb).mono ?_;rintro e w' ⟨rfl,rfl⟩) | fail)
    (try simp only [Exit.inBlock, Exit.then]); refine bodyPost_ret (results_cell_row rfl _ _ (w.heap.size+2) 24 #[_, _] (0, 0) _ rfl jj Tryz.underlying24 rfl infoI) rfl ?_
    exact ⟨reti E.out,(by repeat (first | exact hok | refine Ok.alloc ?_ _ | refine Ok.draws ?_ _ | fail))⟩
end
section
open Go.RowKit Go.Shelf
def tW (z:Int):Int:=(z+9223372036854775808)/18446744073709551616
theorem tW_zero (z:Int):(tW z==0)=decide (In64 z):=by
 unfold tW In64
 by_cases h:(z+9223372036854775808)/18446744073709551616=0
 ·rw [h,decide_eq_true (by omega)];rfl
 ·rw [decide_eq_false (by omega)];simpa using h
theorem tW_eq (z:Int):z=tW z*18446744073709551616+wrap64 z:=by unfold tW wrap64;omega
theorem infoT:(Tryz.prog.info? 185).map (·.size)=some 2:=by kernel_rfl
theorem rett {a b z:Int} (h1:tW z=a) (h2:wrap64 z=b):Ending.returned (.agg #[.int .i64 a,.int .i64 b])=.returned (.agg #[.int .i64 (tW z),.int .i64 (wrap64 z)]):=by rw [h1,h2]
def Wd (z:Int):Prop := -85070591730234615865843651857942052864<=z/\z<=85070591730234615865843651857942052864
theorem halves_eq {z:Int} (hz:Wd z):tW z=wrap64 (hiW z+loW z/9223372036854775808):=by
 unfold Wd at hz;unfold tW hiW loW wrap64;omega
theorem phalves_ex (h l z:Int) (w:World) (hz:Wd z) (e1:h=hiW z) (e2:l=loW z) :
  Calls Tryz.prog 252 #[.int .i64 h,.int .u64 l] w fun e w'=>e=.returned (.agg #[.int .i64 (tW z),.int .i64 (wrap64 z)])/\w'=w.alloc (.cells #[.int .i64 (tW z),.int .i64 (wrap64 z)] 185):=by
 have E1:tW z=wrap64 (h+wrap64 (l/9223372036854775808)):=by
  rw [halves_eq hz,e1,e2];unfold hiW loW wrap64;omega
 have E2:wrap64 z=wrap64 l:=by rw [e2,wlo]
 rw [E1,E2]
 clear E1 E2 e1 e2 hz
 go_enter Tryz.func252,Tryz.ntmps252
 go_wp2
 (try simp only [Exit.inBlock, Exit.then]); refine bodyPost_ret (results_cell_row rfl _ _ (w.heap.size) 185 #[_, _] (0, 0) _ rfl jj Tryz.underlying185 rfl infoT) rfl ?_
 exact ⟨rfl,rfl⟩
theorem Jadd64_law (x y:Int) (w:World) :
  (callFunc 166 #[.int .u64 (IntKind.u64.wrap x),.int .u64 (IntKind.u64.wrap y),.int .u64 0]).run Tryz.prog w =
   .ok (.value (.tuple #[.int .u64 ((IntKind.u64.wrap x+IntKind.u64.wrap y)%18446744073709551616),.int .u64 ((IntKind.u64.wrap x+IntKind.u64.wrap y)/18446744073709551616)])) w:=by
 rw [run_callFunc_extern Tryz.func166 (by kernel_rfl) (by kernel_rfl) (by kernel_rfl) (e:=add64Entry) (by kernel_rfl),run_add64 _ _ _ (by rw [u64w];omega) (by rw [u64w];omega) (by omega) (by omega)]
 simp only [Result.andThen,Int.add_zero]
def brw (a b:Int):Int:=if a<b then 1 else 0
theorem Jsub64_law (x y:Int) (w:World) :
  (callFunc 222 #[.int .u64 (IntKind.u64.wrap x),.int .u64 (IntKind.u64.wrap y),.int .u64 0]).run Tryz.prog w =
   .ok (.value (.tuple #[.int .u64 ((IntKind.u64.wrap x-IntKind.u64.wrap y)%18446744073709551616),.int .u64 (brw (IntKind.u64.wrap x) (IntKind.u64.wrap y))])) w:=by
 obtain ⟨a,ha⟩:=Int.eq_ofNat_of_zero_le (show 0<=IntKind.u64.wrap x by rw [u64w];omega)
 obtain ⟨b,hb⟩:=Int.eq_ofNat_of_zero_le (show 0<=IntKind.u64.wrap y by rw [u64w];omega)
 have ha1:a<18446744073709551616:=by rw [u64w] at ha;omega
 have hb1:b<18446744073709551616:=by rw [u64w] at hb;omega
 rw [ha,hb,run_callFunc_extern Tryz.func222 (by kernel_rfl) (by kernel_rfl) (by kernel_rfl) (e:=sub64Entry) (by kernel_rfl)]
 rw [show (Value.int .u64 0)=.int .u64 ((0:Nat):Int) from rfl,run_sub64 a b 0 (by omega)]
 simp only [Result.andThen,Nat.add_zero]
 have e1:(((a+18446744073709551616-b-0)%18446744073709551616:Nat):Int)=((a:Int)-b)%18446744073709551616:=by omega
 have e2:((if a<b then 1 else 0:Nat):Int)=brw a b:=by unfold brw;split<;>split<;>omega
 rw [e1,e2]
theorem pwdiv_any (a b:Int) (hb:b≠0) (w:World) :
  Calls Tryz.prog 256 #[.int .i64 a,.int .i64 b] w fun e w'=>e=.returned (.tuple #[.int .i64 (wrap64 (a.tdiv b)),.bool true])/\w'=w:=by
 have hb':(b==0)=false:=by simpa using hb
 go_enter Tryz.func256,Tryz.ntmps256
 go_wp2
 go_ret2
 exact ⟨rfl,rfl⟩
theorem pwrem_any (a b:Int) (hb:b≠0) (w:World) :
  Calls Tryz.prog 246 #[.int .i64 a,.int .i64 b] w fun e w'=>e=.returned (.tuple #[.int .i64 (a.tmod b),.bool true])/\w'=w:=by
 have hb':(b==0)=false:=by simpa using hb
 go_enter Tryz.func246,Tryz.ntmps246
 go_wp2
 go_ret2
 exact ⟨rfl,rfl⟩
theorem small_add {x y:Int} (hx:In64 x) (hy:In64 y):Wd (x+y):=by unfold In64 at *;unfold Wd;omega
theorem small_sub {x y:Int} (hx:In64 x) (hy:In64 y):Wd (x-y):=by unfold In64 at *;unfold Wd;omega
theorem sum_hi {x y:Int} (hx:In64 x) (hy:In64 y):wrap64 (wrap64 (x/9223372036854775808+y/9223372036854775808)+wrap64 ((IntKind.u64.wrap x+IntKind.u64.wrap y)/18446744073709551616))=hiW (x+y):=by
 have e1:wrap64 (x/9223372036854775808+y/9223372036854775808)=x/9223372036854775808+y/9223372036854775808:=wrap64_id (by unfold In64 at *;omega)
 have e2:wrap64 ((IntKind.u64.wrap x+IntKind.u64.wrap y)/18446744073709551616)=(IntKind.u64.wrap x+IntKind.u64.wrap y)/18446744073709551616:=wrap64_id (by rw [u64w,u64w];unfold In64;omega)
 have e3:x/9223372036854775808+y/9223372036854775808+(IntKind.u64.wrap x+IntKind.u64.wrap y)/18446744073709551616=hiW (x+y):=by
  rw [u64w,u64w];unfold hiW;unfold In64 at *;omega
 rw [e1,e2,e3]
 exact wrap64_id (by unfold In64 at *;unfold hiW;omega)
theorem sum_lo (x y:Int):(IntKind.u64.wrap x+IntKind.u64.wrap y)%18446744073709551616=loW (x+y):=by
 rw [u64w,u64w];unfold loW;omega
theorem dif_hi {x y:Int} (hx:In64 x) (hy:In64 y):wrap64 (wrap64 (x/9223372036854775808-y/9223372036854775808)-wrap64 (brw (IntKind.u64.wrap x) (IntKind.u64.wrap y)))=hiW (x-y):=by
 have e1:wrap64 (x/9223372036854775808-y/9223372036854775808)=x/9223372036854775808-y/9223372036854775808:=wrap64_id (by unfold In64 at *;omega)
 have e2:wrap64 (brw (IntKind.u64.wrap x) (IntKind.u64.wrap y))=brw (IntKind.u64.wrap x) (IntKind.u64.wrap y):=wrap64_id (by unfold brw In64;split<;>omega)
 have e3:x/9223372036854775808-y/9223372036854775808-brw (IntKind.u64.wrap x) (IntKind.u64.wrap y)=hiW (x-y):=by
  unfold brw
  rw [u64w,u64w];unfold hiW;unfold In64 at *;split<;>omega
 rw [e1,e2,e3]
 exact wrap64_id (by unfold In64 at *;unfold hiW;omega)
theorem dif_lo (x y:Int):(IntKind.u64.wrap x-IntKind.u64.wrap y)%18446744073709551616=loW (x-y):=by
 rw [u64w,u64w];unfold loW;omega
theorem psum_any (x y:Int) (hx:In64 x) (hy:In64 y) (w0 w:World) (hok:Ok w0 w) :
  Calls Tryz.prog 226 #[.int .i64 x,.int .i64 y] w fun e w'=>e=.returned (.agg #[.int .i64 (tW (x+y)),.int .i64 (wrap64 (x+y))])/\Ok w0 w':=by
 have HX:Hid (In64 x/\In64 y):=⟨hx,hy⟩
 clear hx hy
 go_enter Tryz.func226,Tryz.ntmps226
 go_wp2_with (first | simp only [Jadd64_law] | (go_at_call 252;refine (phalves_ex _ _ (x+y) _ (small_add HX.out.1 HX.out.2) (sum_hi HX.out.1 HX.out.2) (sum_lo x y)).mono ?_;rintro e w' ⟨rfl,rfl⟩) | fail)
 (try simp only [Exit.inBlock, Exit.then]); refine bodyPost_ret (results_cell_row rfl _ _ (w.heap.size) 185 #[_, _] (0, 0) _ rfl jj Tryz.underlying185 rfl infoT) rfl ?_
 exact ⟨rfl,(by repeat (first | exact hok | refine Ok.alloc ?_ _ | refine Ok.draws ?_ _ | fail))⟩
theorem pdif_any (x y:Int) (hx:In64 x) (hy:In64 y) (w0 w:World) (hok:Ok w0 w) :
  Calls Tryz.prog 228 #[.int .i64 x,.int .i64 y] w fun e w'=>e=.returned (.agg #[.int .i64 (tW (x-y)),.int .i64 (wrap64 (x-y))])/\Ok w0 w':=by
 have HX:Hid (In64 x/\In64 y):=⟨hx,hy⟩
 clear hx hy
 go_enter Tryz.func228,Tryz.ntmps228
 go_wp2_with (first | simp only [Jsub64_law] | (go_at_call 252;refine (phalves_ex _ _ (x-y) _ (small_sub HX.out.1 HX.out.2) (dif_hi HX.out.1 HX.out.2) (dif_lo x y)).mono ?_;rintro e w' ⟨rfl,rfl⟩) | fail)
 (try simp only [Exit.inBlock, Exit.then]); refine bodyPost_ret (results_cell_row rfl _ _ (w.heap.size) 185 #[_, _] (0, 0) _ rfl jj Tryz.underlying185 rfl infoT) rfl ?_
 exact ⟨rfl,(by repeat (first | exact hok | refine Ok.alloc ?_ _ | refine Ok.draws ?_ _ | fail))⟩
theorem quo_in {x y:Int} (hx:In64 x) (hy:y≠0) (h:¬(x = -9223372036854775808/\y = -1)):In64 (x.tdiv y):=by
 unfold In64 at *
 by_cases h1:y=1
 ·subst h1;rw [Int.tdiv_one];exact hx
 ·by_cases h2:y = -1
  ·subst h2;rw [Int.tdiv_neg,Int.tdiv_one];omega
  ·have e:(x.tdiv y).natAbs=x.natAbs/y.natAbs:=Int.natAbs_tdiv x y
   have h3:2<=y.natAbs:=by omega
   have h4:x.natAbs/y.natAbs<=x.natAbs/2:=Nat.div_le_div_left h3 (by omega)
   generalize x.natAbs/y.natAbs=q at e h4
   generalize x.tdiv y=t at *
   omega
theorem quo_tW {x y:Int} (hx:In64 x) (hy:y≠0) (h:¬(x = -9223372036854775808/\y = -1)):tW (x.tdiv y)=0:=by
 have:=quo_in hx hy h
 unfold In64 at this;unfold tW;omega
theorem pquo_any (x y:Int) (hx:In64 x) (hy0:y≠0) (w0 w:World) (hok:Ok w0 w) :
  Calls Tryz.prog 243 #[.int .i64 x,.int .i64 y] w fun e w'=>e=.returned (.agg #[.int .i64 (tW (x.tdiv y)),.int .i64 (wrap64 (x.tdiv y))])/\Ok w0 w':=by
 by_cases hm:x = -9223372036854775808/\y = -1
 ·obtain ⟨rfl,rfl⟩:=hm
  have E:Hid (tW ((-9223372036854775808:Int).tdiv (-1))=1):=by unfold Hid;kernel_rfl
  go_enter Tryz.func243,Tryz.ntmps243
  go_wp2_with (first | (go_at_call 256;refine (pwdiv_any _ _ hy0 _).mono ?_;rintro e w' ⟨rfl,rfl⟩) | fail)
  (try simp only [Exit.inBlock, Exit.then]); refine bodyPost_ret (results_cell_row rfl _ _ (w.heap.size) 185 #[_, _] (0, 0) _ rfl jj Tryz.underlying185 rfl infoT) rfl ?_
  exact ⟨rett E.out rfl,(by repeat (first | exact hok | refine Ok.alloc ?_ _ | refine Ok.draws ?_ _ | fail))⟩
 ·have E:Hid (tW (x.tdiv y)=0):=quo_tW hx hy0 hm
  have Hy:Hid _:=hy0
  have hq:wrap64 (wrap64 (x.tdiv y))=wrap64 (x.tdiv y):=wrap64_id (wrap64_in _)
  by_cases h1:x = -9223372036854775808
  ·have h2:¬y = -1:=fun h=>hm ⟨h1,h⟩
   have h2':(y == -1)=false:=by simpa using h2
   have h1':(x == -9223372036854775808)=true:=by simpa using h1
   clear hm hx hy0 h1 h2
   go_enter Tryz.func243,Tryz.ntmps243
   go_wp2_with (first | (go_at_call 256;refine (pwdiv_any _ _ Hy.out _).mono ?_;rintro e w' ⟨rfl,rfl⟩) | fail)
   (try simp only [Exit.inBlock, Exit.then]); refine bodyPost_ret (results_cell_row rfl _ _ (w.heap.size) 185 #[_, _] (0, 0) _ rfl jj Tryz.underlying185 rfl infoT) rfl ?_
   exact ⟨rett E.out rfl,(by repeat (first | exact hok | refine Ok.alloc ?_ _ | refine Ok.draws ?_ _ | fail))⟩
  ·have h1':(x == -9223372036854775808)=false:=by simpa using h1
   clear hm hx hy0
   go_enter Tryz.func243,Tryz.ntmps243
   go_wp2_with (first | (go_at_call 256;refine (pwdiv_any _ _ Hy.out _).mono ?_;rintro e w' ⟨rfl,rfl⟩) | fail)
   (try simp only [Exit.inBlock, Exit.then]); refine bodyPost_ret (results_cell_row rfl _ _ (w.heap.size) 185 #[_, _] (0, 0) _ rfl jj Tryz.underlying185 rfl infoT) rfl ?_
   exact ⟨rett E.out rfl,(by repeat (first | exact hok | refine Ok.alloc ?_ _ | refine Ok.draws ?_ _ | fail))⟩
end
end Go.Proofs.YtnjmjnmhldhaoaaGreat
