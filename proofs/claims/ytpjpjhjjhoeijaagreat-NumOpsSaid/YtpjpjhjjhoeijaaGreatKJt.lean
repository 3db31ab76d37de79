import Derived.Shelf.Spec.BitsCarry
import Derived.Test.YtpjpjhjjhoeijaaGreatKJb
set_option maxHeartbeats 8000000
set_option linter.all false
namespace Go.Proofs.YtpjpjhjjhoeijaaGreat
section
open Go.RowKit Go.Shelf
def tW (z:Int):Int:=(z+9223372036854775808)/18446744073709551616
theorem tW_zero (z:Int):(tW z==0)=decide (In64 z):=by
 unfold tW In64
 by_cases h:(z+9223372036854775808)/18446744073709551616=0
 ·rw [h,decide_eq_true (by omega)];rfl
 ·rw [decide_eq_false (by omega)];simpa using h
theorem tW_eq (z:Int):z=tW z*18446744073709551616+wrap64 z:=by unfold tW wrap64;omega
theorem infoT:(Tryz.prog.info? 151).map (·.size)=some 2:=by kernel_rfl
theorem rett {a b z:Int} (h1:tW z=a) (h2:wrap64 z=b):Ending.returned (.agg #[.int .i64 a,.int .i64 b])=.returned (.agg #[.int .i64 (tW z),.int .i64 (wrap64 z)]):=by rw [h1,h2]
def Wd (z:Int):Prop := -85070591730234615865843651857942052864<=z/\z<=85070591730234615865843651857942052864
theorem halves_eq {z:Int} (hz:Wd z):tW z=wrap64 (hiW z+loW z/9223372036854775808):=by
 unfold Wd at hz;unfold tW hiW loW wrap64;omega
theorem phalves_ex (h l z:Int) (w:World) (hz:Wd z) (e1:h=hiW z) (e2:l=loW z) :
  Calls Tryz.prog 249 #[.int .i64 h,.int .u64 l] w fun e w'=>e=.returned (.agg #[.int .i64 (tW z),.int .i64 (wrap64 z)])/\w'=w.alloc (.cells #[.int .i64 (tW z),.int .i64 (wrap64 z)] 151):=by
 have E1:tW z=wrap64 (h+wrap64 (l/9223372036854775808)):=by
  rw [halves_eq hz,e1,e2];unfold hiW loW wrap64;omega
 have E2:wrap64 z=wrap64 l:=by rw [e2,wlo]
 rw [E1,E2]
 clear E1 E2 e1 e2 hz
 go_enter Tryz.func249,Tryz.ntmps249
 go_wp2
 (try simp only [Exit.inBlock, Exit.then]); refine bodyPost_ret (results_cell_row rfl _ _ (w.heap.size) 151 #[_, _] (0, 0) _ rfl jj Tryz.underlying151 rfl infoT) rfl ?_
 exact ⟨rfl,rfl⟩
theorem Jadd64_law (x y:Int) (w:World) :
  (callFunc 248 #[.int .u64 (IntKind.u64.wrap x),.int .u64 (IntKind.u64.wrap y),.int .u64 0]).run Tryz.prog w =
   .ok (.value (.tuple #[.int .u64 ((IntKind.u64.wrap x+IntKind.u64.wrap y)%18446744073709551616),.int .u64 ((IntKind.u64.wrap x+IntKind.u64.wrap y)/18446744073709551616)])) w:=by
 rw [run_callFunc_extern Tryz.func248 (by kernel_rfl) (by kernel_rfl) (by kernel_rfl) (e:=add64Entry) (by kernel_rfl),run_add64 _ _ _ (by rw [u64w];omega) (by rw [u64w];omega) (by omega) (by omega)]
 simp only [Result.andThen,Int.add_zero]
def brw (a b:Int):Int:=if a<b then 1 else 0
theorem Jsub64_law (x y:Int) (w:World) :
  (callFunc 251 #[.int .u64 (IntKind.u64.wrap x),.int .u64 (IntKind.u64.wrap y),.int .u64 0]).run Tryz.prog w =
   .ok (.value (.tuple #[.int .u64 ((IntKind.u64.wrap x-IntKind.u64.wrap y)%18446744073709551616),.int .u64 (brw (IntKind.u64.wrap x) (IntKind.u64.wrap y))])) w:=by
 obtain ⟨a,ha⟩:=Int.eq_ofNat_of_zero_le (show 0<=IntKind.u64.wrap x by rw [u64w];omega)
 obtain ⟨b,hb⟩:=Int.eq_ofNat_of_zero_le (show 0<=IntKind.u64.wrap y by rw [u64w];omega)
 have ha1:a<18446744073709551616:=by rw [u64w] at ha;omega
 have hb1:b<18446744073709551616:=by rw [u64w] at hb;omega
 rw [ha,hb,run_callFunc_extern Tryz.func251 (by kernel_rfl) (by kernel_rfl) (by kernel_rfl) (e:=sub64Entry) (by kernel_rfl)]
 rw [show (Value.int .u64 0)=.int .u64 ((0:Nat):Int) from rfl,run_sub64 a b 0 (by omega)]
 simp only [Result.andThen,Nat.add_zero]
 have e1:(((a+18446744073709551616-b-0)%18446744073709551616:Nat):Int)=((a:Int)-b)%18446744073709551616:=by omega
 have e2:((if a<b then 1 else 0:Nat):Int)=brw a b:=by unfold brw;split<;>split<;>omega
 rw [e1,e2]
theorem pwdiv_any (a b:Int) (hb:b≠0) (w:World) :
  Calls Tryz.prog 258 #[.int .i64 a,.int .i64 b] w fun e w'=>e=.returned (.tuple #[.int .i64 (wrap64 (a.tdiv b)),.bool true])/\w'=w:=by
 have hb':(b==0)=false:=by simpa using hb
 go_enter Tryz.func258,Tryz.ntmps258
 go_wp2
 go_ret2
 exact ⟨rfl,rfl⟩
theorem pwrem_any (a b:Int) (hb:b≠0) (w:World) :
  Calls Tryz.prog 198 #[.int .i64 a,.int .i64 b] w fun e w'=>e=.returned (.tuple #[.int .i64 (a.tmod b),.bool true])/\w'=w:=by
 have hb':(b==0)=false:=by simpa using hb
 go_enter Tryz.func198,Tryz.ntmps198
 go_wp2
 go_ret2
 exact ⟨rfl,rfl⟩
theorem small_add {x y:Int} (hx:In64 x) (hy:In64 y):Wd (x+y):=by unfold In64 at *;unfold Wd;omega
theorem small_sub {x y:Int} (hx:In64 x) (hy:In64 y):Wd (x-y):=by unfold In64 at *;unfold Wd;omega
theorem sum_hi {x y:Int} (hx:In64 x) (hy:In64 y):wrap64 (wrap64 (x/9223372036854775808+y/9223372036854775808)+wrap64 ((IntKind.u64.wrap x+IntKind.u64.wrap y)/18446744073709551616))=hiW (x+y):=by
 have e1:wrap64 (x/9223372036854775808+y/9223372036854775808)=x/9223372036854775808+y/9223372036854775808:=wrap64_id (by unfold In64 at *;omega)
 have e2:wrap64 ((IntKind.u64.wrap x+IntKind.u64.wrap y)/18446744073709551616)=(IntKind.u64.wrap x+IntKind.u64.wrap y)/18446744073709551616:=wrap64_id (by rw [u64w,u64w];unfold In64;omega)
 have e3:x/9223372036854775808+y/9223372036854775808+(IntKind.u64.wrap x+IntKind.u64.wrap y)/18446744073709551616=hiW (x+y):=by
  rw [u64w,u64w];unfold hiW;unfold In64 at *;omega
 rw [e1,e2,e3]
 exact wrap64_id (by unfold In64 at *;unfold hiW;omega)
theorem sum_lo (x y:Int):(IntKind.u64.wrap x+IntKind.u64.wrap y)%18446744073709551616=loW (x+y):=by
 rw [u64w,u64w];unfold loW;omega
theorem dif_hi {x y:Int} (hx:In64 x) (hy:In64 y):wrap64 (wrap64 (x/9223372036854775808-y/9223372036854775808)-wrap64 (brw (IntKind.u64.wrap x) (IntKind.u64.wrap y)))=hiW (x-y):=by
 have e1:wrap64 (x/9223372036854775808-y/9223372036854775808)=x/9223372036854775808-y/9223372036854775808:=wrap64_id (by unfold In64 at *;omega)
 have e2:wrap64 (brw (IntKind.u64.wrap x) (IntKind.u64.wrap y))=brw (IntKind.u64.wrap x) (IntKind.u64.wrap y):=wrap64_id (by unfold brw In64;split<;>omega)
 have e3:x/9223372036854775808-y/9223372036854775808-brw (IntKind.u64.wrap x) (IntKind.u64.wrap y)=hiW (x-y):=by
  unfold brw
  rw [u64w,u64w];unfold hiW;unfold In64 at *;split<;>omega
 rw [e1,e2,e3]
 exact wrap64_id (by unfold In64 at *;unfold hiW;omega)
theorem dif_lo (x y:Int):(IntKind.u64.wrap x-IntKind.u64.wrap y)%18446744073709551616=loW (x-y):=by
 rw [u64w,u64w];unfold loW;omega
theorem psum_any (x y:Int) (hx:In64 x) (hy:In64 y) (w0 w:World) (hok:Ok w0 w) :
  Calls Tryz.prog 175 #[.int .i64 x,.int .i64 y] w fun e w'=>e=.returned (.agg #[.int .i64 (tW (x+y)),.int .i64 (wrap64 (x+y))])/\Ok w0 w':=by
 have HX:Hid (In64 x/\In64 y):=⟨hx,hy⟩
 clear hx hy
 go_enter Tryz.func175,Tryz.ntmps175
 go_wp2_with (first | simp only [Jadd64_law] | (go_at_call 249;refine (phalves_ex _ _ (x+y) _ (small_add HX.out.1 HX.out.2) (sum_hi HX.out.1 HX.out.2) (sum_lo x y)).mono ?_;rintro e w' ⟨rfl,rfl⟩) | fail)
 (try simp only [Exit.inBlock, Exit.then]); refine bodyPost_ret (results_cell_row rfl _ _ (w.heap.size) 151 #[_, _] (0, 0) _ rfl jj Tryz.underlying151 rfl infoT) rfl ?_
 exact ⟨rfl,(by repeat (first | exact hok | refine Ok.alloc ?_ _ | refine Ok.draws ?_ _ | fail))⟩
theorem pdif_any (x y:Int) (hx:In64 x) (hy:In64 y) (w0 w:World) (hok:Ok w0 w) :
  Calls Tryz.prog 178 #[.int .i64 x,.int .i64 y] w fun e w'=>e=.returned (.agg #[.int .i64 (tW (x-y)),.int .i64 (wrap64 (x-y))])/\Ok w0 w':=by
 have HX:Hid (In64 x/\In64 y):=⟨hx,hy⟩
 clear hx hy
 go_enter Tryz.func178,Tryz.ntmps178
 go_wp2_with (first | simp only [Jsub64_law] | (go_at_call 249;refine (phalves_ex _ _ (x-y) _ (small_sub HX.out.1 HX.out.2) (dif_hi HX.out.1 HX.out.2) (dif_lo x y)).mono ?_;rintro e w' ⟨rfl,rfl⟩) | fail)
 (try simp only [Exit.inBlock, Exit.then]); refine bodyPost_ret (results_cell_row rfl _ _ (w.heap.size) 151 #[_, _] (0, 0) _ rfl jj Tryz.underlying151 rfl infoT) rfl ?_
 exact ⟨rfl,(by repeat (first | exact hok | refine Ok.alloc ?_ _ | refine Ok.draws ?_ _ | fail))⟩
theorem quo_in {x y:Int} (hx:In64 x) (hy:y≠0) (h:¬(x = -9223372036854775808/\y = -1)):In64 (x.tdiv y):=by
 unfold In64 at *
 by_cases h1:y=1
 ·subst h1;rw [Int.tdiv_one];exact hx
 ·by_cases h2:y = -1
  ·subst h2;rw [Int.tdiv_neg,Int.tdiv_one];omega
  ·have e:(x.tdiv y).natAbs=x.natAbs/y.natAbs:=Int.natAbs_tdiv x y
   have h3:2<=y.natAbs:=by omega
   have h4:x.natAbs/y.natAbs<=x.natAbs/2:=Nat.div_le_div_left h3 (by omega)
   generalize x.natAbs/y.natAbs=q at e h4
   generalize x.tdiv y=t at *
   omega
theorem quo_tW {x y:Int} (hx:In64 x) (hy:y≠0) (h:¬(x = -9223372036854775808/\y = -1)):tW (x.tdiv y)=0:=by
 have:=quo_in hx hy h
 unfold In64 at this;unfold tW;omega
theorem pquo_any (x y:Int) (hx:In64 x) (hy0:y≠0) (w0 w:World) (hok:Ok w0 w) :
  Calls Tryz.prog 196 #[.int .i64 x,.int .i64 y] w fun e w'=>e=.returned (.agg #[.int .i64 (tW (x.tdiv y)),.int .i64 (wrap64 (x.tdiv y))])/\Ok w0 w':=by
 by_cases hm:x = -9223372036854775808/\y = -1
 ·obtain ⟨rfl,rfl⟩:=hm
  have E:Hid (tW ((-9223372036854775808:Int).tdiv (-1))=1):=by unfold Hid;kernel_rfl
  go_enter Tryz.func196,Tryz.ntmps196
  go_wp2_with (first | (go_at_call 258;refine (pwdiv_any _ _ hy0 _).mono ?_;rintro e w' ⟨rfl,rfl⟩) | fail)
  (try simp only [Exit.inBlock, Exit.then]); refine bodyPost_ret (results_cell_row rfl _ _ (w.heap.size) 151 #[_, _] (0, 0) _ rfl jj Tryz.underlying151 rfl infoT) rfl ?_
  exact ⟨rett E.out rfl,(by repeat (first | exact hok | refine Ok.alloc ?_ _ | refine Ok.draws ?_ _ | fail))⟩
 ·have E:Hid (tW (x.tdiv y)=0):=quo_tW hx hy0 hm
  have Hy:Hid _:=hy0
  have hq:wrap64 (wrap64 (x.tdiv y))=wrap64 (x.tdiv y):=wrap64_id (wrap64_in _)
  by_cases h1:x = -9223372036854775808
  ·have h2:¬y = -1:=fun h=>hm ⟨h1,h⟩
   have h2':(y == -1)=false:=by simpa using h2
   have h1':(x == -9223372036854775808)=true:=by simpa using h1
   clear hm hx hy0 h1 h2
   go_enter Tryz.func196,Tryz.ntmps196
   go_wp2_with (first | (go_at_call 258;refine (pwdiv_any _ _ Hy.out _).mono ?_;rintro e w' ⟨rfl,rfl⟩) | fail)
   (try simp only [Exit.inBlock, Exit.then]); refine bodyPost_ret (results_cell_row rfl _ _ (w.heap.size) 151 #[_, _] (0, 0) _ rfl jj Tryz.underlying151 rfl infoT) rfl ?_
   exact ⟨rett E.out rfl,(by repeat (first | exact hok | refine Ok.alloc ?_ _ | refine Ok.draws ?_ _ | fail))⟩
  ·have h1':(x == -9223372036854775808)=false:=by simpa using h1
   clear hm hx hy0
   go_enter Tryz.func196,Tryz.ntmps196
   go_wp2_with (first | (go_at_call 258;refine (pwdiv_any _ _ Hy.out _).mono ?_;rintro e w' ⟨rfl,rfl⟩) | fail)
   (try simp only [Exit.inBlock, Exit.then]); refine bodyPost_ret (results_cell_row rfl _ _ (w.heap.size) 151 #[_, _] (0, 0) _ rfl jj Tryz.underlying151 rfl infoT) rfl ?_
   exact ⟨rett E.out rfl,(by repeat (first | exact hok | refine Ok.alloc ?_ _ | refine Ok.draws ?_ _ | fail))⟩
end
section
open Go.RowKit
theorem less_lt {a b:Int} (h:tW a<tW b):a<b:=by unfold tW at h;omega
theorem less_eq {a b:Int} (h:tW a=tW b):(wrap64 a<wrap64 b↔a<b):=by have:=tW_eq a;have:=tW_eq b;omega
theorem less_gt {a b:Int} (h:tW b<tW a):¬a<b:=by unfold tW at h;omega
theorem pless_ex (a b:Int) (w:World) :
  Calls Tryz.prog 272 #[.agg #[.int .i64 (tW a),.int .i64 (wrap64 a)],.agg #[.int .i64 (tW b),.int .i64 (wrap64 b)]] w fun e w'=>e=.returned (.bool (decide (a<b)))/\w'=(w.alloc (.cells #[.int .i64 (tW a),.int .i64 (wrap64 a)] 151)).alloc (.cells #[.int .i64 (tW b),.int .i64 (wrap64 b)] 151):=by
 have L1:Hid _:=@less_lt a b
 have L2:Hid _:=@less_eq a b
 have L3:Hid _:=@less_gt a b
 generalize tW a=ta at *
 generalize tW b=tb at *
 by_cases h1:ta<tb
 ·have d1:decide (ta<tb)=true:=decide_eq_true h1
  have E:Hid (decide (a<b)=true):=decide_eq_true (L1.out h1)
  go_enter Tryz.func272,Tryz.ntmps272
  go_wp2
  go_ret
  exact ⟨retb E.out.symm,rfl⟩
 ·have d1:decide (ta<tb)=false:=decide_eq_false h1
  by_cases h2:ta=tb
  ·subst h2
   have E:Hid (decide (a<b)=decide (wrap64 a<wrap64 b)):=decide_eq_decide.2 (L2.out rfl).symm
   go_enter Tryz.func272,Tryz.ntmps272
   go_wp2
   go_ret
   exact ⟨retb E.out.symm,rfl⟩
  ·have h2':(ta==tb)=false:=by simpa using h2
   have E:Hid (decide (a<b)=false):=decide_eq_false (L3.out (by omega))
   go_enter Tryz.func272,Tryz.ntmps272
   go_wp2
   go_ret
   exact ⟨retb E.out.symm,rfl⟩
theorem infoS:(Tryz.prog.info? 153).map (·.size)=some 4:=by kernel_rfl
theorem pexact_ex (lo hi:Int) (w:World) :
  Calls Tryz.prog 182 #[.agg #[.int .i64 (tW lo),.int .i64 (wrap64 lo),.int .i64 (tW hi),.int .i64 (wrap64 hi)]] w fun e w'=>e=.returned (.bool (decide (In64 lo)&&decide (In64 hi)))/\w'=w.alloc (.cells #[.int .i64 (tW lo),.int .i64 (wrap64 lo),.int .i64 (tW hi),.int .i64 (wrap64 hi)] 153):=by
 have E1:Hid _:=tW_zero lo
 have E2:Hid _:=tW_zero hi
 generalize tW lo=ta at *
 generalize tW hi=tb at *
 generalize decide (In64 lo)=d1 at *
 generalize decide (In64 hi)=d2 at *
 rcases h1:(ta==0) with _ | _
 ·have E:Hid (false=(d1&&d2)):=by unfold Hid;rw [<-E1.out,h1];rfl
  go_enter Tryz.func182,Tryz.ntmps182
  go_wp2
  go_ret
  exact ⟨retb E.out,rfl⟩
 ·have E:Hid ((tb==0)=(d1&&d2)):=by unfold Hid;rw [<-E1.out,h1,E2.out];rfl
  go_enter Tryz.func182,Tryz.ntmps182
  go_wp2
  go_ret
  exact ⟨retb E.out,rfl⟩
def hullW (lo hi:Int):Int×Int:=if tW lo=tW hi then (wrap64 lo,wrap64 hi) else (-9223372036854775808,9223372036854775807)
theorem phull_any (lo hi:Int) (w0 w:World) (hok:Ok w0 w) :
  Calls Tryz.prog 184 #[.agg #[.int .i64 (tW lo),.int .i64 (wrap64 lo),.int .i64 (tW hi),.int .i64 (wrap64 hi)]] w fun e w'=>e=.returned (.agg #[.int .i64 (hullW lo hi).1,.int .i64 (hullW lo hi).2])/\Ok w0 w':=by
 by_cases h:tW lo=tW hi
 ·have E:Hid (hullW lo hi=(wrap64 lo,wrap64 hi)):=if_pos h
  generalize tW lo=ta at *
  generalize tW hi=tb at *
  subst h
  go_enter Tryz.func184,Tryz.ntmps184
  go_wp2_with (first | (go_at_call 185;refine (Jpall_ex _).mono ?_;rintro e w' ⟨rfl,rfl⟩) | fail)
  (try simp only [Exit.inBlock, Exit.then]); refine bodyPost_ret (results_cell_row rfl _ _ (w.heap.size+1) 24 #[_, _] (0, 0) _ rfl jj Tryz.underlying24 rfl infoI) rfl ?_
  exact ⟨reti E.out,(by repeat (first | exact hok | refine Ok.alloc ?_ _ | refine Ok.draws ?_ _ | fail))⟩
 ·have E:Hid (hullW lo hi=(-9223372036854775808,9223372036854775807)):=if_neg h
  generalize tW lo=ta at *
  generalize tW hi=tb at *
  have h':(ta != tb)=true:=by simpa using h
  go_enter Tryz.func184,Tryz.ntmps184
  go_wp2_with (first | (go_at_call 185;refine (Jpall_ex _).mono ?_;rintro e w' ⟨rfl,rfl⟩) | fail)
  (try simp only [Exit.inBlock, Exit.then]); refine bodyPost_ret (results_cell_row rfl _ _ (w.heap.size+1) 24 #[_, _] (0, 0) _ rfl jj Tryz.underlying24 rfl infoI) rfl ?_
  exact ⟨reti E.out,(by repeat (first | exact hok | refine Ok.alloc ?_ _ | refine Ok.draws ?_ _ | fail))⟩
def retS (lo hi:Int):Ending:=.returned (.agg #[.int .i64 (tW lo),.int .i64 (wrap64 lo),.int .i64 (tW hi),.int .i64 (wrap64 hi)])
theorem pwith_any (lo hi z:Int) (w0 w:World) (hok:Ok w0 w) :
  Calls Tryz.prog 253 #[.agg #[.int .i64 (tW lo),.int .i64 (wrap64 lo),.int .i64 (tW hi),.int .i64 (wrap64 hi)],.agg #[.int .i64 (tW z),.int .i64 (wrap64 z)]] w fun e w'=>e=retS (min lo z) (max hi z)/\Ok w0 w':=by
 by_cases h1:z<lo
 ·rw [show min lo z=z by omega]
  have d1:decide (z<lo)=true:=decide_eq_true h1
  by_cases h2:hi<z
  ·rw [show max hi z=z by omega]
   have d2:decide (hi<z)=true:=decide_eq_true h2
   go_enter Tryz.func253,Tryz.ntmps253
   go_wp2_with (first | (go_at_call 272;refine (pless_ex _ _ _).mono ?_;rintro e w' ⟨rfl,rfl⟩) | fail)
   (try simp only [Exit.inBlock, Exit.then]); refine bodyPost_ret (results_cell_row rfl _ _ (w.heap.size+2) 153 #[_, _, _, _] (0, 0) _ rfl jj Tryz.underlying153 rfl infoS) rfl ?_
   exact ⟨rfl,(by repeat (first | exact hok | refine Ok.alloc ?_ _ | refine Ok.draws ?_ _ | fail))⟩
  ·rw [show max hi z=hi by omega]
   have d2:decide (hi<z)=false:=decide_eq_false h2
   go_enter Tryz.func253,Tryz.ntmps253
   go_wp2_with (first | (go_at_call 272;refine (pless_ex _ _ _).mono ?_;rintro e w' ⟨rfl,rfl⟩) | fail)
   (try simp only [Exit.inBlock, Exit.then]); refine bodyPost_ret (results_cell_row rfl _ _ (w.heap.size+2) 153 #[_, _, _, _] (0, 0) _ rfl jj Tryz.underlying153 rfl infoS) rfl ?_
   exact ⟨rfl,(by repeat (first | exact hok | refine Ok.alloc ?_ _ | refine Ok.draws ?_ _ | fail))⟩
 ·rw [show min lo z=lo by omega]
  have d1:decide (z<lo)=false:=decide_eq_false h1
  by_cases h2:hi<z
  ·rw [show max hi z=z by omega]
   have d2:decide (hi<z)=true:=decide_eq_true h2
   go_enter Tryz.func253,Tryz.ntmps253
   go_wp2_with (first | (go_at_call 272;refine (pless_ex _ _ _).mono ?_;rintro e w' ⟨rfl,rfl⟩) | fail)
   (try simp only [Exit.inBlock, Exit.then]); refine bodyPost_ret (results_cell_row rfl _ _ (w.heap.size+2) 153 #[_, _, _, _] (0, 0) _ rfl jj Tryz.underlying153 rfl infoS) rfl ?_
   exact ⟨rfl,(by repeat (first | exact hok | refine Ok.alloc ?_ _ | refine Ok.draws ?_ _ | fail))⟩
  ·rw [show max hi z=hi by omega]
   have d2:decide (hi<z)=false:=decide_eq_false h2
   go_enter Tryz.func253,Tryz.ntmps253
   go_wp2_with (first | (go_at_call 272;refine (pless_ex _ _ _).mono ?_;rintro e w' ⟨rfl,rfl⟩) | fail)
   (try simp only [Exit.inBlock, Exit.then]); refine bodyPost_ret (results_cell_row rfl _ _ (w.heap.size+2) 153 #[_, _, _, _] (0, 0) _ rfl jj Tryz.underlying153 rfl infoS) rfl ?_
   exact ⟨rfl,(by repeat (first | exact hok | refine Ok.alloc ?_ _ | refine Ok.draws ?_ _ | fail))⟩
end
end Go.Proofs.YtpjpjhjjhoeijaaGreat
