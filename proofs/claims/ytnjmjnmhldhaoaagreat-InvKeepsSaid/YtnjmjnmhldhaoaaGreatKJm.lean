import Derived.Shelf.Bits.Mul64
import Derived.Test.YtnjmjnmhldhaoaaGreatKJcg
import Derived.Test.YtnjmjnmhldhaoaaGreatKNl
set_option maxHeartbeats 8000000
set_option linter.all false
namespace Go.Proofs.YtnjmjnmhldhaoaaGreat
section
open Go.RowKit Go.Shelf
def JlaysM_ren:Go.Shelf.Ren:=⟨fun | 264=>221 | n=>n,fun | 53=>25 | 46=>81 | n=>n,fun | n=>n⟩
theorem JlaysMul:Go.Proofs.Lays.n264 Tryz.prog JlaysM_ren:={
 mixed:=by kernel_rfl
 f264:=Tryz.func221.trans (congrArg some (by kernel_rfl))
 t46:=Tryz.underlying81
 a46:=Tryz.isAgg81
 z46:=Tryz.sizeOf81
 v46:=Tryz.zeroValue81
 t53:=Tryz.underlying25
 a53:=Tryz.isAgg25
 z53:=Tryz.sizeOf25
 v53:=Tryz.zeroValue25 }
theorem ret2 {k j:IntKind} {a b c d:Int} (h:a=b) (g:c=d):Ending.returned (.tuple #[.int k a,.int j c])=.returned (.tuple #[.int k b,.int j d]):=by rw [h,g]
theorem mul64_any (a b:Int) (w:World) :
  Calls Tryz.prog 221 #[.int .u64 (IntKind.u64.wrap a),.int .u64 (IntKind.u64.wrap b)] w fun e w'=>e=.returned (.tuple #[.int .u64 (hiW (IntKind.u64.wrap a*IntKind.u64.wrap b)),.int .u64 (loW (IntKind.u64.wrap a*IntKind.u64.wrap b))])/\w'=w:=by
 obtain ⟨x,hx⟩:=Int.eq_ofNat_of_zero_le (show 0<=IntKind.u64.wrap a by rw [u64w];omega)
 obtain ⟨y,hy⟩:=Int.eq_ofNat_of_zero_le (show 0<=IntKind.u64.wrap b by rw [u64w];omega)
 have hx1:x<18446744073709551616:=by rw [u64w] at hx;omega
 have hy1:y<18446744073709551616:=by rw [u64w] at hy;omega
 rw [hx,hy]
 refine (Any.bits_Mul64 JlaysMul x y hx1 hy1 w).mono ?_
 rintro e w' ⟨rfl,rfl⟩
 refine ⟨ret2 ?_ ?_,rfl⟩
 ·unfold hiW;rw [Int.natCast_ediv,Int.natCast_mul];rfl
 ·unfold loW;rw [Int.natCast_emod,Int.natCast_mul];rfl
theorem prod_bound {a b:Int} (ha:In64 a) (hb:In64 b) : -85070591730234615865843651857942052864<=a*b/\a*b<=85070591730234615865843651857942052864:=by
 have h1:a.natAbs<=9223372036854775808:=by unfold In64 at ha;omega
 have h2:b.natAbs<=9223372036854775808:=by unfold In64 at hb;omega
 have h3:=Nat.mul_le_mul h1 h2
 rw [<-Int.natAbs_mul] at h3
 generalize a*b=p at *
 omega
theorem hiW_in {a b:Int} (ha:In64 a) (hb:In64 b):In64 (hiW (a*b)):=by
 have:=prod_bound ha hb
 unfold In64 hiW
 generalize a*b=p at *
 omega
theorem wide_pp {a b:Int} (ha:In64 a) (hb:In64 b) (h0:0<=a) (h1:0<=b):wrap64 (hiW (IntKind.u64.wrap a*IntKind.u64.wrap b))=hiW (a*b)/\loW (IntKind.u64.wrap a*IntKind.u64.wrap b)=loW (a*b):=by
 have e1:IntKind.u64.wrap a=a:=by rw [u64w];unfold In64 at ha;omega
 have e2:IntKind.u64.wrap b=b:=by rw [u64w];unfold In64 at hb;omega
 rw [e1,e2]
 exact ⟨wrap64_id (hiW_in ha hb),rfl⟩
theorem wide_np {a b:Int} (ha:In64 a) (hb:In64 b) (h0:a<0) (h1:0<=b):wrap64 (IntKind.u64.wrap (hiW (IntKind.u64.wrap a*IntKind.u64.wrap b)-IntKind.u64.wrap b))=hiW (a*b)/\loW (IntKind.u64.wrap a*IntKind.u64.wrap b)=loW (a*b):=by
 have hh:=hiW_in ha hb
 have e1:IntKind.u64.wrap a=a+18446744073709551616:=by rw [u64w];unfold In64 at ha;omega
 have e2:IntKind.u64.wrap b=b:=by rw [u64w];unfold In64 at hb;omega
 rw [e1,e2,Int.add_mul,u64w]
 unfold hiW loW In64 at *
 generalize a*b=p at *
 unfold wrap64
 omega
theorem wide_pn {a b:Int} (ha:In64 a) (hb:In64 b) (h0:0<=a) (h1:b<0):wrap64 (IntKind.u64.wrap (hiW (IntKind.u64.wrap a*IntKind.u64.wrap b)-IntKind.u64.wrap a))=hiW (a*b)/\loW (IntKind.u64.wrap a*IntKind.u64.wrap b)=loW (a*b):=by
 have h:=wide_np hb ha h1 h0
 rw [Int.mul_comm b a,Int.mul_comm (IntKind.u64.wrap b)] at h
 exact h
theorem wide_nn {a b:Int} (ha:In64 a) (hb:In64 b) (h0:a<0) (h1:b<0):wrap64 (IntKind.u64.wrap (IntKind.u64.wrap (hiW (IntKind.u64.wrap a*IntKind.u64.wrap b)-IntKind.u64.wrap b)-IntKind.u64.wrap a))=hiW (a*b)/\loW (IntKind.u64.wrap a*IntKind.u64.wrap b)=loW (a*b):=by
 have hh:=hiW_in ha hb
 have e1:IntKind.u64.wrap a=a+18446744073709551616:=by rw [u64w];unfold In64 at ha;omega
 have e2:IntKind.u64.wrap b=b+18446744073709551616:=by rw [u64w];unfold In64 at hb;omega
 rw [e1,e2,Int.add_mul,Int.mul_add,u64w,u64w]
 unfold hiW loW In64 at *
 generalize a*b=p at *
 unfold wrap64
 omega
theorem pwide_any (a b:Int) (ha:In64 a) (hb:In64 b) (w:World) :
  Calls Tryz.prog 212 #[.int .i64 a,.int .i64 b] w fun e w'=>e=.returned (.tuple #[.int .i64 (hiW (a*b)),.int .u64 (loW (a*b))])/\w'=w:=by
 by_cases h0:a<0<;>by_cases h1:b<0
 ·have H:=wide_nn ha hb h0 h1
  have HH:Hid _:=H
  clear H ha hb
  go_enter Tryz.func212,Tryz.ntmps212
  go_wp2_with (go_at_call 221;refine (mul64_any _ _ _).mono ?_;rintro e w' ⟨rfl,rfl⟩)
  go_ret2
  exact ⟨ret2 HH.out.1 HH.out.2,rfl⟩
 ·have H:=wide_np ha hb h0 (by omega)
  have HH:Hid _:=H
  clear H ha hb
  go_enter Tryz.func212,Tryz.ntmps212
  go_wp2_with (go_at_call 221;refine (mul64_any _ _ _).mono ?_;rintro e w' ⟨rfl,rfl⟩)
  go_ret2
  exact ⟨ret2 HH.out.1 HH.out.2,rfl⟩
 ·have H:=wide_pn ha hb (by omega) h1
  have HH:Hid _:=H
  clear H ha hb
  go_enter Tryz.func212,Tryz.ntmps212
  go_wp2_with (go_at_call 221;refine (mul64_any _ _ _).mono ?_;rintro e w' ⟨rfl,rfl⟩)
  go_ret2
  exact ⟨ret2 HH.out.1 HH.out.2,rfl⟩
 ·have H:=wide_pp ha hb (by omega) (by omega)
  have HH:Hid _:=H
  clear H ha hb
  go_enter Tryz.func212,Tryz.ntmps212
  go_wp2_with (go_at_call 221;refine (mul64_any _ _ _).mono ?_;rintro e w' ⟨rfl,rfl⟩)
  go_ret2
  exact ⟨ret2 HH.out.1 HH.out.2,rfl⟩
theorem pproduct_any (x y:Int) (hx:In64 x) (hy:In64 y) (w0 w:World) (hok:Ok w0 w) :
  Calls Tryz.prog 230 #[.int .i64 x,.int .i64 y] w fun e w'=>e=.returned (.agg #[.int .i64 (tW (x*y)),.int .i64 (wrap64 (x*y))])/\Ok w0 w':=by
 have HX:Hid (In64 x/\In64 y):=⟨hx,hy⟩
 clear hx hy
 go_enter Tryz.func230,Tryz.ntmps230
 go_wp2_with (first | (go_at_call 212;refine (pwide_any _ _ HX.out.1 HX.out.2 _).mono ?_;rintro e w' ⟨rfl,rfl⟩) | (go_at_call 252;refine (phalves_ex _ _ (x*y) _ (prod_bound HX.out.1 HX.out.2) rfl rfl).mono ?_;rintro e w' ⟨rfl,rfl⟩) | fail)
 (try simp only [Exit.inBlock, Exit.then]); refine bodyPost_ret (results_cell_row rfl _ _ (w.heap.size) 185 #[_, _] (0, 0) _ rfl jj Tryz.underlying185 rfl infoT) rfl ?_
 exact ⟨rfl,(by repeat (first | exact hok | refine Ok.alloc ?_ _ | refine Ok.draws ?_ _ | fail))⟩
end
section
open Go.RowKit Go.Shelf
theorem infoV:(Tryz.prog.info? 104).map (·.size)=some 2:=by kernel_rfl
def wvv (z:Int):Value:=.agg #[.int .i64 (hiW z),.int .u64 (loW z)]
theorem lo_wrap (z:Int):loW z=IntKind.u64.wrap z:=by rw [u64w];rfl
theorem vretw {a b z:Int} (h1:a=hiW z) (h2:b=loW z):Ending.returned (.agg #[.int .i64 a,.int .u64 b])=.returned (wvv z):=by rw [h1,h2];rfl
theorem vnumber_any (v:Int) (hv:In64 v) (w0 w:World) (hok:Ok w0 w) :
  Calls Tryz.prog 100 #[.int .i64 v] w fun e w'=>e=.returned (wvv v)/\Ok w0 w':=by
 have E1:Hid (v/9223372036854775808=hiW v):=by unfold Hid hiW;unfold In64 at hv;omega
 clear hv
 go_enter Tryz.func100,Tryz.ntmps100
 go_wp2_with fail
 (try simp only [Exit.inBlock, Exit.then]); refine bodyPost_ret (results_cell_row rfl _ _ (w.heap.size) 104 #[_, _] (0, 0) _ rfl jj Tryz.underlying104 rfl infoV) rfl ?_
 exact ⟨vretw E1.out (lo_wrap v).symm,hok.alloc _⟩
def V126 (z:Int):Prop := -85070591730234615865843651857942052864<=z/\z<=85070591730234615865843651857942052864
theorem plus_hi {z v:Int} (hz:V126 z) (hv:In64 v):wrap64 (wrap64 (hiW z+v/9223372036854775808)+wrap64 ((IntKind.u64.wrap z+IntKind.u64.wrap v)/18446744073709551616))=hiW (z+v):=by
 have e1:wrap64 (hiW z+v/9223372036854775808)=hiW z+v/9223372036854775808:=wrap64_id (by unfold V126 at hz;unfold In64 at *;unfold hiW;omega)
 have e2:wrap64 ((IntKind.u64.wrap z+IntKind.u64.wrap v)/18446744073709551616)=(IntKind.u64.wrap z+IntKind.u64.wrap v)/18446744073709551616:=wrap64_id (by rw [u64w,u64w];unfold In64;omega)
 have e3:hiW z+v/9223372036854775808+(IntKind.u64.wrap z+IntKind.u64.wrap v)/18446744073709551616=hiW (z+v):=by
  rw [u64w,u64w];unfold hiW;unfold In64 at hv;omega
 rw [e1,e2,e3]
 exact wrap64_id (by unfold V126 at hz;unfold In64 at *;unfold hiW;omega)
theorem plus_lo (z v:Int):(IntKind.u64.wrap z+IntKind.u64.wrap v)%18446744073709551616=loW (z+v):=by
 rw [u64w,u64w];unfold loW;omega
theorem vplus_any (z v:Int) (hz:V126 z) (hv:In64 v) (w0 w:World) (hok:Ok w0 w) :
  Calls Tryz.prog 98 #[wvv z,.int .i64 v] w fun e w'=>e=.returned (wvv (z+v))/\Ok w0 w':=by
 have hle:=hok.le
 have E1:Hid _:=plus_hi hz hv
 have E2:Hid _:=plus_lo z v
 clear hz hv
 have hl:=Jadd64_law z v
 unfold wvv
 rw [lo_wrap z]
 go_enter Tryz.func98,Tryz.ntmps98
 go_wp2_with fail
 (try simp only [Exit.inBlock, Exit.then]); refine bodyPost_ret (results_cell_row rfl _ _ (w.heap.size+1) 104 #[_, _] (0, 0) _ rfl jj Tryz.underlying104 rfl infoV) rfl ?_
 exact ⟨vretw E1.out E2.out,(by repeat (first | exact hok | refine Ok.alloc ?_ _ | refine Ok.draws ?_ _ | fail))⟩
def cmpI (x y:Int):Int:=if x<y then -1 else if y<x then 1 else 0
theorem vnan (x:Int) (w:World) :
  Calls Tryz.prog 214 #[.int .i64 x] w fun e w'=>e=.returned (.bool false)/\w'=w:=by
 go_enter Tryz.func214,Tryz.ntmps214
 go_wp2
 go_ret
 exact ⟨by simp,rfl⟩
theorem vnanu (x:Int) (w:World) :
  Calls Tryz.prog 215 #[.int .u64 x] w fun e w'=>e=.returned (.bool false)/\w'=w:=by
 go_enter Tryz.func215,Tryz.ntmps215
 go_wp2
 go_ret
 exact ⟨by simp,rfl⟩
theorem vcmp (x y:Int) (w0 w:World) (hok:Ok w0 w) :
  Calls Tryz.prog 164 #[.int .i64 x,.int .i64 y] w fun e w'=>e=.returned (.int .i64 (cmpI x y))/\Ok w0 w':=by
 obtain ⟨c,hc⟩:∃ c,c=cmpI x y:=⟨_,rfl⟩
 rw [<-hc]
 have HC:Hid _:=hc
 clear hc
 go_enter Tryz.func164,Tryz.ntmps164
 go_wp2_with fail
 refine (vnan x _).mono ?_
 rintro e w1 ⟨rfl,rfl⟩
 go_wp2_with fail
 refine (vnan y _).mono ?_
 rintro e w1 ⟨rfl,rfl⟩
 by_cases h1:x<y
 ·have E:Hid (c = -1):=by unfold Hid;rw [HC.out];unfold cmpI;rw [if_pos h1]
  go_wp2_with fail
  go_ret
  exact ⟨by rw [E.out];rfl,hok⟩
 ·by_cases h2:y<x
  ·have E:Hid (c=1):=by unfold Hid;rw [HC.out];unfold cmpI;rw [if_neg h1,if_pos h2]
   replace h1:y<=x:=by omega
   go_wp2_with fail
   go_ret
   exact ⟨by rw [E.out];rfl,hok⟩
  ·have E:Hid (c=0):=by unfold Hid;rw [HC.out];unfold cmpI;rw [if_neg h1,if_neg h2]
   replace h1:y<=x:=by omega
   replace h2:x<=y:=by omega
   go_wp2_with fail
   go_ret
   exact ⟨by rw [E.out];rfl,hok⟩
theorem vcmpu (x y:Int) (w0 w:World) (hok:Ok w0 w) :
  Calls Tryz.prog 165 #[.int .u64 x,.int .u64 y] w fun e w'=>e=.returned (.int .i64 (cmpI x y))/\Ok w0 w':=by
 obtain ⟨c,hc⟩:∃ c,c=cmpI x y:=⟨_,rfl⟩
 rw [<-hc]
 have HC:Hid _:=hc
 clear hc
 go_enter Tryz.func165,Tryz.ntmps165
 go_wp2_with fail
 refine (vnanu x _).mono ?_
 rintro e w1 ⟨rfl,rfl⟩
 go_wp2_with fail
 refine (vnanu y _).mono ?_
 rintro e w1 ⟨rfl,rfl⟩
 by_cases h1:x<y
 ·have E:Hid (c = -1):=by unfold Hid;rw [HC.out];unfold cmpI;rw [if_pos h1]
  go_wp2_with fail
  go_ret
  exact ⟨by rw [E.out];rfl,hok⟩
 ·by_cases h2:y<x
  ·have E:Hid (c=1):=by unfold Hid;rw [HC.out];unfold cmpI;rw [if_neg h1,if_pos h2]
   replace h1:y<=x:=by omega
   go_wp2_with fail
   go_ret
   exact ⟨by rw [E.out];rfl,hok⟩
  ·have E:Hid (c=0):=by unfold Hid;rw [HC.out];unfold cmpI;rw [if_neg h1,if_neg h2]
   replace h1:y<=x:=by omega
   replace h2:x<=y:=by omega
   go_wp2_with fail
   go_ret
   exact ⟨by rw [E.out];rfl,hok⟩
theorem cmp_whole (a b:Int):(if cmpI (hiW a) (hiW b)≠0 then cmpI (hiW a) (hiW b) else cmpI (loW a) (loW b))=cmpI a b:=by
 unfold cmpI hiW loW
 by_cases h1:a/18446744073709551616<b/18446744073709551616
 ·rw [if_pos h1,if_pos (by omega),if_pos (by omega)]
 ·rw [if_neg h1]
  by_cases h2:b/18446744073709551616<a/18446744073709551616
  ·rw [if_pos h2,if_pos (by omega),if_neg (by omega),if_pos (by omega)]
  ·rw [if_neg h2,if_neg (by omega)]
   by_cases h3:a<b
   ·rw [if_pos h3,if_pos (by omega)]
   ·rw [if_neg h3,if_neg (by omega)]
    by_cases h4:b<a
    ·rw [if_pos h4,if_pos (by omega)]
    ·rw [if_neg h4,if_neg (by omega)]
end
section
open Go.RowKit
theorem pthi_p (W:Int->Int->Int) (al ah bl bh L H:Int) (bf:Nat) (w:World) (hop:OpAt 230 al ah bl bh W) (hbf:w.heap[bf]?=some (.cells #[.func (.func 230) #[] #[]] 183 (0,0))) (h:cL W al ah bl bh 4=L/\cH W al ah bl bh 4=H) :
  Calls Tryz.prog 253 #[.agg #[.int .i64 al,.int .i64 ah],.agg #[.int .i64 bl,.int .i64 bh],.pointer (some ⟨bf,0,none⟩)] w fun e w'=>e=.returned (.agg #[.int .i64 (tW L),.int .i64 (wrap64 L),.int .i64 (tW H),.int .i64 (wrap64 H)])/\Ok w w':=by
 rw [<-h.1,<-h.2];exact pthr 230 (fun _ _ _=>by kernel_rfl) W al ah bl bh bf w hop hbf
theorem op_pro {al ah bl bh:Int} (ha1:In64 al) (ha2:In64 ah) (hb1:In64 bl) (hb2:In64 bh):OpAt 230 al ah bl bh (fun x y=>x*y):=by
 intro x y hx hy w0 w hok
 exact pproduct_any x y (by rcases hx with rfl | rfl<;>assumption) (by rcases hy with rfl | rfl<;>assumption) w0 w hok
theorem cL_mul (al ah bl bh:Int):cL (fun x y=>x*y) al ah bl bh 4=mulLo al ah bl bh/\cH (fun x y=>x*y) al ah bl bh 4=mulHi al ah bl bh:=by
 simp only [cL,cH,cX,cY,mulLo,mulHi]
 generalize al*bl=p at *
 generalize al*bh=q at *
 generalize ah*bl=r at *
 generalize ah*bh=s at *
 omega
theorem pexact_x (lo hi:Int) (w:World) :
  Calls Tryz.prog 231 #[.agg #[.int .i64 (tW lo),.int .i64 (wrap64 lo),.int .i64 (tW hi),.int .i64 (wrap64 hi)]] w fun e w'=>e=.returned (.bool (exW lo hi))/\w'=w.alloc (.cells #[.int .i64 (tW lo),.int .i64 (wrap64 lo),.int .i64 (tW hi),.int .i64 (wrap64 hi)] 187):=pexact_ex lo hi w
def mulW (one:Bool) (L H:Int):Int×Int×Bool:=if exW L H=true\/one=true then ((hullW L H).1,(hullW L H).2,exW L H) else (-9223372036854775808,9223372036854775807,false)
theorem retib' {l h:Int} {b:Bool} {p:Int×Int×Bool} (e:p=(l,h,b)):Ending.returned (.tuple #[.agg #[.int .i64 l,.int .i64 h],.bool b])=.returned (.tuple #[.agg #[.int .i64 p.1,.int .i64 p.2.1],.bool p.2.2]):=by rw [e]
theorem Jpmul_c (one:Bool) (al ah bl bh L H:Int) (hon:(decide (al=ah)&&decide (bl=bh))=one) (w0 w:World) (hok:Ok w0 w) (hop:OpAt 230 al ah bl bh (fun x y=>x*y)) (hLH:cL (fun x y=>x*y) al ah bl bh 4=L/\cH (fun x y=>x*y) al ah bl bh 4=H) (hc:al<=ah) (hc2:bl<=bh) :
  Calls Tryz.prog 206 #[.agg #[.int .i64 al,.int .i64 ah],.agg #[.int .i64 bl,.int .i64 bh]] w fun e w'=>e=.returned (.tuple #[.agg #[.int .i64 (mulW one L H).1,.int .i64 (mulW one L H).2.1],.bool (mulW one L H).2.2])/\Ok w0 w':=by
 have d:decide (ah<al)=false:=decide_eq_false (by omega)
 have d2:decide (bh<bl)=false:=decide_eq_false (by omega)
 have HON:Hid ((decide (al=ah)&&decide (bl=bh))=one):=hon
 clear hon
 have HO:Hid _:=hop
 have HLH:Hid _:=hLH
 clear hop hLH
 go_enter Tryz.func206,Tryz.ntmps206
 go_wp2_with (first | (go_at_call 199;refine (pisnone_ex _ _ _).mono ?_;rintro e w' ⟨rfl,rfl⟩) | fail)
 obtain ⟨W,hW⟩:∃ W,W=((((w.alloc (.cells #[.int .i64 al,.int .i64 ah] 24)).alloc (.cells #[.int .i64 bl,.int .i64 bh] 24)).alloc (.cells #[.int .i64 0,.int .i64 0] 24)).alloc (.cells #[.int .i64 al,.int .i64 ah] 24)).alloc (.cells #[.int .i64 bl,.int .i64 bh] 24):=⟨_,rfl⟩
 have ra:W.heap[w.heap.size]?=some (.cells #[.int .i64 al,.int .i64 ah] 24):=by rw [hW];exact jj
 have rb:W.heap[w.heap.size+1]?=some (.cells #[.int .i64 bl,.int .i64 bh] 24):=by rw [hW];exact jj
 have rr:W.heap[w.heap.size+2]?=some (.cells #[.int .i64 0,.int .i64 0] 24):=by rw [hW];exact jj
 have hokW:Ok w0 W:=by rw [hW];exact (by repeat (first | exact hok | refine Ok.alloc ?_ _ | refine Ok.draws ?_ _ | fail))
 have hw0:=hok.le
 rw [<-hW]
 clear hW
 obtain ⟨c0,c1,_,_⟩:=row_facts ra
 obtain ⟨c2,c3,_,_⟩:=row_facts rb
 have g0:=lt_row ra
 have g1:=lt_row rb
 have HW:Hid (W.heap[w.heap.size+2]?=some (.cells #[.int .i64 0,.int .i64 0] 24)/\Ok w0 W/\w0.heap.size<=w.heap.size):=⟨rr,hokW,hw0⟩
 clear ra rb rr hokW hw0 hok
 have hm0:=World.new_ne W _ c0
 have hm1:=World.new_ne W _ c1
 have hm2:=World.new_ne W _ c2
 have hm3:=World.new_ne W _ c3
 have hn0:¬w.heap.size=W.heap.size:=by omega
 have hn1:¬w.heap.size+1=W.heap.size:=by omega
 have hn2:¬w.heap.size=W.heap.size+1:=by omega
 have hn3:¬w.heap.size+1=W.heap.size+1:=by omega
 have hp0:¬W.heap.size+1=w.heap.size:=by omega
 have hp1:¬W.heap.size=w.heap.size:=by omega
 have hp2:¬W.heap.size=w.heap.size+1:=by omega
 have hp3:¬W.heap.size+1=w.heap.size+1:=by omega
 refine wp_cut2 (fun a1 w1=>∃ g bf,a1=⟨#[.agg #[.int .i64 al,.int .i64 ah],.agg #[.int .i64 bl,.int .i64 bh],.pointer (some ⟨w.heap.size,0,none⟩),.pointer (some ⟨w.heap.size+1,0,none⟩),.pointer (some ⟨w.heap.size+1+1,0,none⟩),.bool false,.pointer (some ⟨g,0,none⟩),.agg #[.int .i64 al,.int .i64 ah],.bool false,.bool false,.agg #[.int .i64 bl,.int .i64 bh],.bool false,.bool false,undef,.func (.func 253) #[] #[.pointer (some ⟨bf,0,none⟩)],.agg #[.int .i64 al,.int .i64 ah],.agg #[.int .i64 bl,.int .i64 bh],.agg #[.int .i64 (tW L),.int .i64 (wrap64 L),.int .i64 (tW H),.int .i64 (wrap64 H)],undef,undef,undef,undef,undef,undef,undef,undef,undef,undef,undef,undef,undef,undef,undef],[]⟩/\Hid (Spn W w1 g L H)) ?_ ?_
 ·go_region_held3 (fun w'=>w'.cell? ⟨w.heap.size,0,none⟩=some (.int .i64 al)/\w'.cell? ⟨w.heap.size,1,none⟩=some (.int .i64 ah)/\w'.cell? ⟨w.heap.size+1,0,none⟩=some (.int .i64 bl)/\w'.cell? ⟨w.heap.size+1,1,none⟩=some (.int .i64 bh)) (go_keep)
   (first
   | (go_at_call 229;refine (pthrough_ex _ _).mono ?_;rintro e w' ⟨rfl,rfl⟩)
   | (go_at_call 253;refine (pthi_p (fun x y=>x*y) _ _ _ _ L H _ _ HO.out jj HLH.out).mono ?_;rintro e w2 ⟨rfl,hb2⟩;have hbW:Ok W w2:=Ok.step (by repeat (first | exact Ok.refl _ | refine Ok.alloc ?_ _ | refine Ok.draws ?_ _ | exact Below.drew (Ok.refl _))) hb2;have e0:=Ok.cell hbW g0 c0;have e1:=Ok.cell hbW g0 c1;have e2:=Ok.cell hbW g1 c2;have e3:=Ok.cell hbW g1 c3;have j0:¬w2.heap.size=w.heap.size:=(by have:=hbW.le;omega);have j1:¬w2.heap.size=w.heap.size+1:=(by have:=hbW.le;omega);have j2:¬w.heap.size=w2.heap.size:=(by have:=hbW.le;omega);have j3:¬w.heap.size+1=w2.heap.size:=(by have:=hbW.le;omega);first | (have HQ:Hid _:=rowA (o:=.cells #[.int .i64 0,.int .i64 0,.int .i64 0,.int .i64 0] 187) hb2;obtain ⟨⟨q0,q1,q2,q3⟩,q4,q5,q6,q7⟩:=row_facts4 HQ.out) | (have HQ:Hid _:=rowB (o:=.cells #[.int .i64 0,.int .i64 0,.int .i64 0,.int .i64 0] 187) hb2;obtain ⟨⟨q0,q1,q2,q3⟩,q4,q5,q6,q7⟩:=row_facts4 HQ.out) | skip)
   | fail)
  all_goals (refine ⟨_,_,rfl,?_⟩;first | with_reducible exact thr_a hbW | ((with_reducible refine thr_b hbW HQ.out ?_);omega))
 ·rintro a1 w1 ⟨g,bf,rfl,HT⟩
  have f0:=Ok.cell HT.out.1 g0 c0;have f1:=Ok.cell HT.out.1 g0 c1;have f2:=Ok.cell HT.out.1 g1 c2;have f3:=Ok.cell HT.out.1 g1 c3
  have i0:w.heap.size<w1.heap.size:=Nat.lt_of_lt_of_le g0 HT.out.1.le
  have i1:w.heap.size+1<w1.heap.size:=Nat.lt_of_lt_of_le g1 HT.out.1.le
  clear c0 c1 c2 c3 g0 g1 hm0 hm1 hm2 hm3 hn0 hn1 hn2 hn3 hp0 hp1 hp2 hp3 d d2
  have rg:=HT.out.2.1
  obtain ⟨⟨q0,q1,q2,q3⟩,_,_,_,_⟩:=row_facts4 rg
  have sg:=lt_row rg
  have rr:=Ok.row' HT.out.1 HW.out.1
  obtain ⟨p0,p1,p2,p3⟩:=row_facts rr
  have HR:Hid (w1.heap[w.heap.size+2]?=some (.cells #[.int .i64 0,.int .i64 0] 24)/\Ok w0 w1):=⟨rr,Ok.step HW.out.2.1 HT.out.1⟩
  have sr:=lt_row rr
  clear rr
  have ne1:¬g=w.heap.size+1+1:=by have h1:=HT.out.2.2;have h2:=lt_row HW.out.1;omega
  have ne2:¬w.heap.size+1+1=g:=by omega
  have HG:Hid (w1.heap[g]?=some (rowS L H)):=rg
  clear rg
  simp only [Exit.then]
  have hon:=HON.out
  clear HON
  rcases hx:exW L H with _ | _
  ·by_cases h1:al=ah
   ·have d1:decide (al=ah)=true:=decide_eq_true h1
    by_cases h2:bl=bh
    ·have d2:decide (bl=bh)=true:=decide_eq_true h2
     have E:Hid (mulW one L H=((hullW L H).1,(hullW L H).2,false)):=by unfold Hid mulW;rw [if_pos (Or.inr (by rw [<-hon,d1,d2];rfl)),hx]
     clear hon h1 h2
     go_wp2_with (first | (go_at_call 231;refine (pexact_x _ _ _).mono ?_;rintro e w' ⟨rfl,rfl⟩) | (go_at_call 232;refine (Jpisone_ex _ _ _).mono ?_;rintro e w' ⟨rfl,rfl⟩) | (go_at_call 234;refine (Jpall_ex _).mono ?_;rintro e w' ⟨rfl,rfl⟩) | fail)
     obtain ⟨X,hX⟩:∃ X,X=((w1.alloc (.cells #[.int .i64 (tW L),.int .i64 (wrap64 L),.int .i64 (tW H),.int .i64 (wrap64 H)] 187)).alloc (.cells #[.int .i64 al,.int .i64 ah] 24)).alloc (.cells #[.int .i64 bl,.int .i64 bh] 24):=⟨_,rfl⟩
     have okX:Ok w1 X:=by rw [hX];exact (by repeat (first | exact Ok.refl _ | refine Ok.alloc ?_ _))
     rw [<-hX]
     clear hX
     obtain ⟨⟨m0,m1,m2,m3⟩,_,_,_,_⟩:=row_facts4 (Ok.row' okX HG.out)
     have sX:g<X.heap.size:=Nat.lt_of_lt_of_le sg okX.le
     obtain ⟨n0,n1,n2,n3⟩:=row_facts (Ok.row' okX HR.out.1)
     have HX:Hid (X.heap[w.heap.size+2]?=some (.cells #[.int .i64 0,.int .i64 0] 24)/\Ok w0 X):=⟨Ok.row' okX HR.out.1,Ok.step HR.out.2 okX⟩
     have bx:Ok X X:=Ok.refl _
     have bx':Ok X X.drew:=Below.drew (Ok.refl _)
     clear okX q0 q1 q2 q3 p0 p1 p2 p3 f0 f1 f2 f3
     go_region_held3 (fun w'=>w'.cell? ⟨g,0,none⟩=some (.int .i64 (tW L))/\w'.cell? ⟨g,1,none⟩=some (.int .i64 (wrap64 L))/\w'.cell? ⟨g,2,none⟩=some (.int .i64 (tW H))/\w'.cell? ⟨g,3,none⟩=some (.int .i64 (wrap64 H))) (go_keep)
      (first
      | (go_at_call 233;refine (phull_any _ _ X _ (by assumption)).mono ?_;rintro e w3 ⟨rfl,hb3⟩;have e0:=Ok.cell hb3 sX m0;have e1:=Ok.cell hb3 sX m1;have e2:=Ok.cell hb3 sX m2;have e3:=Ok.cell hb3 sX m3;obtain ⟨k0,k1,k2,k3⟩:=row_facts (Ok.row' hb3 HX.out.1))
      | (go_at_call 231;refine (pexact_any _ _ X _ (by assumption)).mono ?_;rintro e w3 ⟨rfl,hb3⟩;have e0:=Ok.cell hb3 sX m0;have e1:=Ok.cell hb3 sX m1;have e2:=Ok.cell hb3 sX m2;have e3:=Ok.cell hb3 sX m3;obtain ⟨k0,k1,k2,k3⟩:=row_facts (Ok.row' hb3 HX.out.1))
      | fail)
     go_wp2_with fail
     (try simp only [Exit.inBlock,Exit.then])
     refine bodyPost_ret (results_iv rfl _ _ (w.heap.size+2) 24 #[_,_] (0,0) _ rfl (row_set2 (Ok.row' hb3 HX.out.1) _ _) Tryz.underlying24 rfl infoI) rfl ?_
     have hw:=HW.out.2.2
     exact ⟨retib' E.out,((Ok.step HX.out.2 hb3).set (show w0.heap.size<=w.heap.size+2 by omega) _).set (show w0.heap.size<=w.heap.size+2 by omega) _⟩
    ·have d2:decide (bl=bh)=false:=decide_eq_false h2
     have E:Hid (mulW one L H=(-9223372036854775808,9223372036854775807,false)):=by unfold Hid mulW;rw [<-hon,d1,d2,hx];rfl
     clear hon h1 h2
     go_wp2_with (first | (go_at_call 231;refine (pexact_x _ _ _).mono ?_;rintro e w' ⟨rfl,rfl⟩) | (go_at_call 232;refine (Jpisone_ex _ _ _).mono ?_;rintro e w' ⟨rfl,rfl⟩) | (go_at_call 234;refine (Jpall_ex _).mono ?_;rintro e w' ⟨rfl,rfl⟩) | fail)
     (try simp only [Exit.inBlock,Exit.then])
     refine bodyPost_ret (results_iv rfl _ _ (w.heap.size+2) 24 #[_,_] (0,0) _ rfl (by repeat (first | exact row_set2 HR.out.1 _ _ | (refine heap_past _ _ _ ?hy ?_;case hy=>(simp;omega)))) Tryz.underlying24 rfl infoI) rfl ?_
     have hw:=HW.out.2.2
     exact ⟨retib' E.out,by repeat (first | exact (HR.out.2.set (show w0.heap.size<=w.heap.size+2 by omega) _).set (show w0.heap.size<=w.heap.size+2 by omega) _ | refine Ok.alloc ?_ _)⟩
   ·have d1:decide (al=ah)=false:=decide_eq_false h1
    have E:Hid (mulW one L H=(-9223372036854775808,9223372036854775807,false)):=by unfold Hid mulW;rw [<-hon,d1,hx];rfl
    clear hon h1
    go_wp2_with (first | (go_at_call 231;refine (pexact_x _ _ _).mono ?_;rintro e w' ⟨rfl,rfl⟩) | (go_at_call 232;refine (Jpisone_ex _ _ _).mono ?_;rintro e w' ⟨rfl,rfl⟩) | (go_at_call 234;refine (Jpall_ex _).mono ?_;rintro e w' ⟨rfl,rfl⟩) | fail)
    (try simp only [Exit.inBlock,Exit.then])
    refine bodyPost_ret (results_iv rfl _ _ (w.heap.size+2) 24 #[_,_] (0,0) _ rfl (by repeat (first | exact row_set2 HR.out.1 _ _ | (refine heap_past _ _ _ ?hy ?_;case hy=>(simp;omega)))) Tryz.underlying24 rfl infoI) rfl ?_
    have hw:=HW.out.2.2
    exact ⟨retib' E.out,by repeat (first | exact (HR.out.2.set (show w0.heap.size<=w.heap.size+2 by omega) _).set (show w0.heap.size<=w.heap.size+2 by omega) _ | refine Ok.alloc ?_ _)⟩
  ·have E:Hid (mulW one L H=((hullW L H).1,(hullW L H).2,true)):=by unfold Hid mulW;rw [hx,if_pos (Or.inl rfl)]
   clear hon
   go_wp2_with (first | (go_at_call 231;refine (pexact_x _ _ _).mono ?_;rintro e w' ⟨rfl,rfl⟩) | (go_at_call 232;refine (Jpisone_ex _ _ _).mono ?_;rintro e w' ⟨rfl,rfl⟩) | (go_at_call 234;refine (Jpall_ex _).mono ?_;rintro e w' ⟨rfl,rfl⟩) | fail)
   obtain ⟨X,hX⟩:∃ X,X=w1.alloc (.cells #[.int .i64 (tW L),.int .i64 (wrap64 L),.int .i64 (tW H),.int .i64 (wrap64 H)] 187):=⟨_,rfl⟩
   have okX:Ok w1 X:=by rw [hX];exact (by repeat (first | exact Ok.refl _ | refine Ok.alloc ?_ _))
   rw [<-hX]
   clear hX
   obtain ⟨⟨m0,m1,m2,m3⟩,_,_,_,_⟩:=row_facts4 (Ok.row' okX HG.out)
   have sX:g<X.heap.size:=Nat.lt_of_lt_of_le sg okX.le
   obtain ⟨n0,n1,n2,n3⟩:=row_facts (Ok.row' okX HR.out.1)
   have HX:Hid (X.heap[w.heap.size+2]?=some (.cells #[.int .i64 0,.int .i64 0] 24)/\Ok w0 X):=⟨Ok.row' okX HR.out.1,Ok.step HR.out.2 okX⟩
   have bx:Ok X X:=Ok.refl _
   have bx':Ok X X.drew:=Below.drew (Ok.refl _)
   clear okX q0 q1 q2 q3 p0 p1 p2 p3 f0 f1 f2 f3
   go_region_held3 (fun w'=>w'.cell? ⟨g,0,none⟩=some (.int .i64 (tW L))/\w'.cell? ⟨g,1,none⟩=some (.int .i64 (wrap64 L))/\w'.cell? ⟨g,2,none⟩=some (.int .i64 (tW H))/\w'.cell? ⟨g,3,none⟩=some (.int .i64 (wrap64 H))) (go_keep)
    (first
    | (go_at_call 233;refine (phull_any _ _ X _ (by assumption)).mono ?_;rintro e w3 ⟨rfl,hb3⟩;have e0:=Ok.cell hb3 sX m0;have e1:=Ok.cell hb3 sX m1;have e2:=Ok.cell hb3 sX m2;have e3:=Ok.cell hb3 sX m3;obtain ⟨k0,k1,k2,k3⟩:=row_facts (Ok.row' hb3 HX.out.1))
    | (go_at_call 231;refine (pexact_any _ _ X _ (by assumption)).mono ?_;rintro e w3 ⟨rfl,hb3⟩;have e0:=Ok.cell hb3 sX m0;have e1:=Ok.cell hb3 sX m1;have e2:=Ok.cell hb3 sX m2;have e3:=Ok.cell hb3 sX m3;obtain ⟨k0,k1,k2,k3⟩:=row_facts (Ok.row' hb3 HX.out.1))
    | fail)
   go_wp2_with fail
   (try simp only [Exit.inBlock,Exit.then])
   refine bodyPost_ret (results_iv rfl _ _ (w.heap.size+2) 24 #[_,_] (0,0) _ rfl (row_set2 (Ok.row' hb3 HX.out.1) _ _) Tryz.underlying24 rfl infoI) rfl ?_
   have hw:=HW.out.2.2
   exact ⟨retib' E.out,((Ok.step HX.out.2 hb3).set (show w0.heap.size<=w.heap.size+2 by omega) _).set (show w0.heap.size<=w.heap.size+2 by omega) _⟩
theorem mulW_is {al ah bl bh:Int} (hc:al<=ah) (hc2:bl<=bh):mulW (decide (al=ah)&&decide (bl=bh)) (mulLo al ah bl bh) (mulHi al ah bl bh)=mulI al ah bl bh:=by
 unfold mulI
 rw [if_neg (show ¬(ah<al\/bh<bl) by omega)]
 have hle:mulLo al ah bl bh<=mulHi al ah bl bh:=by unfold mulLo mulHi;omega
 have S:=span_hullW hle
 by_cases h0:In64 (mulLo al ah bl bh)/\In64 (mulHi al ah bl bh)
 ·have hx:exW (mulLo al ah bl bh) (mulHi al ah bl bh)=true:=by unfold exW;rw [decide_eq_true h0.1,decide_eq_true h0.2];rfl
  rw [if_pos h0,mulW,if_pos (Or.inl hx),<-S,spanI,if_pos h0]
 ·have hx:exW (mulLo al ah bl bh) (mulHi al ah bl bh)=false:=by
   unfold exW
   by_cases h1:In64 (mulLo al ah bl bh)
   ·rw [decide_eq_false (fun h2=>h0 ⟨h1,h2⟩),Bool.and_false]
   ·rw [decide_eq_false h1,Bool.false_and]
  rw [if_neg h0]
  by_cases h1:al=ah/\bl=bh
  ·obtain ⟨rfl,rfl⟩:=h1
   have e:mulHi al al bl bl=mulLo al al bl bl:=by unfold mulLo mulHi;omega
   rw [if_pos ⟨rfl,rfl⟩,mulW,if_pos (Or.inr (by rw [decide_eq_true rfl,decide_eq_true rfl];rfl)),hx,e]
   unfold hullW
   rw [if_pos rfl]
  ·rw [if_neg h1,mulW,if_neg]
   rw [hx]
   rintro (h | h)
   ·cases h
   ·rw [Bool.and_eq_true,decide_eq_true_eq,decide_eq_true_eq] at h
    exact h1 h
theorem pmul_n (al ah bl bh:Int) (w0 w:World) (hok:Ok w0 w) (hc:ah<al\/bh<bl) :
  Calls Tryz.prog 206 #[.agg #[.int .i64 al,.int .i64 ah],.agg #[.int .i64 bl,.int .i64 bh]] w fun e w'=>e=.returned (.tuple #[.agg #[.int .i64 1,.int .i64 0],.bool true])/\Ok w0 w':=by
 by_cases h1:ah<al
 ·have d:decide (ah<al)=true:=decide_eq_true h1
  go_enter Tryz.func206,Tryz.ntmps206
  go_wp2_with (first | (go_at_call 199;refine (pisnone_ex _ _ _).mono ?_;rintro e w' ⟨rfl,rfl⟩) | (go_at_call 200;refine (pnone_ex _).mono ?_;rintro e w' ⟨rfl,rfl⟩) | fail)
  (try simp only [Exit.inBlock, Exit.then]); refine bodyPost_ret (results_iv rfl _ _ (w.heap.size + 2) 24 #[_, _] (0, 0) _ rfl jj Tryz.underlying24 rfl infoI) rfl ?_
  exact ⟨rfl,(by repeat (first | exact hok | refine Ok.alloc ?_ _ | refine Ok.draws ?_ _ | fail))⟩
 ·have d:decide (ah<al)=false:=decide_eq_false h1
  have d2:decide (bh<bl)=true:=decide_eq_true (by omega)
  go_enter Tryz.func206,Tryz.ntmps206
  go_wp2_with (first | (go_at_call 199;refine (pisnone_ex _ _ _).mono ?_;rintro e w' ⟨rfl,rfl⟩) | (go_at_call 200;refine (pnone_ex _).mono ?_;rintro e w' ⟨rfl,rfl⟩) | fail)
  (try simp only [Exit.inBlock, Exit.then]); refine bodyPost_ret (results_iv rfl _ _ (w.heap.size + 2) 24 #[_, _] (0, 0) _ rfl jj Tryz.underlying24 rfl infoI) rfl ?_
  exact ⟨rfl,(by repeat (first | exact hok | refine Ok.alloc ?_ _ | refine Ok.draws ?_ _ | fail))⟩
theorem Jpmul_any (al ah bl bh:Int) (w0 w:World) (hok:Ok w0 w) (ha1:In64 al) (ha2:In64 ah) (hb1:In64 bl) (hb2:In64 bh) :
  Calls Tryz.prog 206 #[.agg #[.int .i64 al,.int .i64 ah],.agg #[.int .i64 bl,.int .i64 bh]] w fun e w'=>e=.returned (.tuple #[.agg #[.int .i64 (mulI al ah bl bh).1,.int .i64 (mulI al ah bl bh).2.1],.bool (mulI al ah bl bh).2.2])/\Ok w0 w':=by
 by_cases h:ah<al\/bh<bl
 ·rw [mul_none h]
  exact pmul_n al ah bl bh w0 w hok h
 ·rw [<-mulW_is (show al<=ah by omega) (show bl<=bh by omega)]
  exact Jpmul_c _ al ah bl bh _ _ rfl w0 w hok (op_pro ha1 ha2 hb1 hb2) (cL_mul al ah bl bh) (by omega) (by omega)
end
end Go.Proofs.YtnjmjnmhldhaoaaGreat
