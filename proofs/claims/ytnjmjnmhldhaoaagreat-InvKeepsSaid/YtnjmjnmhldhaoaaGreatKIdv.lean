import Derived.Test.YtnjmjnmhldhaoaaGreatKCok
set_option maxHeartbeats 8000000
set_option linter.all false
namespace Go.Proofs.YtnjmjnmhldhaoaaGreat
section
open Go.RowKit
theorem mul_between {l x h:Int} (y:Int) (h1:l<=x) (h2:x<=h):min (l*y) (h*y)<=x*y/\x*y<=max (l*y) (h*y):=by
 by_cases hy:0<=y
 ·have a:=Int.mul_le_mul_of_nonneg_right h1 hy
  have b:=Int.mul_le_mul_of_nonneg_right h2 hy
  omega
 ·have a:=Int.mul_le_mul_of_nonpos_right h1 (show y<=0 by omega)
  have b:=Int.mul_le_mul_of_nonpos_right h2 (show y<=0 by omega)
  omega
def mulLo (al ah bl bh:Int):Int:=min (min (al*bl) (al*bh)) (min (ah*bl) (ah*bh))
def mulHi (al ah bl bh:Int):Int:=max (max (al*bl) (al*bh)) (max (ah*bl) (ah*bh))
theorem mul_corners {al ah bl bh x y:Int} (hx:Mem al ah x) (hy:Mem bl bh y):mulLo al ah bl bh<=x*y/\x*y<=mulHi al ah bl bh:=by
 have a:=mul_between y hx.1 hx.2
 have b:=mul_between al hy.1 hy.2
 have c:=mul_between ah hy.1 hy.2
 rw [Int.mul_comm bl,Int.mul_comm bh,Int.mul_comm y] at b c
 unfold mulLo mulHi
 omega
theorem mulLo_is {al ah bl bh:Int} (ha:al<=ah) (hb:bl<=bh):∃ x y,Mem al ah x/\Mem bl bh y/\mulLo al ah bl bh=x*y:=by
 unfold mulLo Mem
 have h:min (min (al*bl) (al*bh)) (min (ah*bl) (ah*bh))=al*bl\/min (min (al*bl) (al*bh)) (min (ah*bl) (ah*bh))=al*bh\/min (min (al*bl) (al*bh)) (min (ah*bl) (ah*bh))=ah*bl\/min (min (al*bl) (al*bh)) (min (ah*bl) (ah*bh))=ah*bh:=by omega
 rcases h with h | h | h | h
 ·exact ⟨al,bl,by omega,by omega,h⟩
 ·exact ⟨al,bh,by omega,by omega,h⟩
 ·exact ⟨ah,bl,by omega,by omega,h⟩
 ·exact ⟨ah,bh,by omega,by omega,h⟩
theorem mulHi_is {al ah bl bh:Int} (ha:al<=ah) (hb:bl<=bh):∃ x y,Mem al ah x/\Mem bl bh y/\mulHi al ah bl bh=x*y:=by
 unfold mulHi Mem
 have h:max (max (al*bl) (al*bh)) (max (ah*bl) (ah*bh))=al*bl\/max (max (al*bl) (al*bh)) (max (ah*bl) (ah*bh))=al*bh\/max (max (al*bl) (al*bh)) (max (ah*bl) (ah*bh))=ah*bl\/max (max (al*bl) (al*bh)) (max (ah*bl) (ah*bh))=ah*bh:=by omega
 rcases h with h | h | h | h
 ·exact ⟨al,bl,by omega,by omega,h⟩
 ·exact ⟨al,bh,by omega,by omega,h⟩
 ·exact ⟨ah,bl,by omega,by omega,h⟩
 ·exact ⟨ah,bh,by omega,by omega,h⟩
def mulI (al ah bl bh:Int):Int×Int×Bool :=
 if ah<al\/bh<bl then (1,0,true)
 else if In64 (mulLo al ah bl bh)/\In64 (mulHi al ah bl bh) then (mulLo al ah bl bh,mulHi al ah bl bh,true)
 else if al=ah/\bl=bh then (wrap64 (mulLo al ah bl bh),wrap64 (mulLo al ah bl bh),false)
 else (-9223372036854775808,9223372036854775807,false)
theorem mul_exact (al ah bl bh:Int):(mulI al ah bl bh).2.2=true↔∀ x y,Mem al ah x->Mem bl bh y->In64 (x*y):=by
 unfold mulI
 split
 ·simp only [true_iff];intro x y hx hy;unfold Mem at hx hy;omega
 ·rename_i hne
  split
  ·rename_i hf
   simp only [true_iff]
   intro x y hx hy
   have:=mul_corners hx hy
   unfold In64 at *
   omega
  ·rename_i hf
   have hn:¬ ∀ x y,Mem al ah x->Mem bl bh y->In64 (x*y):=by
    intro h
    obtain ⟨x,y,hx,hy,e⟩:=mulLo_is (show al<=ah by omega) (show bl<=bh by omega)
    obtain ⟨x',y',hx',hy',e'⟩:=mulHi_is (show al<=ah by omega) (show bl<=bh by omega)
    exact hf ⟨e ▸ h x y hx hy,e' ▸ h x' y' hx' hy'⟩
   split<;>simp [hn]
theorem mul_mem {al ah bl bh v:Int} (h:MulS al ah bl bh v):(mulI al ah bl bh).1<=v/\v<=(mulI al ah bl bh).2.1:=by
 obtain ⟨x,y,hx,hy,rfl⟩:=h
 have hc:=mul_corners hx hy
 unfold mulI
 split
 ·unfold Mem at hx hy;omega
 ·split
  ·rename_i hf
   have:In64 (x*y):=by unfold In64 at *;omega
   rw [wrap64_id this];exact hc
  ·split
   ·rename_i he
    have hx':x=al:=by unfold Mem at hx;omega
    have hy':y=bl:=by unfold Mem at hy;omega
    subst hx' hy'
    obtain ⟨e1,e2⟩:=he
    subst e1 e2
    have:mulLo x x y y=x*y:=by unfold mulLo;omega
    rw [this];exact ⟨Int.le_refl _,Int.le_refl _⟩
   ·exact wrap64_in _
theorem mul_none {al ah bl bh:Int} (h:ah<al\/bh<bl):mulI al ah bl bh=(1,0,true):=by unfold mulI;rw [if_pos h]
theorem mul_hull {al ah bl bh:Int} (h:(mulI al ah bl bh).2.2=true):Hull (MulS al ah bl bh) (mulI al ah bl bh).1 (mulI al ah bl bh).2.1:=by
 by_cases he:ah<al\/bh<bl
 ·rw [mul_none he]
  left;refine ⟨rfl,rfl,?_⟩
  rintro v ⟨x,y,hx,hy,_⟩;unfold Mem at hx hy;omega
 ·have hall:=(mul_exact _ _ _ _).1 h
  have ha:al<=ah:=by omega
  have hb:bl<=bh:=by omega
  obtain ⟨x,y,hx,hy,e⟩:=mulLo_is ha hb
  obtain ⟨x',y',hx',hy',e'⟩:=mulHi_is ha hb
  have f1:In64 (mulLo al ah bl bh):=e ▸ hall x y hx hy
  have f2:In64 (mulHi al ah bl bh):=e' ▸ hall x' y' hx' hy'
  have em:mulI al ah bl bh=(mulLo al ah bl bh,mulHi al ah bl bh,true):=by
   unfold mulI;rw [if_neg he,if_pos ⟨f1,f2⟩]
  right
  refine ⟨?_,?_,fun v hv=>mul_mem hv⟩
  ·rw [em];exact ⟨x,y,hx,hy,by rw [<-e];exact (wrap64_id f1).symm⟩
  ·rw [em];exact ⟨x',y',hx',hy',by rw [<-e'];exact (wrap64_id f2).symm⟩
theorem tdiv_mono {x x' y:Int} (h:x<=x') (hy:0<y):x.tdiv y<=x'.tdiv y:=by
 by_cases h0:0<=x
 ·rw [Int.tdiv_eq_ediv_of_nonneg h0,Int.tdiv_eq_ediv_of_nonneg (by omega)]
  exact Int.ediv_le_ediv hy h
 ·by_cases h1:0<=x'
  ·have a:x.tdiv y<=0:=by
    rw [show x = -(-x) by omega,Int.neg_tdiv,Int.tdiv_eq_ediv_of_nonneg (by omega)]
    have:=Int.ediv_nonneg (show 0 <= -x by omega) (show 0<=y by omega)
    omega
   have b:0<=x'.tdiv y:=by rw [Int.tdiv_eq_ediv_of_nonneg h1];exact Int.ediv_nonneg h1 (by omega)
   omega
  ·obtain ⟨n,rfl⟩:∃ n,x = -n:=⟨-x,by omega⟩
   obtain ⟨m,rfl⟩:∃ m,x' = -m:=⟨-x',by omega⟩
   rw [Int.neg_tdiv,Int.neg_tdiv,Int.tdiv_eq_ediv_of_nonneg (by omega),Int.tdiv_eq_ediv_of_nonneg (by omega)]
   have:=Int.ediv_le_ediv hy (show m<=n by omega)
   omega
theorem ediv_anti {x y y':Int} (hx:0<=x) (hy:0<y) (h:y<=y'):x/y'<=x/y:=by
 rw [Int.le_ediv_iff_mul_le hy]
 have h1:x/y'*y'<=x:=Int.ediv_mul_le _ (by omega)
 have h2:0<=x/y':=Int.ediv_nonneg hx (by omega)
 have h3:=Int.mul_le_mul_of_nonneg_left h h2
 omega
theorem tdiv_between {x y l h:Int} (h0:0<l) (h1:l<=y) (h2:y<=h):min (x.tdiv l) (x.tdiv h)<=x.tdiv y/\x.tdiv y<=max (x.tdiv l) (x.tdiv h):=by
 by_cases hx:0<=x
 ·rw [Int.tdiv_eq_ediv_of_nonneg hx,Int.tdiv_eq_ediv_of_nonneg hx,Int.tdiv_eq_ediv_of_nonneg hx]
  have a:=ediv_anti hx h0 h1
  have b:=ediv_anti hx (show 0<y by omega) h2
  omega
 ·obtain ⟨n,rfl⟩:∃ n,x = -n:=⟨-x,by omega⟩
  rw [Int.neg_tdiv,Int.neg_tdiv,Int.neg_tdiv,Int.tdiv_eq_ediv_of_nonneg (by omega),Int.tdiv_eq_ediv_of_nonneg (by omega),Int.tdiv_eq_ediv_of_nonneg (by omega)]
  have a:=ediv_anti (show 0<=n by omega) h0 h1
  have b:=ediv_anti (show 0<=n by omega) (show 0<y by omega) h2
  omega
def min4 (p q r s:Int):Int:=min (min p q) (min r s)
def max4 (p q r s:Int):Int:=max (max p q) (max r s)
theorem tdiv_corners_pos {al ah bl bh x y:Int} (h0:0<bl) (hx:Mem al ah x) (hy:Mem bl bh y):min4 (al.tdiv bl) (al.tdiv bh) (ah.tdiv bl) (ah.tdiv bh)<=x.tdiv y/\x.tdiv y<=max4 (al.tdiv bl) (al.tdiv bh) (ah.tdiv bl) (ah.tdiv bh):=by
 have a:=tdiv_mono hx.1 (show 0<y by unfold Mem at hy;omega)
 have b:=tdiv_mono hx.2 (show 0<y by unfold Mem at hy;omega)
 have c:=tdiv_between (x:=al) h0 hy.1 hy.2
 have d:=tdiv_between (x:=ah) h0 hy.1 hy.2
 unfold min4 max4
 omega
theorem tdiv_corners_neg {al ah bl bh x y:Int} (h0:bh<0) (hx:Mem al ah x) (hy:Mem bl bh y):min4 (al.tdiv bl) (al.tdiv bh) (ah.tdiv bl) (ah.tdiv bh)<=x.tdiv y/\x.tdiv y<=max4 (al.tdiv bl) (al.tdiv bh) (ah.tdiv bl) (ah.tdiv bh):=by
 have a:=tdiv_corners_pos (al:=al) (ah:=ah) (bl := -bh) (bh := -bl) (x:=x) (y := -y) (by omega) hx (by unfold Mem at *;omega)
 rw [Int.tdiv_neg,Int.tdiv_neg,Int.tdiv_neg,Int.tdiv_neg,Int.tdiv_neg] at a
 unfold min4 max4 at *
 omega
end
section
open Go.RowKit
theorem infoI:(Tryz.prog.info? 24).map (·.size)=some 2:=by kernel_rfl
theorem rhas_any (l h v:Int) (w0 w:World) (hok:Ok w0 w) :
  Calls Tryz.prog 29 #[.agg #[.int .i64 l,.int .i64 h],.int .i64 v] w fun e w'=>e=.returned (.bool (hasI l h v))/\Ok w0 w':=by
 go_enter Tryz.func29,Tryz.ntmps29
 go_wp2
 all_goals go_ret
 all_goals refine ⟨retb ?_,hok.alloc _⟩
 ·unfold hasI;simp [*]
 ·unfold hasI;rename_i h0;rw [decide_eq_false (show ¬l<=v by omega),Bool.false_and]
theorem rleq_any (al ah bl bh:Int) (w0 w:World) (hok:Ok w0 w) :
  Calls Tryz.prog 21 #[.agg #[.int .i64 al,.int .i64 ah],.agg #[.int .i64 bl,.int .i64 bh]] w fun e w'=>e=.returned (.bool (leqI al ah bl bh))/\Ok w0 w':=by
 go_enter Tryz.func21,Tryz.ntmps21
 go_wp2
 all_goals go_ret
 all_goals refine ⟨retb ?_,by repeat (first | exact hok | refine Ok.alloc ?_ _)⟩
 ·unfold leqI;rename_i h1 h0;rw [decide_eq_true h0,Bool.true_and]
 ·unfold leqI;rename_i h1 h0;rw [decide_eq_false (show ¬bl<=al by omega),Bool.false_and,Bool.or_false]
 ·unfold leqI;rename_i h0;rw [decide_eq_true h0,Bool.true_or]
theorem joinI_a {al ah bl bh:Int} (h:ah<al):joinI al ah bl bh=normI bl bh:=by unfold joinI;rw [if_pos h]
theorem joinI_b {al ah bl bh:Int} (h:al<=ah) (g:bh<bl):joinI al ah bl bh=(al,ah):=by unfold joinI;rw [if_neg (by omega),if_pos g]
theorem joinI_c {al ah bl bh:Int} (h:al<=ah) (g:bl<=bh):joinI al ah bl bh=(min al bl,max ah bh):=by unfold joinI;rw [if_neg (by omega),if_neg (by omega)]
end
section
open Go.RowKit
def hiW (z:Int):Int:=z/18446744073709551616
def loW (z:Int):Int:=z%18446744073709551616
end
section
open Go.RowKit
def rowW (z:Int):Obj:=.cells #[.int .i64 (hiW z),.int .u64 (loW z)] 161
def TimesInv (w0 w wr:World) (X S:Int):Prop :=
 Ok w0 wr/\w.heap.size+4<=wr.heap.size/\wr.heap[w.heap.size]?=some (rowW 0)/\wr.heap[w.heap.size+2]?=some (rowW X)/\wr.heap[w.heap.size+3]?=some (rowW S)
theorem TimesInv.below {w0 w wr w1:World} {X S:Int} (h:TimesInv w0 w wr X S) (hb:Ok wr w1):TimesInv w0 w w1 X S:=by
 obtain ⟨h1,h2,h3,h4,h5⟩:=h
 have:=hb.le
 exact ⟨h1.step hb,by omega,hb.row (by omega) h3,hb.row (by omega) h4,hb.row (by omega) h5⟩
end
section
open Go.RowKit
theorem rempty_ex (l h:Int) (w:World) :
  Calls Tryz.prog 61 #[.agg #[.int .i64 l,.int .i64 h]] w fun e w'=>e=.returned (.bool (decide (h<l)))/\w'=w.alloc (.cells #[.int .i64 l,.int .i64 h] 24):=by
 go_enter Tryz.func61,Tryz.ntmps61
 go_wp2
 go_ret
 exact ⟨rfl,rfl⟩
theorem wlo (z:Int):wrap64 (loW z)=wrap64 z:=by unfold loW wrap64;omega
end
section
open Go.RowKit
def IntsAt (w:World) (tb o:Nat) (ts:List Int):Prop:=(∀ i (h:i<ts.length),w.cell? ⟨tb,o+i,none⟩=some (.int .i64 ts[i]))/\tb<w.heap.size/\ts.length<=4611686018427387904
theorem IntsAt.ok {w w1:World} {tb o:Nat} {ts:List Int} (h:IntsAt w tb o ts) (hb:Ok w w1):IntsAt w1 tb o ts :=
 ⟨fun i hi=>Ok.cell hb h.2.1 (h.1 i hi),Nat.lt_of_lt_of_le h.2.1 hb.le,h.2.2⟩
def SInts (w:World) (v:Value) (ts:List Int):Prop:=(∃ tb o cap,v=.slice (some ⟨tb,o,none⟩) ts.length cap/\IntsAt w tb o ts)\/(∃ ao cap,v=.slice ao 0 cap/\ts=[])
theorem SInts.form {w:World} {v:Value} {ts:List Int} (h:SInts w v ts):∃ ao n cap,v=.slice ao n cap:=by
 rcases h with ⟨tb,o,cap,rfl,_⟩ | ⟨ao,cap,rfl,_⟩
 ·exact ⟨_,_,_,rfl⟩
 ·exact ⟨_,_,_,rfl⟩
end
section
open Go.RowKit
def farI (v:Int):Int:=if v<0 then -v else v
theorem far_neg {v:Int} (h:v<0) (hv:In64 v):IntKind.u64.wrap (-IntKind.u64.wrap v)=farI v:=by
 unfold farI In64 at *;rw [if_pos h,u64w,u64w];omega
theorem far_pos {v:Int} (h:0<=v) (hv:In64 v):IntKind.u64.wrap v=farI v:=by
 unfold farI In64 at *;rw [if_neg (by omega),u64w];omega
theorem ret1u {a b:Int} (h:a=b):Ending.returned (.int .u64 a)=.returned (.int .u64 b):=by rw [h]
def rUp (bl bh:Int):Int×Int:=meetI bl bh 1 9223372036854775807
def rDn (bl bh:Int):Int×Int:=meetI bl bh (-9223372036854775808) (-1)
def remNear (bl bh:Int):Int:=min (if (rDn bl bh).2<(rDn bl bh).1 then 18446744073709551615 else farI (rDn bl bh).2) (if (rUp bl bh).2<(rUp bl bh).1 then 18446744073709551615 else farI (rUp bl bh).1)
def remMost (bl bh:Int):Int:=max (if (rDn bl bh).2<(rDn bl bh).1 then 0 else farI (rDn bl bh).1) (if (rUp bl bh).2<(rUp bl bh).1 then 0 else farI (rUp bl bh).2)
def remI (al ah bl bh:Int):Int×Int×Bool :=
 if ah<al\/((rDn bl bh).2<(rDn bl bh).1/\(rUp bl bh).2<(rUp bl bh).1) then (1,0,true)
 else if al=ah/\bl=bh then (if bl = -1 then 0 else al.tmod bl,if bl = -1 then 0 else al.tmod bl,true)
 else if max (farI al) (farI ah)<remNear bl bh then (al,ah,true)
 else (min 0 (max al (-(remMost bl bh-1))),max 0 (min ah (remMost bl bh-1)),true)
theorem normR (l h:Int):(h<l/\normI l h=(1,0))\/(l<=h/\normI l h=(l,h)):=by
 unfold normI
 by_cases c:h<l
 ·rw [if_pos c];exact Or.inl ⟨c,rfl⟩
 ·rw [if_neg c];exact Or.inr ⟨by omega,rfl⟩
theorem rDn_cases {bl bh:Int} (h1:In64 bl) (h2:In64 bh):rDn bl bh=(1,0)\/(-9223372036854775808<=(rDn bl bh).1/\(rDn bl bh).1<=(rDn bl bh).2/\(rDn bl bh).2 <= -1):=by
 unfold rDn meetI
 rcases normR (max bl (-9223372036854775808)) (min bh (-1)) with ⟨_,e⟩ | ⟨_,e⟩
 ·exact Or.inl e
 ·rw [e];right;simp only;omega
theorem rUp_cases {bl bh:Int} (h1:In64 bl) (h2:In64 bh):rUp bl bh=(1,0)\/(1<=(rUp bl bh).1/\(rUp bl bh).1<=(rUp bl bh).2/\(rUp bl bh).2<=9223372036854775807):=by
 unfold rUp meetI
 rcases normR (max bl 1) (min bh 9223372036854775807) with ⟨_,e⟩ | ⟨_,e⟩
 ·exact Or.inl e
 ·rw [e];right;simp only;omega
theorem remI_far {al ah bl bh:Int} (h1:¬(ah<al\/((rDn bl bh).2<(rDn bl bh).1/\(rUp bl bh).2<(rUp bl bh).1))) (h2:¬(al=ah/\bl=bh)) (h3:¬max (farI al) (farI ah)<remNear bl bh):remI al ah bl bh=(min 0 (max al (-(remMost bl bh-1))),max 0 (min ah (remMost bl bh-1)),true):=by
 unfold remI;rw [if_neg h1,if_neg h2,if_neg h3]
theorem remI_near {al ah bl bh:Int} (h1:¬(ah<al\/((rDn bl bh).2<(rDn bl bh).1/\(rUp bl bh).2<(rUp bl bh).1))) (h2:¬(al=ah/\bl=bh)) (h3:max (farI al) (farI ah)<remNear bl bh):remI al ah bl bh=(al,ah,true):=by
 unfold remI;rw [if_neg h1,if_neg h2,if_pos h3]
theorem far_bd (v:Int) (h:In64 v):0<=farI v/\farI v<=9223372036854775808:=by
 unfold farI In64 at *;split<;>omega
theorem heap_drewR {w:World} {g:Nat} {x:Option Obj} (h:w.heap[g]?=x):w.drew.heap[g]?=x:=h
end
section
open Go.RowKit
def Two (W w1:World) (gl gh:Nat) (o p:Obj):Prop:=Ok W w1/\w1.heap[gl]?=some o/\w1.heap[gh]?=some p/\gl≠gh/\W.heap.size<=gl/\W.heap.size<=gh
def MulInv (al ah bl bh:Int) (w1:World) (gl gh ga:Nat) (wr:World) (L H:Int):Prop :=
 Ok w1 wr/\wr.heap[gl]?=some (rowW L)/\wr.heap[gh]?=some (rowW H)/\wr.heap[ga]?=some (.cells #[.int .i64 (hiW (al*bh)),.int .u64 (loW (al*bh)),.int .i64 (hiW (ah*bl)),.int .u64 (loW (ah*bl)),.int .i64 (hiW (ah*bh)),.int .u64 (loW (ah*bh))] 161)
theorem MulInv.alloc {al ah bl bh:Int} {w1 wr:World} {gl gh ga:Nat} {L H:Int} (h:MulInv al ah bl bh w1 gl gh ga wr L H) (o:Obj):MulInv al ah bl bh w1 gl gh ga (wr.alloc o) L H :=
 ⟨h.1.alloc _,heap_past _ _ _ (lt_row h.2.1) h.2.1,heap_past _ _ _ (lt_row h.2.2.1) h.2.2.1,heap_past _ _ _ (lt_row h.2.2.2) h.2.2.2⟩
end
section
open Go.RowKit
def two (a b:Int):Nat->Int
 | 0=>a
 | _=>b
def quoI (x y:Int):Int:=wrap64 (x.tdiv y)
def rowI (l h:Int):Obj:=.cells #[.int .i64 l,.int .i64 h] 24
def CorInv (al ah bl bh:Int) (w wr:World) (O:Int×Int):Prop :=
 Ok w wr/\wr.heap[w.heap.size+1]?=some (rowI bl bh)/\wr.heap[w.heap.size+2]?=some (rowI 0 0)/\wr.heap[w.heap.size+6]?=some (rowI O.1 O.2)/\wr.heap[w.heap.size+7]?=some (.cells #[.int .i64 al,.int .i64 ah] 2)
theorem CorInv.ok {al ah bl bh:Int} {w wr w1:World} {O:Int×Int} (h:CorInv al ah bl bh w wr O) (hb:Ok wr w1):CorInv al ah bl bh w w1 O :=
 ⟨h.1.step hb,Ok.row' hb h.2.1,Ok.row' hb h.2.2.1,Ok.row' hb h.2.2.2.1,Ok.row' hb h.2.2.2.2⟩
theorem CorInv.set {al ah bl bh:Int} {w wr:World} {O:Int×Int} (h:CorInv al ah bl bh w wr O) (l k:Int):CorInv al ah bl bh w ((wr.setCell ⟨w.heap.size+6,0,none⟩ (.int .i64 l)).setCell ⟨w.heap.size+6,1,none⟩ (.int .i64 k)) (l,k):=by
 obtain ⟨h1,h2,h3,h4,h5⟩:=h
 refine ⟨(h1.set (show w.heap.size<=w.heap.size+6 by omega) _).set (show w.heap.size<=w.heap.size+6 by omega) _,?_,?_,row_set2 h4 _ _,?_⟩
 ·rw [heap_setCell_other _ _ _ _ (by simp),heap_setCell_other _ _ _ _ (by simp)];exact h2
 ·rw [heap_setCell_other _ _ _ _ (by simp),heap_setCell_other _ _ _ _ (by simp)];exact h3
 ·rw [heap_setCell_other _ _ _ _ (by simp),heap_setCell_other _ _ _ _ (by simp)];exact h5
def cornersI (al ah bl bh:Int):Int×Int :=
 if ah<al\/bh<bl then (1,0) else (min4 (quoI al bl) (quoI al bh) (quoI ah bl) (quoI ah bh),max4 (quoI al bl) (quoI al bh) (quoI ah bl) (quoI ah bh))
end
section
open Go.RowKit
def J (p q:Int×Int):Int×Int:=joinI p.1 p.2 q.1 q.2
def M (p q:Int×Int):Int×Int:=meetI p.1 p.2 q.1 q.2
def C (p q:Int×Int):Int×Int:=cornersI p.1 p.2 q.1 q.2
def upI (bl bh:Int):Int×Int:=meetI bl bh 1 9223372036854775807
def dnI (bl bh:Int):Int×Int:=meetI bl bh (-9223372036854775808) (-1)
def divA (al ah bl bh:Int):Int×Int:=cornersI al ah (upI bl bh).1 (upI bl bh).2
def divI (al ah bl bh:Int):Int×Int×Bool :=
 if ah<al\/bh<bl then (1,0,true)
 else if hasI al ah (-9223372036854775808)=true/\hasI (dnI bl bh).1 (dnI bl bh).2 (-1)=true then
  ((J (J (J (divA al ah bl bh) (-9223372036854775808,-9223372036854775808)) (C (meetI al ah (-9223372036854775807) 9223372036854775807) (dnI bl bh))) (C (-9223372036854775808,-9223372036854775808) (meetI (dnI bl bh).1 (dnI bl bh).2 (-9223372036854775808) (-2)))).1,
  (J (J (J (divA al ah bl bh) (-9223372036854775808,-9223372036854775808)) (C (meetI al ah (-9223372036854775807) 9223372036854775807) (dnI bl bh))) (C (-9223372036854775808,-9223372036854775808) (meetI (dnI bl bh).1 (dnI bl bh).2 (-9223372036854775808) (-2)))).2,false)
 else ((J (divA al ah bl bh) (C (al,ah) (dnI bl bh))).1,(J (divA al ah bl bh) (C (al,ah) (dnI bl bh))).2,true)
def One (W w1:World) (g:Nat) (o:Obj):Prop:=Ok W w1/\w1.heap[g]?=some o/\W.heap.size<=g
def NP (R:Act->World->Prop):Exit->Act->World->Prop
 | .normal,a,w=>R a w
 | _,_,_=>False
theorem wp_cut2 {P:Program} {c:Code} {Q:Exit->Act->World->Prop} {a:Act} {w:World} (R:Act->World->Prop) (h1:c.wp P (NP R) a w) (h2:∀ a' w',R a' w'->Q .normal a' w'):c.wp P Q a w :=
 Code.wp_mono (fun e a w h=>by cases e<;>first | exact h2 _ _ h | exact (h:False).elim) h1
end
end Go.Proofs.YtnjmjnmhldhaoaaGreat
