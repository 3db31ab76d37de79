import Derived.Test.YtpjpjhjjhoeijaaGreatKCmm
set_option maxHeartbeats 8000000
set_option linter.all false
namespace Go.Proofs.YtpjpjhjjhoeijaaGreat
section
open Go.RowKit
theorem mul_between {l x h:Int} (y:Int) (h1:l<=x) (h2:x<=h):min (l*y) (h*y)<=x*y/\x*y<=max (l*y) (h*y):=by
 by_cases hy:0<=y
 ·have a:=Int.mul_le_mul_of_nonneg_right h1 hy
  have b:=Int.mul_le_mul_of_nonneg_right h2 hy
  omega
 ·have a:=Int.mul_le_mul_of_nonpos_right h1 (show y<=0 by omega)
  have b:=Int.mul_le_mul_of_nonpos_right h2 (show y<=0 by omega)
  omega
def mulLo (al ah bl bh:Int):Int:=min (min (al*bl) (al*bh)) (min (ah*bl) (ah*bh))
def mulHi (al ah bl bh:Int):Int:=max (max (al*bl) (al*bh)) (max (ah*bl) (ah*bh))
theorem mul_corners {al ah bl bh x y:Int} (hx:Mem al ah x) (hy:Mem bl bh y):mulLo al ah bl bh<=x*y/\x*y<=mulHi al ah bl bh:=by
 have a:=mul_between y hx.1 hx.2
 have b:=mul_between al hy.1 hy.2
 have c:=mul_between ah hy.1 hy.2
 rw [Int.mul_comm bl,Int.mul_comm bh,Int.mul_comm y] at b c
 unfold mulLo mulHi
 omega
theorem mulLo_is {al ah bl bh:Int} (ha:al<=ah) (hb:bl<=bh):∃ x y,Mem al ah x/\Mem bl bh y/\mulLo al ah bl bh=x*y:=by
 unfold mulLo Mem
 have h:min (min (al*bl) (al*bh)) (min (ah*bl) (ah*bh))=al*bl\/min (min (al*bl) (al*bh)) (min (ah*bl) (ah*bh))=al*bh\/min (min (al*bl) (al*bh)) (min (ah*bl) (ah*bh))=ah*bl\/min (min (al*bl) (al*bh)) (min (ah*bl) (ah*bh))=ah*bh:=by omega
 rcases h with h | h | h | h
 ·exact ⟨al,bl,by omega,by omega,h⟩
 ·exact ⟨al,bh,by omega,by omega,h⟩
 ·exact ⟨ah,bl,by omega,by omega,h⟩
 ·exact ⟨ah,bh,by omega,by omega,h⟩
theorem mulHi_is {al ah bl bh:Int} (ha:al<=ah) (hb:bl<=bh):∃ x y,Mem al ah x/\Mem bl bh y/\mulHi al ah bl bh=x*y:=by
 unfold mulHi Mem
 have h:max (max (al*bl) (al*bh)) (max (ah*bl) (ah*bh))=al*bl\/max (max (al*bl) (al*bh)) (max (ah*bl) (ah*bh))=al*bh\/max (max (al*bl) (al*bh)) (max (ah*bl) (ah*bh))=ah*bl\/max (max (al*bl) (al*bh)) (max (ah*bl) (ah*bh))=ah*bh:=by omega
 rcases h with h | h | h | h
 ·exact ⟨al,bl,by omega,by omega,h⟩
 ·exact ⟨al,bh,by omega,by omega,h⟩
 ·exact ⟨ah,bl,by omega,by omega,h⟩
 ·exact ⟨ah,bh,by omega,by omega,h⟩
def mulI (al ah bl bh:Int):Int×Int×Bool :=
 if ah<al\/bh<bl then (1,0,true)
 else if In64 (mulLo al ah bl bh)/\In64 (mulHi al ah bl bh) then (mulLo al ah bl bh,mulHi al ah bl bh,true)
 else if al=ah/\bl=bh then (wrap64 (mulLo al ah bl bh),wrap64 (mulLo al ah bl bh),false)
 else (-9223372036854775808,9223372036854775807,false)
theorem mul_exact (al ah bl bh:Int):(mulI al ah bl bh).2.2=true↔∀ x y,Mem al ah x->Mem bl bh y->In64 (x*y):=by
 unfold mulI
 split
 ·simp only [true_iff];intro x y hx hy;unfold Mem at hx hy;omega
 ·rename_i hne
  split
  ·rename_i hf
   simp only [true_iff]
   intro x y hx hy
   have:=mul_corners hx hy
   unfold In64 at *
   omega
  ·rename_i hf
   have hn:¬ ∀ x y,Mem al ah x->Mem bl bh y->In64 (x*y):=by
    intro h
    obtain ⟨x,y,hx,hy,e⟩:=mulLo_is (show al<=ah by omega) (show bl<=bh by omega)
    obtain ⟨x',y',hx',hy',e'⟩:=mulHi_is (show al<=ah by omega) (show bl<=bh by omega)
    exact hf ⟨e ▸ h x y hx hy,e' ▸ h x' y' hx' hy'⟩
   split<;>simp [hn]
theorem mul_mem {al ah bl bh v:Int} (h:MulS al ah bl bh v):(mulI al ah bl bh).1<=v/\v<=(mulI al ah bl bh).2.1:=by
 obtain ⟨x,y,hx,hy,rfl⟩:=h
 have hc:=mul_corners hx hy
 unfold mulI
 split
 ·unfold Mem at hx hy;omega
 ·split
  ·rename_i hf
   have:In64 (x*y):=by unfold In64 at *;omega
   rw [wrap64_id this];exact hc
  ·split
   ·rename_i he
    have hx':x=al:=by unfold Mem at hx;omega
    have hy':y=bl:=by unfold Mem at hy;omega
    subst hx' hy'
    obtain ⟨e1,e2⟩:=he
    subst e1 e2
    have:mulLo x x y y=x*y:=by unfold mulLo;omega
    rw [this];exact ⟨Int.le_refl _,Int.le_refl _⟩
   ·exact wrap64_in _
theorem mul_none {al ah bl bh:Int} (h:ah<al\/bh<bl):mulI al ah bl bh=(1,0,true):=by unfold mulI;rw [if_pos h]
theorem mul_hull {al ah bl bh:Int} (h:(mulI al ah bl bh).2.2=true):Hull (MulS al ah bl bh) (mulI al ah bl bh).1 (mulI al ah bl bh).2.1:=by
 by_cases he:ah<al\/bh<bl
 ·rw [mul_none he]
  left;refine ⟨rfl,rfl,?_⟩
  rintro v ⟨x,y,hx,hy,_⟩;unfold Mem at hx hy;omega
 ·have hall:=(mul_exact _ _ _ _).1 h
  have ha:al<=ah:=by omega
  have hb:bl<=bh:=by omega
  obtain ⟨x,y,hx,hy,e⟩:=mulLo_is ha hb
  obtain ⟨x',y',hx',hy',e'⟩:=mulHi_is ha hb
  have f1:In64 (mulLo al ah bl bh):=e ▸ hall x y hx hy
  have f2:In64 (mulHi al ah bl bh):=e' ▸ hall x' y' hx' hy'
  have em:mulI al ah bl bh=(mulLo al ah bl bh,mulHi al ah bl bh,true):=by
   unfold mulI;rw [if_neg he,if_pos ⟨f1,f2⟩]
  right
  refine ⟨?_,?_,fun v hv=>mul_mem hv⟩
  ·rw [em];exact ⟨x,y,hx,hy,by rw [<-e];exact (wrap64_id f1).symm⟩
  ·rw [em];exact ⟨x',y',hx',hy',by rw [<-e'];exact (wrap64_id f2).symm⟩
theorem tdiv_mono {x x' y:Int} (h:x<=x') (hy:0<y):x.tdiv y<=x'.tdiv y:=by
 by_cases h0:0<=x
 ·rw [Int.tdiv_eq_ediv_of_nonneg h0,Int.tdiv_eq_ediv_of_nonneg (by omega)]
  exact Int.ediv_le_ediv hy h
 ·by_cases h1:0<=x'
  ·have a:x.tdiv y<=0:=by
    rw [show x = -(-x) by omega,Int.neg_tdiv,Int.tdiv_eq_ediv_of_nonneg (by omega)]
    have:=Int.ediv_nonneg (show 0 <= -x by omega) (show 0<=y by omega)
    omega
   have b:0<=x'.tdiv y:=by rw [Int.tdiv_eq_ediv_of_nonneg h1];exact Int.ediv_nonneg h1 (by omega)
   omega
  ·obtain ⟨n,rfl⟩:∃ n,x = -n:=⟨-x,by omega⟩
   obtain ⟨m,rfl⟩:∃ m,x' = -m:=⟨-x',by omega⟩
   rw [Int.neg_tdiv,Int.neg_tdiv,Int.tdiv_eq_ediv_of_nonneg (by omega),Int.tdiv_eq_ediv_of_nonneg (by omega)]
   have:=Int.ediv_le_ediv hy (show m<=n by omega)
   omega
theorem ediv_anti {x y y':Int} (hx:0<=x) (hy:0<y) (h:y<=y'):x/y'<=x/y:=by
 rw [Int.le_ediv_iff_mul_le hy]
 have h1:x/y'*y'<=x:=Int.ediv_mul_le _ (by omega)
 have h2:0<=x/y':=Int.ediv_nonneg hx (by omega)
 have h3:=Int.mul_le_mul_of_nonneg_left h h2
 omega
theorem tdiv_between {x y l h:Int} (h0:0<l) (h1:l<=y) (h2:y<=h):min (x.tdiv l) (x.tdiv h)<=x.tdiv y/\x.tdiv y<=max (x.tdiv l) (x.tdiv h):=by
 by_cases hx:0<=x
 ·rw [Int.tdiv_eq_ediv_of_nonneg hx,Int.tdiv_eq_ediv_of_nonneg hx,Int.tdiv_eq_ediv_of_nonneg hx]
  have a:=ediv_anti hx h0 h1
  have b:=ediv_anti hx (show 0<y by omega) h2
  omega
 ·obtain ⟨n,rfl⟩:∃ n,x = -n:=⟨-x,by omega⟩
  rw [Int.neg_tdiv,Int.neg_tdiv,Int.neg_tdiv,Int.tdiv_eq_ediv_of_nonneg (by omega),Int.tdiv_eq_ediv_of_nonneg (by omega),Int.tdiv_eq_ediv_of_nonneg (by omega)]
  have a:=ediv_anti (show 0<=n by omega) h0 h1
  have b:=ediv_anti (show 0<=n by omega) (show 0<y by omega) h2
  omega
def min4 (p q r s:Int):Int:=min (min p q) (min r s)
def max4 (p q r s:Int):Int:=max (max p q) (max r s)
theorem tdiv_corners_pos {al ah bl bh x y:Int} (h0:0<bl) (hx:Mem al ah x) (hy:Mem bl bh y):min4 (al.tdiv bl) (al.tdiv bh) (ah.tdiv bl) (ah.tdiv bh)<=x.tdiv y/\x.tdiv y<=max4 (al.tdiv bl) (al.tdiv bh) (ah.tdiv bl) (ah.tdiv bh):=by
 have a:=tdiv_mono hx.1 (show 0<y by unfold Mem at hy;omega)
 have b:=tdiv_mono hx.2 (show 0<y by unfold Mem at hy;omega)
 have c:=tdiv_between (x:=al) h0 hy.1 hy.2
 have d:=tdiv_between (x:=ah) h0 hy.1 hy.2
 unfold min4 max4
 omega
theorem tdiv_corners_neg {al ah bl bh x y:Int} (h0:bh<0) (hx:Mem al ah x) (hy:Mem bl bh y):min4 (al.tdiv bl) (al.tdiv bh) (ah.tdiv bl) (ah.tdiv bh)<=x.tdiv y/\x.tdiv y<=max4 (al.tdiv bl) (al.tdiv bh) (ah.tdiv bl) (ah.tdiv bh):=by
 have a:=tdiv_corners_pos (al:=al) (ah:=ah) (bl := -bh) (bh := -bl) (x:=x) (y := -y) (by omega) hx (by unfold Mem at *;omega)
 rw [Int.tdiv_neg,Int.tdiv_neg,Int.tdiv_neg,Int.tdiv_neg,Int.tdiv_neg] at a
 unfold min4 max4 at *
 omega
end
section
open Go.RowKit
theorem infoI:(Tryz.prog.info? 24).map (·.size)=some 2:=by kernel_rfl
theorem rnone_any (w:World) :
  Calls Tryz.prog 101 #[] w fun e w'=>e=.returned (.agg #[.int .i64 1,.int .i64 0])/\w'=w.alloc (.cells #[.int .i64 1,.int .i64 0] 24):=by
 go_enter Tryz.func101,Tryz.ntmps101
 go_wp2
 try simp only [Exit.inBlock,Exit.then]
 refine bodyPost_ret (results_cell_row rfl _ _ w.heap.size 24 _ (0,0) _ rfl (heap_new0 _ _) Tryz.underlying24 rfl infoI) rfl ?_
 exact ⟨rfl,rfl⟩
theorem rnormal_yes (l h:Int) (w:World) (hc:h<l) :
  Calls Tryz.prog 132 #[.agg #[.int .i64 l,.int .i64 h]] w fun e w'=>e=.returned (.agg #[.int .i64 (normI l h).1,.int .i64 (normI l h).2])/\w'=(((w.alloc (.cells #[.int .i64 l,.int .i64 h] 24)).alloc (.cells #[.int .i64 1,.int .i64 0] 24)).alloc (.cells #[.int .i64 l,.int .i64 h] 24)).alloc (.cells #[.int .i64 1,.int .i64 0] 24):=by
 have E:Hid (normI l h=(1,0)):=by unfold Hid normI;rw [if_pos hc]
 go_enter Tryz.func132,Tryz.ntmps132
 go_wp2_with (first | (go_at_call 101;refine (rnone_any _).mono ?_;rintro e w' ⟨rfl,rfl⟩) | go_in)
 try simp only [Exit.inBlock,Exit.then]
 refine bodyPost_ret (results_cell_row rfl _ _ (w.heap.size+1) 24 #[_,_] (0,0) _ rfl (by repeat (first | (refine heap_at _ _ _ ?hx;case hx=>(simp;done)) | (refine heap_past _ _ _ ?hy ?_;case hy=>(simp;done)) | fail)) Tryz.underlying24 rfl infoI) rfl ?_
 exact ⟨reti E.out,rfl⟩
theorem rnormal_no (l h:Int) (w:World) (hc:l<=h) :
  Calls Tryz.prog 132 #[.agg #[.int .i64 l,.int .i64 h]] w fun e w'=>e=.returned (.agg #[.int .i64 (normI l h).1,.int .i64 (normI l h).2])/\w'=((w.alloc (.cells #[.int .i64 l,.int .i64 h] 24)).alloc (.cells #[.int .i64 l,.int .i64 h] 24)).alloc (.cells #[.int .i64 l,.int .i64 h] 24):=by
 have E:Hid (normI l h=(l,h)):=by unfold Hid normI;rw [if_neg (by omega)]
 go_enter Tryz.func132,Tryz.ntmps132
 go_wp2_with (first | (go_at_call 101;refine (rnone_any _).mono ?_;rintro e w' ⟨rfl,rfl⟩) | go_in)
 try simp only [Exit.inBlock,Exit.then]
 refine bodyPost_ret (results_cell_row rfl _ _ (w.heap.size+1) 24 #[_,_] (0,0) _ rfl (by repeat (first | (refine heap_at _ _ _ ?hx;case hx=>(simp;done)) | (refine heap_past _ _ _ ?hy ?_;case hy=>(simp;done)) | fail)) Tryz.underlying24 rfl infoI) rfl ?_
 exact ⟨reti E.out,rfl⟩
theorem joinI_a {al ah bl bh:Int} (h:ah<al):joinI al ah bl bh=normI bl bh:=by unfold joinI;rw [if_pos h]
theorem joinI_b {al ah bl bh:Int} (h:al<=ah) (g:bh<bl):joinI al ah bl bh=(al,ah):=by unfold joinI;rw [if_neg (by omega),if_pos g]
theorem joinI_c {al ah bl bh:Int} (h:al<=ah) (g:bl<=bh):joinI al ah bl bh=(min al bl,max ah bh):=by unfold joinI;rw [if_neg (by omega),if_neg (by omega)]
theorem rjoin_a (al ah bl bh:Int) (w0 w:World) (hok:Ok w0 w) (ha:ah<al) :
  Calls Tryz.prog 121 #[.agg #[.int .i64 al,.int .i64 ah],.agg #[.int .i64 bl,.int .i64 bh]] w fun e w'=>e=.returned (.agg #[.int .i64 (joinI al ah bl bh).1,.int .i64 (joinI al ah bl bh).2])/\Ok w0 w':=by
 have E:Hid (joinI al ah bl bh=((normI bl bh).1,(normI bl bh).2)):=joinI_a ha
 by_cases hb:bh<bl
 ·go_enter Tryz.func121,Tryz.ntmps121
  go_wp2_with (first | (go_at_call 132;refine (rnormal_yes _ _ _ hb).mono ?_;rintro e w' ⟨rfl,rfl⟩) | go_in)
  try simp only [Exit.inBlock,Exit.then]
  refine bodyPost_ret (results_cell_row rfl _ _ (w.heap.size+2) 24 #[_,_] (0,0) _ rfl (by repeat (first | (refine heap_at _ _ _ ?hx;case hx=>(simp;done)) | (refine heap_past _ _ _ ?hy ?_;case hy=>(simp;done)) | fail)) Tryz.underlying24 rfl infoI) rfl ?_
  exact ⟨reti E.out,by repeat (first | exact hok | refine Ok.alloc ?_ _)⟩
 ·replace hb:bl<=bh:=by omega
  go_enter Tryz.func121,Tryz.ntmps121
  go_wp2_with (first | (go_at_call 132;refine (rnormal_no _ _ _ hb).mono ?_;rintro e w' ⟨rfl,rfl⟩) | go_in)
  try simp only [Exit.inBlock,Exit.then]
  refine bodyPost_ret (results_cell_row rfl _ _ (w.heap.size+2) 24 #[_,_] (0,0) _ rfl (by repeat (first | (refine heap_at _ _ _ ?hx;case hx=>(simp;done)) | (refine heap_past _ _ _ ?hy ?_;case hy=>(simp;done)) | fail)) Tryz.underlying24 rfl infoI) rfl ?_
  exact ⟨reti E.out,by repeat (first | exact hok | refine Ok.alloc ?_ _)⟩
theorem rjoin_any (al ah bl bh:Int) (w0 w:World) (hok:Ok w0 w) :
  Calls Tryz.prog 121 #[.agg #[.int .i64 al,.int .i64 ah],.agg #[.int .i64 bl,.int .i64 bh]] w fun e w'=>e=.returned (.agg #[.int .i64 (joinI al ah bl bh).1,.int .i64 (joinI al ah bl bh).2])/\Ok w0 w':=by
 by_cases ha:ah<al
 ·exact rjoin_a al ah bl bh w0 w hok ha
 ·replace ha:al<=ah:=by omega
  by_cases hb:bh<bl
  ·have E:Hid (joinI al ah bl bh=(al,ah)):=joinI_b ha hb
   go_enter Tryz.func121,Tryz.ntmps121
   go_wp2
   try simp only [Exit.inBlock,Exit.then]
   refine bodyPost_ret (results_cell_row rfl _ _ (w.heap.size+2) 24 #[_,_] (0,0) _ rfl (by repeat (first | (refine heap_at _ _ _ ?hx;case hx=>(simp;done)) | (refine heap_past _ _ _ ?hy ?_;case hy=>(simp;done)) | fail)) Tryz.underlying24 rfl infoI) rfl ?_
   exact ⟨reti E.out,by repeat (first | exact hok | refine Ok.alloc ?_ _)⟩
  ·replace hb:bl<=bh:=by omega
   have E:Hid (joinI al ah bl bh=(min al bl,max ah bh)):=joinI_c ha hb
   go_enter Tryz.func121,Tryz.ntmps121
   go_wp2
   all_goals try simp only [Exit.inBlock,Exit.then]
   all_goals refine bodyPost_ret (results_cell_row rfl _ _ (w.heap.size+2) 24 #[_,_] (0,0) _ rfl (by repeat (first | (refine heap_at _ _ _ ?hx;case hx=>(simp;done)) | (refine heap_past _ _ _ ?hy ?_;case hy=>(simp;done)) | fail)) Tryz.underlying24 rfl infoI) rfl ?_
   all_goals exact ⟨reti (by rw [E.out];congr 1<;>omega),by repeat (first | exact hok | refine Ok.alloc ?_ _)⟩
end
end Go.Proofs.YtpjpjhjjhoeijaaGreat
