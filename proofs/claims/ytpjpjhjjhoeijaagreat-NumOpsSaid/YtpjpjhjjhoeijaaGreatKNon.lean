import Derived.Test.YtpjpjhjjhoeijaaGreatKIdh
import Derived.Test.YtpjpjhjjhoeijaaGreatKNm
set_option linter.all false
namespace Go.Proofs.YtpjpjhjjhoeijaaGreat
section
open Go.RowKit
theorem hull_in {S:Int->Prop} {l h:Int} (H:Hull S l h) (hS:∀ v,S v->In64 v):In64 l/\In64 h:=by
 rcases H with ⟨rfl,rfl,_⟩ | ⟨a,b,_⟩
 ·unfold In64;omega
 ·exact ⟨hS _ a,hS _ b⟩
def negN (a:Int×Int×Nat×Nat×Bool):Int×Int×Nat×Nat×Bool :=
 makeN (negI a.1 a.2.1).1 (negI a.1 a.2.1).2.1 (negC a.2.2.1 a.2.2.2.1 (negI a.1 a.2.1).2.2).1 (negC a.2.2.1 a.2.2.2.1 (negI a.1 a.2.1).2.2).2
def addN (a b:Int×Int×Nat×Nat×Bool):Int×Int×Nat×Nat×Bool :=
 makeN (addI a.1 a.2.1 b.1 b.2.1).1 (addI a.1 a.2.1 b.1 b.2.1).2.1 (addC a.2.2.1 a.2.2.2.1 b.2.2.1 b.2.2.2.1 (addI a.1 a.2.1 b.1 b.2.1).2.2).1 (addC a.2.2.1 a.2.2.2.1 b.2.2.1 b.2.2.2.1 (addI a.1 a.2.1 b.1 b.2.1).2.2).2
def subN (a b:Int×Int×Nat×Nat×Bool):Int×Int×Nat×Nat×Bool :=
 makeN (subI a.1 a.2.1 b.1 b.2.1).1 (subI a.1 a.2.1 b.1 b.2.1).2.1 (subC a.2.2.1 a.2.2.2.1 b.2.2.1 b.2.2.2.1 (subI a.1 a.2.1 b.1 b.2.1).2.2).1 (subC a.2.2.1 a.2.2.2.1 b.2.2.1 b.2.2.2.1 (subI a.1 a.2.1 b.1 b.2.1).2.2).2
end
section
open Go.RowKit
def mulN (a b:Int×Int×Nat×Nat×Bool):Int×Int×Nat×Nat×Bool :=
 makeN (mulI a.1 a.2.1 b.1 b.2.1).1 (mulI a.1 a.2.1 b.1 b.2.1).2.1 (mulC a.2.2.1 a.2.2.2.1 b.2.2.1 b.2.2.2.1 (mulI a.1 a.2.1 b.1 b.2.1).2.2).1 (mulC a.2.2.1 a.2.2.2.1 b.2.2.1 b.2.2.2.1 (mulI a.1 a.2.1 b.1 b.2.1).2.2).2
theorem mulI_in (al ah bl bh:Int):In64 (mulI al ah bl bh).1/\In64 (mulI al ah bl bh).2.1:=by
 cases e:(mulI al ah bl bh).2.2
 ·unfold mulI at e ⊢
  split at e
  ·cases e
  ·rename_i h1
   rw [if_neg h1]
   split at e
   ·cases e
   ·rename_i h2
    rw [if_neg h2]
    split
    ·exact ⟨wrap64_in _,wrap64_in _⟩
    ·exact ⟨show In64 (-9223372036854775808) by unfold In64;omega,show In64 9223372036854775807 by unfold In64;omega⟩
 ·exact hull_in (mul_hull e) (fun v ⟨_,_,_,_,z⟩=>by rw [z];exact wrap64_in _)
end
section
open Go.RowKit
def divN (a b:Int×Int×Nat×Nat×Bool):Int×Int×Nat×Nat×Bool :=
 makeN (divI a.1 a.2.1 b.1 b.2.1).1 (divI a.1 a.2.1 b.1 b.2.1).2.1 (divC a.2.2.1 a.2.2.2.1 b.2.2.1 b.2.2.2.1).1 (divC a.2.2.1 a.2.2.2.1 b.2.2.1 b.2.2.2.1).2
def remN (a b:Int×Int×Nat×Nat×Bool):Int×Int×Nat×Nat×Bool :=
 makeN (remI a.1 a.2.1 b.1 b.2.1).1 (remI a.1 a.2.1 b.1 b.2.1).2.1 (remC a.2.2.1 a.2.2.2.1 b.2.2.1 b.2.2.2.1).1 (remC a.2.2.1 a.2.2.2.1 b.2.2.1 b.2.2.2.1).2
theorem divI_in {al ah bl bh:Int} (ha1:In64 al) (ha2:In64 ah) (hb1:In64 bl) (hb2:In64 bh):In64 (divI al ah bl bh).1/\In64 (divI al ah bl bh).2.1 :=
 hull_in (div_hull ha1 ha2 hb1 hb2) (fun v ⟨_,_,_,_,_,e⟩=>by rw [e];exact wrap64_in _)
theorem tmod_in {x y:Int} (hx:In64 x) (h0:y≠0):In64 (x.tmod y):=by
 have b:=tmod_bd (x:=x) h0
 unfold In64 at *
 by_cases c:0<=x
 ·have:=b.1 c;omega
 ·have:=b.2.1 (by omega);omega
theorem remMost_pos {bl bh:Int} (hb1:In64 bl) (hb2:In64 bh) (h:¬((rDn bl bh).2<(rDn bl bh).1/\(rUp bl bh).2<(rUp bl bh).1)):1<=remMost bl bh:=by
 obtain ⟨y,hy,h0⟩:∃ y,Mem bl bh y/\y≠0:=by
  rcases Classical.em (∃ y,Mem bl bh y/\y≠0) with k | k
  ·exact k
  ·exfalso
   apply h
   have z:∀ y,Mem bl bh y->y=0:=fun y hy=>Classical.byContradiction fun c=>k ⟨y,hy,c⟩
   constructor
   ·unfold rDn meetI normI
    split
    ·simp
    ·rename_i c
     have:=z bl ⟨Int.le_refl _,by omega⟩
     omega
   ·unfold rUp meetI normI
    split
    ·simp
    ·rename_i c
     have:=z bh ⟨by omega,Int.le_refl _⟩
     omega
 have s:=rem_side hb1 hb2 hy h0
 have:1<=farI y:=by unfold farI;split<;>omega
 omega
theorem remI_in {al ah bl bh:Int} (ha1:In64 al) (ha2:In64 ah) (hb1:In64 bl) (hb2:In64 bh):In64 (remI al ah bl bh).1/\In64 (remI al ah bl bh).2.1:=by
 unfold remI
 split
 ·exact ⟨show In64 1 by unfold In64;omega,show In64 0 by unfold In64;omega⟩
 ·rename_i h1
  split
  ·by_cases c:bl = -1
   ·rw [if_pos c];exact ⟨show In64 0 by unfold In64;omega,show In64 0 by unfold In64;omega⟩
   ·rw [if_neg c]
    by_cases z:bl=0
    ·rw [z,Int.tmod_zero];exact ⟨ha1,ha1⟩
    ·exact ⟨tmod_in ha1 z,tmod_in ha1 z⟩
  ·split
   ·exact ⟨ha1,ha2⟩
   ·have p:=remMost_pos hb1 hb2 (fun c=>h1 (Or.inr c))
    unfold In64 at *
    simp only
    omega
end
section
open Go.RowKit
theorem nremG_u64 {cM dM dR:Nat} (h1:U64 cM) (h3:U64 dM) (h:0<cM\/0<dM):U64 (remG cM dM dR)/\0<remG cM dM dR:=by
 unfold remG U64 at *
 have p:0<Nat.gcd cM dM:=by
  rcases h with h | h
  ·exact Nat.gcd_pos_of_pos_left _ h
  ·exact Nat.gcd_pos_of_pos_right _ h
 have q:Nat.gcd cM dM<18446744073709551616:=by
  rcases h with h | h
  ·have:=Nat.le_of_dvd h (Nat.gcd_dvd_left cM dM);omega
  ·have:=Nat.le_of_dvd h (Nat.gcd_dvd_right cM dM);omega
 have r:=Nat.le_of_dvd p (Nat.gcd_dvd_left (Nat.gcd cM dM) (rF dM dR))
 exact ⟨by omega,Nat.gcd_pos_of_pos_left _ p⟩
theorem nbyG_u64 (g:Nat) (e:Bool):U64 (byG g e):=by
 unfold byG
 split
 ·rename_i h;exact h.2
 ·exact twoN_u64 g
theorem ncls_u64 {f:Nat} {s:Bool} {g:Nat} (h:0<g) (e:Bool):U64 (byG g e)/\U64 (restN f s (byG g e)):=by
 have a:=nbyG_u64 g e
 have b:=restN_lt (f:=f) (s:=s) (byG_pos h e)
 refine ⟨a,?_⟩
 unfold U64 at *;omega
theorem nneg_u64 {cM cR:Nat} {e:Bool} (h1:U64 cM) (h2:U64 cR):U64 (negC cM cR e).1/\U64 (negC cM cR e).2:=by
 unfold negC
 split
 ·exact ⟨show 0<18446744073709551616 by omega,bitsN_u64 _⟩
 ·exact ncls_u64 (by omega) e
theorem ngcd_pos2 {a b:Nat} (h:¬(a=0/\b=0)):0<Nat.gcd a b:=by
 by_cases hc:a=0
 ·rw [hc,Nat.gcd_zero_left];omega
 ·exact Nat.gcd_pos_of_pos_left _ (by omega)
theorem nadd_u64 {cM cR dM dR:Nat} {e:Bool} (h1:U64 cM) (h2:U64 cR) (h3:U64 dM) (h4:U64 dR):U64 (addC cM cR dM dR e).1/\U64 (addC cM cR dM dR e).2:=by
 unfold addC
 split
 ·exact ⟨show 0<18446744073709551616 by omega,bitsN_u64 _⟩
 ·rename_i h;exact ncls_u64 (ngcd_pos2 h) e
theorem nsub_u64 {cM cR dM dR:Nat} {e:Bool} (h1:U64 cM) (h2:U64 cR) (h3:U64 dM) (h4:U64 dR):U64 (subC cM cR dM dR e).1/\U64 (subC cM cR dM dR e).2:=by
 unfold subC
 split
 ·exact ⟨show 0<18446744073709551616 by omega,bitsN_u64 _⟩
 ·rename_i h;exact ncls_u64 (ngcd_pos2 h) e
theorem nmul_u64 {cM cR dM dR:Nat} {e:Bool} (h1:U64 cM) (h2:U64 cR) (h3:U64 dM) (h4:U64 dR):U64 (mulC cM cR dM dR e).1/\U64 (mulC cM cR dM dR e).2:=by
 unfold mulC
 split
 ·exact ⟨show 0<18446744073709551616 by omega,bitsN_u64 _⟩
 ·split
  ·exact ⟨show 0<18446744073709551616 by omega,show 0<18446744073709551616 by omega⟩
  ·rename_i h h';exact ncls_u64 (mulG_pos h2 h4 h (fun a=>h' (Or.inl a)) (fun a=>h' (Or.inr a))) e
theorem ndiv_u64 {cM cR dM dR:Nat} (h1:U64 cM):U64 (divC cM cR dM dR).1/\U64 (divC cM cR dM dR).2:=by
 have one:U64 1/\U64 0:=⟨show 1<18446744073709551616 by omega,show 0<18446744073709551616 by omega⟩
 unfold divC
 split
 ·exact one
 ·split
  ·exact ⟨one.2,bitsN_u64 _⟩
  ·split
   ·exact one
   ·rename_i h h' h''
    have a:=Nat.div_le_self cM (wrap64 (dR:Int)).natAbs
    have d:=Nat.div_add_mod cM (wrap64 (dR:Int)).natAbs
    have p:0<cM/(wrap64 (dR:Int)).natAbs:=by
     rcases Nat.eq_zero_or_pos (cM/(wrap64 (dR:Int)).natAbs) with z | z
     ·rw [z] at d;simp at d;omega
     ·exact z
    have b:=restN_lt (f:=cR%cM/(wrap64 (dR:Int)).natAbs) (s:=decide (wrap64 (dR:Int)<0)) p
    unfold U64 at *;simp only;omega
theorem nrem_u64 {cM cR dM dR:Nat} (h1:U64 cM) (h3:U64 dM):U64 (remC cM cR dM dR).1/\U64 (remC cM cR dM dR).2:=by
 have one:U64 1/\U64 0:=⟨show 1<18446744073709551616 by omega,show 0<18446744073709551616 by omega⟩
 unfold remC
 split
 ·exact one
 ·split
  ·exact ⟨one.2,bitsN_u64 _⟩
  ·rename_i h h'
   have a:=nremG_u64 (dR:=dR) h1 h3 (by omega)
   have b:=restN_lt (f:=rF cM cR) (s:=rS cM cR) a.2
   have a1:=a.1
   refine ⟨a1,?_⟩
   unfold U64 at *;omega
theorem nneg_in (al ah:Int):In64 (negI al ah).1/\In64 (negI al ah).2.1:=hull_in (neg_hull al ah) (fun v ⟨_,_,e⟩=>by rw [e];exact wrap64_in _)
theorem nadd_in (al ah bl bh:Int):In64 (addI al ah bl bh).1/\In64 (addI al ah bl bh).2.1:=hull_in (add_hull al ah bl bh) (fun v ⟨_,_,_,_,e⟩=>by rw [e];exact wrap64_in _)
theorem nsub_in (al ah bl bh:Int):In64 (subI al ah bl bh).1/\In64 (subI al ah bl bh).2.1:=hull_in (sub_hull al ah bl bh) (fun v ⟨_,_,_,_,e⟩=>by rw [e];exact wrap64_in _)
def ap2 (f:(Int×Int×Nat×Nat×Bool)->(Int×Int×Nat×Nat×Bool)->(Int×Int×Nat×Nat×Bool)) (x y:Int×Int×Nat×Nat×Bool):Int×Int×Nat×Nat×Bool:=if x.2.2.2.2=true\/y.2.2.2.2=true then botN else f x y
theorem ap2_left {f:(Int×Int×Nat×Nat×Bool)->(Int×Int×Nat×Nat×Bool)->(Int×Int×Nat×Nat×Bool)} {x y:Int×Int×Nat×Nat×Bool} (h:x.2.2.2.2=true):ap2 f x y=botN:=by unfold ap2;rw [if_pos (Or.inl h)]
theorem ap2_right {f:(Int×Int×Nat×Nat×Bool)->(Int×Int×Nat×Nat×Bool)->(Int×Int×Nat×Nat×Bool)} {x y:Int×Int×Nat×Nat×Bool} (h:y.2.2.2.2=true):ap2 f x y=botN:=by unfold ap2;rw [if_pos (Or.inr h)]
theorem ap2_some {f:(Int×Int×Nat×Nat×Bool)->(Int×Int×Nat×Nat×Bool)->(Int×Int×Nat×Nat×Bool)} {x y:Int×Int×Nat×Nat×Bool} (h:x.2.2.2.2=false) (h':y.2.2.2.2=false):ap2 f x y=f x y:=by unfold ap2;rw [if_neg (by rw [h,h'];simp)]
end
section
open Go.RowKit
set_option maxRecDepth 100000 in
set_option maxHeartbeats 2000000 in
theorem opnd_alone (op:Int) (a b:Int×Int×Nat×Nat×Bool) (ha:RawN a) (hb:RawN b) (w0 w:World) (hok:Ok w0 w) :
  Calls Tryz.prog 27 #[.agg #[.int .i64 op,.bool true,.bool false],nv a,nv b] w fun e w'=>e=.returned (.tuple #[nv (normN a),nv (normN a)])/\Ok w0 w':=by
 have hle:=hok.le
 have HU:Hid _:=And.intro ha hb
 clear ha hb
 obtain ⟨x,hx⟩:∃ x,x=normN a:=⟨_,rfl⟩
 have HX:Hid _:=hx
 obtain ⟨y,hy⟩:∃ y,y=normN a:=⟨_,rfl⟩
 have HY:Hid _:=hy
 rw [<-hx]
 clear hx hy
 unfold nv
 go_enter Tryz.func27,Tryz.ntmps27
 go_wp2_with fail
 obtain ⟨W,hW⟩:∃ W,W=(((((w).alloc (.cells #[.int .i64 op,.bool true,.bool false] 54)).alloc (.cells #[.bool a.2.2.2.2,.int .i64 a.1,.int .i64 a.2.1,.int .u64 (a.2.2.1:Int),.int .u64 (a.2.2.2.1:Int)] 29)).alloc (.cells #[.bool b.2.2.2.2,.int .i64 b.1,.int .i64 b.2.1,.int .u64 (b.2.2.1:Int),.int .u64 (b.2.2.2.1:Int)] 29)).alloc (.cells #[.bool false,.int .i64 0,.int .i64 0,.int .u64 0,.int .u64 0] 29)).alloc (.cells #[.bool false,.int .i64 0,.int .i64 0,.int .u64 0,.int .u64 0] 29):=⟨_,rfl⟩
 have rs:Hid (W.heap[w.heap.size]?=some (.cells #[.int .i64 op,.bool true,.bool false] 54)):=by unfold Hid;rw [hW];exact jj
 have ra:Hid (W.heap[w.heap.size+1]?=some (.cells #[.bool a.2.2.2.2,.int .i64 a.1,.int .i64 a.2.1,.int .u64 (a.2.2.1:Int),.int .u64 (a.2.2.2.1:Int)] 29)):=by unfold Hid;rw [hW];exact jj
 have rb:Hid (W.heap[w.heap.size+1+1]?=some (.cells #[.bool b.2.2.2.2,.int .i64 b.1,.int .i64 b.2.1,.int .u64 (b.2.2.1:Int),.int .u64 (b.2.2.2.1:Int)] 29)):=by unfold Hid;rw [hW];exact jj
 have r1:Hid (W.heap[w.heap.size+1+1+1]?=some (.cells #[.bool false,.int .i64 0,.int .i64 0,.int .u64 0,.int .u64 0] 29)):=by unfold Hid;rw [hW];exact jj
 have r2:Hid (W.heap[w.heap.size+1+1+1+1]?=some (.cells #[.bool false,.int .i64 0,.int .i64 0,.int .u64 0,.int .u64 0] 29)):=by unfold Hid;rw [hW];exact jj
 have HW:Hid (Ok w0 W):=by unfold Hid;rw [hW];exact (by repeat (first | exact hok | refine Ok.alloc ?_ _ | refine Ok.draws ?_ _ | fail))
 rw [<-hW]
 clear hW
 obtain ⟨g2,eg2⟩:∃ g,g=w.heap.size+1+1+1+1:=⟨_,rfl⟩
 rw [<-eg2] at r2 ⊢
 obtain ⟨g1,eg1⟩:∃ g,g=w.heap.size+1+1+1:=⟨_,rfl⟩
 rw [<-eg1] at r1 ⊢
 obtain ⟨gb,egb⟩:∃ g,g=w.heap.size+1+1:=⟨_,rfl⟩
 rw [<-egb] at rb ⊢
 obtain ⟨ga,ega⟩:∃ g,g=w.heap.size+1:=⟨_,rfl⟩
 rw [<-ega] at ra ⊢
 obtain ⟨gs,egs⟩:∃ g,g=w.heap.size:=⟨_,rfl⟩
 rw [<-egs] at rs ⊢
 have lgs:w0.heap.size<=gs:=by omega
 have ngsga:¬gs=ga:=by omega
 have ngsgb:¬gs=gb:=by omega
 have ngsg1:¬gs=g1:=by omega
 have ngsg2:¬gs=g2:=by omega
 have lga:w0.heap.size<=ga:=by omega
 have ngags:¬ga=gs:=by omega
 have ngagb:¬ga=gb:=by omega
 have ngag1:¬ga=g1:=by omega
 have ngag2:¬ga=g2:=by omega
 have lgb:w0.heap.size<=gb:=by omega
 have ngbgs:¬gb=gs:=by omega
 have ngbga:¬gb=ga:=by omega
 have ngbg1:¬gb=g1:=by omega
 have ngbg2:¬gb=g2:=by omega
 have lg1:w0.heap.size<=g1:=by omega
 have ng1gs:¬g1=gs:=by omega
 have ng1ga:¬g1=ga:=by omega
 have ng1gb:¬g1=gb:=by omega
 have ng1g2:¬g1=g2:=by omega
 have lg2:w0.heap.size<=g2:=by omega
 have ng2gs:¬g2=gs:=by omega
 have ng2ga:¬g2=ga:=by omega
 have ng2gb:¬g2=gb:=by omega
 have ng2g1:¬g2=g1:=by omega
 clear egs ega egb eg1 eg2
 refine (nnorm_any a HU.out.1 W _ (by repeat (first | exact Ok.refl _ | refine Ok.alloc ?_ _ | refine Ok.draws ?_ _ | fail))).mono ?_
 rintro e w1 ⟨rfl,hb⟩
 replace rs:Hid _:=Ok.row' hb rs.out
 replace ra:Hid _:=Ok.row' hb ra.out
 replace rb:Hid _:=Ok.row' hb rb.out
 replace r1:Hid _:=Ok.row' hb r1.out
 replace r2:Hid _:=Ok.row' hb r2.out
 have Hw1:Hid (Ok w0 w1):=HW.out.step hb
 clear hb
 rw [<-HX.out]
 unfold nv
 obtain ⟨a0,a1,a2,a3,a4,a5,a6,a7,a8,a9⟩:=row5_facts ra.out
 obtain ⟨s0,s1,s2,s3,s4,s5⟩:=row3_facts rs.out
 obtain ⟨b0,b1,b2,b3,b4,b5,b6,b7,b8,b9⟩:=row5_facts rb.out
 go_wp2_with fail
 obtain ⟨Z,hZ⟩:∃ Z,Z=(((((w1.setCell ⟨ga,0,none⟩ (.bool x.2.2.2.2)).setCell ⟨ga,1,none⟩ (.int .i64 x.1)).setCell ⟨ga,2,none⟩ (.int .i64 x.2.1)).setCell ⟨ga,3,none⟩ (.int .u64 (x.2.2.1:Int))).setCell ⟨ga,4,none⟩ (.int .u64 (x.2.2.2.1:Int))):=⟨_,rfl⟩
 obtain ⟨HZ,raz,keep⟩:=(rows_put1 ra.out Hw1.out (by omega) _ _ _ _ _ hZ).out
 replace HZ:Hid (Ok w0 Z):=HZ
 replace raz:Hid _:=raz
 replace rs:Hid _:=keep _ _ (by omega) rs.out
 replace rb:Hid _:=keep _ _ (by omega) rb.out
 replace r1:Hid _:=keep _ _ (by omega) r1.out
 replace r2:Hid _:=keep _ _ (by omega) r2.out
 rw [<-hZ]
 clear hZ keep ra
 clear a0 a1 a2 a3 a4 a5 a6 a7 a8 a9 b0 b1 b2 b3 b4 b5 b6 b7 b8 b9 s0 s1 s2 s3 s4 s5
 obtain ⟨a0,a1,a2,a3,a4,a5,a6,a7,a8,a9⟩:=row5_facts raz.out
 obtain ⟨b0,b1,b2,b3,b4,b5,b6,b7,b8,b9⟩:=row5_facts rb.out
 obtain ⟨p0,p1,p2,p3,p4,p5,p6,p7,p8,p9⟩:=row5_facts r1.out
 obtain ⟨q0,q1,q2,q3,q4,q5,q6,q7,q8,q9⟩:=row5_facts r2.out
 have za:=lt_row raz.out
 have zb:=lt_row rb.out
 have bz:Ok Z Z:=Ok.refl _
 clear p0 p1 p2 p3 p4 p5 p6 p7 p8 p9 q0 q1 q2 q3 q4 q5 q6 q7 q8 q9 a0 a1 a2 a3 a4 a5 a6 a7 a8 a9 b0 b1 b2 b3 b4 b5 b6 b7 b8 b9
 refine wp_region_held_drew (S:=fun w'=>w'.heap[ga]?=some (.cells #[.bool x.2.2.2.2,.int .i64 x.1,.int .i64 x.2.1,.int .u64 (x.2.2.1:Int),.int .u64 (x.2.2.2.1:Int)] 29)) (by kernel_rfl) raz.out (fun hHeld=>?_)
 have hb:Ok Z Z.drew:=Below.drew (Ok.refl Z)
 obtain ⟨D,hD⟩:∃ D,D=Z.drew:=⟨_,rfl⟩
 rw [<-hD] at hb hHeld ⊢
 clear hD
 refine wpAnyH_take (i:=0) (v:=.agg #[.bool x.2.2.2.2,.int .i64 x.1,.int .i64 x.2.1,.int .u64 (x.2.2.1:Int),.int .u64 (x.2.2.2.1:Int)]) rfl (by kernel_rfl) (by kernel_rfl) (by kernel_rfl) (fun _ _ _ h=>h) (Or.inl ⟨by rfl,?_⟩) hHeld ?_
 ·intro w hSw;(try dsimp only at hSw);have zz:=row5_facts hSw;have c0:=zz.1;have c1:=zz.2.1;have c2:=zz.2.2.1;have c3:=zz.2.2.2.1;have c4:=zz.2.2.2.2.1;clear zz;(go_simp;try with_reducible rfl)
 (try simp only [Act.put,List.getElem_toArray,List.getElem_cons_succ,List.getElem_cons_zero,List.setIfInBounds_toArray,List.set_cons_zero,List.set_cons_succ])
 refine wpAnyH_take (i:=1) (v:=.agg #[.bool x.2.2.2.2,.int .i64 x.1,.int .i64 x.2.1,.int .u64 (x.2.2.1:Int),.int .u64 (x.2.2.2.1:Int)]) rfl (by kernel_rfl) (by kernel_rfl) (by kernel_rfl) (fun _ _ _ h=>h) (Or.inl ⟨by rfl,?_⟩) hHeld ?_
 ·intro w hSw;(try dsimp only at hSw);have zz:=row5_facts hSw;have c0:=zz.1;have c1:=zz.2.1;have c2:=zz.2.2.1;have c3:=zz.2.2.2.1;have c4:=zz.2.2.2.2.1;clear zz;(go_simp;try with_reducible rfl)
 (try simp only [Act.put,List.getElem_toArray,List.getElem_cons_succ,List.getElem_cons_zero,List.setIfInBounds_toArray,List.set_cons_zero,List.set_cons_succ])
 have f1:Hid _:=Ok.row' hb r1.out
 have f2:Hid _:=Ok.row' hb r2.out
 have zz:=row5_facts (f1.out)
 have p0:=zz.1
 have p1:=zz.2.1
 have p2:=zz.2.2.1
 have p3:=zz.2.2.2.1
 have p4:=zz.2.2.2.2.1
 have p5:=zz.2.2.2.2.2.1
 have p6:=zz.2.2.2.2.2.2.1
 have p7:=zz.2.2.2.2.2.2.2.1
 have p8:=zz.2.2.2.2.2.2.2.2.1
 have p9:=zz.2.2.2.2.2.2.2.2.2
 clear zz
 refine wpAnyH_ready (rs:=[2]) (by kernel_rfl) (by simp) ?_
 refine AllReadyH.cons rfl (fun K hK=>?_) AllReadyH.nil
 go_simp
 have h1:=rows_put1 (w0:=w0) (Z:=(((((D.setCell ⟨g1,0,none⟩ (.bool x.2.2.2.2)).setCell ⟨g1,1,none⟩ (.int .i64 x.1)).setCell ⟨g1,2,none⟩ (.int .i64 x.2.1)).setCell ⟨g1,3,none⟩ (.int .u64 (x.2.2.1:Int))).setCell ⟨g1,4,none⟩ (.int .u64 (x.2.2.2.1:Int)))) f1.out (HZ.out.step hb) (by omega) _ _ _ _ _ rfl
 refine hK.out _ _ (h1.out.2.2 _ _ (by omega) hHeld) (fun hHeld=>?_)
 clear hK K p0 p1 p2 p3 p4 p5 p6 p7 p8 p9
 (try simp only [Act.put,List.getElem_toArray,List.getElem_cons_succ,List.getElem_cons_zero,List.setIfInBounds_toArray,List.set_cons_zero,List.set_cons_succ])
 obtain ⟨E,hE⟩:∃ E,E=(((((D.setCell ⟨g1,0,none⟩ (.bool x.2.2.2.2)).setCell ⟨g1,1,none⟩ (.int .i64 x.1)).setCell ⟨g1,2,none⟩ (.int .i64 x.2.1)).setCell ⟨g1,3,none⟩ (.int .u64 (x.2.2.1:Int))).setCell ⟨g1,4,none⟩ (.int .u64 (x.2.2.2.1:Int))):=⟨_,rfl⟩
 rw [<-hE] at h1 hHeld ⊢
 have HE:Hid _:=hE
 clear hE
 have f3:Hid _:=h1.out.2.2 _ _ (by omega) f2.out
 have zz:=row5_facts (f3.out)
 have q0:=zz.1
 have q1:=zz.2.1
 have q2:=zz.2.2.1
 have q3:=zz.2.2.2.1
 have q4:=zz.2.2.2.2.1
 have q5:=zz.2.2.2.2.2.1
 have q6:=zz.2.2.2.2.2.2.1
 have q7:=zz.2.2.2.2.2.2.2.1
 have q8:=zz.2.2.2.2.2.2.2.2.1
 have q9:=zz.2.2.2.2.2.2.2.2.2
 clear zz
 refine wpAnyH_ready (rs:=[3]) (by kernel_rfl) (by simp) ?_
 refine AllReadyH.cons rfl (fun K hK=>?_) AllReadyH.nil
 go_simp
 have h2:=rows_put1 (w0:=w0) (Z:=(((((E.setCell ⟨g2,0,none⟩ (.bool x.2.2.2.2)).setCell ⟨g2,1,none⟩ (.int .i64 x.1)).setCell ⟨g2,2,none⟩ (.int .i64 x.2.1)).setCell ⟨g2,3,none⟩ (.int .u64 (x.2.2.1:Int))).setCell ⟨g2,4,none⟩ (.int .u64 (x.2.2.2.1:Int)))) f3.out h1.out.1 (by omega) _ _ _ _ _ rfl
 refine hK.out _ _ (h2.out.2.2 _ _ (by omega) hHeld) (fun hHeld=>?_)
 clear hK K q0 q1 q2 q3 q4 q5 q6 q7 q8 q9
 (try simp only [Act.put,List.getElem_toArray,List.getElem_cons_succ,List.getElem_cons_zero,List.setIfInBounds_toArray,List.set_cons_zero,List.set_cons_succ])
 refine wpAnyH_done (by kernel_rfl) ?_ _
 rw [HE.out]
 rw [HE.out] at h2
 go_wp2_with fail
 (try simp only [Exit.inBlock,Exit.then]);refine bodyPost_ret (results_2c rfl _ _ g1 g2 29 #[_,_,_,_,_] #[_,_,_,_,_] (0,0) _ rfl rfl (rows_put2 (g:=g1) (k:=g2) (by omega) r1.out r2.out hb HZ.out (by omega) (by omega) _ _ _ _ _ _ _ _ _ _).out.2.1 (rows_put2 (g:=g1) (k:=g2) (by omega) r1.out r2.out hb HZ.out (by omega) (by omega) _ _ _ _ _ _ _ _ _ _).out.2.2.1 Tryz.underlying29 rfl infoN infoN) rfl ?_
 exact ⟨rfl,(rows_put2 (g:=g1) (k:=g2) (by omega) r1.out r2.out hb HZ.out (by omega) (by omega) _ _ _ _ _ _ _ _ _ _).out.1⟩
end
end Go.Proofs.YtpjpjhjjhoeijaaGreat
