import Derived.Test.YtpjpjhjjhoeijaaGreatKKs
import Derived.Test.YtpjpjhjjhoeijaaGreatKNl
set_option maxHeartbeats 8000000
set_option linter.all false
namespace Go.Proofs.YtpjpjhjjhoeijaaGreat
open Go.RowKit
theorem one_in:In64 1:=by unfold In64;omega
theorem mone_in:In64 (-1):=by unfold In64;omega
theorem rows_put1 {w0 w1 Z:World} {g:Nat} {p0 p1 p2 p3 p4:Value} {t:TypeId} (ra:w1.heap[g]?=some (.cells #[p0,p1,p2,p3,p4] t (0,0))) (h0:Ok w0 w1) (hg:w0.heap.size<=g) (x0 x1 x2 x3 x4:Value) (hZ:Z=(((((w1.setCell ⟨g,0,none⟩ x0).setCell ⟨g,1,none⟩ x1).setCell ⟨g,2,none⟩ x2).setCell ⟨g,3,none⟩ x3).setCell ⟨g,4,none⟩ x4)) :
  Hid (Ok w0 Z/\Z.heap[g]?=some (.cells #[x0,x1,x2,x3,x4] t (0,0))/\(∀ (h:Nat) (o:Obj),h≠g->w1.heap[h]?=some o->Z.heap[h]?=some o)):=by
 subst hZ
 refine ⟨Ok.set (Ok.set (Ok.set (Ok.set (Ok.set h0 hg _) hg _) hg _) hg _) hg _,row_set5 ra x0 x1 x2 x3 x4,?_⟩
 intro h o h1 ho
 rw [heap_setCell_other _ _ _ _ h1,heap_setCell_other _ _ _ _ h1,heap_setCell_other _ _ _ _ h1,heap_setCell_other _ _ _ _ h1,heap_setCell_other _ _ _ _ h1]
 exact ho
theorem nz_low {x:Int×Int×Nat×Nat×Bool} (h:x.2.2.2.2=false) (h1:x.1=0):nzRaw x=makeN 1 x.2.1 x.2.2.1 x.2.2.2.1:=by
 unfold nzRaw
 rw [if_neg (by rw [h];simp),if_pos h1]
 by_cases c:x.2.1=0
 ·rw [if_pos c,c];unfold makeN;rw [if_pos (by omega),if_pos (by omega)]
 ·rw [if_neg c]
theorem nz_high {x:Int×Int×Nat×Nat×Bool} (h:x.2.2.2.2=false) (h1:x.1≠0) (h2:x.2.1=0):nzRaw x=makeN x.1 (-1) x.2.2.1 x.2.2.2.1:=by
 unfold nzRaw
 rw [if_neg (by rw [h];simp),if_neg h1,if_pos h2]
theorem nz_mid {x:Int×Int×Nat×Nat×Bool} (rx:RawN x) (nx:NormN x) (h1:x.2.2.2.2=true\/(x.1≠0/\x.2.1≠0)):nzRaw x=x:=by
 refine norm_ext (nzRaw_norm rx nx) nx (fun v hv=>?_)
 rw [nzRaw_mem rx hv]
 refine ⟨fun m=>m.1,fun m=>⟨m,fun z=>?_⟩⟩
 rcases h1 with h1 | h1
 ·have:=m.1;rw [h1] at this;cases this
 ·exact h1
set_option maxRecDepth 100000 in
theorem njoin1_any (x y:Int×Int×Nat×Nat×Bool) (ha:RawN x) (hb:RawN y) (w0 w:World) (hok:Ok w0 w) :
  Calls Tryz.prog 82 #[nv x,nv y] w fun e w'=>e=.returned (nv (makeN (joinI x.1 x.2.1 y.1 y.2.1).1 (joinI x.1 x.2.1 y.1 y.2.1).2 (joinC x.2.2.1 x.2.2.2.1 y.2.2.1 y.2.2.2.1).1 (joinC x.2.2.1 x.2.2.2.1 y.2.2.1 y.2.2.2.1).2))/\Ok w0 w':=by
 have hle:=hok.le
 have HU:Hid _:=And.intro ha hb
 clear ha hb
 obtain ⟨p,hp⟩:∃ p,p=joinI x.1 x.2.1 y.1 y.2.1:=⟨_,rfl⟩
 obtain ⟨q,hq⟩:∃ q,q=joinC x.2.2.1 x.2.2.2.1 y.2.2.1 y.2.2.2.1:=⟨_,rfl⟩
 have HP:Hid (In64 p.1/\In64 p.2/\U64 q.1/\U64 q.2):=by rw [hp,hq];exact ⟨(joinI_in HU.out.1.1 HU.out.1.2.1 HU.out.2.1 HU.out.2.2.1).1,(joinI_in HU.out.1.1 HU.out.1.2.1 HU.out.2.1 HU.out.2.2.1).2,joinC_u64 HU.out.1.2.2.1 HU.out.2.2.2.1 HU.out.1.2.2.2 HU.out.2.2.2.2⟩
 rw [<-hp,<-hq]
 have E1:Hid _:=hp
 have E2:Hid _:=hq
 clear hp hq
 unfold nv
 go_enter Tryz.func82,Tryz.ntmps82
 go_wp2_with fail
 obtain ⟨W,hW⟩:∃ W,W=(((w).alloc (.cells #[.bool x.2.2.2.2,.int .i64 x.1,.int .i64 x.2.1,.int .u64 (x.2.2.1:Int),.int .u64 (x.2.2.2.1:Int)] 29)).alloc (.cells #[.bool y.2.2.2.2,.int .i64 y.1,.int .i64 y.2.1,.int .u64 (y.2.2.1:Int),.int .u64 (y.2.2.2.1:Int)] 29)).alloc (.cells #[.bool false,.int .i64 0,.int .i64 0,.int .u64 0,.int .u64 0] 29):=⟨_,rfl⟩
 have ra:Hid (W.heap[w.heap.size]?=some (.cells #[.bool x.2.2.2.2,.int .i64 x.1,.int .i64 x.2.1,.int .u64 (x.2.2.1:Int),.int .u64 (x.2.2.2.1:Int)] 29)):=by unfold Hid;rw [hW];exact jj
 have rb:Hid (W.heap[w.heap.size+1]?=some (.cells #[.bool y.2.2.2.2,.int .i64 y.1,.int .i64 y.2.1,.int .u64 (y.2.2.1:Int),.int .u64 (y.2.2.2.1:Int)] 29)):=by unfold Hid;rw [hW];exact jj
 have rz:Hid (W.heap[w.heap.size+1+1]?=some (.cells #[.bool false,.int .i64 0,.int .i64 0,.int .u64 0,.int .u64 0] 29)):=by unfold Hid;rw [hW];exact jj
 have HW:Hid (Ok w0 W):=by unfold Hid;rw [hW];exact (by repeat (first | exact hok | refine Ok.alloc ?_ _ | refine Ok.draws ?_ _ | fail))
 rw [<-hW]
 clear hW
 obtain ⟨gz,egz⟩:∃ g,g=w.heap.size+1+1:=⟨_,rfl⟩
 rw [<-egz] at rz ⊢
 obtain ⟨gb,egb⟩:∃ g,g=w.heap.size+1:=⟨_,rfl⟩
 rw [<-egb] at rb ⊢
 obtain ⟨ga,ega⟩:∃ g,g=w.heap.size:=⟨_,rfl⟩
 rw [<-ega] at ra ⊢
 have lga:w0.heap.size<=ga:=by omega
 have ngagb:¬ga=gb:=by omega
 have ngagz:¬ga=gz:=by omega
 have lgb:w0.heap.size<=gb:=by omega
 have ngbga:¬gb=ga:=by omega
 have ngbgz:¬gb=gz:=by omega
 have lgz:w0.heap.size<=gz:=by omega
 have ngzga:¬gz=ga:=by omega
 have ngzgb:¬gz=gb:=by omega
 clear ega egb egz
 obtain ⟨a0,a1,a2,a3,a4,a5,a6,a7,a8,a9⟩:=row5_facts ra.out
 obtain ⟨b0,b1,b2,b3,b4,b5,b6,b7,b8,b9⟩:=row5_facts rb.out
 obtain ⟨k0,k1,k2,k3,k4,k5,k6,k7,k8,k9⟩:=row5_facts rz.out
 have za:=lt_row ra.out
 have zb:=lt_row rb.out
 have bz:Ok W W:=Ok.refl _
 go_region_held3 (fun w'=>w'.cell? ⟨ga,1,none⟩=some (.int .i64 x.1)/\w'.cell? ⟨ga,2,none⟩=some (.int .i64 x.2.1)/\w'.cell? ⟨ga,3,none⟩=some (.int .u64 (x.2.2.1:Int))/\w'.cell? ⟨ga,4,none⟩=some (.int .u64 (x.2.2.2.1:Int))/\w'.cell? ⟨gb,1,none⟩=some (.int .i64 y.1)/\w'.cell? ⟨gb,2,none⟩=some (.int .i64 y.2.1)/\w'.cell? ⟨gb,3,none⟩=some (.int .u64 (y.2.2.1:Int))/\w'.cell? ⟨gb,4,none⟩=some (.int .u64 (y.2.2.2.1:Int))) (go_keep)
  (first
  | (go_at_call 83;refine (Jpjoin_any _ _ _ _ W _ (by repeat (first | assumption | refine Ok.alloc ?_ _ | refine Below.drew ?_))).mono ?_;rintro e w' ⟨rfl,hb⟩;rw [<-E1.out];have q0:=Ok.cell hb za a1;have q1:=Ok.cell hb za a2;have q2:=Ok.cell hb za a3;have q3:=Ok.cell hb za a4;have q4:=Ok.cell hb zb b1;have q5:=Ok.cell hb zb b2;have q6:=Ok.cell hb zb b3;have q7:=Ok.cell hb zb b4;obtain ⟨k0,k1,k2,k3,k4,k5,k6,k7,k8,k9⟩:=row5_facts (Ok.row' hb rz.out))
  | (go_at_call 84;refine (pjoin_any _ _ _ _ HU.out.1.2.2.1 HU.out.1.2.2.2 HU.out.2.2.2.1 HU.out.2.2.2.2 W _ (by repeat (first | assumption | refine Ok.alloc ?_ _ | refine Below.drew ?_))).mono ?_;rintro e w' ⟨rfl,hb⟩;rw [<-E2.out];unfold cv;have q0:=Ok.cell hb za a1;have q1:=Ok.cell hb za a2;have q2:=Ok.cell hb za a3;have q3:=Ok.cell hb za a4;have q4:=Ok.cell hb zb b1;have q5:=Ok.cell hb zb b2;have q6:=Ok.cell hb zb b3;have q7:=Ok.cell hb zb b4;obtain ⟨k0,k1,k2,k3,k4,k5,k6,k7,k8,k9⟩:=row5_facts (Ok.row' hb rz.out))
  | (go_at_call 18;refine (nmake_any _ _ _ _ HP.out.1 HP.out.2.1 HP.out.2.2.1 HP.out.2.2.2 W _ (by repeat (first | assumption | refine Ok.alloc ?_ _ | refine Below.drew ?_))).mono ?_;rintro e w' ⟨rfl,hb⟩;unfold nv;have q0:=Ok.cell hb za a1;have q1:=Ok.cell hb za a2;have q2:=Ok.cell hb za a3;have q3:=Ok.cell hb za a4;have q4:=Ok.cell hb zb b1;have q5:=Ok.cell hb zb b2;have q6:=Ok.cell hb zb b3;have q7:=Ok.cell hb zb b4;obtain ⟨k0,k1,k2,k3,k4,k5,k6,k7,k8,k9⟩:=row5_facts (Ok.row' hb rz.out))
  | fail)
 go_wp2_with fail
 have hr:Hid _:=Ok.row' hb rz.out
 (try simp only [Exit.inBlock, Exit.then]); refine bodyPost_ret (results_cell_row rfl _ _ (gz) 29 #[_, _, _, _, _] (0, 0) _ rfl (row_set5 hr.out _ _ _ _ _) Tryz.underlying29 rfl infoN) rfl ?_
 exact ⟨rfl,Ok.set (Ok.set (Ok.set (Ok.set (Ok.set (HW.out.step hb) (show w0.heap.size<=gz by omega) _) (show w0.heap.size<=gz by omega) _) (show w0.heap.size<=gz by omega) _) (show w0.heap.size<=gz by omega) _) (show w0.heap.size<=gz by omega) _⟩
theorem njoin1_s (xl xh:Int) (xM xR:Nat) (xB:Bool) (yl yh:Int) (yM yR:Nat) (yB:Bool) (ha:RawN (xl,xh,xM,xR,xB)) (hb:RawN (yl,yh,yM,yR,yB)) (w0 w:World) (hok:Ok w0 w) :
  Calls Tryz.prog 82 #[.agg #[.bool xB,.int .i64 xl,.int .i64 xh,.int .u64 (xM:Int),.int .u64 (xR:Int)],.agg #[.bool yB,.int .i64 yl,.int .i64 yh,.int .u64 (yM:Int),.int .u64 (yR:Int)]] w fun e w'=>e=.returned (nv (makeN (joinI xl xh yl yh).1 (joinI xl xh yl yh).2 (joinC xM xR yM yR).1 (joinC xM xR yM yR).2))/\Ok w0 w':=njoin1_any (xl,xh,xM,xR,xB) (yl,yh,yM,yR,yB) ha hb w0 w hok
set_option maxRecDepth 100000 in
theorem ntog_join (a b:Int×Int×Nat×Nat×Bool) (ha:RawN a) (hb:RawN b) (w0 w:World) (hok:Ok w0 w) :
  Calls Tryz.prog 45 #[nv a,nv b,.func (.func 82) #[] #[]] w fun e w'=>e=.returned (nv (joinN a b))/\Ok w0 w':=by
 have hle:=hok.le
 have HU:Hid _:=And.intro ha hb
 clear ha hb
 obtain ⟨x,hx⟩:∃ x,x=normN a:=⟨_,rfl⟩
 obtain ⟨y,hy⟩:∃ x,x=normN b:=⟨_,rfl⟩
 have HS:Hid (joinN a b=joinRaw x y):=by unfold Hid;rw [hx,hy];rfl
 have RX:Hid (RawN x/\RawN y):=by rw [hx,hy];exact ⟨normN_raw HU.out.1,normN_raw HU.out.2⟩
 have NX:Hid (NormN x/\NormN y):=by rw [hx,hy];exact ⟨normN_norm HU.out.1,normN_norm HU.out.2⟩
 have HX:Hid _:=hx
 have HY:Hid _:=hy
 clear hx hy
 unfold nv
 go_enter Tryz.func45,Tryz.ntmps45
 go_wp2_with fail
 obtain ⟨W,hW⟩:∃ W,W=(((w).alloc (.cells #[.bool a.2.2.2.2,.int .i64 a.1,.int .i64 a.2.1,.int .u64 (a.2.2.1:Int),.int .u64 (a.2.2.2.1:Int)] 29)).alloc (.cells #[.bool b.2.2.2.2,.int .i64 b.1,.int .i64 b.2.1,.int .u64 (b.2.2.1:Int),.int .u64 (b.2.2.2.1:Int)] 29)).alloc (.cells #[.bool false,.int .i64 0,.int .i64 0,.int .u64 0,.int .u64 0] 29):=⟨_,rfl⟩
 have ra:Hid (W.heap[w.heap.size]?=some (.cells #[.bool a.2.2.2.2,.int .i64 a.1,.int .i64 a.2.1,.int .u64 (a.2.2.1:Int),.int .u64 (a.2.2.2.1:Int)] 29)):=by unfold Hid;rw [hW];exact jj
 have rb:Hid (W.heap[w.heap.size+1]?=some (.cells #[.bool b.2.2.2.2,.int .i64 b.1,.int .i64 b.2.1,.int .u64 (b.2.2.1:Int),.int .u64 (b.2.2.2.1:Int)] 29)):=by unfold Hid;rw [hW];exact jj
 have rz:Hid (W.heap[w.heap.size+1+1]?=some (.cells #[.bool false,.int .i64 0,.int .i64 0,.int .u64 0,.int .u64 0] 29)):=by unfold Hid;rw [hW];exact jj
 have HW:Hid (Ok w0 W):=by unfold Hid;rw [hW];exact (by repeat (first | exact hok | refine Ok.alloc ?_ _ | refine Ok.draws ?_ _ | fail))
 rw [<-hW]
 clear hW
 obtain ⟨gz,egz⟩:∃ g,g=w.heap.size+1+1:=⟨_,rfl⟩
 rw [<-egz] at rz ⊢
 obtain ⟨gb,egb⟩:∃ g,g=w.heap.size+1:=⟨_,rfl⟩
 rw [<-egb] at rb ⊢
 obtain ⟨ga,ega⟩:∃ g,g=w.heap.size:=⟨_,rfl⟩
 rw [<-ega] at ra ⊢
 have lga:w0.heap.size<=ga:=by omega
 have ngagb:¬ga=gb:=by omega
 have ngagz:¬ga=gz:=by omega
 have lgb:w0.heap.size<=gb:=by omega
 have ngbga:¬gb=ga:=by omega
 have ngbgz:¬gb=gz:=by omega
 have lgz:w0.heap.size<=gz:=by omega
 have ngzga:¬gz=ga:=by omega
 have ngzgb:¬gz=gb:=by omega
 clear ega egb egz
 apply wp_cutN (fun w1=>Hid (Ok w0 w1/\w1.heap[ga]?=some (.cells #[.bool x.2.2.2.2,.int .i64 x.1,.int .i64 x.2.1,.int .u64 (x.2.2.1:Int),.int .u64 (x.2.2.2.1:Int)] 29)/\w1.heap[gb]?=some (.cells #[.bool y.2.2.2.2,.int .i64 y.1,.int .i64 y.2.1,.int .u64 (y.2.2.1:Int),.int .u64 (y.2.2.2.1:Int)] 29)/\(∀ (h:Nat) (o:Obj),h≠ga->h≠gb->W.heap[h]?=some o->w1.heap[h]?=some o)))
 case h1 =>
  obtain ⟨a0,a1,a2,a3,a4,a5,a6,a7,a8,a9⟩:=row5_facts ra.out
  obtain ⟨b0,b1,b2,b3,b4,b5,b6,b7,b8,b9⟩:=row5_facts rb.out
  have bz:Ok W W:=Ok.refl _
  go_region_with (go_at_call 13;refine (nnorm_any _ (by first | exact HU.out.1 | exact HU.out.2) W _ (by first | assumption | exact Below.drew (by assumption))).mono ?_;rintro e w1 ⟨rfl,hb⟩;(first | rw [<-HX.out] | rw [<-HY.out]);unfold nv;obtain ⟨a0,a1,a2,a3,a4,a5,a6,a7,a8,a9⟩:=row5_facts (Ok.row' hb ra.out);obtain ⟨b0,b1,b2,b3,b4,b5,b6,b7,b8,b9⟩:=row5_facts (Ok.row' hb rb.out))
  all_goals exact ⟨rfl,rows_put2 (by omega) ra.out rb.out hb HW.out (by omega) (by omega) _ _ _ _ _ _ _ _ _ _⟩
 case h2 =>
  rintro Z H
  obtain ⟨HZ,raz,rbz,keep⟩:=H.out
  replace HZ:Hid (Ok w0 Z):=HZ
  replace raz:Hid _:=raz
  replace rbz:Hid _:=rbz
  replace rz:Hid _:=keep _ _ (by omega) (by omega) rz.out
  clear H ra rb keep
  obtain ⟨a0,a1,a2,a3,a4,a5,a6,a7,a8,a9⟩:=row5_facts raz.out
  obtain ⟨b0,b1,b2,b3,b4,b5,b6,b7,b8,b9⟩:=row5_facts rbz.out
  obtain ⟨k0,k1,k2,k3,k4,k5,k6,k7,k8,k9⟩:=row5_facts rz.out
  have hr:Hid _:=rz
  cases hxb:x.2.2.2.2
  ·rw [hxb] at a0
   cases hyb:y.2.2.2.2
   ·rw [hyb] at b0
    have HA:Hid (joinRaw x y=makeN (joinI x.1 x.2.1 y.1 y.2.1).1 (joinI x.1 x.2.1 y.1 y.2.1).2 (joinC x.2.2.1 x.2.2.2.1 y.2.2.1 y.2.2.2.1).1 (joinC x.2.2.1 x.2.2.2.1 y.2.2.1 y.2.2.2.1).2):=by unfold Hid joinRaw;rw [if_neg (by rw [hxb];simp),if_neg (by rw [hyb];simp)]
    go_wp2_with fail
    refine (njoin1_s x.1 x.2.1 x.2.2.1 x.2.2.2.1 false y.1 y.2.1 y.2.2.1 y.2.2.2.1 false RX.out.1 RX.out.2 Z _ (by repeat (first | exact Ok.refl _ | refine Ok.alloc ?_ _ | refine Ok.draws ?_ _ | fail))).mono ?_
    rintro e z1 ⟨rfl,hb⟩
    have hr:Hid _:=Ok.row' hb rz.out
    obtain ⟨k0,k1,k2,k3,k4,k5,k6,k7,k8,k9⟩:=row5_facts hr.out
    rw [<-HA.out]
    unfold nv
    go_wp2_with fail
    (try simp only [Exit.inBlock, Exit.then]); refine bodyPost_ret (results_cell_row rfl _ _ (gz) 29 #[_, _, _, _, _] (0, 0) _ rfl (row_set5 hr.out _ _ _ _ _) Tryz.underlying29 rfl infoN) rfl ?_
    exact ⟨(by rw [HS.out]),Ok.set (Ok.set (Ok.set (Ok.set (Ok.set (HZ.out.step hb) (show w0.heap.size<=gz by omega) _) (show w0.heap.size<=gz by omega) _) (show w0.heap.size<=gz by omega) _) (show w0.heap.size<=gz by omega) _) (show w0.heap.size<=gz by omega) _⟩
   ·rw [hyb] at b0
    have HA:Hid (joinRaw x y=x):=by unfold Hid joinRaw;rw [if_neg (by rw [hxb];simp),if_pos hyb]
    have HB:Hid _:=hxb
    go_wp2_with fail
    (try simp only [Exit.inBlock, Exit.then]); refine bodyPost_ret (results_cell_row rfl _ _ (gz) 29 #[_, _, _, _, _] (0, 0) _ rfl (row_set5 hr.out _ _ _ _ _) Tryz.underlying29 rfl infoN) rfl ?_
    exact ⟨(by rw [HS.out,HA.out,HB.out]),Ok.set (Ok.set (Ok.set (Ok.set (Ok.set (HZ.out) (show w0.heap.size<=gz by omega) _) (show w0.heap.size<=gz by omega) _) (show w0.heap.size<=gz by omega) _) (show w0.heap.size<=gz by omega) _) (show w0.heap.size<=gz by omega) _⟩
  ·rw [hxb] at a0
   have HA:Hid (joinRaw x y=y):=by unfold Hid joinRaw;rw [if_pos hxb]
   go_wp2_with fail
   (try simp only [Exit.inBlock, Exit.then]); refine bodyPost_ret (results_cell_row rfl _ _ (gz) 29 #[_, _, _, _, _] (0, 0) _ rfl (row_set5 hr.out _ _ _ _ _) Tryz.underlying29 rfl infoN) rfl ?_
   exact ⟨(by rw [HS.out,HA.out]),Ok.set (Ok.set (Ok.set (Ok.set (Ok.set (HZ.out) (show w0.heap.size<=gz by omega) _) (show w0.heap.size<=gz by omega) _) (show w0.heap.size<=gz by omega) _) (show w0.heap.size<=gz by omega) _) (show w0.heap.size<=gz by omega) _⟩
set_option maxRecDepth 100000 in
theorem nnz_any (a:Int×Int×Nat×Nat×Bool) (ha:RawN a) (w0 w:World) (hok:Ok w0 w) :
  Calls Tryz.prog 25 #[nv a] w fun e w'=>e=.returned (nv (nonZeroN a))/\Ok w0 w':=by
 have hle:=hok.le
 have HU:Hid _:=ha
 clear ha
 obtain ⟨x,hx⟩:∃ x,x=normN a:=⟨_,rfl⟩
 have HX:Hid _:=hx
 clear hx
 have HS:Hid (nonZeroN a=nzRaw x):=by unfold Hid nonZeroN;rw [HX.out]
 have RX:Hid (RawN x):=by rw [HX.out];exact normN_raw HU.out
 unfold nv
 go_enter Tryz.func25,Tryz.ntmps25
 go_wp2_with fail
 obtain ⟨W,hW⟩:∃ W,W=((w).alloc (.cells #[.bool a.2.2.2.2,.int .i64 a.1,.int .i64 a.2.1,.int .u64 (a.2.2.1:Int),.int .u64 (a.2.2.2.1:Int)] 29)).alloc (.cells #[.bool false,.int .i64 0,.int .i64 0,.int .u64 0,.int .u64 0] 29):=⟨_,rfl⟩
 have ra:Hid (W.heap[w.heap.size]?=some (.cells #[.bool a.2.2.2.2,.int .i64 a.1,.int .i64 a.2.1,.int .u64 (a.2.2.1:Int),.int .u64 (a.2.2.2.1:Int)] 29)):=by unfold Hid;rw [hW];exact jj
 have rz:Hid (W.heap[w.heap.size+1]?=some (.cells #[.bool false,.int .i64 0,.int .i64 0,.int .u64 0,.int .u64 0] 29)):=by unfold Hid;rw [hW];exact jj
 have HW:Hid (Ok w0 W):=by unfold Hid;rw [hW];exact (by repeat (first | exact hok | refine Ok.alloc ?_ _ | refine Ok.draws ?_ _ | fail))
 rw [<-hW]
 clear hW
 obtain ⟨gz,egz⟩:∃ g,g=w.heap.size+1:=⟨_,rfl⟩
 rw [<-egz] at rz ⊢
 obtain ⟨ga,ega⟩:∃ g,g=w.heap.size:=⟨_,rfl⟩
 rw [<-ega] at ra ⊢
 have lga:w0.heap.size<=ga:=by omega
 have ngagz:¬ga=gz:=by omega
 have lgz:w0.heap.size<=gz:=by omega
 have ngzga:¬gz=ga:=by omega
 clear ega egz
 refine (nnorm_any a HU.out W _ (by repeat (first | exact Ok.refl _ | refine Ok.alloc ?_ _ | refine Ok.draws ?_ _ | fail))).mono ?_
 rintro e w1 ⟨rfl,hb⟩
 replace ra:Hid _:=Ok.row' hb ra.out
 replace rz:Hid _:=Ok.row' hb rz.out
 have Hw1:Hid (Ok w0 w1):=HW.out.step hb
 clear hb
 rw [<-HX.out]
 unfold nv
 have NX:Hid (NormN x):=by rw [HX.out];exact normN_norm HU.out
 obtain ⟨a0,a1,a2,a3,a4,a5,a6,a7,a8,a9⟩:=row5_facts ra.out
 obtain ⟨k0,k1,k2,k3,k4,k5,k6,k7,k8,k9⟩:=row5_facts rz.out
 cases hxb:x.2.2.2.2
 ·have HB:Hid _:=hxb
  by_cases h1:x.1=0
  ·have HA:Hid (nzRaw x=makeN 1 x.2.1 x.2.2.1 x.2.2.2.1):=nz_low hxb h1
   have H1:Hid _:=h1
   have d1:(x.1==0)=true:=by simpa using h1
   clear h1
   go_wp2_with fail
   obtain ⟨Z,hZ⟩:∃ Z,Z=(((((w1.setCell ⟨ga,0,none⟩ (.bool false)).setCell ⟨ga,1,none⟩ (.int .i64 x.1)).setCell ⟨ga,2,none⟩ (.int .i64 x.2.1)).setCell ⟨ga,3,none⟩ (.int .u64 (x.2.2.1:Int))).setCell ⟨ga,4,none⟩ (.int .u64 (x.2.2.2.1:Int))):=⟨_,rfl⟩
   obtain ⟨HZ,raz,keep⟩:=(rows_put1 ra.out Hw1.out (by omega) _ _ _ _ _ hZ).out
   replace HZ:Hid (Ok w0 Z):=HZ
   replace raz:Hid _:=raz
   replace rz:Hid _:=keep _ _ (by omega) rz.out
   rw [<-hZ]
   clear hZ keep ra
   clear a0 a1 a2 a3 a4 a5 a6 a7 a8 a9 k0 k1 k2 k3 k4 k5 k6 k7 k8 k9
   refine (nmake_any 1 x.2.1 x.2.2.1 x.2.2.2.1 one_in RX.out.2.1 RX.out.2.2.1 RX.out.2.2.2 Z _ (by repeat (first | exact Ok.refl _ | refine Ok.alloc ?_ _ | refine Ok.draws ?_ _ | fail))).mono ?_
   rintro e z1 ⟨rfl,hb⟩
   have hr:Hid _:=Ok.row' hb rz.out
   obtain ⟨k0,k1,k2,k3,k4,k5,k6,k7,k8,k9⟩:=row5_facts hr.out
   rw [<-HA.out]
   unfold nv
   go_wp2_with fail
   (try simp only [Exit.inBlock, Exit.then]); refine bodyPost_ret (results_cell_row rfl _ _ (gz) 29 #[_, _, _, _, _] (0, 0) _ rfl (row_set5 hr.out _ _ _ _ _) Tryz.underlying29 rfl infoN) rfl ?_
   exact ⟨(by rw [HS.out]),Ok.set (Ok.set (Ok.set (Ok.set (Ok.set (HZ.out.step hb) (show w0.heap.size<=gz by omega) _) (show w0.heap.size<=gz by omega) _) (show w0.heap.size<=gz by omega) _) (show w0.heap.size<=gz by omega) _) (show w0.heap.size<=gz by omega) _⟩
  by_cases h2:x.2.1=0
  ·have HA:Hid (nzRaw x=makeN x.1 (-1) x.2.2.1 x.2.2.2.1):=nz_high hxb h1 h2
   have d1:(x.1==0)=false:=by simpa using h1
   have d2:(x.2.1==0)=true:=by simpa using h2
   clear h1 h2
   go_wp2_with fail
   obtain ⟨Z,hZ⟩:∃ Z,Z=(((((w1.setCell ⟨ga,0,none⟩ (.bool false)).setCell ⟨ga,1,none⟩ (.int .i64 x.1)).setCell ⟨ga,2,none⟩ (.int .i64 x.2.1)).setCell ⟨ga,3,none⟩ (.int .u64 (x.2.2.1:Int))).setCell ⟨ga,4,none⟩ (.int .u64 (x.2.2.2.1:Int))):=⟨_,rfl⟩
   obtain ⟨HZ,raz,keep⟩:=(rows_put1 ra.out Hw1.out (by omega) _ _ _ _ _ hZ).out
   replace HZ:Hid (Ok w0 Z):=HZ
   replace raz:Hid _:=raz
   replace rz:Hid _:=keep _ _ (by omega) rz.out
   rw [<-hZ]
   clear hZ keep ra
   clear a0 a1 a2 a3 a4 a5 a6 a7 a8 a9 k0 k1 k2 k3 k4 k5 k6 k7 k8 k9
   refine (nmake_any x.1 (-1) x.2.2.1 x.2.2.2.1 RX.out.1 mone_in RX.out.2.2.1 RX.out.2.2.2 Z _ (by repeat (first | exact Ok.refl _ | refine Ok.alloc ?_ _ | refine Ok.draws ?_ _ | fail))).mono ?_
   rintro e z1 ⟨rfl,hb⟩
   have hr:Hid _:=Ok.row' hb rz.out
   obtain ⟨k0,k1,k2,k3,k4,k5,k6,k7,k8,k9⟩:=row5_facts hr.out
   rw [<-HA.out]
   unfold nv
   go_wp2_with fail
   (try simp only [Exit.inBlock, Exit.then]); refine bodyPost_ret (results_cell_row rfl _ _ (gz) 29 #[_, _, _, _, _] (0, 0) _ rfl (row_set5 hr.out _ _ _ _ _) Tryz.underlying29 rfl infoN) rfl ?_
   exact ⟨(by rw [HS.out]),Ok.set (Ok.set (Ok.set (Ok.set (Ok.set (HZ.out.step hb) (show w0.heap.size<=gz by omega) _) (show w0.heap.size<=gz by omega) _) (show w0.heap.size<=gz by omega) _) (show w0.heap.size<=gz by omega) _) (show w0.heap.size<=gz by omega) _⟩
  have HA:Hid (nzRaw x=x):=nz_mid RX.out NX.out (Or.inr ⟨h1,h2⟩)
  have d1:(x.1==0)=false:=by simpa using h1
  have d2:(x.2.1==0)=false:=by simpa using h2
  clear h1 h2
  go_wp2_with fail
  have hr:Hid _:=rz
  have hr2:=(rows_put1 (Z:=((((w1.setCell ⟨ga,0,none⟩ (.bool false)).setCell ⟨ga,1,none⟩ (.int .i64 x.1)).setCell ⟨ga,2,none⟩ (.int .i64 x.2.1)).setCell ⟨ga,3,none⟩ (.int .u64 (x.2.2.1:Int))).setCell ⟨ga,4,none⟩ (.int .u64 (x.2.2.2.1:Int))) ra.out Hw1.out (by omega) _ _ _ _ _ rfl).out
  replace hr:Hid _:=hr2.2.2 _ _ (by omega) rz.out
  (try simp only [Exit.inBlock, Exit.then]); refine bodyPost_ret (results_cell_row rfl _ _ (gz) 29 #[_, _, _, _, _] (0, 0) _ rfl (row_set5 hr.out _ _ _ _ _) Tryz.underlying29 rfl infoN) rfl ?_
  exact ⟨(by rw [HS.out,HA.out,HB.out]),Ok.set (Ok.set (Ok.set (Ok.set (Ok.set (hr2.1) (show w0.heap.size<=gz by omega) _) (show w0.heap.size<=gz by omega) _) (show w0.heap.size<=gz by omega) _) (show w0.heap.size<=gz by omega) _) (show w0.heap.size<=gz by omega) _⟩
 ·have HA:Hid (nzRaw x=x):=nz_mid RX.out NX.out (Or.inl hxb)
  have HB:Hid _:=hxb
  go_wp2_with fail
  have hr:Hid _:=rz
  have hr2:=(rows_put1 (Z:=((((w1.setCell ⟨ga,0,none⟩ (.bool true)).setCell ⟨ga,1,none⟩ (.int .i64 x.1)).setCell ⟨ga,2,none⟩ (.int .i64 x.2.1)).setCell ⟨ga,3,none⟩ (.int .u64 (x.2.2.1:Int))).setCell ⟨ga,4,none⟩ (.int .u64 (x.2.2.2.1:Int))) ra.out Hw1.out (by omega) _ _ _ _ _ rfl).out
  replace hr:Hid _:=hr2.2.2 _ _ (by omega) rz.out
  (try simp only [Exit.inBlock, Exit.then]); refine bodyPost_ret (results_cell_row rfl _ _ (gz) 29 #[_, _, _, _, _] (0, 0) _ rfl (row_set5 hr.out _ _ _ _ _) Tryz.underlying29 rfl infoN) rfl ?_
  exact ⟨(by rw [HS.out,HA.out,HB.out]),Ok.set (Ok.set (Ok.set (Ok.set (Ok.set (hr2.1) (show w0.heap.size<=gz by omega) _) (show w0.heap.size<=gz by omega) _) (show w0.heap.size<=gz by omega) _) (show w0.heap.size<=gz by omega) _) (show w0.heap.size<=gz by omega) _⟩
set_option maxRecDepth 100000 in
theorem njoin_any (a b:Int×Int×Nat×Nat×Bool) (ha:RawN a) (hb:RawN b) (w0 w:World) (hok:Ok w0 w) :
  Calls Tryz.prog 22 #[nv a,nv b] w fun e w'=>e=.returned (nv (joinN a b))/\Ok w0 w':=by
 have hle:=hok.le
 have HU:Hid _:=And.intro ha hb
 clear ha hb
 unfold nv
 go_enter Tryz.func22,Tryz.ntmps22
 go_wp2_with fail
 obtain ⟨W,hW⟩:∃ W,W=(((w).alloc (.cells #[.bool a.2.2.2.2,.int .i64 a.1,.int .i64 a.2.1,.int .u64 (a.2.2.1:Int),.int .u64 (a.2.2.2.1:Int)] 29)).alloc (.cells #[.bool b.2.2.2.2,.int .i64 b.1,.int .i64 b.2.1,.int .u64 (b.2.2.1:Int),.int .u64 (b.2.2.2.1:Int)] 29)).alloc (.cells #[.bool false,.int .i64 0,.int .i64 0,.int .u64 0,.int .u64 0] 29):=⟨_,rfl⟩
 have rz:Hid (W.heap[w.heap.size+1+1]?=some (.cells #[.bool false,.int .i64 0,.int .i64 0,.int .u64 0,.int .u64 0] 29)):=by unfold Hid;rw [hW];exact jj
 have HW:Hid (Ok w0 W):=by unfold Hid;rw [hW];exact (by repeat (first | exact hok | refine Ok.alloc ?_ _ | refine Ok.draws ?_ _ | fail))
 rw [<-hW]
 clear hW
 refine (ntog_join a b HU.out.1 HU.out.2 W _ (by repeat (first | exact Ok.refl _ | refine Ok.alloc ?_ _ | refine Ok.draws ?_ _ | fail))).mono ?_
 rintro e w1 ⟨rfl,hb⟩
 have hr:Hid _:=Ok.row' hb rz.out
 obtain ⟨k0,k1,k2,k3,k4,k5,k6,k7,k8,k9⟩:=row5_facts hr.out
 unfold nv
 go_wp2_with fail
 (try simp only [Exit.inBlock, Exit.then]); refine bodyPost_ret (results_cell_row rfl _ _ (w.heap.size+1+1) 29 #[_, _, _, _, _] (0, 0) _ rfl (row_set5 hr.out _ _ _ _ _) Tryz.underlying29 rfl infoN) rfl ?_
 exact ⟨rfl,Ok.set (Ok.set (Ok.set (Ok.set (Ok.set (HW.out.step hb) (show w0.heap.size<=w.heap.size+1+1 by omega) _) (show w0.heap.size<=w.heap.size+1+1 by omega) _) (show w0.heap.size<=w.heap.size+1+1 by omega) _) (show w0.heap.size<=w.heap.size+1+1 by omega) _) (show w0.heap.size<=w.heap.size+1+1 by omega) _⟩
end Go.Proofs.YtpjpjhjjhoeijaaGreat
