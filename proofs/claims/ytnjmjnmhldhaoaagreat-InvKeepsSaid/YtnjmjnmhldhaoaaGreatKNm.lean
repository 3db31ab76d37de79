import Derived.Test.YtnjmjnmhldhaoaaGreatKKt
import Derived.Test.YtnjmjnmhldhaoaaGreatKNl
set_option maxHeartbeats 8000000
set_option linter.all false
namespace Go.Proofs.YtnjmjnmhldhaoaaGreat
open Go.RowKit
theorem one_in:In64 1:=by unfold In64;omega
theorem mone_in:In64 (-1):=by unfold In64;omega
theorem rows_put1 {w0 w1 Z:World} {g:Nat} {p0 p1 p2 p3 p4:Value} {t:TypeId} (ra:w1.heap[g]?=some (.cells #[p0,p1,p2,p3,p4] t (0,0))) (h0:Ok w0 w1) (hg:w0.heap.size<=g) (x0 x1 x2 x3 x4:Value) (hZ:Z=(((((w1.setCell ⟨g,0,none⟩ x0).setCell ⟨g,1,none⟩ x1).setCell ⟨g,2,none⟩ x2).setCell ⟨g,3,none⟩ x3).setCell ⟨g,4,none⟩ x4)) :
  Hid (Ok w0 Z/\Z.heap[g]?=some (.cells #[x0,x1,x2,x3,x4] t (0,0))/\(∀ (h:Nat) (o:Obj),h≠g->w1.heap[h]?=some o->Z.heap[h]?=some o)):=by
 subst hZ
 refine ⟨Ok.set (Ok.set (Ok.set (Ok.set (Ok.set h0 hg _) hg _) hg _) hg _) hg _,row_set5 ra x0 x1 x2 x3 x4,?_⟩
 intro h o h1 ho
 rw [heap_setCell_other _ _ _ _ h1,heap_setCell_other _ _ _ _ h1,heap_setCell_other _ _ _ _ h1,heap_setCell_other _ _ _ _ h1,heap_setCell_other _ _ _ _ h1]
 exact ho
theorem nz_low {x:Int×Int×Nat×Nat×Bool} (h:x.2.2.2.2=false) (h1:x.1=0):nzRaw x=makeN 1 x.2.1 x.2.2.1 x.2.2.2.1:=by
 unfold nzRaw
 rw [if_neg (by rw [h];simp),if_pos h1]
 by_cases c:x.2.1=0
 ·rw [if_pos c,c];unfold makeN;rw [if_pos (by omega),if_pos (by omega)]
 ·rw [if_neg c]
theorem nz_high {x:Int×Int×Nat×Nat×Bool} (h:x.2.2.2.2=false) (h1:x.1≠0) (h2:x.2.1=0):nzRaw x=makeN x.1 (-1) x.2.2.1 x.2.2.2.1:=by
 unfold nzRaw
 rw [if_neg (by rw [h];simp),if_neg h1,if_pos h2]
theorem nz_mid {x:Int×Int×Nat×Nat×Bool} (rx:RawN x) (nx:NormN x) (h1:x.2.2.2.2=true\/(x.1≠0/\x.2.1≠0)):nzRaw x=x:=by
 refine norm_ext (nzRaw_norm rx nx) nx (fun v hv=>?_)
 rw [nzRaw_mem rx hv]
 refine ⟨fun m=>m.1,fun m=>⟨m,fun z=>?_⟩⟩
 rcases h1 with h1 | h1
 ·have:=m.1;rw [h1] at this;cases this
 ·exact h1
set_option maxRecDepth 100000 in
theorem nmeet_any (a b:Int×Int×Nat×Nat×Bool) (ha:RawN a) (hb:RawN b) (w0 w:World) (hok:Ok w0 w) :
  Calls Tryz.prog 41 #[nv a,nv b] w fun e w'=>e=.returned (nv (meetN a b))/\Ok w0 w':=by
 have hle:=hok.le
 have HU:Hid _:=And.intro ha hb
 clear ha hb
 obtain ⟨x,hx⟩:∃ x,x=normN a:=⟨_,rfl⟩
 obtain ⟨y,hy⟩:∃ x,x=normN b:=⟨_,rfl⟩
 have HS:Hid (meetN a b=meetRaw x y):=by unfold Hid;rw [hx,hy];rfl
 have RX:Hid (RawN x/\RawN y):=by rw [hx,hy];exact ⟨normN_raw HU.out.1,normN_raw HU.out.2⟩
 have NX:Hid (NormN x/\NormN y):=by rw [hx,hy];exact ⟨normN_norm HU.out.1,normN_norm HU.out.2⟩
 have HX:Hid _:=hx
 have HY:Hid _:=hy
 clear hx hy
 unfold nv
 go_enter Tryz.func41,Tryz.ntmps41
 go_wp2_with fail
 obtain ⟨W,hW⟩:∃ W,W=(((w).alloc (.cells #[.bool a.2.2.2.2,.int .i64 a.1,.int .i64 a.2.1,.int .u64 (a.2.2.1:Int),.int .u64 (a.2.2.2.1:Int)] 29)).alloc (.cells #[.bool b.2.2.2.2,.int .i64 b.1,.int .i64 b.2.1,.int .u64 (b.2.2.1:Int),.int .u64 (b.2.2.2.1:Int)] 29)).alloc (.cells #[.bool false,.int .i64 0,.int .i64 0,.int .u64 0,.int .u64 0] 29):=⟨_,rfl⟩
 have ra:Hid (W.heap[w.heap.size]?=some (.cells #[.bool a.2.2.2.2,.int .i64 a.1,.int .i64 a.2.1,.int .u64 (a.2.2.1:Int),.int .u64 (a.2.2.2.1:Int)] 29)):=by unfold Hid;rw [hW];exact jj
 have rb:Hid (W.heap[w.heap.size+1]?=some (.cells #[.bool b.2.2.2.2,.int .i64 b.1,.int .i64 b.2.1,.int .u64 (b.2.2.1:Int),.int .u64 (b.2.2.2.1:Int)] 29)):=by unfold Hid;rw [hW];exact jj
 have rz:Hid (W.heap[w.heap.size+1+1]?=some (.cells #[.bool false,.int .i64 0,.int .i64 0,.int .u64 0,.int .u64 0] 29)):=by unfold Hid;rw [hW];exact jj
 have HW:Hid (Ok w0 W):=by unfold Hid;rw [hW];exact (by repeat (first | exact hok | refine Ok.alloc ?_ _ | refine Ok.draws ?_ _ | fail))
 rw [<-hW]
 clear hW
 obtain ⟨gz,egz⟩:∃ g,g=w.heap.size+1+1:=⟨_,rfl⟩
 rw [<-egz] at rz ⊢
 obtain ⟨gb,egb⟩:∃ g,g=w.heap.size+1:=⟨_,rfl⟩
 rw [<-egb] at rb ⊢
 obtain ⟨ga,ega⟩:∃ g,g=w.heap.size:=⟨_,rfl⟩
 rw [<-ega] at ra ⊢
 have lga:w0.heap.size<=ga:=by omega
 have ngagb:¬ga=gb:=by omega
 have ngagz:¬ga=gz:=by omega
 have lgb:w0.heap.size<=gb:=by omega
 have ngbga:¬gb=ga:=by omega
 have ngbgz:¬gb=gz:=by omega
 have lgz:w0.heap.size<=gz:=by omega
 have ngzga:¬gz=ga:=by omega
 have ngzgb:¬gz=gb:=by omega
 clear ega egb egz
 apply wp_cutN (fun w1=>Hid (Ok w0 w1/\w1.heap[ga]?=some (.cells #[.bool x.2.2.2.2,.int .i64 x.1,.int .i64 x.2.1,.int .u64 (x.2.2.1:Int),.int .u64 (x.2.2.2.1:Int)] 29)/\w1.heap[gb]?=some (.cells #[.bool y.2.2.2.2,.int .i64 y.1,.int .i64 y.2.1,.int .u64 (y.2.2.1:Int),.int .u64 (y.2.2.2.1:Int)] 29)/\(∀ (h:Nat) (o:Obj),h≠ga->h≠gb->W.heap[h]?=some o->w1.heap[h]?=some o)))
 case h1 =>
  obtain ⟨a0,a1,a2,a3,a4,a5,a6,a7,a8,a9⟩:=row5_facts ra.out
  obtain ⟨b0,b1,b2,b3,b4,b5,b6,b7,b8,b9⟩:=row5_facts rb.out
  have bz:Ok W W:=Ok.refl _
  go_region_with (go_at_call 7;refine (nnorm_any _ (by first | exact HU.out.1 | exact HU.out.2) W _ (by first | assumption | exact Below.drew (by assumption))).mono ?_;rintro e w1 ⟨rfl,hb⟩;(first | rw [<-HX.out] | rw [<-HY.out]);unfold nv;obtain ⟨a0,a1,a2,a3,a4,a5,a6,a7,a8,a9⟩:=row5_facts (Ok.row' hb ra.out);obtain ⟨b0,b1,b2,b3,b4,b5,b6,b7,b8,b9⟩:=row5_facts (Ok.row' hb rb.out))
  all_goals exact ⟨rfl,rows_put2 (by omega) ra.out rb.out hb HW.out (by omega) (by omega) _ _ _ _ _ _ _ _ _ _⟩
 case h2 =>
  rintro Z H
  obtain ⟨HZ,raz,rbz,keep⟩:=H.out
  replace HZ:Hid (Ok w0 Z):=HZ
  replace raz:Hid _:=raz
  replace rbz:Hid _:=rbz
  replace rz:Hid _:=keep _ _ (by omega) (by omega) rz.out
  clear H ra rb keep
  obtain ⟨a0,a1,a2,a3,a4,a5,a6,a7,a8,a9⟩:=row5_facts raz.out
  obtain ⟨b0,b1,b2,b3,b4,b5,b6,b7,b8,b9⟩:=row5_facts rbz.out
  obtain ⟨k0,k1,k2,k3,k4,k5,k6,k7,k8,k9⟩:=row5_facts rz.out
  cases hxb:x.2.2.2.2
  ·rw [hxb] at a0
   cases hyb:y.2.2.2.2
   ·rw [hyb] at b0
    have HB:Hid (¬(x.2.2.2.2=true\/y.2.2.2.2=true)):=by unfold Hid;rw [hxb,hyb];simp
    obtain ⟨m,hm⟩:∃ m,m=meetC x.2.2.1 x.2.2.2.1 y.2.2.1 y.2.2.2.1:=⟨_,rfl⟩
    have UM:Hid (U64 m.1/\U64 m.2.1):=by rw [hm];exact meet_u64 RX.out.1.2.2.1 RX.out.1.2.2.2 RX.out.2.2.2.1 RX.out.2.2.2.2
    obtain ⟨q,hq⟩:∃ q,q=meetI x.1 x.2.1 y.1 y.2.1:=⟨_,rfl⟩
    have UQ:Hid (In64 q.1/\In64 q.2):=by rw [hq];exact meetI_in RX.out.1.1 RX.out.1.2.1 RX.out.2.1 RX.out.2.2.1
    have EM:Hid _:=hm
    have EQ:Hid _:=hq
    clear hm hq
    go_wp2_with fail
    refine (pmeet_any x.2.2.1 x.2.2.2.1 y.2.2.1 y.2.2.2.1 RX.out.1.2.2.1 RX.out.1.2.2.2 RX.out.2.2.2.1 RX.out.2.2.2.2 Z _ (by repeat (first | exact Ok.refl _ | refine Ok.alloc ?_ _ | refine Ok.draws ?_ _ | fail))).mono ?_
    rintro e z1 ⟨rfl,hb⟩
    replace raz:Hid _:=Ok.row' hb raz.out
    replace rbz:Hid _:=Ok.row' hb rbz.out
    replace rz:Hid _:=Ok.row' hb rz.out
    have Hz1:Hid (Ok w0 z1):=HZ.out.step hb
    clear hb
    rw [<-EM.out]
    clear a0 a1 a2 a3 a4 a5 a6 a7 a8 a9 b0 b1 b2 b3 b4 b5 b6 b7 b8 b9 k0 k1 k2 k3 k4 k5 k6 k7 k8 k9
    obtain ⟨a0,a1,a2,a3,a4,a5,a6,a7,a8,a9⟩:=row5_facts raz.out
    obtain ⟨b0,b1,b2,b3,b4,b5,b6,b7,b8,b9⟩:=row5_facts rbz.out
    obtain ⟨k0,k1,k2,k3,k4,k5,k6,k7,k8,k9⟩:=row5_facts rz.out
    unfold cv
    cases hmb:m.2.2
    ·have HA:Hid (meetRaw x y=botN):=by unfold Hid meetRaw;rw [if_neg HB.out,if_pos (by rw [<-EM.out];exact hmb)]
     go_wp2_with fail
     refine (nbot_any z1 _ (by repeat (first | exact Ok.refl _ | refine Ok.alloc ?_ _ | refine Ok.draws ?_ _ | fail))).mono ?_
     rintro e z9 ⟨rfl,hb⟩
     have hr:Hid _:=Ok.row' hb rz.out
     obtain ⟨k0,k1,k2,k3,k4,k5,k6,k7,k8,k9⟩:=row5_facts hr.out
     unfold nv botN
     go_wp2_with fail
     (try simp only [Exit.inBlock, Exit.then]); refine bodyPost_ret (results_cell_row rfl _ _ (gz) 29 #[_, _, _, _, _] (0, 0) _ rfl (row_set5 hr.out _ _ _ _ _) Tryz.underlying29 rfl infoN) rfl ?_
     exact ⟨(by rw [HS.out,HA.out];rfl),Ok.set (Ok.set (Ok.set (Ok.set (Ok.set (Hz1.out.step hb) (show w0.heap.size<=gz by omega) _) (show w0.heap.size<=gz by omega) _) (show w0.heap.size<=gz by omega) _) (show w0.heap.size<=gz by omega) _) (show w0.heap.size<=gz by omega) _⟩
    ·have HA:Hid (meetRaw x y=makeN q.1 q.2 m.1 m.2.1):=by unfold Hid meetRaw;rw [if_neg HB.out,if_neg (by rw [<-EM.out,hmb];simp),<-EM.out,<-EQ.out]
     go_wp2_with fail
     obtain ⟨Y0,hY0⟩:∃ W,W=z1.alloc (.cells #[.int .u64 (m.1:Int),.int .u64 (m.2.1:Int)] 27):=⟨_,rfl⟩
     have OY:Ok z1 Y0:=by rw [hY0];exact (Ok.refl _).alloc _
     have rc:Hid (Y0.heap[z1.heap.size]?=some (.cells #[.int .u64 (m.1:Int),.int .u64 (m.2.1:Int)] 27)):=by unfold Hid;rw [hY0];exact heap_new0 _ _
     rw [<-hY0]
     have HY0:Hid (Ok w0 Y0):=Hz1.out.step OY
     have q1:=lt_row rz.out
     have q2:=lt_row raz.out
     have q3:=lt_row rbz.out
     have n1:¬z1.heap.size=gz:=by omega
     have n2:¬gz=z1.heap.size:=by omega
     replace raz:Hid _:=Ok.row' OY raz.out
     replace rbz:Hid _:=Ok.row' OY rbz.out
     replace rz:Hid _:=Ok.row' OY rz.out
     have zz:=lt_row rc.out
     have y1:=Hz1.out.le
     obtain ⟨gc,egc⟩:∃ g,g=z1.heap.size:=⟨_,rfl⟩
     rw [<-egc] at rc n1 n2 ⊢
     have ngc:Hid _:=egc
     clear hY0 OY egc a0 a1 a2 a3 a4 a5 a6 a7 a8 a9 b0 b1 b2 b3 b4 b5 b6 b7 b8 b9 k0 k1 k2 k3 k4 k5 k6 k7 k8 k9
     obtain ⟨a0,a1,a2,a3,a4,a5,a6,a7,a8,a9⟩:=row5_facts raz.out
     obtain ⟨b0,b1,b2,b3,b4,b5,b6,b7,b8,b9⟩:=row5_facts rbz.out
     obtain ⟨k0,k1,k2,k3,k4,k5,k6,k7,k8,k9⟩:=row5_facts rz.out
     obtain ⟨c0,c1,c2,c3⟩:=row_facts rc.out
     have za:=lt_row raz.out
     have zb:=lt_row rbz.out
     have zc:=lt_row rc.out
     have bz:Ok Y0 Y0:=Ok.refl _
     skip
     go_region_held3 (fun w'=>w'.cell? ⟨ga,1,none⟩=some (.int .i64 x.1)/\w'.cell? ⟨ga,2,none⟩=some (.int .i64 x.2.1)/\w'.cell? ⟨gb,1,none⟩=some (.int .i64 y.1)/\w'.cell? ⟨gb,2,none⟩=some (.int .i64 y.2.1)/\w'.cell? ⟨gc,0,none⟩=some (.int .u64 (m.1:Int))/\w'.cell? ⟨gc,1,none⟩=some (.int .u64 (m.2.1:Int))) (go_keep)
      (first
      | (go_at_call 84;refine (Jpmeet_any _ _ _ _ Y0 _ (by repeat (first | assumption | refine Ok.alloc ?_ _ | refine Below.drew ?_))).mono ?_;rintro e w' ⟨rfl,hb⟩;rw [<-EQ.out];have q0:=Ok.cell hb za a1;have q1:=Ok.cell hb za a2;have q2:=Ok.cell hb zb b1;have q3:=Ok.cell hb zb b2;have q4:=Ok.cell hb zc c0;have q5:=Ok.cell hb zc c1;obtain ⟨k0,k1,k2,k3,k4,k5,k6,k7,k8,k9⟩:=row5_facts (Ok.row' hb rz.out))
      | (go_at_call 19;refine (nmake_any _ _ _ _ UQ.out.1 UQ.out.2 UM.out.1 UM.out.2 Y0 _ (by repeat (first | assumption | refine Ok.alloc ?_ _ | refine Below.drew ?_))).mono ?_;rintro e w' ⟨rfl,hb⟩;rw [<-HA.out];unfold nv;have q0:=Ok.cell hb za a1;have q1:=Ok.cell hb za a2;have q2:=Ok.cell hb zb b1;have q3:=Ok.cell hb zb b2;have q4:=Ok.cell hb zc c0;have q5:=Ok.cell hb zc c1;obtain ⟨k0,k1,k2,k3,k4,k5,k6,k7,k8,k9⟩:=row5_facts (Ok.row' hb rz.out))
      | fail)
     go_wp2_with fail
     have hr:Hid _:=Ok.row' hb rz.out
     (try simp only [Exit.inBlock, Exit.then]); refine bodyPost_ret (results_cell_row rfl _ _ (gz) 29 #[_, _, _, _, _] (0, 0) _ rfl (row_set5 hr.out _ _ _ _ _) Tryz.underlying29 rfl infoN) rfl ?_
     exact ⟨(by rw [HS.out]),Ok.set (Ok.set (Ok.set (Ok.set (Ok.set (HY0.out.step hb) (show w0.heap.size<=gz by omega) _) (show w0.heap.size<=gz by omega) _) (show w0.heap.size<=gz by omega) _) (show w0.heap.size<=gz by omega) _) (show w0.heap.size<=gz by omega) _⟩
   ·rw [hyb] at b0
    have HA:Hid (meetRaw x y=botN):=by unfold Hid meetRaw;rw [if_pos (Or.inr hyb)]
    go_wp2_with fail
    refine (nbot_any Z _ (by repeat (first | exact Ok.refl _ | refine Ok.alloc ?_ _ | refine Ok.draws ?_ _ | fail))).mono ?_
    rintro e z9 ⟨rfl,hb⟩
    have hr:Hid _:=Ok.row' hb rz.out
    obtain ⟨k0,k1,k2,k3,k4,k5,k6,k7,k8,k9⟩:=row5_facts hr.out
    unfold nv botN
    go_wp2_with fail
    (try simp only [Exit.inBlock, Exit.then]); refine bodyPost_ret (results_cell_row rfl _ _ (gz) 29 #[_, _, _, _, _] (0, 0) _ rfl (row_set5 hr.out _ _ _ _ _) Tryz.underlying29 rfl infoN) rfl ?_
    exact ⟨(by rw [HS.out,HA.out];rfl),Ok.set (Ok.set (Ok.set (Ok.set (Ok.set (HZ.out.step hb) (show w0.heap.size<=gz by omega) _) (show w0.heap.size<=gz by omega) _) (show w0.heap.size<=gz by omega) _) (show w0.heap.size<=gz by omega) _) (show w0.heap.size<=gz by omega) _⟩
  ·rw [hxb] at a0
   have HA:Hid (meetRaw x y=botN):=by unfold Hid meetRaw;rw [if_pos (Or.inl hxb)]
   go_wp2_with fail
   refine (nbot_any Z _ (by repeat (first | exact Ok.refl _ | refine Ok.alloc ?_ _ | refine Ok.draws ?_ _ | fail))).mono ?_
   rintro e z9 ⟨rfl,hb⟩
   have hr:Hid _:=Ok.row' hb rz.out
   obtain ⟨k0,k1,k2,k3,k4,k5,k6,k7,k8,k9⟩:=row5_facts hr.out
   unfold nv botN
   go_wp2_with fail
   (try simp only [Exit.inBlock, Exit.then]); refine bodyPost_ret (results_cell_row rfl _ _ (gz) 29 #[_, _, _, _, _] (0, 0) _ rfl (row_set5 hr.out _ _ _ _ _) Tryz.underlying29 rfl infoN) rfl ?_
   exact ⟨(by rw [HS.out,HA.out];rfl),Ok.set (Ok.set (Ok.set (Ok.set (Ok.set (HZ.out.step hb) (show w0.heap.size<=gz by omega) _) (show w0.heap.size<=gz by omega) _) (show w0.heap.size<=gz by omega) _) (show w0.heap.size<=gz by omega) _) (show w0.heap.size<=gz by omega) _⟩
set_option maxRecDepth 100000 in
theorem nnz_any (a:Int×Int×Nat×Nat×Bool) (ha:RawN a) (w0 w:World) (hok:Ok w0 w) :
  Calls Tryz.prog 50 #[nv a] w fun e w'=>e=.returned (nv (nonZeroN a))/\Ok w0 w':=by
 have hle:=hok.le
 have HU:Hid _:=ha
 clear ha
 obtain ⟨x,hx⟩:∃ x,x=normN a:=⟨_,rfl⟩
 have HX:Hid _:=hx
 clear hx
 have HS:Hid (nonZeroN a=nzRaw x):=by unfold Hid nonZeroN;rw [HX.out]
 have RX:Hid (RawN x):=by rw [HX.out];exact normN_raw HU.out
 unfold nv
 go_enter Tryz.func50,Tryz.ntmps50
 go_wp2_with fail
 obtain ⟨W,hW⟩:∃ W,W=((w).alloc (.cells #[.bool a.2.2.2.2,.int .i64 a.1,.int .i64 a.2.1,.int .u64 (a.2.2.1:Int),.int .u64 (a.2.2.2.1:Int)] 29)).alloc (.cells #[.bool false,.int .i64 0,.int .i64 0,.int .u64 0,.int .u64 0] 29):=⟨_,rfl⟩
 have ra:Hid (W.heap[w.heap.size]?=some (.cells #[.bool a.2.2.2.2,.int .i64 a.1,.int .i64 a.2.1,.int .u64 (a.2.2.1:Int),.int .u64 (a.2.2.2.1:Int)] 29)):=by unfold Hid;rw [hW];exact jj
 have rz:Hid (W.heap[w.heap.size+1]?=some (.cells #[.bool false,.int .i64 0,.int .i64 0,.int .u64 0,.int .u64 0] 29)):=by unfold Hid;rw [hW];exact jj
 have HW:Hid (Ok w0 W):=by unfold Hid;rw [hW];exact (by repeat (first | exact hok | refine Ok.alloc ?_ _ | refine Ok.draws ?_ _ | fail))
 rw [<-hW]
 clear hW
 obtain ⟨gz,egz⟩:∃ g,g=w.heap.size+1:=⟨_,rfl⟩
 rw [<-egz] at rz ⊢
 obtain ⟨ga,ega⟩:∃ g,g=w.heap.size:=⟨_,rfl⟩
 rw [<-ega] at ra ⊢
 have lga:w0.heap.size<=ga:=by omega
 have ngagz:¬ga=gz:=by omega
 have lgz:w0.heap.size<=gz:=by omega
 have ngzga:¬gz=ga:=by omega
 clear ega egz
 refine (nnorm_any a HU.out W _ (by repeat (first | exact Ok.refl _ | refine Ok.alloc ?_ _ | refine Ok.draws ?_ _ | fail))).mono ?_
 rintro e w1 ⟨rfl,hb⟩
 replace ra:Hid _:=Ok.row' hb ra.out
 replace rz:Hid _:=Ok.row' hb rz.out
 have Hw1:Hid (Ok w0 w1):=HW.out.step hb
 clear hb
 rw [<-HX.out]
 unfold nv
 have NX:Hid (NormN x):=by rw [HX.out];exact normN_norm HU.out
 obtain ⟨a0,a1,a2,a3,a4,a5,a6,a7,a8,a9⟩:=row5_facts ra.out
 obtain ⟨k0,k1,k2,k3,k4,k5,k6,k7,k8,k9⟩:=row5_facts rz.out
 cases hxb:x.2.2.2.2
 ·have HB:Hid _:=hxb
  by_cases h1:x.1=0
  ·have HA:Hid (nzRaw x=makeN 1 x.2.1 x.2.2.1 x.2.2.2.1):=nz_low hxb h1
   have H1:Hid _:=h1
   have d1:(x.1==0)=true:=by simpa using h1
   clear h1
   go_wp2_with fail
   obtain ⟨Z,hZ⟩:∃ Z,Z=(((((w1.setCell ⟨ga,0,none⟩ (.bool false)).setCell ⟨ga,1,none⟩ (.int .i64 x.1)).setCell ⟨ga,2,none⟩ (.int .i64 x.2.1)).setCell ⟨ga,3,none⟩ (.int .u64 (x.2.2.1:Int))).setCell ⟨ga,4,none⟩ (.int .u64 (x.2.2.2.1:Int))):=⟨_,rfl⟩
   obtain ⟨HZ,raz,keep⟩:=(rows_put1 ra.out Hw1.out (by omega) _ _ _ _ _ hZ).out
   replace HZ:Hid (Ok w0 Z):=HZ
   replace raz:Hid _:=raz
   replace rz:Hid _:=keep _ _ (by omega) rz.out
   rw [<-hZ]
   clear hZ keep ra
   clear a0 a1 a2 a3 a4 a5 a6 a7 a8 a9 k0 k1 k2 k3 k4 k5 k6 k7 k8 k9
   refine (nmake_any 1 x.2.1 x.2.2.1 x.2.2.2.1 one_in RX.out.2.1 RX.out.2.2.1 RX.out.2.2.2 Z _ (by repeat (first | exact Ok.refl _ | refine Ok.alloc ?_ _ | refine Ok.draws ?_ _ | fail))).mono ?_
   rintro e z1 ⟨rfl,hb⟩
   have hr:Hid _:=Ok.row' hb rz.out
   obtain ⟨k0,k1,k2,k3,k4,k5,k6,k7,k8,k9⟩:=row5_facts hr.out
   rw [<-HA.out]
   unfold nv
   go_wp2_with fail
   (try simp only [Exit.inBlock, Exit.then]); refine bodyPost_ret (results_cell_row rfl _ _ (gz) 29 #[_, _, _, _, _] (0, 0) _ rfl (row_set5 hr.out _ _ _ _ _) Tryz.underlying29 rfl infoN) rfl ?_
   exact ⟨(by rw [HS.out]),Ok.set (Ok.set (Ok.set (Ok.set (Ok.set (HZ.out.step hb) (show w0.heap.size<=gz by omega) _) (show w0.heap.size<=gz by omega) _) (show w0.heap.size<=gz by omega) _) (show w0.heap.size<=gz by omega) _) (show w0.heap.size<=gz by omega) _⟩
  by_cases h2:x.2.1=0
  ·have HA:Hid (nzRaw x=makeN x.1 (-1) x.2.2.1 x.2.2.2.1):=nz_high hxb h1 h2
   have d1:(x.1==0)=false:=by simpa using h1
   have d2:(x.2.1==0)=true:=by simpa using h2
   clear h1 h2
   go_wp2_with fail
   obtain ⟨Z,hZ⟩:∃ Z,Z=(((((w1.setCell ⟨ga,0,none⟩ (.bool false)).setCell ⟨ga,1,none⟩ (.int .i64 x.1)).setCell ⟨ga,2,none⟩ (.int .i64 x.2.1)).setCell ⟨ga,3,none⟩ (.int .u64 (x.2.2.1:Int))).setCell ⟨ga,4,none⟩ (.int .u64 (x.2.2.2.1:Int))):=⟨_,rfl⟩
   obtain ⟨HZ,raz,keep⟩:=(rows_put1 ra.out Hw1.out (by omega) _ _ _ _ _ hZ).out
   replace HZ:Hid (Ok w0 Z):=HZ
   replace raz:Hid _:=raz
   replace rz:Hid _:=keep _ _ (by omega) rz.out
   rw [<-hZ]
   clear hZ keep ra
   clear a0 a1 a2 a3 a4 a5 a6 a7 a8 a9 k0 k1 k2 k3 k4 k5 k6 k7 k8 k9
   refine (nmake_any x.1 (-1) x.2.2.1 x.2.2.2.1 RX.out.1 mone_in RX.out.2.2.1 RX.out.2.2.2 Z _ (by repeat (first | exact Ok.refl _ | refine Ok.alloc ?_ _ | refine Ok.draws ?_ _ | fail))).mono ?_
   rintro e z1 ⟨rfl,hb⟩
   have hr:Hid _:=Ok.row' hb rz.out
   obtain ⟨k0,k1,k2,k3,k4,k5,k6,k7,k8,k9⟩:=row5_facts hr.out
   rw [<-HA.out]
   unfold nv
   go_wp2_with fail
   (try simp only [Exit.inBlock, Exit.then]); refine bodyPost_ret (results_cell_row rfl _ _ (gz) 29 #[_, _, _, _, _] (0, 0) _ rfl (row_set5 hr.out _ _ _ _ _) Tryz.underlying29 rfl infoN) rfl ?_
   exact ⟨(by rw [HS.out]),Ok.set (Ok.set (Ok.set (Ok.set (Ok.set (HZ.out.step hb) (show w0.heap.size<=gz by omega) _) (show w0.heap.size<=gz by omega) _) (show w0.heap.size<=gz by omega) _) (show w0.heap.size<=gz by omega) _) (show w0.heap.size<=gz by omega) _⟩
  have HA:Hid (nzRaw x=x):=nz_mid RX.out NX.out (Or.inr ⟨h1,h2⟩)
  have d1:(x.1==0)=false:=by simpa using h1
  have d2:(x.2.1==0)=false:=by simpa using h2
  clear h1 h2
  go_wp2_with fail
  have hr:Hid _:=rz
  have hr2:=(rows_put1 (Z:=((((w1.setCell ⟨ga,0,none⟩ (.bool false)).setCell ⟨ga,1,none⟩ (.int .i64 x.1)).setCell ⟨ga,2,none⟩ (.int .i64 x.2.1)).setCell ⟨ga,3,none⟩ (.int .u64 (x.2.2.1:Int))).setCell ⟨ga,4,none⟩ (.int .u64 (x.2.2.2.1:Int))) ra.out Hw1.out (by omega) _ _ _ _ _ rfl).out
  replace hr:Hid _:=hr2.2.2 _ _ (by omega) rz.out
  (try simp only [Exit.inBlock, Exit.then]); refine bodyPost_ret (results_cell_row rfl _ _ (gz) 29 #[_, _, _, _, _] (0, 0) _ rfl (row_set5 hr.out _ _ _ _ _) Tryz.underlying29 rfl infoN) rfl ?_
  exact ⟨(by rw [HS.out,HA.out,HB.out]),Ok.set (Ok.set (Ok.set (Ok.set (Ok.set (hr2.1) (show w0.heap.size<=gz by omega) _) (show w0.heap.size<=gz by omega) _) (show w0.heap.size<=gz by omega) _) (show w0.heap.size<=gz by omega) _) (show w0.heap.size<=gz by omega) _⟩
 ·have HA:Hid (nzRaw x=x):=nz_mid RX.out NX.out (Or.inl hxb)
  have HB:Hid _:=hxb
  go_wp2_with fail
  have hr:Hid _:=rz
  have hr2:=(rows_put1 (Z:=((((w1.setCell ⟨ga,0,none⟩ (.bool true)).setCell ⟨ga,1,none⟩ (.int .i64 x.1)).setCell ⟨ga,2,none⟩ (.int .i64 x.2.1)).setCell ⟨ga,3,none⟩ (.int .u64 (x.2.2.1:Int))).setCell ⟨ga,4,none⟩ (.int .u64 (x.2.2.2.1:Int))) ra.out Hw1.out (by omega) _ _ _ _ _ rfl).out
  replace hr:Hid _:=hr2.2.2 _ _ (by omega) rz.out
  (try simp only [Exit.inBlock, Exit.then]); refine bodyPost_ret (results_cell_row rfl _ _ (gz) 29 #[_, _, _, _, _] (0, 0) _ rfl (row_set5 hr.out _ _ _ _ _) Tryz.underlying29 rfl infoN) rfl ?_
  exact ⟨(by rw [HS.out,HA.out,HB.out]),Ok.set (Ok.set (Ok.set (Ok.set (Ok.set (hr2.1) (show w0.heap.size<=gz by omega) _) (show w0.heap.size<=gz by omega) _) (show w0.heap.size<=gz by omega) _) (show w0.heap.size<=gz by omega) _) (show w0.heap.size<=gz by omega) _⟩
end Go.Proofs.YtnjmjnmhldhaoaaGreat
