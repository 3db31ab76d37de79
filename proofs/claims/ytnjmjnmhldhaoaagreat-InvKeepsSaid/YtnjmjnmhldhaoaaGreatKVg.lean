import Derived.Deep.Cut
import Derived.Deep.CutRange
import Derived.Deep.RegionHeld3
import Derived.Test.YtnjmjnmhldhaoaaGreatKNm
import Derived.Test.YtnjmjnmhldhaoaaGreatKNps
import Derived.Test.YtnjmjnmhldhaoaaGreatKVc
set_option maxHeartbeats 8000000
set_option linter.all false
namespace Go.Proofs.YtnjmjnmhldhaoaaGreat
section
open Go.RowKit Go.Shelf
theorem rows_putr {w0 w1 Z:World} {g k:Nat} {p0 p1 p2 p3 p4 q0 q1 q2 q3 q4:Value} {t:TypeId} (hgk:g≠k) (ra:w1.heap[g]?=some (.cells #[p0,p1,p2,p3,p4] t (0,0))) (rb:w1.heap[k]?=some (.cells #[q0,q1,q2,q3,q4] t (0,0))) (h0:Ok w0 w1) (hg:w0.heap.size<=g) (hk:w0.heap.size<=k) (x0 x1 x2 x3 x4 y0 y1 y2 y3 y4:Value) (hZ:Z=((((((((((w1.setCell ⟨g,0,none⟩ x0).setCell ⟨g,1,none⟩ x1).setCell ⟨g,2,none⟩ x2).setCell ⟨g,3,none⟩ x3).setCell ⟨g,4,none⟩ x4).setCell ⟨k,0,none⟩ y0).setCell ⟨k,1,none⟩ y1).setCell ⟨k,2,none⟩ y2).setCell ⟨k,3,none⟩ y3).setCell ⟨k,4,none⟩ y4)) :
  Ok w0 Z/\Z.heap[g]?=some (.cells #[x0,x1,x2,x3,x4] t (0,0))/\Z.heap[k]?=some (.cells #[y0,y1,y2,y3,y4] t (0,0)):=by
 have h:=(rows_put2 hgk ra rb (Ok.refl w1) h0 hg hk x0 x1 x2 x3 x4 y0 y1 y2 y3 y4).out
 subst hZ
 exact ⟨h.1,h.2.1,h.2.2.1⟩
set_option maxRecDepth 100000 in
theorem vclo1 (x y:Int×Int×Nat×Nat×Bool) (hx:RawN x) (hy:RawN y) (ga gb:Nat) (w:World) (ra0:w.heap[ga]?=some (.cells #[.bool x.2.2.2.2,.int .i64 x.1,.int .i64 x.2.1,.int .u64 (x.2.2.1:Int),.int .u64 (x.2.2.2.1:Int)] 29)) (rb0:w.heap[gb]?=some (.cells #[.bool y.2.2.2.2,.int .i64 y.1,.int .i64 y.2.1,.int .u64 (y.2.2.1:Int),.int .u64 (y.2.2.2.1:Int)] 29)) :
  Calls Tryz.prog 109 #[.pointer (some ⟨ga,0,none⟩),.pointer (some ⟨gb,0,none⟩)] w fun e w'=>e=.returned (.tuple #[nv (belN x y.2.1),nv (aboN y x.1)])/\Ok w w':=by
 have HU:Hid (RawN x/\RawN y):=⟨hx,hy⟩
 clear hx hy
 obtain ⟨l,hl⟩:∃ t,t=belN x y.2.1:=⟨_,rfl⟩
 obtain ⟨r,hr⟩:∃ t,t=aboN y x.1:=⟨_,rfl⟩
 rw [<-hl,<-hr]
 have HL:Hid _:=hl
 have HR:Hid _:=hr
 clear hl hr
 have ra:Hid _:=ra0
 have rb:Hid _:=rb0
 clear ra0 rb0
 have hla:=lt_row ra.out
 have hlb:=lt_row rb.out
 have hok:=Ok.refl w
 unfold nv
 go_enter Tryz.func109,Tryz.ntmps109
 go_wp2_with fail
 obtain ⟨W,hW⟩:∃ W,W=((w).alloc (.cells #[.bool false,.int .i64 0,.int .i64 0,.int .u64 0,.int .u64 0] 29)).alloc (.cells #[.bool false,.int .i64 0,.int .i64 0,.int .u64 0,.int .u64 0] 29):=⟨_,rfl⟩
 have rl:Hid (W.heap[w.heap.size]?=some (.cells #[.bool false,.int .i64 0,.int .i64 0,.int .u64 0,.int .u64 0] 29)):=by unfold Hid;rw [hW];exact jj
 have rr:Hid (W.heap[w.heap.size+1]?=some (.cells #[.bool false,.int .i64 0,.int .i64 0,.int .u64 0,.int .u64 0] 29)):=by unfold Hid;rw [hW];exact jj
 have HW:Hid (Ok w W):=by unfold Hid;rw [hW];exact (by repeat (first | exact hok | refine Ok.alloc ?_ _ | refine Ok.draws ?_ _ | fail))
 rw [<-hW]
 clear hW
 have hO:Ok w W:=HW.out
 replace ra:Hid _:=Ok.row' hO ra.out
 replace rb:Hid _:=Ok.row' hO rb.out
 clear hO
 obtain ⟨gr,egr⟩:∃ g,g=w.heap.size+1:=⟨_,rfl⟩
 rw [<-egr] at rr ⊢
 obtain ⟨gl,egl⟩:∃ g,g=w.heap.size:=⟨_,rfl⟩
 rw [<-egl] at rl ⊢
 have lgl:w.heap.size<=gl:=by omega
 have nglgr:¬gl=gr:=by omega
 have lgr:w.heap.size<=gr:=by omega
 have ngrgl:¬gr=gl:=by omega
 clear egl egr
 have ngagl:¬ga=gl:=by omega
 have ngagr:¬ga=gr:=by omega
 have ngbgl:¬gb=gl:=by omega
 have ngbgr:¬gb=gr:=by omega
 have nglga:¬gl=ga:=by omega
 have ngrga:¬gr=ga:=by omega
 have nglgb:¬gl=gb:=by omega
 have ngrgb:¬gr=gb:=by omega
 obtain ⟨a0,a1,a2,a3,a4,a5,a6,a7,a8,a9⟩:=row5_facts ra.out
 obtain ⟨b0,b1,b2,b3,b4,b5,b6,b7,b8,b9⟩:=row5_facts rb.out
 obtain ⟨k0,k1,k2,k3,k4,k5,k6,k7,k8,k9⟩:=row5_facts rl.out
 obtain ⟨j0,j1,j2,j3,j4,j5,j6,j7,j8,j9⟩:=row5_facts rr.out
 have za:=lt_row ra.out
 have zb:=lt_row rb.out
 have bz:Ok W W:=Ok.refl _
 go_region_held3 (fun w'=>w'.cell? ⟨ga,0,none⟩=some (.bool x.2.2.2.2)/\w'.cell? ⟨ga,1,none⟩=some (.int .i64 x.1)/\w'.cell? ⟨ga,2,none⟩=some (.int .i64 x.2.1)/\w'.cell? ⟨ga,3,none⟩=some (.int .u64 (x.2.2.1:Int))/\w'.cell? ⟨ga,4,none⟩=some (.int .u64 (x.2.2.2.1:Int))/\w'.cell? ⟨gb,0,none⟩=some (.bool y.2.2.2.2)/\w'.cell? ⟨gb,1,none⟩=some (.int .i64 y.1)/\w'.cell? ⟨gb,2,none⟩=some (.int .i64 y.2.1)/\w'.cell? ⟨gb,3,none⟩=some (.int .u64 (y.2.2.1:Int))/\w'.cell? ⟨gb,4,none⟩=some (.int .u64 (y.2.2.2.1:Int))) (go_keep)
  (first
  | (go_at_call 110;refine (vbelow_any x y.2.1 HU.out.1 HU.out.2.2.1 W _ (by repeat (first | assumption | refine Ok.alloc ?_ _ | refine Below.drew ?_))).mono ?_;rintro e w' ⟨rfl,hb⟩;rw [<-HL.out];unfold nv;have q0:=Ok.cell hb za a0;have q1:=Ok.cell hb za a1;have q2:=Ok.cell hb za a2;have q3:=Ok.cell hb za a3;have q4:=Ok.cell hb za a4;have q5:=Ok.cell hb zb b0;have q6:=Ok.cell hb zb b1;have q7:=Ok.cell hb zb b2;have q8:=Ok.cell hb zb b3;have q9:=Ok.cell hb zb b4;obtain ⟨k0,k1,k2,k3,k4,k5,k6,k7,k8,k9⟩:=row5_facts (Ok.row' hb rl.out);obtain ⟨j0,j1,j2,j3,j4,j5,j6,j7,j8,j9⟩:=row5_facts (Ok.row' hb rr.out))
  | (go_at_call 111;refine (vabove_any y x.1 HU.out.2 HU.out.1.1 W _ (by repeat (first | assumption | refine Ok.alloc ?_ _ | refine Below.drew ?_))).mono ?_;rintro e w' ⟨rfl,hb⟩;rw [<-HR.out];unfold nv;have q0:=Ok.cell hb za a0;have q1:=Ok.cell hb za a1;have q2:=Ok.cell hb za a2;have q3:=Ok.cell hb za a3;have q4:=Ok.cell hb za a4;have q5:=Ok.cell hb zb b0;have q6:=Ok.cell hb zb b1;have q7:=Ok.cell hb zb b2;have q8:=Ok.cell hb zb b3;have q9:=Ok.cell hb zb b4;obtain ⟨k0,k1,k2,k3,k4,k5,k6,k7,k8,k9⟩:=row5_facts (Ok.row' hb rl.out);obtain ⟨j0,j1,j2,j3,j4,j5,j6,j7,j8,j9⟩:=row5_facts (Ok.row' hb rr.out))
  | fail)
 go_wp2_with fail
 obtain ⟨Z,hZ⟩:∃ Z,Z=((((((((((w'.setCell ⟨gl,0,none⟩ (.bool l.2.2.2.2)).setCell ⟨gl,1,none⟩ (.int .i64 l.1)).setCell ⟨gl,2,none⟩ (.int .i64 l.2.1)).setCell ⟨gl,3,none⟩ (.int .u64 (l.2.2.1:Int))).setCell ⟨gl,4,none⟩ (.int .u64 (l.2.2.2.1:Int))).setCell ⟨gr,0,none⟩ (.bool r.2.2.2.2)).setCell ⟨gr,1,none⟩ (.int .i64 r.1)).setCell ⟨gr,2,none⟩ (.int .i64 r.2.1)).setCell ⟨gr,3,none⟩ (.int .u64 (r.2.2.1:Int))).setCell ⟨gr,4,none⟩ (.int .u64 (r.2.2.2.1:Int))):=⟨_,rfl⟩
 have hp:=rows_putr nglgr (Ok.row' hb rl.out) (Ok.row' hb rr.out) (HW.out.step hb) (by omega) (by omega) _ _ _ _ _ _ _ _ _ _ hZ
 rw [<-hZ]
 clear hZ
 refine bodyPost_ret (results_2c rfl _ _ gl gr 29 #[_,_,_,_,_] #[_,_,_,_,_] (0,0) _ rfl rfl hp.2.1 hp.2.2 Tryz.underlying29 rfl infoN infoN) rfl ?_
 exact ⟨rfl,hp.1⟩
end
section
open Go.RowKit Go.Shelf
theorem results_2ct {P:Program} {fn:Func} {p q u:Tmp} {ty:TypeId} (h:fn.results=#[.cell p ty,.cell q ty,.tmp u]) (tmps:Array Value) (w:World) (g k:Nat) (t:TypeId) (cs ds:Array Value) (fr:Nat×Nat) (d:TypeDesc)
  (hp:tmps.getD p undef=.pointer (some ⟨g,0,none⟩)) (hq:tmps.getD q undef=.pointer (some ⟨k,0,none⟩)) (hg:w.heap[g]?=some (.cells cs t fr)) (hk:w.heap[k]?=some (.cells ds t fr))
  (hu:P.underlying ty=some d) (hd:(match d with | .struct _ | .array _ _=>true | _=>false)=true) (hi:(P.info? ty).map (·.size)=some cs.size) (hi2:(P.info? ty).map (·.size)=some ds.size) :
  (results fn tmps).run P w=.ok (.tuple #[.agg cs,.agg ds,tmps.getD u undef]) w:=by
 have hp':tmps[p]?.getD undef=.pointer (some ⟨g,0,none⟩):=by simpa using hp
 have hq':tmps[q]?.getD undef=.pointer (some ⟨k,0,none⟩):=by simpa using hq
 simp only [results,h]
 simp [Sem.run_bind,Result.andThen,hp',hq',asAddr,run_loadVar_row w g t ty cs fr d hg hu hd hi,run_loadVar_row w k t ty ds fr d hk hu hd hi2]
theorem func_nil (fid:Nat) (caps:Array Value) (w:World):(binOp BinOp.eql 45 (.func (.func fid) #[] caps) .nilFunc).run Tryz.prog w=.ok (.bool false) w:=by kernel_rfl
theorem nil_nil (w:World):(binOp BinOp.eql 45 .nilFunc .nilFunc).run Tryz.prog w=.ok (.bool true) w:=by kernel_rfl
def ansN (l r:Int×Int×Nat×Nat×Bool):(Int×Int×Nat×Nat×Bool)×(Int×Int×Nat×Nat×Bool):=if l.2.2.2.2=true\/r.2.2.2.2=true then (botN,botN) else (l,r)
set_option maxRecDepth 100000 in
theorem vask_any (fid:Nat) (caps:Array Value) (l r:Int×Int×Nat×Nat×Bool) (hen:∀ w:World,(callFunc fid caps).run Tryz.prog w=.ok (.enter fid caps) w) (w0 w:World) (hok:Ok w0 w) (hf:∀ w1,Ok w w1->Calls Tryz.prog fid caps w1 fun e w'=>e=.returned (.tuple #[nv l,nv r])/\Ok w1 w') :
  Calls Tryz.prog 12 #[.func (.func fid) #[] caps,.bool true] w fun e w'=>e=.returned (.tuple #[nv (ansN l r).1,nv (ansN l r).2,.int .i64 0])/\Ok w0 w':=by
 have hle:=hok.le
 have hnf:=func_nil fid caps
 obtain ⟨A,hA⟩:∃ t,t=ansN l r:=⟨_,rfl⟩
 rw [<-hA]
 have HA:Hid _:=hA
 clear hA
 have HF:Hid (∀ w1,Ok w w1->Calls Tryz.prog fid caps w1 fun e w'=>e=.returned (.tuple #[nv l,nv r])/\Ok w1 w'):=hf
 have hok2:=Ok.refl w
 clear hf
 go_enter Tryz.func12,Tryz.ntmps12
 go_wp2_with fail
 obtain ⟨W,hW⟩:∃ W,W=((w).alloc (.cells #[.bool false,.int .i64 0,.int .i64 0,.int .u64 0,.int .u64 0] 29)).alloc (.cells #[.bool false,.int .i64 0,.int .i64 0,.int .u64 0,.int .u64 0] 29):=⟨_,rfl⟩
 have rp:Hid (W.heap[w.heap.size]?=some (.cells #[.bool false,.int .i64 0,.int .i64 0,.int .u64 0,.int .u64 0] 29)):=by unfold Hid;rw [hW];exact jj
 have rq:Hid (W.heap[w.heap.size+1]?=some (.cells #[.bool false,.int .i64 0,.int .i64 0,.int .u64 0,.int .u64 0] 29)):=by unfold Hid;rw [hW];exact jj
 have HW:Hid (Ok w0 W):=by unfold Hid;rw [hW];exact (by repeat (first | exact hok | refine Ok.alloc ?_ _ | refine Ok.draws ?_ _ | fail))
 have OW:Hid (Ok w W):=by unfold Hid;rw [hW];exact ((Ok.refl _).alloc _).alloc _
 rw [<-hW]
 clear hW
 obtain ⟨gq,egq⟩:∃ g,g=w.heap.size+1:=⟨_,rfl⟩
 rw [<-egq] at rq ⊢
 obtain ⟨gp,egp⟩:∃ g,g=w.heap.size:=⟨_,rfl⟩
 rw [<-egp] at rp ⊢
 have lgp:w0.heap.size<=gp:=by omega
 have ngpgq:¬gp=gq:=by omega
 have lgq:w0.heap.size<=gq:=by omega
 have ngqgp:¬gq=gp:=by omega
 clear egp egq
 refine (HF.out W OW.out).mono ?_
 rintro e w1 ⟨rfl,hb⟩
 unfold nv
 replace rp:Hid _:=Ok.row' hb rp.out
 replace rq:Hid _:=Ok.row' hb rq.out
 have Hw1:Hid (Ok w0 w1):=HW.out.step hb
 clear hb HW HF OW hnf hok2
 go_upto_region 5 with (fail)
 obtain ⟨Z,hZ⟩:∃ W,W=(w1.alloc (.cells #[.bool l.2.2.2.2,.int .i64 l.1,.int .i64 l.2.1,.int .u64 (l.2.2.1:Int),.int .u64 (l.2.2.2.1:Int)] 29)).alloc (.cells #[.bool r.2.2.2.2,.int .i64 r.1,.int .i64 r.2.1,.int .u64 (r.2.2.1:Int),.int .u64 (r.2.2.2.1:Int)] 29):=⟨_,rfl⟩
 have rl:Hid (Z.heap[w1.heap.size]?=some (.cells #[.bool l.2.2.2.2,.int .i64 l.1,.int .i64 l.2.1,.int .u64 (l.2.2.1:Int),.int .u64 (l.2.2.2.1:Int)] 29)):=by unfold Hid;rw [hZ];exact jj
 have rr:Hid (Z.heap[w1.heap.size+1]?=some (.cells #[.bool r.2.2.2.2,.int .i64 r.1,.int .i64 r.2.1,.int .u64 (r.2.2.1:Int),.int .u64 (r.2.2.2.1:Int)] 29)):=by unfold Hid;rw [hZ];exact jj
 have hO:Ok w1 Z:=by rw [hZ];exact ((Ok.refl _).alloc _).alloc _
 rw [<-hZ]
 have q1:=lt_row rp.out
 have q2:=lt_row rq.out
 obtain ⟨gr,egr⟩:∃ g,g=w1.heap.size+1:=⟨_,rfl⟩
 rw [<-egr] at rr ⊢
 obtain ⟨gl,egl⟩:∃ g,g=w1.heap.size:=⟨_,rfl⟩
 rw [<-egl] at rl ⊢
 have dglgp:¬gl=gp:=by omega
 have dglgq:¬gl=gq:=by omega
 have dgrgp:¬gr=gp:=by omega
 have dgrgq:¬gr=gq:=by omega
 have dgpgl:¬gp=gl:=by omega
 have dgqgl:¬gq=gl:=by omega
 have dgpgr:¬gp=gr:=by omega
 have dgqgr:¬gq=gr:=by omega
 clear hZ egr egl q1 q2
 replace rp:Hid _:=Ok.row' hO rp.out
 replace rq:Hid _:=Ok.row' hO rq.out
 have HZ:Hid (Ok w0 Z):=Hw1.out.step hO
 clear hO Hw1
 obtain ⟨a0,a1,a2,a3,a4,a5,a6,a7,a8,a9⟩:=row5_facts rl.out
 obtain ⟨b0,b1,b2,b3,b4,b5,b6,b7,b8,b9⟩:=row5_facts rr.out
 obtain ⟨k0,k1,k2,k3,k4,k5,k6,k7,k8,k9⟩:=row5_facts rp.out
 obtain ⟨j0,j1,j2,j3,j4,j5,j6,j7,j8,j9⟩:=row5_facts rq.out
 cases hlb:l.2.2.2.2
 ·rw [hlb] at a0
  cases hrb:r.2.2.2.2
  ·rw [hrb] at b0
   have EA:Hid (A=(l,r)):=by unfold Hid;rw [HA.out];unfold ansN;rw [if_neg (by rw [hlb,hrb];simp)]
   have HLB:Hid _:=hlb
   have HRB:Hid _:=hrb
   go_upto_region 6 with (fail)
   go_region
   go_wp2_with fail
   obtain ⟨Y,hY⟩:∃ V,V=((((((((((Z.setCell ⟨gp,0,none⟩ (.bool false)).setCell ⟨gp,1,none⟩ (.int .i64 l.1)).setCell ⟨gp,2,none⟩ (.int .i64 l.2.1)).setCell ⟨gp,3,none⟩ (.int .u64 (l.2.2.1:Int))).setCell ⟨gp,4,none⟩ (.int .u64 (l.2.2.2.1:Int))).setCell ⟨gq,0,none⟩ (.bool false)).setCell ⟨gq,1,none⟩ (.int .i64 r.1)).setCell ⟨gq,2,none⟩ (.int .i64 r.2.1)).setCell ⟨gq,3,none⟩ (.int .u64 (r.2.2.1:Int))).setCell ⟨gq,4,none⟩ (.int .u64 (r.2.2.2.1:Int))):=⟨_,rfl⟩
   have hp:=rows_putr ngpgq rp.out rq.out HZ.out (by omega) (by omega) _ _ _ _ _ _ _ _ _ _ hY
   rw [<-hY]
   clear hY
   have hd:Ok Y Y.drew:=Below.drew (Ok.refl Y)
   refine bodyPost_ret (results_2ct rfl _ _ gp gq 29 #[_,_,_,_,_] #[_,_,_,_,_] (0,0) _ rfl rfl (Ok.row' hd hp.2.1) (Ok.row' hd hp.2.2) Tryz.underlying29 rfl infoN infoN) rfl ?_
   exact ⟨by rw [EA.out];unfold nv;rw [HLB.out,HRB.out];rfl,Below.drew hp.1⟩
  ·rw [hrb] at b0
   have EA:Hid (A=(botN,botN)):=by unfold Hid;rw [HA.out];unfold ansN;rw [if_pos (Or.inr hrb)]
   go_wp2_with fail
   refine (nbot_any Z _ (Ok.refl _)).mono ?_
   rintro e x1 ⟨rfl,hb⟩
   replace rp:Hid _:=Ok.row' hb rp.out
   replace rq:Hid _:=Ok.row' hb rq.out
   have Hx1:Hid (Ok w0 x1):=HZ.out.step hb
   clear hb
   unfold nv botN
   go_wp2_with fail
   refine (nbot_any x1 _ (Ok.refl _)).mono ?_
   rintro e x2 ⟨rfl,hb⟩
   replace rp:Hid _:=Ok.row' hb rp.out
   replace rq:Hid _:=Ok.row' hb rq.out
   have Hx2:Hid (Ok w0 x2):=Hx1.out.step hb
   clear hb
   unfold nv botN
   clear a0 a1 a2 a3 a4 a5 a6 a7 a8 a9 b0 b1 b2 b3 b4 b5 b6 b7 b8 b9 k0 k1 k2 k3 k4 k5 k6 k7 k8 k9 j0 j1 j2 j3 j4 j5 j6 j7 j8 j9
   obtain ⟨k0,k1,k2,k3,k4,k5,k6,k7,k8,k9⟩:=row5_facts rp.out
   obtain ⟨j0,j1,j2,j3,j4,j5,j6,j7,j8,j9⟩:=row5_facts rq.out
   go_wp2_with fail
   obtain ⟨Y,hY⟩:∃ Z,Z=((((((((((x2.setCell ⟨gp,0,none⟩ (.bool true)).setCell ⟨gp,1,none⟩ (.int .i64 0)).setCell ⟨gp,2,none⟩ (.int .i64 0)).setCell ⟨gp,3,none⟩ (.int .u64 0)).setCell ⟨gp,4,none⟩ (.int .u64 0)).setCell ⟨gq,0,none⟩ (.bool true)).setCell ⟨gq,1,none⟩ (.int .i64 0)).setCell ⟨gq,2,none⟩ (.int .i64 0)).setCell ⟨gq,3,none⟩ (.int .u64 0)).setCell ⟨gq,4,none⟩ (.int .u64 0)):=⟨_,rfl⟩
   have hp:=rows_putr ngpgq rp.out rq.out Hx2.out (by omega) (by omega) _ _ _ _ _ _ _ _ _ _ hY
   rw [<-hY]
   clear hY
   refine bodyPost_ret (results_2ct rfl _ _ gp gq 29 #[_,_,_,_,_] #[_,_,_,_,_] (0,0) _ rfl rfl hp.2.1 hp.2.2 Tryz.underlying29 rfl infoN infoN) rfl ?_
   exact ⟨by rw [EA.out];rfl,hp.1⟩
 ·rw [hlb] at a0
  have EA:Hid (A=(botN,botN)):=by unfold Hid;rw [HA.out];unfold ansN;rw [if_pos (Or.inl hlb)]
  go_wp2_with fail
  refine (nbot_any Z _ (Ok.refl _)).mono ?_
  rintro e x1 ⟨rfl,hb⟩
  replace rp:Hid _:=Ok.row' hb rp.out
  replace rq:Hid _:=Ok.row' hb rq.out
  have Hx1:Hid (Ok w0 x1):=HZ.out.step hb
  clear hb
  unfold nv botN
  go_wp2_with fail
  refine (nbot_any x1 _ (Ok.refl _)).mono ?_
  rintro e x2 ⟨rfl,hb⟩
  replace rp:Hid _:=Ok.row' hb rp.out
  replace rq:Hid _:=Ok.row' hb rq.out
  have Hx2:Hid (Ok w0 x2):=Hx1.out.step hb
  clear hb
  unfold nv botN
  clear a0 a1 a2 a3 a4 a5 a6 a7 a8 a9 b0 b1 b2 b3 b4 b5 b6 b7 b8 b9 k0 k1 k2 k3 k4 k5 k6 k7 k8 k9 j0 j1 j2 j3 j4 j5 j6 j7 j8 j9
  obtain ⟨k0,k1,k2,k3,k4,k5,k6,k7,k8,k9⟩:=row5_facts rp.out
  obtain ⟨j0,j1,j2,j3,j4,j5,j6,j7,j8,j9⟩:=row5_facts rq.out
  go_wp2_with fail
  obtain ⟨Y,hY⟩:∃ Z,Z=((((((((((x2.setCell ⟨gp,0,none⟩ (.bool true)).setCell ⟨gp,1,none⟩ (.int .i64 0)).setCell ⟨gp,2,none⟩ (.int .i64 0)).setCell ⟨gp,3,none⟩ (.int .u64 0)).setCell ⟨gp,4,none⟩ (.int .u64 0)).setCell ⟨gq,0,none⟩ (.bool true)).setCell ⟨gq,1,none⟩ (.int .i64 0)).setCell ⟨gq,2,none⟩ (.int .i64 0)).setCell ⟨gq,3,none⟩ (.int .u64 0)).setCell ⟨gq,4,none⟩ (.int .u64 0)):=⟨_,rfl⟩
  have hp:=rows_putr ngpgq rp.out rq.out Hx2.out (by omega) (by omega) _ _ _ _ _ _ _ _ _ _ hY
  rw [<-hY]
  clear hY
  refine bodyPost_ret (results_2ct rfl _ _ gp gq 29 #[_,_,_,_,_] #[_,_,_,_,_] (0,0) _ rfl rfl hp.2.1 hp.2.2 Tryz.underlying29 rfl infoN infoN) rfl ?_
  exact ⟨by rw [EA.out];rfl,hp.1⟩
end
section
open Go.RowKit Go.Shelf
def Tells (w:World) (f:Value) (l r:Int×Int×Nat×Nat×Bool):Prop:=∃ (fid:Nat) (caps:Array Value),f=.func (.func fid) #[] caps/\(∀ w:World,(callFunc fid caps).run Tryz.prog w=.ok (.enter fid caps) w)/\∀ w1,Ok w w1->Calls Tryz.prog fid caps w1 fun e w'=>e=.returned (.tuple #[nv l,nv r])/\Ok w1 w'
theorem run_mf (fn:Fn) (first cap:Array Value) (w:World):(Instr.makeFunc fn first cap).run Tryz.prog w=.ok (.func fn first cap) w:=rfl
def compN (op:Int) (x y:Int×Int×Nat×Nat×Bool):(Int×Int×Nat×Nat×Bool)×(Int×Int×Nat×Nat×Bool) :=
 if op=8 then (belN x y.2.1,aboN y x.1) else if op=9 then (meetN x (clipN (-9223372036854775808) y.2.1),meetN y (clipN x.1 9223372036854775807)) else if op=10 then (aboN x y.1,belN y x.2.1) else if op=11 then (meetN x (clipN y.1 9223372036854775807),meetN y (clipN (-9223372036854775808) x.2.1)) else if op=12 then (meetN x y,meetN x y) else (unlN x y,unlN y x)
set_option maxRecDepth 100000 in
theorem vask_no (fid:Nat) (caps:Array Value) (w0 w:World) (hok:Ok w0 w) :
  Calls Tryz.prog 12 #[.func (.func fid) #[] caps,.bool false] w fun e w'=>e=.returned (.tuple #[nv botN,nv botN,.int .i64 0])/\Ok w0 w':=by
 have hle:=hok.le
 have hnf:=func_nil fid caps
 go_enter Tryz.func12,Tryz.ntmps12
 go_wp2_with fail
 obtain ⟨W,hW⟩:∃ W,W=((w).alloc (.cells #[.bool false,.int .i64 0,.int .i64 0,.int .u64 0,.int .u64 0] 29)).alloc (.cells #[.bool false,.int .i64 0,.int .i64 0,.int .u64 0,.int .u64 0] 29):=⟨_,rfl⟩
 have rp:Hid (W.heap[w.heap.size]?=some (.cells #[.bool false,.int .i64 0,.int .i64 0,.int .u64 0,.int .u64 0] 29)):=by unfold Hid;rw [hW];exact jj
 have rq:Hid (W.heap[w.heap.size+1]?=some (.cells #[.bool false,.int .i64 0,.int .i64 0,.int .u64 0,.int .u64 0] 29)):=by unfold Hid;rw [hW];exact jj
 have HW:Hid (Ok w0 W):=by unfold Hid;rw [hW];exact (by repeat (first | exact hok | refine Ok.alloc ?_ _ | refine Ok.draws ?_ _ | fail))
 rw [<-hW]
 clear hW
 obtain ⟨gq,egq⟩:∃ g,g=w.heap.size+1:=⟨_,rfl⟩
 rw [<-egq] at rq ⊢
 obtain ⟨gp,egp⟩:∃ g,g=w.heap.size:=⟨_,rfl⟩
 rw [<-egp] at rp ⊢
 have lgp:w0.heap.size<=gp:=by omega
 have ngpgq:¬gp=gq:=by omega
 have lgq:w0.heap.size<=gq:=by omega
 have ngqgp:¬gq=gp:=by omega
 clear egp egq
 refine (nbot_any W _ (Ok.refl _)).mono ?_
 rintro e x1 ⟨rfl,hb⟩
 replace rp:Hid _:=Ok.row' hb rp.out
 replace rq:Hid _:=Ok.row' hb rq.out
 have Hx1:Hid (Ok w0 x1):=HW.out.step hb
 clear hb
 unfold nv botN
 go_wp2_with fail
 refine (nbot_any x1 _ (Ok.refl _)).mono ?_
 rintro e x2 ⟨rfl,hb⟩
 replace rp:Hid _:=Ok.row' hb rp.out
 replace rq:Hid _:=Ok.row' hb rq.out
 have Hx2:Hid (Ok w0 x2):=Hx1.out.step hb
 clear hb
 unfold nv botN
 obtain ⟨k0,k1,k2,k3,k4,k5,k6,k7,k8,k9⟩:=row5_facts rp.out
 obtain ⟨j0,j1,j2,j3,j4,j5,j6,j7,j8,j9⟩:=row5_facts rq.out
 go_wp2_with fail
 obtain ⟨Y,hY⟩:∃ V,V=((((((((((x2.setCell ⟨gp,0,none⟩ (.bool true)).setCell ⟨gp,1,none⟩ (.int .i64 0)).setCell ⟨gp,2,none⟩ (.int .i64 0)).setCell ⟨gp,3,none⟩ (.int .u64 0)).setCell ⟨gp,4,none⟩ (.int .u64 0)).setCell ⟨gq,0,none⟩ (.bool true)).setCell ⟨gq,1,none⟩ (.int .i64 0)).setCell ⟨gq,2,none⟩ (.int .i64 0)).setCell ⟨gq,3,none⟩ (.int .u64 0)).setCell ⟨gq,4,none⟩ (.int .u64 0)):=⟨_,rfl⟩
 have hp:=rows_putr ngpgq rp.out rq.out Hx2.out (by omega) (by omega) _ _ _ _ _ _ _ _ _ _ hY
 rw [<-hY]
 clear hY
 refine bodyPost_ret (results_2ct rfl _ _ gp gq 29 #[_,_,_,_,_] #[_,_,_,_,_] (0,0) _ rfl rfl hp.2.1 hp.2.2 Tryz.underlying29 rfl infoN infoN) rfl ?_
 exact ⟨rfl,hp.1⟩
set_option maxRecDepth 100000 in
theorem vask_nil (s:Bool) (w0 w:World) (hok:Ok w0 w) :
  Calls Tryz.prog 12 #[.nilFunc,.bool s] w fun e w'=>e=.returned (.tuple #[nv botN,nv botN,.int .i64 1])/\Ok w0 w':=by
 have hle:=hok.le
 have hnf:=nil_nil
 go_enter Tryz.func12,Tryz.ntmps12
 go_wp2_with fail
 obtain ⟨W,hW⟩:∃ W,W=((w).alloc (.cells #[.bool false,.int .i64 0,.int .i64 0,.int .u64 0,.int .u64 0] 29)).alloc (.cells #[.bool false,.int .i64 0,.int .i64 0,.int .u64 0,.int .u64 0] 29):=⟨_,rfl⟩
 have rp:Hid (W.heap[w.heap.size]?=some (.cells #[.bool false,.int .i64 0,.int .i64 0,.int .u64 0,.int .u64 0] 29)):=by unfold Hid;rw [hW];exact jj
 have rq:Hid (W.heap[w.heap.size+1]?=some (.cells #[.bool false,.int .i64 0,.int .i64 0,.int .u64 0,.int .u64 0] 29)):=by unfold Hid;rw [hW];exact jj
 have HW:Hid (Ok w0 W):=by unfold Hid;rw [hW];exact (by repeat (first | exact hok | refine Ok.alloc ?_ _ | refine Ok.draws ?_ _ | fail))
 rw [<-hW]
 clear hW
 obtain ⟨gq,egq⟩:∃ g,g=w.heap.size+1:=⟨_,rfl⟩
 rw [<-egq] at rq ⊢
 obtain ⟨gp,egp⟩:∃ g,g=w.heap.size:=⟨_,rfl⟩
 rw [<-egp] at rp ⊢
 have lgp:w0.heap.size<=gp:=by omega
 have ngpgq:¬gp=gq:=by omega
 have lgq:w0.heap.size<=gq:=by omega
 have ngqgp:¬gq=gp:=by omega
 clear egp egq
 refine (nbot_any W _ (Ok.refl _)).mono ?_
 rintro e x1 ⟨rfl,hb⟩
 replace rp:Hid _:=Ok.row' hb rp.out
 replace rq:Hid _:=Ok.row' hb rq.out
 have Hx1:Hid (Ok w0 x1):=HW.out.step hb
 clear hb
 unfold nv botN
 go_wp2_with fail
 refine (nbot_any x1 _ (Ok.refl _)).mono ?_
 rintro e x2 ⟨rfl,hb⟩
 replace rp:Hid _:=Ok.row' hb rp.out
 replace rq:Hid _:=Ok.row' hb rq.out
 have Hx2:Hid (Ok w0 x2):=Hx1.out.step hb
 clear hb
 unfold nv botN
 obtain ⟨k0,k1,k2,k3,k4,k5,k6,k7,k8,k9⟩:=row5_facts rp.out
 obtain ⟨j0,j1,j2,j3,j4,j5,j6,j7,j8,j9⟩:=row5_facts rq.out
 go_wp2_with fail
 obtain ⟨Y,hY⟩:∃ V,V=((((((((((x2.setCell ⟨gp,0,none⟩ (.bool true)).setCell ⟨gp,1,none⟩ (.int .i64 0)).setCell ⟨gp,2,none⟩ (.int .i64 0)).setCell ⟨gp,3,none⟩ (.int .u64 0)).setCell ⟨gp,4,none⟩ (.int .u64 0)).setCell ⟨gq,0,none⟩ (.bool true)).setCell ⟨gq,1,none⟩ (.int .i64 0)).setCell ⟨gq,2,none⟩ (.int .i64 0)).setCell ⟨gq,3,none⟩ (.int .u64 0)).setCell ⟨gq,4,none⟩ (.int .u64 0)):=⟨_,rfl⟩
 have hp:=rows_putr ngpgq rp.out rq.out Hx2.out (by omega) (by omega) _ _ _ _ _ _ _ _ _ _ hY
 rw [<-hY]
 clear hY
 refine bodyPost_ret (results_2ct rfl _ _ gp gq 29 #[_,_,_,_,_] #[_,_,_,_,_] (0,0) _ rfl rfl hp.2.1 hp.2.2 Tryz.underlying29 rfl infoN infoN) rfl ?_
 exact ⟨rfl,hp.1⟩
end
section
open Go.RowKit Go.Shelf
def CPost (w0:World) (l r:Int×Int×Nat×Nat×Bool) (e:Ending) (w':World):Prop:=∃ f,e=.returned f/\Tells w' f l r/\Ok w0 w'
set_option maxRecDepth 100000 in
theorem vcomparing_8 (x y:Int×Int×Nat×Nat×Bool) (hx:RawN x) (hy:RawN y) (w0 w:World) (hok:Ok w0 w) :
  Calls Tryz.prog 56 #[.int .i64 8,nv x,nv y] w (CPost w0 (compN 8 x y).1 (compN 8 x y).2):=by
 have hmf:=run_mf
 have HX:Hid (RawN x/\RawN y):=⟨hx,hy⟩
 clear hx hy
 obtain ⟨L,hL⟩:∃ t,t=(compN 8 x y).1:=⟨_,rfl⟩
 obtain ⟨R,hR⟩:∃ t,t=(compN 8 x y).2:=⟨_,rfl⟩
 rw [<-hL,<-hR]
 have HL:Hid _:=hL
 have HR:Hid _:=hR
 clear hL hR
 unfold nv
 go_enter Tryz.func56,Tryz.ntmps56
 go_wp2_with fail
 go_ret
 refine ⟨_,rfl,⟨109,_,rfl,fun w=>by kernel_rfl,fun w1 h1=>?_⟩,(hok.alloc _).alloc _⟩
 rw [HL.out,HR.out]
 exact vclo1 x y HX.out.1 HX.out.2 _ _ w1 (Ok.row' h1 jj) (Ok.row' h1 jj)
end
section
open Go.RowKit Go.Shelf
set_option maxRecDepth 100000 in
theorem vNegate_lt (w0 w:World) (hok:Ok w0 w) :
  Calls Tryz.prog 17 #[.int .i64 8] w fun e w'=>e=.returned (.tuple #[.int .i64 11,.int .i64 0])/\Ok w0 w':=by
 go_enter Tryz.func17,Tryz.ntmps17
 go_wp2_with fail
 refine bodyPost_ret (results_tmp2 rfl _ _ _) rfl ?_
 exact ⟨rfl,hok⟩
end
section
open Go.RowKit
section
variable {P:Program} {ops:Array Oper} {Q:Exit->Act->World->Prop} {md:Region.Mode}
end
def PR (W w:World) (s:Value) (cs:Array Value) (t:TypeId):Prop:=∃ g,s=.pointer (some ⟨g,0,none⟩)/\W.heap.size<=g/\w.heap[g]?=some (.cells cs t (0,0))
theorem PR.elim {C:Prop} {W w:World} {s:Value} {cs:Array Value} {t:TypeId} (h:PR W w s cs t) (k:∀ g,s=.pointer (some ⟨g,0,none⟩)->W.heap.size<=g->w.heap[g]?=some (.cells cs t (0,0))->C):C:=by
 obtain ⟨g,e,l,r⟩:=h
 exact k g e l r
theorem PR.step {W w w':World} {s:Value} {cs:Array Value} {t:TypeId} (h:PR W w s cs t) (hb:Ok w w'):PR W w' s cs t:=by
 obtain ⟨g,e,l,r⟩:=h
 exact ⟨g,e,l,Ok.row' hb r⟩
theorem PR.new {W w:World} {cs:Array Value} {t:TypeId} (h:Ok W w):PR W (w.alloc (.cells cs t (0,0))) (.pointer (some ⟨w.heap.size,0,none⟩)) cs t:=⟨w.heap.size,rfl,h.le,heap_new0 _ _⟩
theorem PR.keep {W w w':World} {s:Value} {cs:Array Value} {t:TypeId} {g:Nat} (h:PR W w s cs t) (hs:s≠.pointer (some ⟨g,0,none⟩)) (k:∀ (h:Nat) (o:Obj),h≠g->w.heap[h]?=some o->w'.heap[h]?=some o):PR W w' s cs t:=by
 obtain ⟨h1,e,l,r⟩:=h
 refine ⟨h1,e,l,k _ _ (fun c=>hs ?_) r⟩
 rw [e,c]
end
end Go.Proofs.YtnjmjnmhldhaoaaGreat
