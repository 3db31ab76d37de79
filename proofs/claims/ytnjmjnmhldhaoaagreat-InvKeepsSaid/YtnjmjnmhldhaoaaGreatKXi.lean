import Derived.Deep.Cut
import Derived.Deep.CutRange
import Derived.Test.YtnjmjnmhldhaoaaGreatKXm
set_option linter.all false
namespace Go.Proofs.YtnjmjnmhldhaoaaGreat
open Go.RowKit Go.Shelf
theorem wraps_any (a b:Int×Int×Nat×Nat×Bool):[a.1*b.1,a.1*b.2.1,a.2.1*b.1,a.2.1*b.2.1].any (fun x => !decide (In64 x))=wrapsP a b:=by
 unfold wrapsP
 simp only [List.any_cons,List.any_nil,Bool.or_false,decide_not,Bool.decide_and,Bool.not_and]
attribute [local irreducible] facN facA
set_option maxRecDepth 100000 in
set_option maxHeartbeats 40000000 in
theorem vfactors_any (a b c:Int×Int×Nat×Nat×Bool) (ha:RawN a) (hb:RawN b) (hc:RawN c) (w0 w:World) (hok:Ok w0 w) :
  Calls Tryz.prog 47 #[nv a,nv b,nv c] w fun e w'=>e=.returned (.tuple #[nv (factsN a b c).1,nv (factsN a b c).2])/\Ok w0 w':=by
 have hle:=hok.le
 have HU:Hid (RawN a/\RawN b/\RawN c):=⟨ha,hb,hc⟩
 clear ha hb hc
 obtain ⟨i,hi⟩:∃ t,t=insN c 0:=⟨_,rfl⟩
 have HI:Hid _:=hi
 clear hi
 obtain ⟨l,hl⟩:∃ t,t=(factsN a b c).1:=⟨_,rfl⟩
 have HL:Hid _:=hl
 clear hl
 obtain ⟨r,hr⟩:∃ t,t=(factsN a b c).2:=⟨_,rfl⟩
 have HR:Hid _:=hr
 clear hr
 rw [<-HL.out,<-HR.out]
 obtain ⟨x,hx⟩:∃ t,t=if i=true then a else nonZeroN a:=⟨_,rfl⟩
 have HX:Hid _:=hx
 clear hx
 obtain ⟨y,hy⟩:∃ t,t=if i=true then b else nonZeroN b:=⟨_,rfl⟩
 have HY:Hid _:=hy
 clear hy
 have RXY:Hid (RawN x/\RawN y):=by rw [HX.out,HY.out];split;exact ⟨HU.out.1,HU.out.2.1⟩;exact ⟨nonZeroN_raw HU.out.1,nonZeroN_raw HU.out.2.1⟩
 have EF:Hid (factsN a b c=facsN x y c):=by unfold Hid;rw [HX.out,HY.out,HI.out];unfold factsN;split<;>rfl
 replace HL:Hid (l=(facsN x y c).1):=by unfold Hid;rw [HL.out,EF.out]
 replace HR:Hid (r=(facsN x y c).2):=by unfold Hid;rw [HR.out,EF.out]
 clear EF
 obtain ⟨p,hp⟩:∃ t,t=x.2.2.2.2:=⟨_,rfl⟩
 have HP:Hid _:=hp
 clear hp
 obtain ⟨q,hq⟩:∃ t,t=y.2.2.2.2:=⟨_,rfl⟩
 have HQ:Hid _:=hq
 clear hq
 unfold nv
 go_enter Tryz.func47,Tryz.ntmps47
 go_upto_region 1 with (fail)
 obtain ⟨W,hW⟩:∃ W,W=(((((w).alloc (.cells #[.bool a.2.2.2.2,.int .i64 a.1,.int .i64 a.2.1,.int .u64 (a.2.2.1:Int),.int .u64 (a.2.2.2.1:Int)] 29)).alloc (.cells #[.bool b.2.2.2.2,.int .i64 b.1,.int .i64 b.2.1,.int .u64 (b.2.2.1:Int),.int .u64 (b.2.2.2.1:Int)] 29)).alloc (.cells #[.bool c.2.2.2.2,.int .i64 c.1,.int .i64 c.2.1,.int .u64 (c.2.2.1:Int),.int .u64 (c.2.2.2.1:Int)] 29)).alloc (.cells #[.bool false,.int .i64 0,.int .i64 0,.int .u64 0,.int .u64 0] 29)).alloc (.cells #[.bool false,.int .i64 0,.int .i64 0,.int .u64 0,.int .u64 0] 29):=⟨_,rfl⟩
 have ra:Hid (W.heap[w.heap.size]?=some (.cells #[.bool a.2.2.2.2,.int .i64 a.1,.int .i64 a.2.1,.int .u64 (a.2.2.1:Int),.int .u64 (a.2.2.2.1:Int)] 29)):=by unfold Hid;rw [hW];exact jj
 have rb:Hid (W.heap[w.heap.size+1]?=some (.cells #[.bool b.2.2.2.2,.int .i64 b.1,.int .i64 b.2.1,.int .u64 (b.2.2.1:Int),.int .u64 (b.2.2.2.1:Int)] 29)):=by unfold Hid;rw [hW];exact jj
 have rc:Hid (W.heap[w.heap.size+1+1]?=some (.cells #[.bool c.2.2.2.2,.int .i64 c.1,.int .i64 c.2.1,.int .u64 (c.2.2.1:Int),.int .u64 (c.2.2.2.1:Int)] 29)):=by unfold Hid;rw [hW];exact jj
 have rl:Hid (W.heap[w.heap.size+1+1+1]?=some (.cells #[.bool false,.int .i64 0,.int .i64 0,.int .u64 0,.int .u64 0] 29)):=by unfold Hid;rw [hW];exact jj
 have rr:Hid (W.heap[w.heap.size+1+1+1+1]?=some (.cells #[.bool false,.int .i64 0,.int .i64 0,.int .u64 0,.int .u64 0] 29)):=by unfold Hid;rw [hW];exact jj
 have HW:Hid (Ok w0 W):=by unfold Hid;rw [hW];exact (by repeat (first | exact hok | refine Ok.alloc ?_ _ | refine Ok.draws ?_ _ | fail))
 rw [<-hW]
 clear hW
 obtain ⟨gr,egr⟩:∃ g,g=w.heap.size+1+1+1+1:=⟨_,rfl⟩
 rw [<-egr] at rr ⊢
 obtain ⟨gl,egl⟩:∃ g,g=w.heap.size+1+1+1:=⟨_,rfl⟩
 rw [<-egl] at rl ⊢
 obtain ⟨gc,egc⟩:∃ g,g=w.heap.size+1+1:=⟨_,rfl⟩
 rw [<-egc] at rc ⊢
 obtain ⟨gb,egb⟩:∃ g,g=w.heap.size+1:=⟨_,rfl⟩
 rw [<-egb] at rb ⊢
 obtain ⟨ga,ega⟩:∃ g,g=w.heap.size:=⟨_,rfl⟩
 rw [<-ega] at ra ⊢
 have lga:w0.heap.size<=ga:=by omega
 have ngagb:¬ga=gb:=by omega
 have ngagc:¬ga=gc:=by omega
 have ngagl:¬ga=gl:=by omega
 have ngagr:¬ga=gr:=by omega
 have lgb:w0.heap.size<=gb:=by omega
 have ngbga:¬gb=ga:=by omega
 have ngbgc:¬gb=gc:=by omega
 have ngbgl:¬gb=gl:=by omega
 have ngbgr:¬gb=gr:=by omega
 have lgc:w0.heap.size<=gc:=by omega
 have ngcga:¬gc=ga:=by omega
 have ngcgb:¬gc=gb:=by omega
 have ngcgl:¬gc=gl:=by omega
 have ngcgr:¬gc=gr:=by omega
 have lgl:w0.heap.size<=gl:=by omega
 have nglga:¬gl=ga:=by omega
 have nglgb:¬gl=gb:=by omega
 have nglgc:¬gl=gc:=by omega
 have nglgr:¬gl=gr:=by omega
 have lgr:w0.heap.size<=gr:=by omega
 have ngrga:¬gr=ga:=by omega
 have ngrgb:¬gr=gb:=by omega
 have ngrgc:¬gr=gc:=by omega
 have ngrgl:¬gr=gl:=by omega
 clear ega egb egc egl egr
 obtain ⟨c0,c1,c2,c3,c4,c5,c6,c7,c8,c9⟩:=row5_facts rc.out
 go_wp2_with fail
 clear c0 c1 c2 c3 c4 c5 c6 c7 c8 c9
 refine (nhas_any c 0 HU.out.2.2 W _ (Ok.refl _)).mono ?_
 rintro e u1 ⟨rfl,hb⟩
 replace ra:Hid _:=Ok.row' hb ra.out
 replace rb:Hid _:=Ok.row' hb rb.out
 replace rc:Hid _:=Ok.row' hb rc.out
 replace rl:Hid _:=Ok.row' hb rl.out
 replace rr:Hid _:=Ok.row' hb rr.out
 have Hu1:Hid (Ok w0 u1):=HW.out.step hb
 clear hb HW
 rw [<-HI.out]
 go_upto_if 11 with (fail)
 go_cut [] from 12 to 15 (fun wx=>Hid (Ok w0 wx)/\Hid (wx.heap[ga]?=some (.cells #[.bool x.2.2.2.2,.int .i64 x.1,.int .i64 x.2.1,.int .u64 (x.2.2.1:Int),.int .u64 (x.2.2.2.1:Int)] 29 (0,0)))/\Hid (wx.heap[gb]?=some (.cells #[.bool y.2.2.2.2,.int .i64 y.1,.int .i64 y.2.1,.int .u64 (y.2.2.1:Int),.int .u64 (y.2.2.2.1:Int)] 29 (0,0)))/\Hid (wx.heap[gc]?=some (.cells #[.bool c.2.2.2.2,.int .i64 c.1,.int .i64 c.2.1,.int .u64 (c.2.2.1:Int),.int .u64 (c.2.2.2.1:Int)] 29 (0,0)))/\Hid (wx.heap[gl]?=some (.cells #[.bool false,.int .i64 0,.int .i64 0,.int .u64 0,.int .u64 0] 29 (0,0)))/\Hid (wx.heap[gr]?=some (.cells #[.bool false,.int .i64 0,.int .i64 0,.int .u64 0,.int .u64 0] 29 (0,0))))
 case first =>
  cases i
  ·replace HX:Hid (x=nonZeroN a):=by unfold Hid;rw [HX.out];rfl
   replace HY:Hid (y=nonZeroN b):=by unfold Hid;rw [HY.out];rfl
   go_wp2_with fail
   obtain ⟨D,hD⟩:∃ z,z=u1.drew:=⟨_,rfl⟩
   have S0:Ok u1 D:=by rw [hD];exact Below.drew (Ok.refl _)
   refine wp_region_T (fun Y=>Ok u1 Y) 4 (by kernel_rfl) ?_
   rw [<-hD]
   clear hD
   refine tT 0 (.agg #[.bool a.2.2.2.2,.int .i64 a.1,.int .i64 a.2.1,.int .u64 (a.2.2.1:Int),.int .u64 (a.2.2.2.1:Int)]) S0 ?_ ?_
   ·exact fun w' hS=>yN (Ok.row' hS ra.out)
   refine tT 2 (.agg #[.bool b.2.2.2.2,.int .i64 b.1,.int .i64 b.2.1,.int .u64 (b.2.2.1:Int),.int .u64 (b.2.2.2.1:Int)]) S0 ?_ ?_
   ·exact fun w' hS=>yN (Ok.row' hS rb.out)
   simp only [Act.put,List.setIfInBounds_toArray,List.set_cons_zero,List.set_cons_succ]
   refine sT (i:=1) (by kernel_rfl) rfl (fun K hK=>?_)
   go_simp
   refine (nnz_any a HU.out.1 u1 _ S0).mono ?_
   rintro e y1 ⟨rfl,hy1⟩
   rw [<-HX.out]
   unfold nv
   go_wp2_with fail
   refine hK.out _ _ (fun _=>hy1) ?_
   clear hK K
   refine sT (i:=3) (by kernel_rfl) rfl (fun K hK=>?_)
   go_simp
   refine (nnz_any b HU.out.2.1 u1 _ hy1).mono ?_
   rintro e y2 ⟨rfl,hy2⟩
   rw [<-HY.out]
   unfold nv
   go_wp2_with fail
   refine hK.out _ _ (fun _=>hy2) ?_
   clear hK K
   refine sT (i:=4) (by kernel_rfl) rfl (fun K hK=>?_)
   replace ra:Hid _:=Ok.row' hy2 ra.out
   replace rb:Hid _:=Ok.row' hy2 rb.out
   replace rc:Hid _:=Ok.row' hy2 rc.out
   replace rl:Hid _:=Ok.row' hy2 rl.out
   replace rr:Hid _:=Ok.row' hy2 rr.out
   have Hy2:Hid (Ok w0 y2):=Hu1.out.step hy2
   clear S0
   obtain ⟨a0,a1,a2,a3,a4,a5,a6,a7,a8,a9⟩:=row5_facts ra.out
   go_simp
   refine hK.out _ _ (fun h=>absurd h (by decide)) ?_
   clear hK K
   obtain ⟨Z1,hZ1⟩:∃ Z,Z=(((((y2.setCell ⟨ga,0,none⟩ (.bool x.2.2.2.2)).setCell ⟨ga,1,none⟩ (.int .i64 x.1)).setCell ⟨ga,2,none⟩ (.int .i64 x.2.1)).setCell ⟨ga,3,none⟩ (.int .u64 (x.2.2.1:Int))).setCell ⟨ga,4,none⟩ (.int .u64 (x.2.2.2.1:Int))):=⟨_,rfl⟩
   obtain ⟨HZ1,raz,keep⟩:=(rows_put1 ra.out Hy2.out (by omega) _ _ _ _ _ hZ1).out
   replace HZ1:Hid (Ok w0 Z1):=HZ1
   replace raz:Hid _:=raz
   replace rb:Hid _:=keep _ _ (by omega) rb.out
   replace rc:Hid _:=keep _ _ (by omega) rc.out
   replace rl:Hid _:=keep _ _ (by omega) rl.out
   replace rr:Hid _:=keep _ _ (by omega) rr.out
   rw [<-hZ1]
   clear hZ1 keep ra
   clear a0 a1 a2 a3 a4 a5 a6 a7 a8 a9
   have ra:Hid _:=raz
   clear raz
   refine sT (i:=5) (by kernel_rfl) rfl (fun K hK=>?_)
   obtain ⟨a0,a1,a2,a3,a4,a5,a6,a7,a8,a9⟩:=row5_facts rb.out
   go_simp
   refine hK.out _ _ (fun h=>absurd h (by decide)) ?_
   clear hK K
   obtain ⟨Z2,hZ2⟩:∃ Z,Z=(((((Z1.setCell ⟨gb,0,none⟩ (.bool y.2.2.2.2)).setCell ⟨gb,1,none⟩ (.int .i64 y.1)).setCell ⟨gb,2,none⟩ (.int .i64 y.2.1)).setCell ⟨gb,3,none⟩ (.int .u64 (y.2.2.1:Int))).setCell ⟨gb,4,none⟩ (.int .u64 (y.2.2.2.1:Int))):=⟨_,rfl⟩
   obtain ⟨HZ2,rbz,keep⟩:=(rows_put1 rb.out HZ1.out (by omega) _ _ _ _ _ hZ2).out
   replace HZ2:Hid (Ok w0 Z2):=HZ2
   replace rbz:Hid _:=rbz
   replace ra:Hid _:=keep _ _ (by omega) ra.out
   replace rc:Hid _:=keep _ _ (by omega) rc.out
   replace rl:Hid _:=keep _ _ (by omega) rl.out
   replace rr:Hid _:=keep _ _ (by omega) rr.out
   rw [<-hZ2]
   clear hZ2 keep rb
   clear a0 a1 a2 a3 a4 a5 a6 a7 a8 a9
   have rb:Hid _:=rbz
   clear rbz
   refine wpAnyT_done (by kernel_rfl) ?_ _
   go_wp2_with fail
   go_meet
   case rel=>exact ⟨HZ2,ra,rb,rc,rl,rr⟩
  ·have e1:x=a:=by rw [HX.out];rfl
   have e2:y=b:=by rw [HY.out];rfl
   subst e1 e2
   go_wp2_with fail
   go_meet
   case rel=>exact ⟨Hu1,ra,rb,rc,rl,rr⟩
 case rest =>
  clear ra rb rc rl rr Hu1
  obtain ⟨Hwc,ra,rb,rc,rl,rr⟩:=hcut
  cases p
  ·cases q
   ·have HB:Hid (¬(x.2.2.2.2=true\/y.2.2.2.2=true)):=by unfold Hid;rw [<-HP.out,<-HQ.out];simp
    obtain ⟨a0,a1,a2,a3,a4,a5,a6,a7,a8,a9⟩:=row5_facts ra.out
    obtain ⟨b0,b1,b2,b3,b4,b5,b6,b7,b8,b9⟩:=row5_facts rb.out
    rw [<-HP.out] at a0
    rw [<-HQ.out] at b0
    go_wp2_with fail
    clear a0 a1 a2 a3 a4 a5 a6 a7 a8 a9
    clear b0 b1 b2 b3 b4 b5 b6 b7 b8 b9
    rw [show (.agg #[.bool false,.int .i64 x.1,.int .i64 x.2.1,.int .u64 (x.2.2.1:Int),.int .u64 (x.2.2.2.1:Int)]:Value)=nv x by unfold nv;rw [<-HP.out],show (.agg #[.bool false,.int .i64 y.1,.int .i64 y.2.1,.int .u64 (y.2.2.1:Int),.int .u64 (y.2.2.2.1:Int)]:Value)=nv y by unfold nv;rw [<-HQ.out]]
    refine (vproducts_any x y RXY.out.1 RXY.out.2 wc _ (Ok.refl _)).mono ?_
    rintro e u3 ⟨g,rfl,hg,hb,hle3⟩
    have HG:Hid _:=hg
    replace ra:Hid _:=Ok.row' hb ra.out
    replace rb:Hid _:=Ok.row' hb rb.out
    replace rc:Hid _:=Ok.row' hb rc.out
    replace rl:Hid _:=Ok.row' hb rl.out
    replace rr:Hid _:=Ok.row' hb rr.out
    have Hu3:Hid (Ok w0 u3):=Hwc.out.step hb
    clear hb hg hle3
    go_wp2_with fail
    refine (vcont_any _ _ _ _ g u3 HG.out).mono ?_
    rintro e u4 ⟨rfl,hb⟩
    obtain ⟨wr,hwr⟩:∃ t,t=wrapsP x y:=⟨_,rfl⟩
    have HW:Hid _:=hwr
    clear hwr
    rw [wraps_any x y,<-HW.out]
    replace ra:Hid _:=Ok.row' hb ra.out
    replace rb:Hid _:=Ok.row' hb rb.out
    replace rc:Hid _:=Ok.row' hb rc.out
    replace rl:Hid _:=Ok.row' hb rl.out
    replace rr:Hid _:=Ok.row' hb rr.out
    have Hu4:Hid (Ok w0 u4):=Hu3.out.step hb
    replace HL:Hid (l=facN x y c wr):=by unfold Hid;rw [HL.out,HW.out];unfold facsN;rw [if_neg HB.out]
    replace HR:Hid (r=facN y x c wr):=by unfold Hid;rw [HR.out,HW.out];unfold facsN;rw [if_neg HB.out]
    clear hb HG Hu3 HW HB HP HQ
    go_wp2_with fail
    obtain ⟨D,hD⟩:∃ z,z=u4.drew:=⟨_,rfl⟩
    have S0:Ok u4 D:=by rw [hD];exact Below.drew (Ok.refl _)
    refine wp_region_T (fun Y=>Ok u4 Y) 10 (by kernel_rfl) ?_
    rw [<-hD]
    clear hD
    refine tT 0 (.agg #[.bool x.2.2.2.2,.int .i64 x.1,.int .i64 x.2.1,.int .u64 (x.2.2.1:Int),.int .u64 (x.2.2.2.1:Int)]) S0 ?_ ?_
    ·exact fun w' hS=>yN (Ok.row' hS ra.out)
    refine tT 1 (.agg #[.bool y.2.2.2.2,.int .i64 y.1,.int .i64 y.2.1,.int .u64 (y.2.2.1:Int),.int .u64 (y.2.2.2.1:Int)]) S0 ?_ ?_
    ·exact fun w' hS=>yN (Ok.row' hS rb.out)
    refine tT 2 (.agg #[.bool c.2.2.2.2,.int .i64 c.1,.int .i64 c.2.1,.int .u64 (c.2.2.1:Int),.int .u64 (c.2.2.2.1:Int)]) S0 ?_ ?_
    ·exact fun w' hS=>yN (Ok.row' hS rc.out)
    refine tT 3 (.bool wr) S0 ?_ ?_
    ·intro w' hS;kernel_rfl
    refine tT 5 (.agg #[.bool y.2.2.2.2,.int .i64 y.1,.int .i64 y.2.1,.int .u64 (y.2.2.1:Int),.int .u64 (y.2.2.2.1:Int)]) S0 ?_ ?_
    ·exact fun w' hS=>yN (Ok.row' hS rb.out)
    refine tT 6 (.agg #[.bool x.2.2.2.2,.int .i64 x.1,.int .i64 x.2.1,.int .u64 (x.2.2.1:Int),.int .u64 (x.2.2.2.1:Int)]) S0 ?_ ?_
    ·exact fun w' hS=>yN (Ok.row' hS ra.out)
    refine tT 7 (.agg #[.bool c.2.2.2.2,.int .i64 c.1,.int .i64 c.2.1,.int .u64 (c.2.2.1:Int),.int .u64 (c.2.2.2.1:Int)]) S0 ?_ ?_
    ·exact fun w' hS=>yN (Ok.row' hS rc.out)
    refine tT 8 (.bool wr) S0 ?_ ?_
    ·intro w' hS;kernel_rfl
    simp only [Act.put,List.setIfInBounds_toArray,List.set_cons_zero,List.set_cons_succ]
    refine sT (i:=4) (by kernel_rfl) rfl (fun K hK=>?_)
    go_simp
    refine (vfactor_any x y c wr RXY.out.1 RXY.out.2 HU.out.2.2 u4 _ S0).mono ?_
    rintro e y1 ⟨rfl,hy1⟩
    rw [<-HL.out]
    unfold nv
    go_wp2_with fail
    refine hK.out _ _ (fun _=>hy1) ?_
    clear hK K
    refine sT (i:=9) (by kernel_rfl) rfl (fun K hK=>?_)
    go_simp
    refine (vfactor_any y x c wr RXY.out.2 RXY.out.1 HU.out.2.2 u4 _ hy1).mono ?_
    rintro e y2 ⟨rfl,hy2⟩
    rw [<-HR.out]
    unfold nv
    go_wp2_with fail
    refine hK.out _ _ (fun _=>hy2) ?_
    clear hK K
    refine sT (i:=10) (by kernel_rfl) rfl (fun K hK=>?_)
    replace ra:Hid _:=Ok.row' hy2 ra.out
    replace rb:Hid _:=Ok.row' hy2 rb.out
    replace rl:Hid _:=Ok.row' hy2 rl.out
    replace rr:Hid _:=Ok.row' hy2 rr.out
    have Hy2:Hid (Ok w0 y2):=Hu4.out.step hy2
    clear S0
    obtain ⟨a0,a1,a2,a3,a4,a5,a6,a7,a8,a9⟩:=row5_facts rl.out
    go_simp
    refine hK.out _ _ (fun h=>absurd h (by decide)) ?_
    clear hK K
    obtain ⟨Z1,hZ1⟩:∃ Z,Z=(((((y2.setCell ⟨gl,0,none⟩ (.bool l.2.2.2.2)).setCell ⟨gl,1,none⟩ (.int .i64 l.1)).setCell ⟨gl,2,none⟩ (.int .i64 l.2.1)).setCell ⟨gl,3,none⟩ (.int .u64 (l.2.2.1:Int))).setCell ⟨gl,4,none⟩ (.int .u64 (l.2.2.2.1:Int))):=⟨_,rfl⟩
    obtain ⟨HZ1,rlz,keep⟩:=(rows_put1 rl.out Hy2.out (by omega) _ _ _ _ _ hZ1).out
    replace HZ1:Hid (Ok w0 Z1):=HZ1
    replace rlz:Hid _:=rlz
    replace ra:Hid _:=keep _ _ (by omega) ra.out
    replace rb:Hid _:=keep _ _ (by omega) rb.out
    replace rr:Hid _:=keep _ _ (by omega) rr.out
    rw [<-hZ1]
    clear hZ1 keep rl
    clear a0 a1 a2 a3 a4 a5 a6 a7 a8 a9
    have rl:Hid _:=rlz
    clear rlz
    refine sT (i:=11) (by kernel_rfl) rfl (fun K hK=>?_)
    obtain ⟨a0,a1,a2,a3,a4,a5,a6,a7,a8,a9⟩:=row5_facts rr.out
    go_simp
    refine hK.out _ _ (fun h=>absurd h (by decide)) ?_
    clear hK K
    obtain ⟨Z2,hZ2⟩:∃ Z,Z=(((((Z1.setCell ⟨gr,0,none⟩ (.bool r.2.2.2.2)).setCell ⟨gr,1,none⟩ (.int .i64 r.1)).setCell ⟨gr,2,none⟩ (.int .i64 r.2.1)).setCell ⟨gr,3,none⟩ (.int .u64 (r.2.2.1:Int))).setCell ⟨gr,4,none⟩ (.int .u64 (r.2.2.2.1:Int))):=⟨_,rfl⟩
    obtain ⟨HZ2,rrz,keep⟩:=(rows_put1 rr.out HZ1.out (by omega) _ _ _ _ _ hZ2).out
    replace HZ2:Hid (Ok w0 Z2):=HZ2
    replace rrz:Hid _:=rrz
    replace ra:Hid _:=keep _ _ (by omega) ra.out
    replace rb:Hid _:=keep _ _ (by omega) rb.out
    replace rl:Hid _:=keep _ _ (by omega) rl.out
    rw [<-hZ2]
    clear hZ2 keep rr
    clear a0 a1 a2 a3 a4 a5 a6 a7 a8 a9
    have rr:Hid _:=rrz
    clear rrz
    refine wpAnyT_done (by kernel_rfl) ?_ _
    go_wp2_with fail
    refine bodyPost_ret (results_2c rfl _ _ gl gr 29 #[_,_,_,_,_] #[_,_,_,_,_] (0,0) _ rfl rfl rl.out rr.out Tryz.underlying29 rfl infoN infoN) rfl ?_
    exact ⟨rfl,HZ2.out⟩
   ·have HA:Hid (l=x/\r=y):=by unfold Hid;rw [HL.out,HR.out];unfold facsN;rw [if_pos (Or.inr HQ.out.symm)];exact ⟨rfl,rfl⟩
    obtain ⟨a0,a1,a2,a3,a4,a5,a6,a7,a8,a9⟩:=row5_facts ra.out
    obtain ⟨b0,b1,b2,b3,b4,b5,b6,b7,b8,b9⟩:=row5_facts rb.out
    rw [<-HP.out] at a0
    rw [<-HQ.out] at b0
    go_wp2_with fail
    clear a0 a1 a2 a3 a4 a5 a6 a7 a8 a9
    clear b0 b1 b2 b3 b4 b5 b6 b7 b8 b9
    obtain ⟨D,hD⟩:∃ z,z=wc.drew:=⟨_,rfl⟩
    have S0:Ok wc D:=by rw [hD];exact Below.drew (Ok.refl _)
    replace ra:Hid _:=Ok.row' S0 ra.out
    replace rb:Hid _:=Ok.row' S0 rb.out
    replace rl:Hid _:=Ok.row' S0 rl.out
    replace rr:Hid _:=Ok.row' S0 rr.out
    have HD:Hid (Ok w0 D):=Hwc.out.step S0
    clear S0
    refine wp_region_L (fun Y=>Y.heap[ga]?=some (.cells #[.bool x.2.2.2.2,.int .i64 x.1,.int .i64 x.2.1,.int .u64 (x.2.2.1:Int),.int .u64 (x.2.2.2.1:Int)] 29 (0,0))/\Y.heap[gb]?=some (.cells #[.bool y.2.2.2.2,.int .i64 y.1,.int .i64 y.2.1,.int .u64 (y.2.2.1:Int),.int .u64 (y.2.2.2.1:Int)] 29 (0,0))) 3 (by kernel_rfl) ?_
    rw [<-hD]
    clear hD
    refine tL 0 (.agg #[.bool x.2.2.2.2,.int .i64 x.1,.int .i64 x.2.1,.int .u64 (x.2.2.1:Int),.int .u64 (x.2.2.2.1:Int)]) ⟨ra.out,rb.out⟩ ?_ ?_
    ·exact fun w' h=>yN h.1
    refine tL 1 (.agg #[.bool y.2.2.2.2,.int .i64 y.1,.int .i64 y.2.1,.int .u64 (y.2.2.1:Int),.int .u64 (y.2.2.2.1:Int)]) ⟨ra.out,rb.out⟩ ?_ ?_
    ·exact fun w' h=>yN h.2
    simp only [Act.put,List.setIfInBounds_toArray,List.set_cons_zero,List.set_cons_succ]
    refine wpAnyL_step (i:=2) (by kernel_rfl) rfl (fun K hK=>?_)
    obtain ⟨k0,k1,k2,k3,k4,k5,k6,k7,k8,k9⟩:=row5_facts rl.out
    go_simp
    obtain ⟨Z1,hZ1⟩:∃ Z,Z=(((((D.setCell ⟨gl,0,none⟩ (.bool x.2.2.2.2)).setCell ⟨gl,1,none⟩ (.int .i64 x.1)).setCell ⟨gl,2,none⟩ (.int .i64 x.2.1)).setCell ⟨gl,3,none⟩ (.int .u64 (x.2.2.1:Int))).setCell ⟨gl,4,none⟩ (.int .u64 (x.2.2.2.1:Int))):=⟨_,rfl⟩
    obtain ⟨HZ1,rlz,keep⟩:=(rows_put1 rl.out HD.out (by omega) _ _ _ _ _ hZ1).out
    replace HZ1:Hid (Ok w0 Z1):=HZ1
    replace rlz:Hid _:=rlz
    replace ra:Hid _:=keep _ _ (by omega) ra.out
    replace rb:Hid _:=keep _ _ (by omega) rb.out
    replace rr:Hid _:=keep _ _ (by omega) rr.out
    rw [<-hZ1]
    clear hZ1 keep rl
    clear k0 k1 k2 k3 k4 k5 k6 k7 k8 k9
    refine hK.out _ _ (fun _=>⟨ra.out,rb.out⟩) ?_
    clear hK K
    refine wpAnyL_step (i:=3) (by kernel_rfl) rfl (fun K hK=>?_)
    obtain ⟨j0,j1,j2,j3,j4,j5,j6,j7,j8,j9⟩:=row5_facts rr.out
    go_simp
    refine hK.out _ _ (fun h=>absurd rfl h) ?_
    clear hK K
    refine wpAnyL_done (by kernel_rfl) ?_ _
    obtain ⟨Z2,hZ2⟩:∃ Z,Z=(((((Z1.setCell ⟨gr,0,none⟩ (.bool y.2.2.2.2)).setCell ⟨gr,1,none⟩ (.int .i64 y.1)).setCell ⟨gr,2,none⟩ (.int .i64 y.2.1)).setCell ⟨gr,3,none⟩ (.int .u64 (y.2.2.1:Int))).setCell ⟨gr,4,none⟩ (.int .u64 (y.2.2.2.1:Int))):=⟨_,rfl⟩
    obtain ⟨HZ2,rrz,keep⟩:=(rows_put1 rr.out HZ1.out (by omega) _ _ _ _ _ hZ2).out
    replace HZ2:Hid (Ok w0 Z2):=HZ2
    replace rrz:Hid _:=rrz
    replace rlz:Hid _:=keep _ _ (by omega) rlz.out
    rw [<-hZ2]
    clear hZ2 keep rr
    clear j0 j1 j2 j3 j4 j5 j6 j7 j8 j9
    go_wp2_with fail
    refine bodyPost_ret (results_2c rfl _ _ gl gr 29 #[_,_,_,_,_] #[_,_,_,_,_] (0,0) _ rfl rfl rlz.out rrz.out Tryz.underlying29 rfl infoN infoN) rfl ?_
    exact ⟨by rw [HA.out.1,HA.out.2],HZ2.out⟩
  ·have HA:Hid (l=x/\r=y):=by unfold Hid;rw [HL.out,HR.out];unfold facsN;rw [if_pos (Or.inl HP.out.symm)];exact ⟨rfl,rfl⟩
   obtain ⟨a0,a1,a2,a3,a4,a5,a6,a7,a8,a9⟩:=row5_facts ra.out
   obtain ⟨b0,b1,b2,b3,b4,b5,b6,b7,b8,b9⟩:=row5_facts rb.out
   rw [<-HP.out] at a0
   rw [<-HQ.out] at b0
   go_wp2_with fail
   clear a0 a1 a2 a3 a4 a5 a6 a7 a8 a9
   clear b0 b1 b2 b3 b4 b5 b6 b7 b8 b9
   obtain ⟨D,hD⟩:∃ z,z=wc.drew:=⟨_,rfl⟩
   have S0:Ok wc D:=by rw [hD];exact Below.drew (Ok.refl _)
   replace ra:Hid _:=Ok.row' S0 ra.out
   replace rb:Hid _:=Ok.row' S0 rb.out
   replace rl:Hid _:=Ok.row' S0 rl.out
   replace rr:Hid _:=Ok.row' S0 rr.out
   have HD:Hid (Ok w0 D):=Hwc.out.step S0
   clear S0
   refine wp_region_L (fun Y=>Y.heap[ga]?=some (.cells #[.bool x.2.2.2.2,.int .i64 x.1,.int .i64 x.2.1,.int .u64 (x.2.2.1:Int),.int .u64 (x.2.2.2.1:Int)] 29 (0,0))/\Y.heap[gb]?=some (.cells #[.bool y.2.2.2.2,.int .i64 y.1,.int .i64 y.2.1,.int .u64 (y.2.2.1:Int),.int .u64 (y.2.2.2.1:Int)] 29 (0,0))) 3 (by kernel_rfl) ?_
   rw [<-hD]
   clear hD
   refine tL 0 (.agg #[.bool x.2.2.2.2,.int .i64 x.1,.int .i64 x.2.1,.int .u64 (x.2.2.1:Int),.int .u64 (x.2.2.2.1:Int)]) ⟨ra.out,rb.out⟩ ?_ ?_
   ·exact fun w' h=>yN h.1
   refine tL 1 (.agg #[.bool y.2.2.2.2,.int .i64 y.1,.int .i64 y.2.1,.int .u64 (y.2.2.1:Int),.int .u64 (y.2.2.2.1:Int)]) ⟨ra.out,rb.out⟩ ?_ ?_
   ·exact fun w' h=>yN h.2
   simp only [Act.put,List.setIfInBounds_toArray,List.set_cons_zero,List.set_cons_succ]
   refine wpAnyL_step (i:=2) (by kernel_rfl) rfl (fun K hK=>?_)
   obtain ⟨k0,k1,k2,k3,k4,k5,k6,k7,k8,k9⟩:=row5_facts rl.out
   go_simp
   obtain ⟨Z1,hZ1⟩:∃ Z,Z=(((((D.setCell ⟨gl,0,none⟩ (.bool x.2.2.2.2)).setCell ⟨gl,1,none⟩ (.int .i64 x.1)).setCell ⟨gl,2,none⟩ (.int .i64 x.2.1)).setCell ⟨gl,3,none⟩ (.int .u64 (x.2.2.1:Int))).setCell ⟨gl,4,none⟩ (.int .u64 (x.2.2.2.1:Int))):=⟨_,rfl⟩
   obtain ⟨HZ1,rlz,keep⟩:=(rows_put1 rl.out HD.out (by omega) _ _ _ _ _ hZ1).out
   replace HZ1:Hid (Ok w0 Z1):=HZ1
   replace rlz:Hid _:=rlz
   replace ra:Hid _:=keep _ _ (by omega) ra.out
   replace rb:Hid _:=keep _ _ (by omega) rb.out
   replace rr:Hid _:=keep _ _ (by omega) rr.out
   rw [<-hZ1]
   clear hZ1 keep rl
   clear k0 k1 k2 k3 k4 k5 k6 k7 k8 k9
   refine hK.out _ _ (fun _=>⟨ra.out,rb.out⟩) ?_
   clear hK K
   refine wpAnyL_step (i:=3) (by kernel_rfl) rfl (fun K hK=>?_)
   obtain ⟨j0,j1,j2,j3,j4,j5,j6,j7,j8,j9⟩:=row5_facts rr.out
   go_simp
   refine hK.out _ _ (fun h=>absurd rfl h) ?_
   clear hK K
   refine wpAnyL_done (by kernel_rfl) ?_ _
   obtain ⟨Z2,hZ2⟩:∃ Z,Z=(((((Z1.setCell ⟨gr,0,none⟩ (.bool y.2.2.2.2)).setCell ⟨gr,1,none⟩ (.int .i64 y.1)).setCell ⟨gr,2,none⟩ (.int .i64 y.2.1)).setCell ⟨gr,3,none⟩ (.int .u64 (y.2.2.1:Int))).setCell ⟨gr,4,none⟩ (.int .u64 (y.2.2.2.1:Int))):=⟨_,rfl⟩
   obtain ⟨HZ2,rrz,keep⟩:=(rows_put1 rr.out HZ1.out (by omega) _ _ _ _ _ hZ2).out
   replace HZ2:Hid (Ok w0 Z2):=HZ2
   replace rrz:Hid _:=rrz
   replace rlz:Hid _:=keep _ _ (by omega) rlz.out
   rw [<-hZ2]
   clear hZ2 keep rr
   clear j0 j1 j2 j3 j4 j5 j6 j7 j8 j9
   go_wp2_with fail
   refine bodyPost_ret (results_2c rfl _ _ gl gr 29 #[_,_,_,_,_] #[_,_,_,_,_] (0,0) _ rfl rfl rlz.out rrz.out Tryz.underlying29 rfl infoN infoN) rfl ?_
   exact ⟨by rw [HA.out.1,HA.out.2],HZ2.out⟩
end Go.Proofs.YtnjmjnmhldhaoaaGreat
