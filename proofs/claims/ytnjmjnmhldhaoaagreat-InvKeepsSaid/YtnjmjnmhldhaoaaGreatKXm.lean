import Derived.Deep.Cut
import Derived.Deep.CutRange
import Derived.Test.YtnjmjnmhldhaoaaGreatKXl
set_option linter.all false
namespace Go.Proofs.YtnjmjnmhldhaoaaGreat
open Go.RowKit Go.Shelf
theorem abs_u {v:Int} (hv:In64 v):0<=absI v/\absI v<=9223372036854775808:=by
 unfold In64 at hv;unfold absI;split<;>omega
theorem max_ends {a b:Int} (ha:In64 a) (hb:In64 b) (h:a≠0\/b≠0):0<max (absI a) (absI b)/\max (absI a) (absI b)<=9223372036854775808:=by
 have h1:=abs_u ha;have h2:=abs_u hb
 refine ⟨?_,by omega⟩
 rcases h with h | h
 ·have:0<absI a:=by unfold absI;split<;>omega
  omega
 ·have:0<absI b:=by unfold absI;split<;>omega
  omega
theorem prodV {x y:Int} (hx:In64 x) (hy:In64 y) : -85070591730234615865843651857942052864<=x*y/\x*y<=85070591730234615865843651857942052864:=by
 unfold In64 at hx hy
 have e:(x*y).natAbs=x.natAbs*y.natAbs:=Int.natAbs_mul x y
 have l:x.natAbs*y.natAbs<=9223372036854775808*9223372036854775808:=Nat.mul_le_mul (by omega) (by omega)
 omega
theorem lowhighV {a b c d:Int} (ha:In64 a) (hb:In64 b) (hc:In64 c) (hd:In64 d):V126 (lowP a b c d)/\V126 (highP a b c d):=by
 have h1:=prodV ha hc;have h2:=prodV ha hd;have h3:=prodV hb hc;have h4:=prodV hb hd
 unfold V126 lowP highP
 omega
set_option maxRecDepth 100000 in
set_option maxHeartbeats 40000000 in
theorem vdivided_any (a b c:Int×Int×Nat×Nat×Bool) (ha:RawN a) (hb:RawN b) (hc:RawN c) (h0:b.2.2.2.2=false->b.1≠0\/b.2.1≠0) (w0 w:World) (hok:Ok w0 w) :
  Calls Tryz.prog 49 #[nv a,nv b,nv c] w fun e w'=>e=.returned (.tuple #[nv (divdN a b c).1,nv (divdN a b c).2])/\Ok w0 w':=by
 have hle:=hok.le
 have HU:Hid (RawN a/\RawN b/\RawN c):=⟨ha,hb,hc⟩
 have NZ:Hid (b.2.2.2.2=false->b.1≠0\/b.2.1≠0):=h0
 clear ha hb hc h0
 obtain ⟨wr,hwr⟩:∃ t,t=(insN a (-9223372036854775808)&&insN b (-1)&&insN c (-9223372036854775808)):=⟨_,rfl⟩
 have HWR:Hid _:=hwr
 clear hwr
 obtain ⟨l,hl⟩:∃ t,t=(divdN a b c).1:=⟨_,rfl⟩
 have HL:Hid _:=hl
 clear hl
 obtain ⟨r,hr⟩:∃ t,t=(divdN a b c).2:=⟨_,rfl⟩
 have HR:Hid _:=hr
 clear hr
 rw [<-HL.out,<-HR.out]
 obtain ⟨p,hp⟩:∃ t,t=b.2.2.2.2:=⟨_,rfl⟩
 have HP:Hid _:=hp
 clear hp
 replace HR:Hid (r=b):=by unfold Hid;rw [HR.out];unfold divdN;split<;>rfl
 unfold nv
 go_enter Tryz.func49,Tryz.ntmps49
 go_upto_region 1 with (fail)
 obtain ⟨W,hW⟩:∃ W,W=(((((w).alloc (.cells #[.bool a.2.2.2.2,.int .i64 a.1,.int .i64 a.2.1,.int .u64 (a.2.2.1:Int),.int .u64 (a.2.2.2.1:Int)] 29)).alloc (.cells #[.bool b.2.2.2.2,.int .i64 b.1,.int .i64 b.2.1,.int .u64 (b.2.2.1:Int),.int .u64 (b.2.2.2.1:Int)] 29)).alloc (.cells #[.bool c.2.2.2.2,.int .i64 c.1,.int .i64 c.2.1,.int .u64 (c.2.2.1:Int),.int .u64 (c.2.2.2.1:Int)] 29)).alloc (.cells #[.bool false,.int .i64 0,.int .i64 0,.int .u64 0,.int .u64 0] 29)).alloc (.cells #[.bool false,.int .i64 0,.int .i64 0,.int .u64 0,.int .u64 0] 29):=⟨_,rfl⟩
 have ra:Hid (W.heap[w.heap.size]?=some (.cells #[.bool a.2.2.2.2,.int .i64 a.1,.int .i64 a.2.1,.int .u64 (a.2.2.1:Int),.int .u64 (a.2.2.2.1:Int)] 29)):=by unfold Hid;rw [hW];exact jj
 have rb:Hid (W.heap[w.heap.size+1]?=some (.cells #[.bool b.2.2.2.2,.int .i64 b.1,.int .i64 b.2.1,.int .u64 (b.2.2.1:Int),.int .u64 (b.2.2.2.1:Int)] 29)):=by unfold Hid;rw [hW];exact jj
 have rc:Hid (W.heap[w.heap.size+1+1]?=some (.cells #[.bool c.2.2.2.2,.int .i64 c.1,.int .i64 c.2.1,.int .u64 (c.2.2.1:Int),.int .u64 (c.2.2.2.1:Int)] 29)):=by unfold Hid;rw [hW];exact jj
 have rl:Hid (W.heap[w.heap.size+1+1+1]?=some (.cells #[.bool false,.int .i64 0,.int .i64 0,.int .u64 0,.int .u64 0] 29)):=by unfold Hid;rw [hW];exact jj
 have rr:Hid (W.heap[w.heap.size+1+1+1+1]?=some (.cells #[.bool false,.int .i64 0,.int .i64 0,.int .u64 0,.int .u64 0] 29)):=by unfold Hid;rw [hW];exact jj
 have HW:Hid (Ok w0 W):=by unfold Hid;rw [hW];exact (by repeat (first | exact hok | refine Ok.alloc ?_ _ | refine Ok.draws ?_ _ | fail))
 rw [<-hW]
 clear hW
 obtain ⟨gr,egr⟩:∃ g,g=w.heap.size+1+1+1+1:=⟨_,rfl⟩
 rw [<-egr] at rr ⊢
 obtain ⟨gl,egl⟩:∃ g,g=w.heap.size+1+1+1:=⟨_,rfl⟩
 rw [<-egl] at rl ⊢
 obtain ⟨gc,egc⟩:∃ g,g=w.heap.size+1+1:=⟨_,rfl⟩
 rw [<-egc] at rc ⊢
 obtain ⟨gb,egb⟩:∃ g,g=w.heap.size+1:=⟨_,rfl⟩
 rw [<-egb] at rb ⊢
 obtain ⟨ga,ega⟩:∃ g,g=w.heap.size:=⟨_,rfl⟩
 rw [<-ega] at ra ⊢
 have lga:w0.heap.size<=ga:=by omega
 have ngagb:¬ga=gb:=by omega
 have ngagc:¬ga=gc:=by omega
 have ngagl:¬ga=gl:=by omega
 have ngagr:¬ga=gr:=by omega
 have lgb:w0.heap.size<=gb:=by omega
 have ngbga:¬gb=ga:=by omega
 have ngbgc:¬gb=gc:=by omega
 have ngbgl:¬gb=gl:=by omega
 have ngbgr:¬gb=gr:=by omega
 have lgc:w0.heap.size<=gc:=by omega
 have ngcga:¬gc=ga:=by omega
 have ngcgb:¬gc=gb:=by omega
 have ngcgl:¬gc=gl:=by omega
 have ngcgr:¬gc=gr:=by omega
 have lgl:w0.heap.size<=gl:=by omega
 have nglga:¬gl=ga:=by omega
 have nglgb:¬gl=gb:=by omega
 have nglgc:¬gl=gc:=by omega
 have nglgr:¬gl=gr:=by omega
 have lgr:w0.heap.size<=gr:=by omega
 have ngrga:¬gr=ga:=by omega
 have ngrgb:¬gr=gb:=by omega
 have ngrgc:¬gr=gc:=by omega
 have ngrgl:¬gr=gl:=by omega
 clear ega egb egc egl egr
 go_cut [8] from 13 to 22 (fun s8 wx=>s8=.bool wr/\Hid (Ok w0 wx)/\Hid (wx.heap[ga]?=some (.cells #[.bool a.2.2.2.2,.int .i64 a.1,.int .i64 a.2.1,.int .u64 (a.2.2.1:Int),.int .u64 (a.2.2.2.1:Int)] 29 (0,0)))/\Hid (wx.heap[gb]?=some (.cells #[.bool b.2.2.2.2,.int .i64 b.1,.int .i64 b.2.1,.int .u64 (b.2.2.1:Int),.int .u64 (b.2.2.2.1:Int)] 29 (0,0)))/\Hid (wx.heap[gc]?=some (.cells #[.bool c.2.2.2.2,.int .i64 c.1,.int .i64 c.2.1,.int .u64 (c.2.2.1:Int),.int .u64 (c.2.2.2.1:Int)] 29 (0,0)))/\Hid (wx.heap[gl]?=some (.cells #[.bool false,.int .i64 0,.int .i64 0,.int .u64 0,.int .u64 0] 29 (0,0)))/\Hid (wx.heap[gr]?=some (.cells #[.bool false,.int .i64 0,.int .i64 0,.int .u64 0,.int .u64 0] 29 (0,0))))
 case first =>
  obtain ⟨i,hi⟩:∃ t,t=insN a (-9223372036854775808):=⟨_,rfl⟩
  have HI:Hid _:=hi
  clear hi
  obtain ⟨j,hj⟩:∃ t,t=insN b (-1):=⟨_,rfl⟩
  have HJ:Hid _:=hj
  clear hj
  obtain ⟨k,hk⟩:∃ t,t=insN c (-9223372036854775808):=⟨_,rfl⟩
  have HK:Hid _:=hk
  clear hk
  rw [<-HI.out,<-HJ.out,<-HK.out] at HWR
  obtain ⟨a0,a1,a2,a3,a4,a5,a6,a7,a8,a9⟩:=row5_facts ra.out
  go_wp2_with fail
  clear a0 a1 a2 a3 a4 a5 a6 a7 a8 a9
  refine (nhas_any a (-9223372036854775808) HU.out.1 W _ (Ok.refl _)).mono ?_
  rintro e u1 ⟨rfl,hb⟩
  replace ra:Hid _:=Ok.row' hb ra.out
  replace rb:Hid _:=Ok.row' hb rb.out
  replace rc:Hid _:=Ok.row' hb rc.out
  replace rl:Hid _:=Ok.row' hb rl.out
  replace rr:Hid _:=Ok.row' hb rr.out
  have Hu1:Hid (Ok w0 u1):=HW.out.step hb
  clear hb
  rw [<-HI.out]
  cases i
  ·go_wp2_with fail
   go_meet
   case rel=>exact ⟨by rw [HWR.out];rfl,Hu1,ra,rb,rc,rl,rr⟩
  ·obtain ⟨b0,b1,b2,b3,b4,b5,b6,b7,b8,b9⟩:=row5_facts rb.out
   go_wp2_with fail
   clear b0 b1 b2 b3 b4 b5 b6 b7 b8 b9
   refine (nhas_any b (-1) HU.out.2.1 u1 _ (Ok.refl _)).mono ?_
   rintro e u2 ⟨rfl,hb⟩
   replace ra:Hid _:=Ok.row' hb ra.out
   replace rb:Hid _:=Ok.row' hb rb.out
   replace rc:Hid _:=Ok.row' hb rc.out
   replace rl:Hid _:=Ok.row' hb rl.out
   replace rr:Hid _:=Ok.row' hb rr.out
   have Hu2:Hid (Ok w0 u2):=Hu1.out.step hb
   clear hb
   rw [<-HJ.out]
   cases j
   ·go_wp2_with fail
    go_meet
    case rel=>exact ⟨by rw [HWR.out];rfl,Hu2,ra,rb,rc,rl,rr⟩
   ·obtain ⟨c0,c1,c2,c3,c4,c5,c6,c7,c8,c9⟩:=row5_facts rc.out
    go_wp2_with fail
    clear c0 c1 c2 c3 c4 c5 c6 c7 c8 c9
    refine (nhas_any c (-9223372036854775808) HU.out.2.2 u2 _ (Ok.refl _)).mono ?_
    rintro e u3 ⟨rfl,hb⟩
    replace ra:Hid _:=Ok.row' hb ra.out
    replace rb:Hid _:=Ok.row' hb rb.out
    replace rc:Hid _:=Ok.row' hb rc.out
    replace rl:Hid _:=Ok.row' hb rl.out
    replace rr:Hid _:=Ok.row' hb rr.out
    have Hu3:Hid (Ok w0 u3):=Hu2.out.step hb
    clear hb
    rw [<-HK.out]
    cases k
    ·go_wp2_with fail
     go_meet
     case rel=>exact ⟨by rw [HWR.out];rfl,Hu3,ra,rb,rc,rl,rr⟩
    ·go_wp2_with fail
     go_meet
     case rel=>exact ⟨by rw [HWR.out];rfl,Hu3,ra,rb,rc,rl,rr⟩
 case rest =>
  clear ra rb rc rl rr HW
  obtain ⟨rfl,Hwc,ra,rb,rc,rl,rr⟩:=hcut
  cases p
  ·cases wr
   ·replace HL:Hid (l=meetN a (clipN (lowP c.1 c.2.1 b.1 b.2.1-((max (absI b.1) (absI b.2.1))-1)) (highP c.1 c.2.1 b.1 b.2.1+((max (absI b.1) (absI b.2.1))-1)))):=by unfold Hid;rw [HL.out];unfold divdN;rw [if_neg (by rintro (h | h);(· rw [<-HP.out] at h;cases h);(· have e:=HWR.out;rw [h.1,h.2.1,h.2.2] at e;cases e))]
    have MK:Hid _:=max_ends HU.out.2.1.1 HU.out.2.1.2.1 (NZ.out HP.out.symm)
    have VV:Hid _:=lowhighV HU.out.2.2.1 HU.out.2.2.2.1 HU.out.2.1.1 HU.out.2.1.2.1
    obtain ⟨L,hL⟩:∃ t,t=lowP c.1 c.2.1 b.1 b.2.1:=⟨_,rfl⟩
    have HLO:Hid _:=hL
    clear hL
    obtain ⟨H,hH⟩:∃ t,t=highP c.1 c.2.1 b.1 b.2.1:=⟨_,rfl⟩
    have HHI:Hid _:=hH
    clear hH
    obtain ⟨mx,hmx⟩:∃ t,t=(max (absI b.1) (absI b.2.1)):=⟨_,rfl⟩
    have HMX:Hid _:=hmx
    clear hmx
    obtain ⟨n,hn⟩:∃ t,t=mx-1:=⟨_,rfl⟩
    have HM:Hid _:=hn
    clear hn
    rw [<-HLO.out,<-HHI.out] at VV
    rw [<-HLO.out,<-HHI.out,<-HMX.out,<-HM.out] at HL
    rw [<-HMX.out] at MK
    have LN:Hid (In64 n/\In64 (-n)):=by have:=MK.out;rw [HM.out];unfold Hid In64;omega
    obtain ⟨m,hm⟩:∃ t,t=clipN (L-n) (H+n):=⟨_,rfl⟩
    have HC:Hid _:=hm
    clear hm
    rw [<-HC.out] at HL
    have RM:Hid (RawN m):=by rw [HC.out];exact clip_raw _ _
    obtain ⟨b0,b1,b2,b3,b4,b5,b6,b7,b8,b9⟩:=row5_facts rb.out
    obtain ⟨c0,c1,c2,c3,c4,c5,c6,c7,c8,c9⟩:=row5_facts rc.out
    rw [<-HP.out] at b0
    go_wp2_with fail
    clear b0 b1 b2 b3 b4 b5 b6 b7 b8 b9
    clear c0 c1 c2 c3 c4 c5 c6 c7 c8 c9
    rw [show (.agg #[.bool false,.int .i64 b.1,.int .i64 b.2.1,.int .u64 (b.2.2.1:Int),.int .u64 (b.2.2.2.1:Int)]:Value)=nv b by unfold nv;rw [<-HP.out]]
    refine (vproducts_any c b HU.out.2.2 HU.out.2.1 wc _ (Ok.refl _)).mono ?_
    rintro e u3 ⟨g,rfl,hg,hb,hle3⟩
    have HG:Hid _:=hg
    replace ra:Hid _:=Ok.row' hb ra.out
    replace rb:Hid _:=Ok.row' hb rb.out
    replace rc:Hid _:=Ok.row' hb rc.out
    replace rl:Hid _:=Ok.row' hb rl.out
    replace rr:Hid _:=Ok.row' hb rr.out
    have Hu3:Hid (Ok w0 u3):=Hwc.out.step hb
    clear hb hg hle3
    go_wp2_with fail
    obtain ⟨D,hD⟩:∃ z,z=u3.drew:=⟨_,rfl⟩
    have S0:Ok u3 D:=by rw [hD];exact Below.drew (Ok.refl _)
    refine wp_region_T (fun Y=>Ok u3 Y) 11 (by kernel_rfl) ?_
    rw [<-hD]
    clear hD
    refine tT 0 (.pointer (some ⟨gb,1,none⟩)) S0 ?_ ?_
    ·intro w' hS;kernel_rfl
    refine tT 1 (.pointer (some ⟨gb,1,none⟩)) S0 ?_ ?_
    ·intro w' hS;kernel_rfl
    refine tT 2 (.int .i64 b.1) S0 ?_ ?_
    ·exact fun w' hS=>yC ((cell_of_row _ gb 1 _ _ _ (Ok.row' hS rb.out)).trans rfl)
    refine tT 4 (.pointer (some ⟨gb,1,none⟩)) S0 ?_ ?_
    ·intro w' hS;kernel_rfl
    refine tT 5 (.pointer (some ⟨gb,2,none⟩)) S0 ?_ ?_
    ·intro w' hS;kernel_rfl
    refine tT 6 (.int .i64 b.2.1) S0 ?_ ?_
    ·exact fun w' hS=>yC ((cell_of_row _ gb 2 _ _ _ (Ok.row' hS rb.out)).trans rfl)
    simp only [Act.put,List.setIfInBounds_toArray,List.set_cons_zero,List.set_cons_succ]
    refine sT (i:=3) (by kernel_rfl) rfl (fun K hK=>?_)
    go_simp
    refine (vdistance_any b.1 HU.out.2.1.1 u3 _ S0).mono ?_
    rintro e y1 ⟨rfl,hy1⟩
    go_wp2_with fail
    refine hK.out _ _ (fun _=>hy1) ?_
    clear hK K
    refine sT (i:=7) (by kernel_rfl) rfl (fun K hK=>?_)
    go_simp
    refine (vdistance_any b.2.1 HU.out.2.1.2.1 u3 _ hy1).mono ?_
    rintro e y2 ⟨rfl,hy2⟩
    go_wp2_with fail
    refine hK.out _ _ (fun _=>hy2) ?_
    clear hK K
    have e1:IntKind.u64.wrap (mx-1)=n:=by have:=MK.out;rw [u64w,HM.out];omega
    have e2:IntKind.i64.wrap n=n:=by rw [IntKind.wrap_i64];have:=LN.out.1;unfold In64 at this;omega
    have e3:wrap64 n=n:=wrap64_id LN.out.1
    refine sT (i:=8) (by kernel_rfl) rfl (fun K hK=>?_)
    go_simp
    rw [<-HMX.out]
    refine hK.out _ _ (fun _=>hy2) ?_
    clear hK K
    refine sT (i:=9) (by kernel_rfl) rfl (fun K hK=>?_)
    go_simp
    refine hK.out _ _ (fun _=>hy2) ?_
    clear hK K
    refine sT (i:=10) (by kernel_rfl) rfl (fun K hK=>?_)
    go_simp
    refine hK.out _ _ (fun _=>hy2) ?_
    clear hK K
    refine sT (i:=11) (by kernel_rfl) rfl (fun K hK=>?_)
    go_simp
    refine hK.out _ _ (fun _=>hy2) ?_
    clear hK K
    refine wpAnyT_done (by kernel_rfl) ?_ _
    replace ra:Hid _:=Ok.row' hy2 ra.out
    replace rb:Hid _:=Ok.row' hy2 rb.out
    replace rc:Hid _:=Ok.row' hy2 rc.out
    replace rl:Hid _:=Ok.row' hy2 rl.out
    replace rr:Hid _:=Ok.row' hy2 rr.out
    replace HG:Hid _:=Ok.row' hy2 HG.out
    have Hy2:Hid (Ok w0 y2):=Hu3.out.step hy2
    clear hy2
    go_wp2_with fail
    refine (vminf_any _ _ _ _ g y2 HG.out).mono ?_
    rintro e m1 ⟨rfl,hb⟩
    rw [show min (min (c.1*b.1) (c.1*b.2.1)) (min (c.2.1*b.1) (c.2.1*b.2.1))=L from HLO.out.symm]
    replace ra:Hid _:=Ok.row' hb ra.out
    replace rb:Hid _:=Ok.row' hb rb.out
    replace rc:Hid _:=Ok.row' hb rc.out
    replace rl:Hid _:=Ok.row' hb rl.out
    replace rr:Hid _:=Ok.row' hb rr.out
    replace HG:Hid _:=Ok.row' hb HG.out
    have Hm1:Hid (Ok w0 m1):=Hy2.out.step hb
    clear hb Hy2
    go_wp2_with fail
    refine (vmaxf_any _ _ _ _ g m1 HG.out).mono ?_
    rintro e m2 ⟨rfl,hb⟩
    rw [show max (max (c.1*b.1) (c.1*b.2.1)) (max (c.2.1*b.1) (c.2.1*b.2.1))=H from HHI.out.symm]
    replace ra:Hid _:=Ok.row' hb ra.out
    replace rb:Hid _:=Ok.row' hb rb.out
    replace rc:Hid _:=Ok.row' hb rc.out
    replace rl:Hid _:=Ok.row' hb rl.out
    replace rr:Hid _:=Ok.row' hb rr.out
    have Hm2:Hid (Ok w0 m2):=Hm1.out.step hb
    clear hb Hm1 HG
    unfold wvv
    go_wp2_with fail
    have hm2:=Hm2.out.le
    obtain ⟨V,hV⟩:∃ W,W=((m2).alloc (.cells #[.int .i64 (hiW L),.int .u64 (loW L)] 104)).alloc (.cells #[.int .i64 (hiW H),.int .u64 (loW H)] 104):=⟨_,rfl⟩
    have rL:Hid (V.heap[m2.heap.size]?=some (.cells #[.int .i64 (hiW L),.int .u64 (loW L)] 104)):=by unfold Hid;rw [hV];exact jj
    have rH:Hid (V.heap[m2.heap.size+1]?=some (.cells #[.int .i64 (hiW H),.int .u64 (loW H)] 104)):=by unfold Hid;rw [hV];exact jj
    have HV:Hid (Ok w0 V):=by unfold Hid;rw [hV];exact (Hm2.out.alloc _).alloc _
    have hO:Ok m2 V:=by rw [hV];exact ((Ok.refl _).alloc _).alloc _
    rw [<-hV]
    clear hV
    have q1:=lt_row rl.out
    have q2:=lt_row rr.out
    replace ra:Hid _:=Ok.row' hO ra.out
    replace rb:Hid _:=Ok.row' hO rb.out
    replace rc:Hid _:=Ok.row' hO rc.out
    replace rl:Hid _:=Ok.row' hO rl.out
    replace rr:Hid _:=Ok.row' hO rr.out
    clear hO
    obtain ⟨gH,egH⟩:∃ g,g=m2.heap.size+1:=⟨_,rfl⟩
    rw [<-egH] at rH ⊢
    obtain ⟨gL,egL⟩:∃ g,g=m2.heap.size:=⟨_,rfl⟩
    rw [<-egL] at rL ⊢
    have lgL:w0.heap.size<=gL:=by omega
    have ngLgH:¬gL=gH:=by omega
    have lgH:w0.heap.size<=gH:=by omega
    have ngHgL:¬gH=gL:=by omega
    have ngLgl:¬gL=gl:=by omega
    have ngLgr:¬gL=gr:=by omega
    have ngHgl:¬gH=gl:=by omega
    have ngHgr:¬gH=gr:=by omega
    clear egL egH
    clear Hm2 hm2 q1 q2
    have e4:IntKind.i64.wrap (0-n) = -n:=by rw [IntKind.wrap_i64];have:=LN.out;unfold In64 at this;omega
    obtain ⟨D,hD⟩:∃ z,z=V.drew:=⟨_,rfl⟩
    have S0:Ok V D:=by rw [hD];exact Below.drew (Ok.refl _)
    refine wp_region_T (fun Y=>Y.heap[ga]?=some (.cells #[.bool a.2.2.2.2,.int .i64 a.1,.int .i64 a.2.1,.int .u64 (a.2.2.1:Int),.int .u64 (a.2.2.2.1:Int)] 29 (0,0))/\Y.heap[gb]?=some (.cells #[.bool b.2.2.2.2,.int .i64 b.1,.int .i64 b.2.1,.int .u64 (b.2.2.1:Int),.int .u64 (b.2.2.2.1:Int)] 29 (0,0))/\Y.heap[gL]?=some (.cells #[.int .i64 (hiW L),.int .u64 (loW L)] 104 (0,0))/\Y.heap[gH]?=some (.cells #[.int .i64 (hiW H),.int .u64 (loW H)] 104 (0,0))) 12 (by kernel_rfl) ?_
    rw [<-hD]
    clear hD
    refine tT 0 (.agg #[.bool a.2.2.2.2,.int .i64 a.1,.int .i64 a.2.1,.int .u64 (a.2.2.1:Int),.int .u64 (a.2.2.2.1:Int)]) ⟨Ok.row' S0 ra.out,Ok.row' S0 rb.out,Ok.row' S0 rL.out,Ok.row' S0 rH.out⟩ ?_ ?_
    ·exact fun w' hS=>yN (hS.1)
    refine tT 1 (.agg #[.int .i64 (hiW L),.int .u64 (loW L)]) ⟨Ok.row' S0 ra.out,Ok.row' S0 rb.out,Ok.row' S0 rL.out,Ok.row' S0 rH.out⟩ ?_ ?_
    ·exact fun w' hS=>yW (hS.2.2.1)
    refine tT 2 (.int .i64 n) ⟨Ok.row' S0 ra.out,Ok.row' S0 rb.out,Ok.row' S0 rL.out,Ok.row' S0 rH.out⟩ ?_ ?_
    ·intro w' hS;kernel_rfl
    refine tT 3 (.int .i64 (IntKind.i64.wrap (0-n))) ⟨Ok.row' S0 ra.out,Ok.row' S0 rb.out,Ok.row' S0 rL.out,Ok.row' S0 rH.out⟩ ?_ ?_
    ·intro w' hS;kernel_rfl
    refine tT 5 (.agg #[.int .i64 (hiW H),.int .u64 (loW H)]) ⟨Ok.row' S0 ra.out,Ok.row' S0 rb.out,Ok.row' S0 rL.out,Ok.row' S0 rH.out⟩ ?_ ?_
    ·exact fun w' hS=>yW (hS.2.2.2)
    refine tT 6 (.int .i64 n) ⟨Ok.row' S0 ra.out,Ok.row' S0 rb.out,Ok.row' S0 rL.out,Ok.row' S0 rH.out⟩ ?_ ?_
    ·intro w' hS;kernel_rfl
    refine tT 10 (.agg #[.bool b.2.2.2.2,.int .i64 b.1,.int .i64 b.2.1,.int .u64 (b.2.2.1:Int),.int .u64 (b.2.2.2.1:Int)]) ⟨Ok.row' S0 ra.out,Ok.row' S0 rb.out,Ok.row' S0 rL.out,Ok.row' S0 rH.out⟩ ?_ ?_
    ·exact fun w' hS=>yN (hS.2.1)
    rw [e4]
    simp only [Act.put,List.setIfInBounds_toArray,List.set_cons_zero,List.set_cons_succ]
    refine sT (i:=4) (by kernel_rfl) rfl (fun K hK=>?_)
    go_simp
    refine (vplus_any L (-n) VV.out.1 LN.out.2 V _ S0).mono ?_
    rintro e c1 ⟨rfl,hc1⟩
    rw [show L + -n=L-n from rfl]
    go_wp2_with fail
    refine hK.out _ _ (fun _=>⟨Ok.row' hc1 ra.out,Ok.row' hc1 rb.out,Ok.row' hc1 rL.out,Ok.row' hc1 rH.out⟩) ?_
    clear hK K
    refine sT (i:=7) (by kernel_rfl) rfl (fun K hK=>?_)
    go_simp
    refine (vplus_any H n VV.out.2 LN.out.1 V _ hc1).mono ?_
    rintro e c2 ⟨rfl,hc2⟩
    go_wp2_with fail
    refine hK.out _ _ (fun _=>⟨Ok.row' hc2 ra.out,Ok.row' hc2 rb.out,Ok.row' hc2 rL.out,Ok.row' hc2 rH.out⟩) ?_
    clear hK K
    refine sT (i:=8) (by kernel_rfl) rfl (fun K hK=>?_)
    go_simp
    refine (vclipped_any (L-n) (H+n) V _ hc2).mono ?_
    rintro e c3 ⟨rfl,hc3⟩
    rw [<-HC.out]
    go_wp2_with fail
    refine hK.out _ _ (fun _=>⟨Ok.row' hc3 ra.out,Ok.row' hc3 rb.out,Ok.row' hc3 rL.out,Ok.row' hc3 rH.out⟩) ?_
    clear hK K
    refine sT (i:=9) (by kernel_rfl) rfl (fun K hK=>?_)
    go_simp
    refine (nmeet_any a m HU.out.1 RM.out V _ hc3).mono ?_
    rintro e c4 ⟨rfl,hc4⟩
    rw [<-HL.out]
    unfold nv
    go_wp2_with fail
    refine hK.out _ _ (fun _=>⟨Ok.row' hc4 ra.out,Ok.row' hc4 rb.out,Ok.row' hc4 rL.out,Ok.row' hc4 rH.out⟩) ?_
    clear hK K
    refine sT (i:=11) (by kernel_rfl) rfl (fun K hK=>?_)
    replace ra:Hid _:=Ok.row' hc4 ra.out
    replace rb:Hid _:=Ok.row' hc4 rb.out
    replace rl:Hid _:=Ok.row' hc4 rl.out
    replace rr:Hid _:=Ok.row' hc4 rr.out
    replace rL:Hid _:=Ok.row' hc4 rL.out
    replace rH:Hid _:=Ok.row' hc4 rH.out
    have Hc4:Hid (Ok w0 c4):=HV.out.step hc4
    clear S0
    obtain ⟨a0,a1,a2,a3,a4,a5,a6,a7,a8,a9⟩:=row5_facts rl.out
    go_simp
    obtain ⟨Z1,hZ1⟩:∃ Z,Z=(((((c4.setCell ⟨gl,0,none⟩ (.bool l.2.2.2.2)).setCell ⟨gl,1,none⟩ (.int .i64 l.1)).setCell ⟨gl,2,none⟩ (.int .i64 l.2.1)).setCell ⟨gl,3,none⟩ (.int .u64 (l.2.2.1:Int))).setCell ⟨gl,4,none⟩ (.int .u64 (l.2.2.2.1:Int))):=⟨_,rfl⟩
    obtain ⟨HZ1,rlz,keep⟩:=(rows_put1 rl.out Hc4.out (by omega) _ _ _ _ _ hZ1).out
    replace HZ1:Hid (Ok w0 Z1):=HZ1
    replace rlz:Hid _:=rlz
    replace ra:Hid _:=keep _ _ (by omega) ra.out
    replace rb:Hid _:=keep _ _ (by omega) rb.out
    replace rr:Hid _:=keep _ _ (by omega) rr.out
    replace rL:Hid _:=keep _ _ (by omega) rL.out
    replace rH:Hid _:=keep _ _ (by omega) rH.out
    rw [<-hZ1]
    clear hZ1 keep rl
    clear a0 a1 a2 a3 a4 a5 a6 a7 a8 a9
    have rl:Hid _:=rlz
    clear rlz
    refine hK.out _ _ (fun _=>⟨ra.out,rb.out,rL.out,rH.out⟩) ?_
    clear hK K
    refine sT (i:=12) (by kernel_rfl) rfl (fun K hK=>?_)
    obtain ⟨a0,a1,a2,a3,a4,a5,a6,a7,a8,a9⟩:=row5_facts rr.out
    go_simp
    refine hK.out _ _ (fun h=>absurd h (by decide)) ?_
    clear hK K
    obtain ⟨Z2,hZ2⟩:∃ Z,Z=(((((Z1.setCell ⟨gr,0,none⟩ (.bool b.2.2.2.2)).setCell ⟨gr,1,none⟩ (.int .i64 b.1)).setCell ⟨gr,2,none⟩ (.int .i64 b.2.1)).setCell ⟨gr,3,none⟩ (.int .u64 (b.2.2.1:Int))).setCell ⟨gr,4,none⟩ (.int .u64 (b.2.2.2.1:Int))):=⟨_,rfl⟩
    obtain ⟨HZ2,rrz,keep⟩:=(rows_put1 rr.out HZ1.out (by omega) _ _ _ _ _ hZ2).out
    replace HZ2:Hid (Ok w0 Z2):=HZ2
    replace rrz:Hid _:=rrz
    replace ra:Hid _:=keep _ _ (by omega) ra.out
    replace rb:Hid _:=keep _ _ (by omega) rb.out
    replace rl:Hid _:=keep _ _ (by omega) rl.out
    replace rL:Hid _:=keep _ _ (by omega) rL.out
    replace rH:Hid _:=keep _ _ (by omega) rH.out
    rw [<-hZ2]
    clear hZ2 keep rr
    clear a0 a1 a2 a3 a4 a5 a6 a7 a8 a9
    have rr:Hid _:=rrz
    clear rrz
    refine wpAnyT_done (by kernel_rfl) ?_ _
    go_wp2_with fail
    refine bodyPost_ret (results_2c rfl _ _ gl gr 29 #[_,_,_,_,_] #[_,_,_,_,_] (0,0) _ rfl rfl rl.out rr.out Tryz.underlying29 rfl infoN infoN) rfl ?_
    exact ⟨by rw [HR.out],HZ2.out⟩
   ·have hw:insN a (-9223372036854775808)=true/\insN b (-1)=true/\insN c (-9223372036854775808)=true:=by have e:=HWR.out.symm;rw [Bool.and_eq_true,Bool.and_eq_true] at e;exact ⟨e.1.1,e.1.2,e.2⟩
    have HA:Hid (l=a):=by unfold Hid;rw [HL.out];unfold divdN;rw [if_pos (Or.inr hw)]
    obtain ⟨b0,b1,b2,b3,b4,b5,b6,b7,b8,b9⟩:=row5_facts rb.out
    rw [<-HP.out] at b0
    go_wp2_with fail
    clear b0 b1 b2 b3 b4 b5 b6 b7 b8 b9
    obtain ⟨D,hD⟩:∃ z,z=wc.drew:=⟨_,rfl⟩
    have S0:Ok wc D:=by rw [hD];exact Below.drew (Ok.refl _)
    replace ra:Hid _:=Ok.row' S0 ra.out
    replace rb:Hid _:=Ok.row' S0 rb.out
    replace rl:Hid _:=Ok.row' S0 rl.out
    replace rr:Hid _:=Ok.row' S0 rr.out
    have HD:Hid (Ok w0 D):=Hwc.out.step S0
    clear S0
    refine wp_region_L (fun Y=>Y.heap[ga]?=some (.cells #[.bool a.2.2.2.2,.int .i64 a.1,.int .i64 a.2.1,.int .u64 (a.2.2.1:Int),.int .u64 (a.2.2.2.1:Int)] 29 (0,0))/\Y.heap[gb]?=some (.cells #[.bool b.2.2.2.2,.int .i64 b.1,.int .i64 b.2.1,.int .u64 (b.2.2.1:Int),.int .u64 (b.2.2.2.1:Int)] 29 (0,0))) 3 (by kernel_rfl) ?_
    rw [<-hD]
    clear hD
    refine tL 0 (.agg #[.bool a.2.2.2.2,.int .i64 a.1,.int .i64 a.2.1,.int .u64 (a.2.2.1:Int),.int .u64 (a.2.2.2.1:Int)]) ⟨ra.out,rb.out⟩ ?_ ?_
    ·exact fun w' h=>yN h.1
    refine tL 1 (.agg #[.bool b.2.2.2.2,.int .i64 b.1,.int .i64 b.2.1,.int .u64 (b.2.2.1:Int),.int .u64 (b.2.2.2.1:Int)]) ⟨ra.out,rb.out⟩ ?_ ?_
    ·exact fun w' h=>yN h.2
    simp only [Act.put,List.setIfInBounds_toArray,List.set_cons_zero,List.set_cons_succ]
    refine wpAnyL_step (i:=2) (by kernel_rfl) rfl (fun K hK=>?_)
    obtain ⟨k0,k1,k2,k3,k4,k5,k6,k7,k8,k9⟩:=row5_facts rl.out
    go_simp
    obtain ⟨Z1,hZ1⟩:∃ Z,Z=(((((D.setCell ⟨gl,0,none⟩ (.bool a.2.2.2.2)).setCell ⟨gl,1,none⟩ (.int .i64 a.1)).setCell ⟨gl,2,none⟩ (.int .i64 a.2.1)).setCell ⟨gl,3,none⟩ (.int .u64 (a.2.2.1:Int))).setCell ⟨gl,4,none⟩ (.int .u64 (a.2.2.2.1:Int))):=⟨_,rfl⟩
    obtain ⟨HZ1,rlz,keep⟩:=(rows_put1 rl.out HD.out (by omega) _ _ _ _ _ hZ1).out
    replace HZ1:Hid (Ok w0 Z1):=HZ1
    replace rlz:Hid _:=rlz
    replace ra:Hid _:=keep _ _ (by omega) ra.out
    replace rb:Hid _:=keep _ _ (by omega) rb.out
    replace rr:Hid _:=keep _ _ (by omega) rr.out
    rw [<-hZ1]
    clear hZ1 keep rl
    clear k0 k1 k2 k3 k4 k5 k6 k7 k8 k9
    refine hK.out _ _ (fun _=>⟨ra.out,rb.out⟩) ?_
    clear hK K
    refine wpAnyL_step (i:=3) (by kernel_rfl) rfl (fun K hK=>?_)
    obtain ⟨j0,j1,j2,j3,j4,j5,j6,j7,j8,j9⟩:=row5_facts rr.out
    go_simp
    refine hK.out _ _ (fun h=>absurd rfl h) ?_
    clear hK K
    refine wpAnyL_done (by kernel_rfl) ?_ _
    obtain ⟨Z2,hZ2⟩:∃ Z,Z=(((((Z1.setCell ⟨gr,0,none⟩ (.bool b.2.2.2.2)).setCell ⟨gr,1,none⟩ (.int .i64 b.1)).setCell ⟨gr,2,none⟩ (.int .i64 b.2.1)).setCell ⟨gr,3,none⟩ (.int .u64 (b.2.2.1:Int))).setCell ⟨gr,4,none⟩ (.int .u64 (b.2.2.2.1:Int))):=⟨_,rfl⟩
    obtain ⟨HZ2,rrz,keep⟩:=(rows_put1 rr.out HZ1.out (by omega) _ _ _ _ _ hZ2).out
    replace HZ2:Hid (Ok w0 Z2):=HZ2
    replace rrz:Hid _:=rrz
    replace rlz:Hid _:=keep _ _ (by omega) rlz.out
    rw [<-hZ2]
    clear hZ2 keep rr
    clear j0 j1 j2 j3 j4 j5 j6 j7 j8 j9
    go_wp2_with fail
    refine bodyPost_ret (results_2c rfl _ _ gl gr 29 #[_,_,_,_,_] #[_,_,_,_,_] (0,0) _ rfl rfl rlz.out rrz.out Tryz.underlying29 rfl infoN infoN) rfl ?_
    exact ⟨by rw [HA.out,HR.out],HZ2.out⟩
  ·have HA:Hid (l=a):=by unfold Hid;rw [HL.out];unfold divdN;rw [if_pos (Or.inl HP.out.symm)]
   obtain ⟨b0,b1,b2,b3,b4,b5,b6,b7,b8,b9⟩:=row5_facts rb.out
   rw [<-HP.out] at b0
   go_wp2_with fail
   clear b0 b1 b2 b3 b4 b5 b6 b7 b8 b9
   obtain ⟨D,hD⟩:∃ z,z=wc.drew:=⟨_,rfl⟩
   have S0:Ok wc D:=by rw [hD];exact Below.drew (Ok.refl _)
   replace ra:Hid _:=Ok.row' S0 ra.out
   replace rb:Hid _:=Ok.row' S0 rb.out
   replace rl:Hid _:=Ok.row' S0 rl.out
   replace rr:Hid _:=Ok.row' S0 rr.out
   have HD:Hid (Ok w0 D):=Hwc.out.step S0
   clear S0
   refine wp_region_L (fun Y=>Y.heap[ga]?=some (.cells #[.bool a.2.2.2.2,.int .i64 a.1,.int .i64 a.2.1,.int .u64 (a.2.2.1:Int),.int .u64 (a.2.2.2.1:Int)] 29 (0,0))/\Y.heap[gb]?=some (.cells #[.bool b.2.2.2.2,.int .i64 b.1,.int .i64 b.2.1,.int .u64 (b.2.2.1:Int),.int .u64 (b.2.2.2.1:Int)] 29 (0,0))) 3 (by kernel_rfl) ?_
   rw [<-hD]
   clear hD
   refine tL 0 (.agg #[.bool a.2.2.2.2,.int .i64 a.1,.int .i64 a.2.1,.int .u64 (a.2.2.1:Int),.int .u64 (a.2.2.2.1:Int)]) ⟨ra.out,rb.out⟩ ?_ ?_
   ·exact fun w' h=>yN h.1
   refine tL 1 (.agg #[.bool b.2.2.2.2,.int .i64 b.1,.int .i64 b.2.1,.int .u64 (b.2.2.1:Int),.int .u64 (b.2.2.2.1:Int)]) ⟨ra.out,rb.out⟩ ?_ ?_
   ·exact fun w' h=>yN h.2
   simp only [Act.put,List.setIfInBounds_toArray,List.set_cons_zero,List.set_cons_succ]
   refine wpAnyL_step (i:=2) (by kernel_rfl) rfl (fun K hK=>?_)
   obtain ⟨k0,k1,k2,k3,k4,k5,k6,k7,k8,k9⟩:=row5_facts rl.out
   go_simp
   obtain ⟨Z1,hZ1⟩:∃ Z,Z=(((((D.setCell ⟨gl,0,none⟩ (.bool a.2.2.2.2)).setCell ⟨gl,1,none⟩ (.int .i64 a.1)).setCell ⟨gl,2,none⟩ (.int .i64 a.2.1)).setCell ⟨gl,3,none⟩ (.int .u64 (a.2.2.1:Int))).setCell ⟨gl,4,none⟩ (.int .u64 (a.2.2.2.1:Int))):=⟨_,rfl⟩
   obtain ⟨HZ1,rlz,keep⟩:=(rows_put1 rl.out HD.out (by omega) _ _ _ _ _ hZ1).out
   replace HZ1:Hid (Ok w0 Z1):=HZ1
   replace rlz:Hid _:=rlz
   replace ra:Hid _:=keep _ _ (by omega) ra.out
   replace rb:Hid _:=keep _ _ (by omega) rb.out
   replace rr:Hid _:=keep _ _ (by omega) rr.out
   rw [<-hZ1]
   clear hZ1 keep rl
   clear k0 k1 k2 k3 k4 k5 k6 k7 k8 k9
   refine hK.out _ _ (fun _=>⟨ra.out,rb.out⟩) ?_
   clear hK K
   refine wpAnyL_step (i:=3) (by kernel_rfl) rfl (fun K hK=>?_)
   obtain ⟨j0,j1,j2,j3,j4,j5,j6,j7,j8,j9⟩:=row5_facts rr.out
   go_simp
   refine hK.out _ _ (fun h=>absurd rfl h) ?_
   clear hK K
   refine wpAnyL_done (by kernel_rfl) ?_ _
   obtain ⟨Z2,hZ2⟩:∃ Z,Z=(((((Z1.setCell ⟨gr,0,none⟩ (.bool b.2.2.2.2)).setCell ⟨gr,1,none⟩ (.int .i64 b.1)).setCell ⟨gr,2,none⟩ (.int .i64 b.2.1)).setCell ⟨gr,3,none⟩ (.int .u64 (b.2.2.1:Int))).setCell ⟨gr,4,none⟩ (.int .u64 (b.2.2.2.1:Int))):=⟨_,rfl⟩
   obtain ⟨HZ2,rrz,keep⟩:=(rows_put1 rr.out HZ1.out (by omega) _ _ _ _ _ hZ2).out
   replace HZ2:Hid (Ok w0 Z2):=HZ2
   replace rrz:Hid _:=rrz
   replace rlz:Hid _:=keep _ _ (by omega) rlz.out
   rw [<-hZ2]
   clear hZ2 keep rr
   clear j0 j1 j2 j3 j4 j5 j6 j7 j8 j9
   go_wp2_with fail
   refine bodyPost_ret (results_2c rfl _ _ gl gr 29 #[_,_,_,_,_] #[_,_,_,_,_] (0,0) _ rfl rfl rlz.out rrz.out Tryz.underlying29 rfl infoN infoN) rfl ?_
   exact ⟨by rw [HA.out,HR.out],HZ2.out⟩
end Go.Proofs.YtnjmjnmhldhaoaaGreat
