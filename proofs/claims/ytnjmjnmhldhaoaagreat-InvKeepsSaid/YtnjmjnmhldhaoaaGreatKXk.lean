import Derived.Deep.Cut
import Derived.Deep.CutRange
import Derived.Test.YtnjmjnmhldhaoaaGreatKXt
set_option maxHeartbeats 8000000
set_option linter.all false
namespace Go.Proofs.YtnjmjnmhldhaoaaGreat
open Go.RowKit Go.Shelf
theorem whole_up {k:Int} (h:0<k/\k<=9223372036854775808):(.agg #[.int .i64 0,.int .u64 k]:Value)=wvv k:=by
 unfold wvv hiW loW
 rw [show k/18446744073709551616=0 by omega,show k%18446744073709551616=k by omega]
theorem whole_down {k:Int} (h:0<k/\k<=9223372036854775808):(.agg #[.int .i64 (-1),.int .u64 (IntKind.u64.wrap (0-k))]:Value)=wvv (-k):=by
 unfold wvv hiW loW
 rw [u64w,show -k/18446744073709551616 = -1 by omega,show (0-k)%18446744073709551616 = -k%18446744073709551616 by omega]
theorem v126_k {k:Int} (h:0<k/\k<=9223372036854775808):V126 k/\V126 (-k):=by unfold V126;omega
theorem m1_in:In64 (-1):=by unfold In64;omega
set_option maxRecDepth 100000 in
theorem vbeyond_any (b:Int×Int×Nat×Nat×Bool) (k:Int) (hb:RawN b) (hk:0<k/\k<=9223372036854775808) (w0 w:World) (hok:Ok w0 w) :
  Calls Tryz.prog 101 #[nv b,.int .u64 k] w fun e w'=>e=.returned (nv (beyN b k))/\Ok w0 w':=by
 have hle:=hok.le
 have HU:Hid (RawN b):=hb
 have HK:Hid (0<k/\k<=9223372036854775808):=hk
 clear hb hk
 obtain ⟨r,hr⟩:∃ t,t=beyN b k:=⟨_,rfl⟩
 have HR:Hid _:=hr
 clear hr
 rw [<-HR.out]
 unfold nv
 by_cases c1:0<b.1
 ·obtain ⟨m,hm⟩:∃ t,t=clipN (k+1) 9223372036854775807:=⟨_,rfl⟩
  have HM:Hid _:=hm
  clear hm
  have RM:Hid (RawN m):=by rw [HM.out];exact clip_raw _ _
  replace HR:Hid (r=meetN b m):=by unfold Hid;rw [HR.out,HM.out];unfold beyN;rw [if_pos c1]
  go_enter Tryz.func101,Tryz.ntmps101
  go_wp2_with fail
  obtain ⟨W,hW⟩:∃ W,W=((w).alloc (.cells #[.bool b.2.2.2.2,.int .i64 b.1,.int .i64 b.2.1,.int .u64 (b.2.2.1:Int),.int .u64 (b.2.2.2.1:Int)] 29)).alloc (.cells #[.bool false,.int .i64 0,.int .i64 0,.int .u64 0,.int .u64 0] 29):=⟨_,rfl⟩
  have ra:Hid (W.heap[w.heap.size]?=some (.cells #[.bool b.2.2.2.2,.int .i64 b.1,.int .i64 b.2.1,.int .u64 (b.2.2.1:Int),.int .u64 (b.2.2.2.1:Int)] 29)):=by unfold Hid;rw [hW];exact jj
  have rz:Hid (W.heap[w.heap.size+1]?=some (.cells #[.bool false,.int .i64 0,.int .i64 0,.int .u64 0,.int .u64 0] 29)):=by unfold Hid;rw [hW];exact jj
  have HW:Hid (Ok w0 W):=by unfold Hid;rw [hW];exact (by repeat (first | exact hok | refine Ok.alloc ?_ _ | refine Ok.draws ?_ _ | fail))
  rw [<-hW]
  clear hW
  obtain ⟨gz,egz⟩:∃ g,g=w.heap.size+1:=⟨_,rfl⟩
  rw [<-egz] at rz ⊢
  obtain ⟨ga,ega⟩:∃ g,g=w.heap.size:=⟨_,rfl⟩
  rw [<-ega] at ra ⊢
  have lga:w0.heap.size<=ga:=by omega
  have ngagz:¬ga=gz:=by omega
  have lgz:w0.heap.size<=gz:=by omega
  have ngzga:¬gz=ga:=by omega
  clear ega egz
  obtain ⟨D,hD⟩:∃ z,z=W.drew:=⟨_,rfl⟩
  have S0:Ok W D:=by rw [hD];exact Below.drew (Ok.refl _)
  refine wp_region_T (fun Y=>Ok W Y) 6 (by kernel_rfl) ?_
  rw [<-hD]
  clear hD
  refine tT 0 (.agg #[.bool b.2.2.2.2,.int .i64 b.1,.int .i64 b.2.1,.int .u64 (b.2.2.1:Int),.int .u64 (b.2.2.2.1:Int)]) S0 ?_ ?_
  ·exact fun w' hS=>yN (Ok.row' hS ra.out)
  refine tT 1 (.int .u64 k) S0 ?_ ?_
  ·intro w' hS;kernel_rfl
  refine tT 2 (.agg #[.int .i64 0,.int .u64 k]) S0 ?_ ?_
  ·intro w' hS;kernel_rfl
  rw [whole_up HK.out]
  have hv:=(v126_k HK.out).1
  simp only [Act.put,List.setIfInBounds_toArray,List.set_cons_zero,List.set_cons_succ]
  refine sT (i:=3) (by kernel_rfl) rfl (fun K hK=>?_)
  go_simp
  refine (vplus_any k 1 hv one_in W _ S0).mono ?_
  rintro e y1 ⟨rfl,hy1⟩
  go_wp2_with fail
  refine hK.out _ _ (fun _=>hy1) ?_
  clear hK K
  refine sT (i:=4) (by kernel_rfl) rfl (fun K hK=>?_)
  go_simp
  refine (vfrom_any (k+1) W _ hy1).mono ?_
  rintro e y2 ⟨rfl,hy2⟩
  rw [<-HM.out]
  go_wp2_with fail
  refine hK.out _ _ (fun _=>hy2) ?_
  clear hK K
  refine sT (i:=5) (by kernel_rfl) rfl (fun K hK=>?_)
  go_simp
  refine (nmeet_any b m HU.out RM.out W _ hy2).mono ?_
  rintro e y3 ⟨rfl,hy3⟩
  rw [<-HR.out]
  unfold nv
  go_wp2_with fail
  refine hK.out _ _ (fun _=>hy3) ?_
  clear hK K
  refine sT (i:=6) (by kernel_rfl) rfl (fun K hK=>?_)
  replace ra:Hid _:=Ok.row' hy3 ra.out
  replace rz:Hid _:=Ok.row' hy3 rz.out
  have Hy3:Hid (Ok w0 y3):=HW.out.step hy3
  clear S0
  obtain ⟨a0,a1,a2,a3,a4,a5,a6,a7,a8,a9⟩:=row5_facts rz.out
  go_simp
  refine hK.out _ _ (fun h=>absurd h (by decide)) ?_
  clear hK K
  obtain ⟨Z,hZ⟩:∃ Z,Z=(((((y3.setCell ⟨gz,0,none⟩ (.bool r.2.2.2.2)).setCell ⟨gz,1,none⟩ (.int .i64 r.1)).setCell ⟨gz,2,none⟩ (.int .i64 r.2.1)).setCell ⟨gz,3,none⟩ (.int .u64 (r.2.2.1:Int))).setCell ⟨gz,4,none⟩ (.int .u64 (r.2.2.2.1:Int))):=⟨_,rfl⟩
  obtain ⟨HZ,rzz,keep⟩:=(rows_put1 rz.out Hy3.out (by omega) _ _ _ _ _ hZ).out
  replace HZ:Hid (Ok w0 Z):=HZ
  replace rzz:Hid _:=rzz
  replace ra:Hid _:=keep _ _ (by omega) ra.out
  rw [<-hZ]
  clear hZ keep rz
  clear a0 a1 a2 a3 a4 a5 a6 a7 a8 a9
  have rz:Hid _:=rzz
  clear rzz
  refine wpAnyT_done (by kernel_rfl) ?_ _
  go_wp2_with fail
  (try simp only [Exit.inBlock,Exit.then]);refine bodyPost_ret (results_cell_row rfl _ _ (gz) 29 #[_,_,_,_,_] (0,0) _ rfl rz.out Tryz.underlying29 rfl infoN) rfl ?_
  exact ⟨rfl,HZ.out⟩
 ·by_cases c2:b.2.1<0
  ·obtain ⟨m,hm⟩:∃ t,t=clipN (-9223372036854775808) (-k-1):=⟨_,rfl⟩
   have HM:Hid _:=hm
   clear hm
   have RM:Hid (RawN m):=by rw [HM.out];exact clip_raw _ _
   replace HR:Hid (r=meetN b m):=by unfold Hid;rw [HR.out,HM.out];unfold beyN;rw [if_neg c1,if_pos c2]
   go_enter Tryz.func101,Tryz.ntmps101
   go_wp2_with fail
   obtain ⟨W,hW⟩:∃ W,W=((w).alloc (.cells #[.bool b.2.2.2.2,.int .i64 b.1,.int .i64 b.2.1,.int .u64 (b.2.2.1:Int),.int .u64 (b.2.2.2.1:Int)] 29)).alloc (.cells #[.bool false,.int .i64 0,.int .i64 0,.int .u64 0,.int .u64 0] 29):=⟨_,rfl⟩
   have ra:Hid (W.heap[w.heap.size]?=some (.cells #[.bool b.2.2.2.2,.int .i64 b.1,.int .i64 b.2.1,.int .u64 (b.2.2.1:Int),.int .u64 (b.2.2.2.1:Int)] 29)):=by unfold Hid;rw [hW];exact jj
   have rz:Hid (W.heap[w.heap.size+1]?=some (.cells #[.bool false,.int .i64 0,.int .i64 0,.int .u64 0,.int .u64 0] 29)):=by unfold Hid;rw [hW];exact jj
   have HW:Hid (Ok w0 W):=by unfold Hid;rw [hW];exact (by repeat (first | exact hok | refine Ok.alloc ?_ _ | refine Ok.draws ?_ _ | fail))
   rw [<-hW]
   clear hW
   obtain ⟨gz,egz⟩:∃ g,g=w.heap.size+1:=⟨_,rfl⟩
   rw [<-egz] at rz ⊢
   obtain ⟨ga,ega⟩:∃ g,g=w.heap.size:=⟨_,rfl⟩
   rw [<-ega] at ra ⊢
   have lga:w0.heap.size<=ga:=by omega
   have ngagz:¬ga=gz:=by omega
   have lgz:w0.heap.size<=gz:=by omega
   have ngzga:¬gz=ga:=by omega
   clear ega egz
   obtain ⟨D,hD⟩:∃ z,z=W.drew:=⟨_,rfl⟩
   have S0:Ok W D:=by rw [hD];exact Below.drew (Ok.refl _)
   refine wp_region_T (fun Y=>Ok W Y) 7 (by kernel_rfl) ?_
   rw [<-hD]
   clear hD
   refine tT 0 (.agg #[.bool b.2.2.2.2,.int .i64 b.1,.int .i64 b.2.1,.int .u64 (b.2.2.1:Int),.int .u64 (b.2.2.2.1:Int)]) S0 ?_ ?_
   ·exact fun w' hS=>yN (Ok.row' hS ra.out)
   refine tT 1 (.int .u64 k) S0 ?_ ?_
   ·intro w' hS;kernel_rfl
   refine tT 2 (.int .u64 (IntKind.u64.wrap (0-k))) S0 ?_ ?_
   ·intro w' hS;kernel_rfl
   refine tT 3 (.agg #[.int .i64 (-1),.int .u64 (IntKind.u64.wrap (0-k))]) S0 ?_ ?_
   ·intro w' hS;kernel_rfl
   rw [whole_down HK.out]
   have hv:=(v126_k HK.out).2
   simp only [Act.put,List.setIfInBounds_toArray,List.set_cons_zero,List.set_cons_succ]
   refine sT (i:=4) (by kernel_rfl) rfl (fun K hK=>?_)
   go_simp
   refine (vplus_any (-k) (-1) hv m1_in W _ S0).mono ?_
   rintro e y1 ⟨rfl,hy1⟩
   rw [show -k + -1 = -k-1 from rfl]
   go_wp2_with fail
   refine hK.out _ _ (fun _=>hy1) ?_
   clear hK K
   refine sT (i:=5) (by kernel_rfl) rfl (fun K hK=>?_)
   go_simp
   refine (vupto_any (-k-1) W _ hy1).mono ?_
   rintro e y2 ⟨rfl,hy2⟩
   rw [<-HM.out]
   go_wp2_with fail
   refine hK.out _ _ (fun _=>hy2) ?_
   clear hK K
   refine sT (i:=6) (by kernel_rfl) rfl (fun K hK=>?_)
   go_simp
   refine (nmeet_any b m HU.out RM.out W _ hy2).mono ?_
   rintro e y3 ⟨rfl,hy3⟩
   rw [<-HR.out]
   unfold nv
   go_wp2_with fail
   refine hK.out _ _ (fun _=>hy3) ?_
   clear hK K
   refine sT (i:=7) (by kernel_rfl) rfl (fun K hK=>?_)
   replace ra:Hid _:=Ok.row' hy3 ra.out
   replace rz:Hid _:=Ok.row' hy3 rz.out
   have Hy3:Hid (Ok w0 y3):=HW.out.step hy3
   clear S0
   obtain ⟨a0,a1,a2,a3,a4,a5,a6,a7,a8,a9⟩:=row5_facts rz.out
   go_simp
   refine hK.out _ _ (fun h=>absurd h (by decide)) ?_
   clear hK K
   obtain ⟨Z,hZ⟩:∃ Z,Z=(((((y3.setCell ⟨gz,0,none⟩ (.bool r.2.2.2.2)).setCell ⟨gz,1,none⟩ (.int .i64 r.1)).setCell ⟨gz,2,none⟩ (.int .i64 r.2.1)).setCell ⟨gz,3,none⟩ (.int .u64 (r.2.2.1:Int))).setCell ⟨gz,4,none⟩ (.int .u64 (r.2.2.2.1:Int))):=⟨_,rfl⟩
   obtain ⟨HZ,rzz,keep⟩:=(rows_put1 rz.out Hy3.out (by omega) _ _ _ _ _ hZ).out
   replace HZ:Hid (Ok w0 Z):=HZ
   replace rzz:Hid _:=rzz
   replace ra:Hid _:=keep _ _ (by omega) ra.out
   rw [<-hZ]
   clear hZ keep rz
   clear a0 a1 a2 a3 a4 a5 a6 a7 a8 a9
   have rz:Hid _:=rzz
   clear rzz
   refine wpAnyT_done (by kernel_rfl) ?_ _
   go_wp2_with fail
   (try simp only [Exit.inBlock,Exit.then]);refine bodyPost_ret (results_cell_row rfl _ _ (gz) 29 #[_,_,_,_,_] (0,0) _ rfl rz.out Tryz.underlying29 rfl infoN) rfl ?_
   exact ⟨rfl,HZ.out⟩
  ·have HA:Hid (r=b):=by unfold Hid;rw [HR.out];unfold beyN;rw [if_neg c1,if_neg c2]
   obtain rfl:r=b:=HA.out
   go_enter Tryz.func101,Tryz.ntmps101
   go_wp2_with fail
   (try simp only [Exit.inBlock,Exit.then]);refine bodyPost_ret (results_cell_row rfl _ _ (w.heap.size+1) 29 #[_,_,_,_,_] (0,0) _ rfl (jj) Tryz.underlying29 rfl infoN) rfl ?_
   exact ⟨rfl,(by repeat (first | exact hok | refine Ok.alloc ?_ _ | refine Ok.draws ?_ _ | fail))⟩
theorem mt_norm {a b:Int×Int×Nat×Nat×Bool} (ha:RawN a) (hb:RawN b):NormN (meetN a b):=by
 unfold meetN meetRaw
 have ra:=normN_raw ha
 have rb:=normN_raw hb
 split
 ·exact Or.inl rfl
 ·split
  ·exact Or.inl rfl
  ·have i:=meetI_in ra.1 ra.2.1 rb.1 rb.2.1
   exact make_norm i.1 i.2
theorem bey_norm {b:Int×Int×Nat×Nat×Bool} (hb:RawN b) (nb:NormN b) (k:Int):NormN (beyN b k):=by
 unfold beyN;split
 ·exact mt_norm hb (clip_raw _ _)
 ·split
  ·exact mt_norm hb (clip_raw _ _)
  ·exact nb
theorem abs_k {v:Int} (hv:In64 v) (h:v≠0):0<absI v/\absI v<=9223372036854775808:=by
 unfold In64 at hv;unfold absI;split<;>omega
theorem abs_nat (v:Int):absI v=((v.natAbs:Nat):Int):=by unfold absI;split<;>omega
theorem abs_lt64 {v:Int} (hv:In64 v):v.natAbs<18446744073709551616:=by unfold In64 at hv;omega
theorem modL_cls {v:Int} {g:Nat} (h:g≠0):modL v g=(v%(g:Int)).toNat:=by unfold modL;rw [if_neg h]
theorem gcdS_pos {v:Int} {M:Nat} (h:v≠0):gcdS v M≠0:=by
 have:=Nat.gcd_pos_of_pos_left M (show 0<v.natAbs by omega)
 unfold gcdS;omega
theorem leav_nz {a b c:Int×Int×Nat×Nat×Bool} (hb:RawN b) (nb:NormN b) (h0:b.2.2.2.2=false->b.1≠0) (h1:oneN (leavP a b c).2=true):(leavP a b c).2.1≠0:=by
 have key:∀ k,oneN (beyN b k)=true->(beyN b k).1≠0:=by
  intro k h
  have n:=bey_norm hb nb k
  rcases n with e | n
  ·rw [e] at h;cases h
  ·have m:=beyN_sub hb n.2.1 (k:=k) ⟨n.1,Int.le_refl _,n.2.2.2.1,n.2.2.2.2.1⟩
   have l1:=m.2.1;have l2:=m.2.2.1
   by_cases c1:0<b.1
   ·omega
   ·by_cases c2:b.2.1<0
    ·omega
    ·have e:beyN b k=b:=by unfold beyN;rw [if_neg c1,if_neg c2]
     rw [e];exact h0 m.1
 unfold leavP at h1 ⊢
 split at h1
 ·rename_i k;rw [if_pos k];exact key _ h1
 ·split at h1
  ·rename_i k1 k;rw [if_neg k1,if_pos k];exact key _ h1
  ·rename_i k1 k
   rw [if_neg k1,if_neg k]
   rcases nb with e | n
   ·rw [e] at h1;cases h1
   ·exact h0 n.1
set_option maxRecDepth 100000 in
theorem vleaving_any (a b c:Int×Int×Nat×Nat×Bool) (ha:RawN a) (hb:RawN b) (hc:RawN c) (nb:NormN b) (h0:b.2.2.2.2=false->b.1≠0) (w0 w:World) (hok:Ok w0 w) :
  Calls Tryz.prog 52 #[nv a,nv b,nv c] w fun e w'=>e=.returned (.tuple #[nv (leavN a b c).1,nv (leavN a b c).2])/\Ok w0 w':=by
 have hle:=hok.le
 have HU:Hid (RawN a/\RawN b/\RawN c):=⟨ha,hb,hc⟩
 obtain ⟨x,hx⟩:∃ t,t=(leavP a b c).1:=⟨_,rfl⟩
 have HX:Hid _:=hx
 clear hx
 obtain ⟨y,hy⟩:∃ t,t=(leavP a b c).2:=⟨_,rfl⟩
 have HY:Hid _:=hy
 clear hy
 have RXY:Hid (RawN x/\RawN y):=by rw [HX.out,HY.out];exact leavP_raw ha hb
 have NZ:Hid (oneN y=true->y.1≠0):=by rw [HY.out];exact leav_nz hb nb h0
 obtain ⟨l,hl⟩:∃ t,t=(leavN a b c).1:=⟨_,rfl⟩
 have HL:Hid _:=hl
 clear hl
 obtain ⟨r,hr⟩:∃ t,t=(leavN a b c).2:=⟨_,rfl⟩
 have HR:Hid _:=hr
 clear hr
 rw [<-HL.out,<-HR.out]
 obtain ⟨p,hp⟩:∃ t,t=b.2.2.2.2:=⟨_,rfl⟩
 have HP:Hid _:=hp
 clear hp
 clear ha hb hc nb h0
 unfold nv
 go_enter Tryz.func52,Tryz.ntmps52
 go_upto_region 1 with (fail)
 obtain ⟨W,hW⟩:∃ W,W=(((((w).alloc (.cells #[.bool a.2.2.2.2,.int .i64 a.1,.int .i64 a.2.1,.int .u64 (a.2.2.1:Int),.int .u64 (a.2.2.2.1:Int)] 29)).alloc (.cells #[.bool b.2.2.2.2,.int .i64 b.1,.int .i64 b.2.1,.int .u64 (b.2.2.1:Int),.int .u64 (b.2.2.2.1:Int)] 29)).alloc (.cells #[.bool c.2.2.2.2,.int .i64 c.1,.int .i64 c.2.1,.int .u64 (c.2.2.1:Int),.int .u64 (c.2.2.2.1:Int)] 29)).alloc (.cells #[.bool false,.int .i64 0,.int .i64 0,.int .u64 0,.int .u64 0] 29)).alloc (.cells #[.bool false,.int .i64 0,.int .i64 0,.int .u64 0,.int .u64 0] 29):=⟨_,rfl⟩
 have ra:Hid (W.heap[w.heap.size]?=some (.cells #[.bool a.2.2.2.2,.int .i64 a.1,.int .i64 a.2.1,.int .u64 (a.2.2.1:Int),.int .u64 (a.2.2.2.1:Int)] 29)):=by unfold Hid;rw [hW];exact jj
 have rb:Hid (W.heap[w.heap.size+1]?=some (.cells #[.bool b.2.2.2.2,.int .i64 b.1,.int .i64 b.2.1,.int .u64 (b.2.2.1:Int),.int .u64 (b.2.2.2.1:Int)] 29)):=by unfold Hid;rw [hW];exact jj
 have rc:Hid (W.heap[w.heap.size+1+1]?=some (.cells #[.bool c.2.2.2.2,.int .i64 c.1,.int .i64 c.2.1,.int .u64 (c.2.2.1:Int),.int .u64 (c.2.2.2.1:Int)] 29)):=by unfold Hid;rw [hW];exact jj
 have rl:Hid (W.heap[w.heap.size+1+1+1]?=some (.cells #[.bool false,.int .i64 0,.int .i64 0,.int .u64 0,.int .u64 0] 29)):=by unfold Hid;rw [hW];exact jj
 have rr:Hid (W.heap[w.heap.size+1+1+1+1]?=some (.cells #[.bool false,.int .i64 0,.int .i64 0,.int .u64 0,.int .u64 0] 29)):=by unfold Hid;rw [hW];exact jj
 have HW:Hid (Ok w0 W):=by unfold Hid;rw [hW];exact (by repeat (first | exact hok | refine Ok.alloc ?_ _ | refine Ok.draws ?_ _ | fail))
 rw [<-hW]
 clear hW
 obtain ⟨gr,egr⟩:∃ g,g=w.heap.size+1+1+1+1:=⟨_,rfl⟩
 rw [<-egr] at rr ⊢
 obtain ⟨gl,egl⟩:∃ g,g=w.heap.size+1+1+1:=⟨_,rfl⟩
 rw [<-egl] at rl ⊢
 obtain ⟨gc,egc⟩:∃ g,g=w.heap.size+1+1:=⟨_,rfl⟩
 rw [<-egc] at rc ⊢
 obtain ⟨gb,egb⟩:∃ g,g=w.heap.size+1:=⟨_,rfl⟩
 rw [<-egb] at rb ⊢
 obtain ⟨ga,ega⟩:∃ g,g=w.heap.size:=⟨_,rfl⟩
 rw [<-ega] at ra ⊢
 have lga:w0.heap.size<=ga:=by omega
 have ngagb:¬ga=gb:=by omega
 have ngagc:¬ga=gc:=by omega
 have ngagl:¬ga=gl:=by omega
 have ngagr:¬ga=gr:=by omega
 have lgb:w0.heap.size<=gb:=by omega
 have ngbga:¬gb=ga:=by omega
 have ngbgc:¬gb=gc:=by omega
 have ngbgl:¬gb=gl:=by omega
 have ngbgr:¬gb=gr:=by omega
 have lgc:w0.heap.size<=gc:=by omega
 have ngcga:¬gc=ga:=by omega
 have ngcgb:¬gc=gb:=by omega
 have ngcgl:¬gc=gl:=by omega
 have ngcgr:¬gc=gr:=by omega
 have lgl:w0.heap.size<=gl:=by omega
 have nglga:¬gl=ga:=by omega
 have nglgb:¬gl=gb:=by omega
 have nglgc:¬gl=gc:=by omega
 have nglgr:¬gl=gr:=by omega
 have lgr:w0.heap.size<=gr:=by omega
 have ngrga:¬gr=ga:=by omega
 have ngrgb:¬gr=gb:=by omega
 have ngrgc:¬gr=gc:=by omega
 have ngrgl:¬gr=gl:=by omega
 clear ega egb egc egl egr
 cases p
 ·have HN:Hid (¬b.2.2.2.2=true):=by unfold Hid;rw [<-HP.out];simp
  replace HL:Hid (l=clsN x y c):=by unfold Hid;rw [HL.out,HX.out,HY.out];unfold leavN;rw [if_neg HN.out]
  replace HR:Hid (r=y):=by unfold Hid;rw [HR.out,HY.out];unfold leavN;rw [if_neg HN.out]
  clear HN
  rcases (show (0<c.1)\/(¬0<c.1/\c.2.1<0)\/(¬0<c.1/\¬c.2.1<0) by omega) with c1 | c1 | c1
  case' inl =>
   obtain ⟨m,hm⟩:∃ t,t=clipN c.1 9223372036854775807:=⟨_,rfl⟩
   have HM:Hid _:=hm
   clear hm
   have RM:Hid (RawN m):=by rw [HM.out];exact clip_raw _ _
   replace HX:Hid (x=meetN a m):=by unfold Hid;rw [HX.out,HM.out];unfold leavP;rw [if_pos c1]
   replace HY:Hid (y=beyN b (absI c.1)):=by unfold Hid;rw [HY.out];unfold leavP;rw [if_pos c1]
   have LI:Hid (In64 c.1):=HU.out.2.2.1
   have AK:Hid (0<absI c.1/\absI c.1<=9223372036854775808):=abs_k LI.out (by omega)
   obtain ⟨b0,b1,b2,b3,b4,b5,b6,b7,b8,b9⟩:=row5_facts rb.out
   obtain ⟨c0,c1,c2,c3,c4,c5,c6,c7,c8,c9⟩:=row5_facts rc.out
   rw [<-HP.out] at b0
   go_wp2_with fail
   clear b0 b1 b2 b3 b4 b5 b6 b7 b8 b9
   clear c0 c1 c2 c3 c4 c5 c6 c7 c8 c9
   obtain ⟨D,hD⟩:∃ z,z=W.drew:=⟨_,rfl⟩
   have S0:Ok W D:=by rw [hD];exact Below.drew (Ok.refl _)
   refine wp_region_T (fun Y=>Ok W Y) 13 (by kernel_rfl) ?_
   rw [<-hD]
   clear hD
   refine tT 0 (.agg #[.bool a.2.2.2.2,.int .i64 a.1,.int .i64 a.2.1,.int .u64 (a.2.2.1:Int),.int .u64 (a.2.2.2.1:Int)]) S0 ?_ ?_
   ·exact fun w' hS=>yN (Ok.row' hS ra.out)
   refine tT 1 (.pointer (some ⟨gc,1,none⟩)) S0 ?_ ?_
   ·intro w' hS;kernel_rfl
   refine tT 2 (.pointer (some ⟨gc,1,none⟩)) S0 ?_ ?_
   ·intro w' hS;kernel_rfl
   refine tT 3 (.int .i64 c.1) S0 ?_ ?_
   ·intro w' hS
    obtain ⟨c0,c1,c2,c3,c4,c5,c6,c7,c8,c9⟩:=row5_facts (Ok.row' hS rc.out)
    go_simp
   refine tT 7 (.agg #[.bool b.2.2.2.2,.int .i64 b.1,.int .i64 b.2.1,.int .u64 (b.2.2.1:Int),.int .u64 (b.2.2.2.1:Int)]) S0 ?_ ?_
   ·exact fun w' hS=>yN (Ok.row' hS rb.out)
   refine tT 8 (.pointer (some ⟨gc,1,none⟩)) S0 ?_ ?_
   ·intro w' hS;kernel_rfl
   refine tT 9 (.pointer (some ⟨gc,1,none⟩)) S0 ?_ ?_
   ·intro w' hS;kernel_rfl
   refine tT 10 (.int .i64 c.1) S0 ?_ ?_
   ·intro w' hS
    obtain ⟨c0,c1,c2,c3,c4,c5,c6,c7,c8,c9⟩:=row5_facts (Ok.row' hS rc.out)
    go_simp
   simp only [Act.put,List.setIfInBounds_toArray,List.set_cons_zero,List.set_cons_succ]
   refine sT (i:=4) (by kernel_rfl) rfl (fun K hK=>?_)
   go_simp
   refine (vnumber_any c.1 LI.out W _ S0).mono ?_
   rintro e y1 ⟨rfl,hy1⟩
   go_wp2_with fail
   refine hK.out _ _ (fun _=>hy1) ?_
   clear hK K
   refine sT (i:=5) (by kernel_rfl) rfl (fun K hK=>?_)
   go_simp
   refine (vfrom_any c.1 W _ hy1).mono ?_
   rintro e y2 ⟨rfl,hy2⟩
   rw [<-HM.out]
   go_wp2_with fail
   refine hK.out _ _ (fun _=>hy2) ?_
   clear hK K
   refine sT (i:=6) (by kernel_rfl) rfl (fun K hK=>?_)
   go_simp
   refine (nmeet_any a m HU.out.1 RM.out W _ hy2).mono ?_
   rintro e y3 ⟨rfl,hy3⟩
   rw [<-HX.out]
   unfold nv
   go_wp2_with fail
   refine hK.out _ _ (fun _=>hy3) ?_
   clear hK K
   refine sT (i:=11) (by kernel_rfl) rfl (fun K hK=>?_)
   go_simp
   refine (vdistance_any c.1 LI.out W _ hy3).mono ?_
   rintro e y4 ⟨rfl,hy4⟩
   go_wp2_with fail
   refine hK.out _ _ (fun _=>hy4) ?_
   clear hK K
   refine sT (i:=12) (by kernel_rfl) rfl (fun K hK=>?_)
   go_simp
   refine (vbeyond_any b (absI c.1) HU.out.2.1 AK.out W _ hy4).mono ?_
   rintro e y5 ⟨rfl,hy5⟩
   rw [<-HY.out]
   unfold nv
   go_wp2_with fail
   refine hK.out _ _ (fun _=>hy5) ?_
   clear hK K
   refine sT (i:=13) (by kernel_rfl) rfl (fun K hK=>?_)
   replace ra:Hid _:=Ok.row' hy5 ra.out
   replace rb:Hid _:=Ok.row' hy5 rb.out
   replace rc:Hid _:=Ok.row' hy5 rc.out
   replace rl:Hid _:=Ok.row' hy5 rl.out
   replace rr:Hid _:=Ok.row' hy5 rr.out
   have Hy5:Hid (Ok w0 y5):=HW.out.step hy5
   clear S0
   obtain ⟨a0,a1,a2,a3,a4,a5,a6,a7,a8,a9⟩:=row5_facts ra.out
   go_simp
   refine hK.out _ _ (fun h=>absurd h (by decide)) ?_
   clear hK K
   obtain ⟨Za,hZa⟩:∃ Z,Z=(((((y5.setCell ⟨ga,0,none⟩ (.bool x.2.2.2.2)).setCell ⟨ga,1,none⟩ (.int .i64 x.1)).setCell ⟨ga,2,none⟩ (.int .i64 x.2.1)).setCell ⟨ga,3,none⟩ (.int .u64 (x.2.2.1:Int))).setCell ⟨ga,4,none⟩ (.int .u64 (x.2.2.2.1:Int))):=⟨_,rfl⟩
   obtain ⟨HZa,raz,keep⟩:=(rows_put1 ra.out Hy5.out (by omega) _ _ _ _ _ hZa).out
   replace HZa:Hid (Ok w0 Za):=HZa
   replace raz:Hid _:=raz
   replace rb:Hid _:=keep _ _ (by omega) rb.out
   replace rc:Hid _:=keep _ _ (by omega) rc.out
   replace rl:Hid _:=keep _ _ (by omega) rl.out
   replace rr:Hid _:=keep _ _ (by omega) rr.out
   rw [<-hZa]
   clear hZa keep ra
   clear a0 a1 a2 a3 a4 a5 a6 a7 a8 a9
   have ra:Hid _:=raz
   clear raz
   refine sT (i:=14) (by kernel_rfl) rfl (fun K hK=>?_)
   obtain ⟨a0,a1,a2,a3,a4,a5,a6,a7,a8,a9⟩:=row5_facts rb.out
   go_simp
   refine hK.out _ _ (fun h=>absurd h (by decide)) ?_
   clear hK K
   obtain ⟨V,hV⟩:∃ Z,Z=(((((Za.setCell ⟨gb,0,none⟩ (.bool y.2.2.2.2)).setCell ⟨gb,1,none⟩ (.int .i64 y.1)).setCell ⟨gb,2,none⟩ (.int .i64 y.2.1)).setCell ⟨gb,3,none⟩ (.int .u64 (y.2.2.1:Int))).setCell ⟨gb,4,none⟩ (.int .u64 (y.2.2.2.1:Int))):=⟨_,rfl⟩
   obtain ⟨HV,rbz,keep⟩:=(rows_put1 rb.out HZa.out (by omega) _ _ _ _ _ hV).out
   replace HV:Hid (Ok w0 V):=HV
   replace rbz:Hid _:=rbz
   replace ra:Hid _:=keep _ _ (by omega) ra.out
   replace rc:Hid _:=keep _ _ (by omega) rc.out
   replace rl:Hid _:=keep _ _ (by omega) rl.out
   replace rr:Hid _:=keep _ _ (by omega) rr.out
   rw [<-hV]
   clear hV keep rb
   clear a0 a1 a2 a3 a4 a5 a6 a7 a8 a9
   have rb:Hid _:=rbz
   clear rbz
   refine wpAnyT_done (by kernel_rfl) ?_ _
   obtain ⟨b0,b1,b2,b3,b4,b5,b6,b7,b8,b9⟩:=row5_facts rb.out
   go_wp2_with fail
   clear b0 b1 b2 b3 b4 b5 b6 b7 b8 b9
   clear HX HY HM RM LI AK
   (try clear HW HZa Hy5)
  case' inr.inl =>
   obtain ⟨m,hm⟩:∃ t,t=clipN (-9223372036854775808) c.2.1:=⟨_,rfl⟩
   have HM:Hid _:=hm
   clear hm
   have RM:Hid (RawN m):=by rw [HM.out];exact clip_raw _ _
   replace HX:Hid (x=meetN a m):=by unfold Hid;rw [HX.out,HM.out];unfold leavP;rw [if_neg c1.1,if_pos c1.2]
   replace HY:Hid (y=beyN b (absI c.2.1)):=by unfold Hid;rw [HY.out];unfold leavP;rw [if_neg c1.1,if_pos c1.2]
   have LI:Hid (In64 c.2.1):=HU.out.2.2.2.1
   have AK:Hid (0<absI c.2.1/\absI c.2.1<=9223372036854775808):=abs_k LI.out (by omega)
   obtain ⟨b0,b1,b2,b3,b4,b5,b6,b7,b8,b9⟩:=row5_facts rb.out
   obtain ⟨c0,c1,c2,c3,c4,c5,c6,c7,c8,c9⟩:=row5_facts rc.out
   rw [<-HP.out] at b0
   go_wp2_with fail
   clear b0 b1 b2 b3 b4 b5 b6 b7 b8 b9
   clear c0 c1 c2 c3 c4 c5 c6 c7 c8 c9
   obtain ⟨D,hD⟩:∃ z,z=W.drew:=⟨_,rfl⟩
   have S0:Ok W D:=by rw [hD];exact Below.drew (Ok.refl _)
   refine wp_region_T (fun Y=>Ok W Y) 13 (by kernel_rfl) ?_
   rw [<-hD]
   clear hD
   refine tT 0 (.agg #[.bool a.2.2.2.2,.int .i64 a.1,.int .i64 a.2.1,.int .u64 (a.2.2.1:Int),.int .u64 (a.2.2.2.1:Int)]) S0 ?_ ?_
   ·exact fun w' hS=>yN (Ok.row' hS ra.out)
   refine tT 1 (.pointer (some ⟨gc,1,none⟩)) S0 ?_ ?_
   ·intro w' hS;kernel_rfl
   refine tT 2 (.pointer (some ⟨gc,2,none⟩)) S0 ?_ ?_
   ·intro w' hS;kernel_rfl
   refine tT 3 (.int .i64 c.2.1) S0 ?_ ?_
   ·intro w' hS
    obtain ⟨c0,c1,c2,c3,c4,c5,c6,c7,c8,c9⟩:=row5_facts (Ok.row' hS rc.out)
    go_simp
   refine tT 7 (.agg #[.bool b.2.2.2.2,.int .i64 b.1,.int .i64 b.2.1,.int .u64 (b.2.2.1:Int),.int .u64 (b.2.2.2.1:Int)]) S0 ?_ ?_
   ·exact fun w' hS=>yN (Ok.row' hS rb.out)
   refine tT 8 (.pointer (some ⟨gc,1,none⟩)) S0 ?_ ?_
   ·intro w' hS;kernel_rfl
   refine tT 9 (.pointer (some ⟨gc,2,none⟩)) S0 ?_ ?_
   ·intro w' hS;kernel_rfl
   refine tT 10 (.int .i64 c.2.1) S0 ?_ ?_
   ·intro w' hS
    obtain ⟨c0,c1,c2,c3,c4,c5,c6,c7,c8,c9⟩:=row5_facts (Ok.row' hS rc.out)
    go_simp
   simp only [Act.put,List.setIfInBounds_toArray,List.set_cons_zero,List.set_cons_succ]
   refine sT (i:=4) (by kernel_rfl) rfl (fun K hK=>?_)
   go_simp
   refine (vnumber_any c.2.1 LI.out W _ S0).mono ?_
   rintro e y1 ⟨rfl,hy1⟩
   go_wp2_with fail
   refine hK.out _ _ (fun _=>hy1) ?_
   clear hK K
   refine sT (i:=5) (by kernel_rfl) rfl (fun K hK=>?_)
   go_simp
   refine (vupto_any c.2.1 W _ hy1).mono ?_
   rintro e y2 ⟨rfl,hy2⟩
   rw [<-HM.out]
   go_wp2_with fail
   refine hK.out _ _ (fun _=>hy2) ?_
   clear hK K
   refine sT (i:=6) (by kernel_rfl) rfl (fun K hK=>?_)
   go_simp
   refine (nmeet_any a m HU.out.1 RM.out W _ hy2).mono ?_
   rintro e y3 ⟨rfl,hy3⟩
   rw [<-HX.out]
   unfold nv
   go_wp2_with fail
   refine hK.out _ _ (fun _=>hy3) ?_
   clear hK K
   refine sT (i:=11) (by kernel_rfl) rfl (fun K hK=>?_)
   go_simp
   refine (vdistance_any c.2.1 LI.out W _ hy3).mono ?_
   rintro e y4 ⟨rfl,hy4⟩
   go_wp2_with fail
   refine hK.out _ _ (fun _=>hy4) ?_
   clear hK K
   refine sT (i:=12) (by kernel_rfl) rfl (fun K hK=>?_)
   go_simp
   refine (vbeyond_any b (absI c.2.1) HU.out.2.1 AK.out W _ hy4).mono ?_
   rintro e y5 ⟨rfl,hy5⟩
   rw [<-HY.out]
   unfold nv
   go_wp2_with fail
   refine hK.out _ _ (fun _=>hy5) ?_
   clear hK K
   refine sT (i:=13) (by kernel_rfl) rfl (fun K hK=>?_)
   replace ra:Hid _:=Ok.row' hy5 ra.out
   replace rb:Hid _:=Ok.row' hy5 rb.out
   replace rc:Hid _:=Ok.row' hy5 rc.out
   replace rl:Hid _:=Ok.row' hy5 rl.out
   replace rr:Hid _:=Ok.row' hy5 rr.out
   have Hy5:Hid (Ok w0 y5):=HW.out.step hy5
   clear S0
   obtain ⟨a0,a1,a2,a3,a4,a5,a6,a7,a8,a9⟩:=row5_facts ra.out
   go_simp
   refine hK.out _ _ (fun h=>absurd h (by decide)) ?_
   clear hK K
   obtain ⟨Za,hZa⟩:∃ Z,Z=(((((y5.setCell ⟨ga,0,none⟩ (.bool x.2.2.2.2)).setCell ⟨ga,1,none⟩ (.int .i64 x.1)).setCell ⟨ga,2,none⟩ (.int .i64 x.2.1)).setCell ⟨ga,3,none⟩ (.int .u64 (x.2.2.1:Int))).setCell ⟨ga,4,none⟩ (.int .u64 (x.2.2.2.1:Int))):=⟨_,rfl⟩
   obtain ⟨HZa,raz,keep⟩:=(rows_put1 ra.out Hy5.out (by omega) _ _ _ _ _ hZa).out
   replace HZa:Hid (Ok w0 Za):=HZa
   replace raz:Hid _:=raz
   replace rb:Hid _:=keep _ _ (by omega) rb.out
   replace rc:Hid _:=keep _ _ (by omega) rc.out
   replace rl:Hid _:=keep _ _ (by omega) rl.out
   replace rr:Hid _:=keep _ _ (by omega) rr.out
   rw [<-hZa]
   clear hZa keep ra
   clear a0 a1 a2 a3 a4 a5 a6 a7 a8 a9
   have ra:Hid _:=raz
   clear raz
   refine sT (i:=14) (by kernel_rfl) rfl (fun K hK=>?_)
   obtain ⟨a0,a1,a2,a3,a4,a5,a6,a7,a8,a9⟩:=row5_facts rb.out
   go_simp
   refine hK.out _ _ (fun h=>absurd h (by decide)) ?_
   clear hK K
   obtain ⟨V,hV⟩:∃ Z,Z=(((((Za.setCell ⟨gb,0,none⟩ (.bool y.2.2.2.2)).setCell ⟨gb,1,none⟩ (.int .i64 y.1)).setCell ⟨gb,2,none⟩ (.int .i64 y.2.1)).setCell ⟨gb,3,none⟩ (.int .u64 (y.2.2.1:Int))).setCell ⟨gb,4,none⟩ (.int .u64 (y.2.2.2.1:Int))):=⟨_,rfl⟩
   obtain ⟨HV,rbz,keep⟩:=(rows_put1 rb.out HZa.out (by omega) _ _ _ _ _ hV).out
   replace HV:Hid (Ok w0 V):=HV
   replace rbz:Hid _:=rbz
   replace ra:Hid _:=keep _ _ (by omega) ra.out
   replace rc:Hid _:=keep _ _ (by omega) rc.out
   replace rl:Hid _:=keep _ _ (by omega) rl.out
   replace rr:Hid _:=keep _ _ (by omega) rr.out
   rw [<-hV]
   clear hV keep rb
   clear a0 a1 a2 a3 a4 a5 a6 a7 a8 a9
   have rb:Hid _:=rbz
   clear rbz
   refine wpAnyT_done (by kernel_rfl) ?_ _
   obtain ⟨b0,b1,b2,b3,b4,b5,b6,b7,b8,b9⟩:=row5_facts rb.out
   go_wp2_with fail
   clear b0 b1 b2 b3 b4 b5 b6 b7 b8 b9
   clear HX HY HM RM LI AK
   (try clear HW HZa Hy5)
  case' inr.inr =>
   have e1:x=a:=by rw [HX.out];unfold leavP;rw [if_neg c1.1,if_neg c1.2]
   have e2:y=b:=by rw [HY.out];unfold leavP;rw [if_neg c1.1,if_neg c1.2]
   clear HX HY
   obtain ⟨b0,b1,b2,b3,b4,b5,b6,b7,b8,b9⟩:=row5_facts rb.out
   obtain ⟨c0,c1,c2,c3,c4,c5,c6,c7,c8,c9⟩:=row5_facts rc.out
   rw [<-HP.out] at b0
   go_wp2_with fail
   clear b0 b1 b2 b3 b4 b5 b6 b7 b8 b9
   clear c0 c1 c2 c3 c4 c5 c6 c7 c8 c9
   subst e1 e2
   rw [show (.agg #[.bool false,.int .i64 y.1,.int .i64 y.2.1,.int .u64 (y.2.2.1:Int),.int .u64 (y.2.2.2.1:Int)]:Value)=nv y by unfold nv;rw [<-HP.out]]
   obtain ⟨V,hV⟩:∃ V,V=W:=⟨_,rfl⟩
   subst hV
   have HV:=HW
   clear HW
  all_goals
   obtain ⟨s,hs⟩:∃ t,t=oneN y:=⟨_,rfl⟩
   have HS:Hid _:=hs
   clear hs
   obtain ⟨v,hv⟩:∃ t,t=y.1:=⟨_,rfl⟩
   have HVV:Hid _:=hv
   clear hv
   refine (vsingle_any y V _ (Ok.refl _)).mono ?_
   rintro e v1 ⟨rfl,hb⟩
   rw [<-HS.out,<-HVV.out]
   replace ra:Hid _:=Ok.row' hb ra.out
   replace rb:Hid _:=Ok.row' hb rb.out
   replace rc:Hid _:=Ok.row' hb rc.out
   replace rl:Hid _:=Ok.row' hb rl.out
   replace rr:Hid _:=Ok.row' hb rr.out
   have Hv1:Hid (Ok w0 v1):=HV.out.step hb
   clear hb HV
   cases s
   ·as_aux_lemma =>
    have HA:Hid (l=x):=by unfold Hid;rw [HL.out];unfold clsN;rw [if_neg (by rw [<-HS.out];simp)]
    go_wp2_with fail
    obtain ⟨D,hD⟩:∃ z,z=v1.drew:=⟨_,rfl⟩
    have S0:Ok v1 D:=by rw [hD];exact Below.drew (Ok.refl _)
    replace ra:Hid _:=Ok.row' S0 ra.out
    replace rb:Hid _:=Ok.row' S0 rb.out
    replace rl:Hid _:=Ok.row' S0 rl.out
    replace rr:Hid _:=Ok.row' S0 rr.out
    have HD:Hid (Ok w0 D):=Hv1.out.step S0
    clear S0
    refine wp_region_L (fun Y=>Y.heap[ga]?=some (.cells #[.bool x.2.2.2.2,.int .i64 x.1,.int .i64 x.2.1,.int .u64 (x.2.2.1:Int),.int .u64 (x.2.2.2.1:Int)] 29 (0,0))/\Y.heap[gb]?=some (.cells #[.bool y.2.2.2.2,.int .i64 y.1,.int .i64 y.2.1,.int .u64 (y.2.2.1:Int),.int .u64 (y.2.2.2.1:Int)] 29 (0,0))) 3 (by kernel_rfl) ?_
    rw [<-hD]
    clear hD
    refine tL 0 (.agg #[.bool x.2.2.2.2,.int .i64 x.1,.int .i64 x.2.1,.int .u64 (x.2.2.1:Int),.int .u64 (x.2.2.2.1:Int)]) ⟨ra.out,rb.out⟩ ?_ ?_
    ·exact fun w' h=>yN h.1
    refine tL 1 (.agg #[.bool y.2.2.2.2,.int .i64 y.1,.int .i64 y.2.1,.int .u64 (y.2.2.1:Int),.int .u64 (y.2.2.2.1:Int)]) ⟨ra.out,rb.out⟩ ?_ ?_
    ·exact fun w' h=>yN h.2
    simp only [Act.put,List.setIfInBounds_toArray,List.set_cons_zero,List.set_cons_succ]
    refine wpAnyL_step (i:=2) (by kernel_rfl) rfl (fun K hK=>?_)
    obtain ⟨k0,k1,k2,k3,k4,k5,k6,k7,k8,k9⟩:=row5_facts rl.out
    go_simp
    obtain ⟨Z1,hZ1⟩:∃ Z,Z=(((((D.setCell ⟨gl,0,none⟩ (.bool x.2.2.2.2)).setCell ⟨gl,1,none⟩ (.int .i64 x.1)).setCell ⟨gl,2,none⟩ (.int .i64 x.2.1)).setCell ⟨gl,3,none⟩ (.int .u64 (x.2.2.1:Int))).setCell ⟨gl,4,none⟩ (.int .u64 (x.2.2.2.1:Int))):=⟨_,rfl⟩
    obtain ⟨HZ1,rlz,keep⟩:=(rows_put1 rl.out HD.out (by omega) _ _ _ _ _ hZ1).out
    replace HZ1:Hid (Ok w0 Z1):=HZ1
    replace rlz:Hid _:=rlz
    replace ra:Hid _:=keep _ _ (by omega) ra.out
    replace rb:Hid _:=keep _ _ (by omega) rb.out
    replace rr:Hid _:=keep _ _ (by omega) rr.out
    rw [<-hZ1]
    clear hZ1 keep rl
    clear k0 k1 k2 k3 k4 k5 k6 k7 k8 k9
    refine hK.out _ _ (fun _=>⟨ra.out,rb.out⟩) ?_
    clear hK K
    refine wpAnyL_step (i:=3) (by kernel_rfl) rfl (fun K hK=>?_)
    obtain ⟨j0,j1,j2,j3,j4,j5,j6,j7,j8,j9⟩:=row5_facts rr.out
    go_simp
    refine hK.out _ _ (fun h=>absurd rfl h) ?_
    clear hK K
    refine wpAnyL_done (by kernel_rfl) ?_ _
    obtain ⟨Z2,hZ2⟩:∃ Z,Z=(((((Z1.setCell ⟨gr,0,none⟩ (.bool y.2.2.2.2)).setCell ⟨gr,1,none⟩ (.int .i64 y.1)).setCell ⟨gr,2,none⟩ (.int .i64 y.2.1)).setCell ⟨gr,3,none⟩ (.int .u64 (y.2.2.1:Int))).setCell ⟨gr,4,none⟩ (.int .u64 (y.2.2.2.1:Int))):=⟨_,rfl⟩
    obtain ⟨HZ2,rrz,keep⟩:=(rows_put1 rr.out HZ1.out (by omega) _ _ _ _ _ hZ2).out
    replace HZ2:Hid (Ok w0 Z2):=HZ2
    replace rrz:Hid _:=rrz
    replace rlz:Hid _:=keep _ _ (by omega) rlz.out
    rw [<-hZ2]
    clear hZ2 keep rr
    clear j0 j1 j2 j3 j4 j5 j6 j7 j8 j9
    go_wp2_with fail
    refine bodyPost_ret (results_2c rfl _ _ gl gr 29 #[_,_,_,_,_] #[_,_,_,_,_] (0,0) _ rfl rfl rlz.out rrz.out Tryz.underlying29 rfl infoN infoN) rfl ?_
    exact ⟨by rw [HA.out,HR.out],HZ2.out⟩
   ·as_aux_lemma =>
    have LV:Hid (In64 v):=by rw [HVV.out];exact RXY.out.2.1
    have V0:Hid (v≠0):=by rw [HVV.out];exact NZ.out HS.out.symm
    obtain ⟨g,hg⟩:∃ t,t=gcdS v c.2.2.1:=⟨_,rfl⟩
    have HG:Hid _:=hg
    clear hg
    have G0:Hid (g≠0):=by rw [HG.out];exact gcdS_pos V0.out
    have GU:Hid (U64 g):=by rw [HG.out];exact gcdS_u64 LV.out HU.out.2.2.2.2.1
    obtain ⟨q,hq⟩:∃ t,t=(c.1%(g:Int)).toNat:=⟨_,rfl⟩
    have HQ:Hid _:=hq
    clear hq
    have QU:Hid (U64 q):=by rw [HQ.out,HG.out];exact cls_rest_u64 LV.out HU.out.2.2.2.2.1 HU.out.2.2.1
    obtain ⟨m,hm⟩:∃ t,t=makeN (-9223372036854775808) 9223372036854775807 g q:=⟨_,rfl⟩
    have HM:Hid _:=hm
    clear hm
    have RM:Hid (RawN m):=by rw [HM.out];exact make_raw min_in max_in GU.out QU.out
    replace HL:Hid (l=meetN x m):=by unfold Hid;rw [HL.out,HM.out,HQ.out,HG.out,HVV.out];unfold clsN;rw [if_pos HS.out.symm]
    go_wp2_with fail
    obtain ⟨D,hD⟩:∃ z,z=v1.drew:=⟨_,rfl⟩
    have S0:Ok v1 D:=by rw [hD];exact Below.drew (Ok.refl _)
    refine wp_region_T (fun Y=>Ok v1 Y) 6 (by kernel_rfl) ?_
    rw [<-hD]
    clear hD
    refine tT 0 (.int .i64 v) S0 ?_ ?_
    ·intro w' hS;kernel_rfl
    refine tT 2 (.pointer (some ⟨gc,3,none⟩)) S0 ?_ ?_
    ·intro w' hS;kernel_rfl
    refine tT 3 (.pointer (some ⟨gc,3,none⟩)) S0 ?_ ?_
    ·intro w' hS;kernel_rfl
    refine tT 4 (.int .u64 (c.2.2.1:Int)) S0 ?_ ?_
    ·intro w' hS
     obtain ⟨c0,c1,c2,c3,c4,c5,c6,c7,c8,c9⟩:=row5_facts (Ok.row' hS rc.out)
     go_simp
    simp only [Act.put,List.setIfInBounds_toArray,List.set_cons_zero,List.set_cons_succ]
    refine sT (i:=1) (by kernel_rfl) rfl (fun K hK=>?_)
    go_simp
    refine (vdistance_any v LV.out v1 _ S0).mono ?_
    rintro e z1 ⟨rfl,hz1⟩
    rw [abs_nat v]
    go_wp2_with fail
    refine hK.out _ _ (fun _=>hz1) ?_
    clear hK K
    refine sT (i:=5) (by kernel_rfl) rfl (fun K hK=>?_)
    go_simp
    refine (wgcd_any v.natAbs c.2.2.1 (abs_lt64 LV.out) HU.out.2.2.2.2.1 v1 _ hz1).mono ?_
    rintro e z2 ⟨rfl,hz2⟩
    rw [show Nat.gcd v.natAbs c.2.2.1=g from HG.out.symm]
    go_wp2_with fail
    refine hK.out _ _ (fun _=>hz2) ?_
    clear hK K
    refine sT (i:=6) (by kernel_rfl) rfl (fun K hK=>?_)
    go_simp
    refine hK.out _ _ (fun _=>hz2) ?_
    clear hK K
    refine wpAnyT_done (by kernel_rfl) ?_ _
    replace ra:Hid _:=Ok.row' hz2 ra.out
    replace rb:Hid _:=Ok.row' hz2 rb.out
    replace rc:Hid _:=Ok.row' hz2 rc.out
    replace rl:Hid _:=Ok.row' hz2 rl.out
    replace rr:Hid _:=Ok.row' hz2 rr.out
    have Hz2:Hid (Ok w0 z2):=Hv1.out.step hz2
    clear hz2
    go_wp2_with fail
    obtain ⟨D,hD⟩:∃ z,z=z2.drew:=⟨_,rfl⟩
    have S0:Ok z2 D:=by rw [hD];exact Below.drew (Ok.refl _)
    refine wp_region_T (fun Y=>Ok z2 Y) 12 (by kernel_rfl) ?_
    rw [<-hD]
    clear hD
    refine tT 0 (.agg #[.bool x.2.2.2.2,.int .i64 x.1,.int .i64 x.2.1,.int .u64 (x.2.2.1:Int),.int .u64 (x.2.2.2.1:Int)]) S0 ?_ ?_
    ·exact fun w' hS=>yN (Ok.row' hS ra.out)
    refine tT 3 (.int .u64 (g:Int)) S0 ?_ ?_
    ·intro w' hS;kernel_rfl
    refine tT 4 (.pointer (some ⟨gc,1,none⟩)) S0 ?_ ?_
    ·intro w' hS;kernel_rfl
    refine tT 5 (.pointer (some ⟨gc,1,none⟩)) S0 ?_ ?_
    ·intro w' hS;kernel_rfl
    refine tT 6 (.int .i64 c.1) S0 ?_ ?_
    ·intro w' hS
     obtain ⟨c0,c1,c2,c3,c4,c5,c6,c7,c8,c9⟩:=row5_facts (Ok.row' hS rc.out)
     go_simp
    refine tT 7 (.int .u64 (g:Int)) S0 ?_ ?_
    ·intro w' hS;kernel_rfl
    simp only [Act.put,List.setIfInBounds_toArray,List.set_cons_zero,List.set_cons_succ]
    refine sT (i:=1) (by kernel_rfl) rfl (fun K hK=>?_)
    go_simp
    refine (ntop_any z2 _ S0).mono ?_
    rintro e t1 ⟨rfl,ht1⟩
    go_wp2_with fail
    refine hK.out _ _ (fun _=>ht1) ?_
    clear hK K
    refine tT 2 (.agg #[.int .i64 (-9223372036854775808),.int .i64 9223372036854775807]) ht1 ?_ ?_
    ·intro w' hS;kernel_rfl
    refine sT (i:=8) (by kernel_rfl) rfl (fun K hK=>?_)
    go_simp
    refine (wmod_any c.1 g HU.out.2.2.1 GU.out _).mono ?_
    rintro e wq ⟨rfl,rfl⟩
    rw [modL_cls G0.out,<-HQ.out]
    go_wp2_with fail
    refine hK.out _ _ (fun _=>ht1) ?_
    clear hK K
    refine tT 9 (.agg #[.int .u64 (g:Int),.int .u64 (q:Int)]) ht1 ?_ ?_
    ·intro w' hS;kernel_rfl
    refine sT (i:=10) (by kernel_rfl) rfl (fun K hK=>?_)
    go_simp
    refine (nmake_any (-9223372036854775808) 9223372036854775807 g q min_in max_in GU.out QU.out z2 _ ht1).mono ?_
    rintro e t2 ⟨rfl,ht2⟩
    rw [<-HM.out]
    go_wp2_with fail
    refine hK.out _ _ (fun _=>ht2) ?_
    clear hK K
    refine sT (i:=11) (by kernel_rfl) rfl (fun K hK=>?_)
    go_simp
    refine (nmeet_any x m RXY.out.1 RM.out z2 _ ht2).mono ?_
    rintro e t3 ⟨rfl,ht3⟩
    rw [<-HL.out]
    unfold nv
    go_wp2_with fail
    refine hK.out _ _ (fun _=>ht3) ?_
    clear hK K
    refine sT (i:=12) (by kernel_rfl) rfl (fun K hK=>?_)
    replace ra:Hid _:=Ok.row' ht3 ra.out
    replace rb:Hid _:=Ok.row' ht3 rb.out
    replace rc:Hid _:=Ok.row' ht3 rc.out
    replace rl:Hid _:=Ok.row' ht3 rl.out
    replace rr:Hid _:=Ok.row' ht3 rr.out
    have Ht3:Hid (Ok w0 t3):=Hz2.out.step ht3
    clear S0
    obtain ⟨a0,a1,a2,a3,a4,a5,a6,a7,a8,a9⟩:=row5_facts ra.out
    go_simp
    refine hK.out _ _ (fun h=>absurd h (by decide)) ?_
    clear hK K
    obtain ⟨U,hU⟩:∃ Z,Z=(((((t3.setCell ⟨ga,0,none⟩ (.bool l.2.2.2.2)).setCell ⟨ga,1,none⟩ (.int .i64 l.1)).setCell ⟨ga,2,none⟩ (.int .i64 l.2.1)).setCell ⟨ga,3,none⟩ (.int .u64 (l.2.2.1:Int))).setCell ⟨ga,4,none⟩ (.int .u64 (l.2.2.2.1:Int))):=⟨_,rfl⟩
    obtain ⟨HU,raz,keep⟩:=(rows_put1 ra.out Ht3.out (by omega) _ _ _ _ _ hU).out
    replace HU:Hid (Ok w0 U):=HU
    replace raz:Hid _:=raz
    replace rb:Hid _:=keep _ _ (by omega) rb.out
    replace rc:Hid _:=keep _ _ (by omega) rc.out
    replace rl:Hid _:=keep _ _ (by omega) rl.out
    replace rr:Hid _:=keep _ _ (by omega) rr.out
    rw [<-hU]
    clear hU keep ra
    clear a0 a1 a2 a3 a4 a5 a6 a7 a8 a9
    have ra:Hid _:=raz
    clear raz
    refine wpAnyT_done (by kernel_rfl) ?_ _
    go_wp2_with fail
    obtain ⟨D,hD⟩:∃ z,z=U.drew:=⟨_,rfl⟩
    have S0:Ok U D:=by rw [hD];exact Below.drew (Ok.refl _)
    replace ra:Hid _:=Ok.row' S0 ra.out
    replace rb:Hid _:=Ok.row' S0 rb.out
    replace rl:Hid _:=Ok.row' S0 rl.out
    replace rr:Hid _:=Ok.row' S0 rr.out
    have HD:Hid (Ok w0 D):=HU.out.step S0
    clear S0
    refine wp_region_L (fun Y=>Y.heap[ga]?=some (.cells #[.bool l.2.2.2.2,.int .i64 l.1,.int .i64 l.2.1,.int .u64 (l.2.2.1:Int),.int .u64 (l.2.2.2.1:Int)] 29 (0,0))/\Y.heap[gb]?=some (.cells #[.bool y.2.2.2.2,.int .i64 y.1,.int .i64 y.2.1,.int .u64 (y.2.2.1:Int),.int .u64 (y.2.2.2.1:Int)] 29 (0,0))) 3 (by kernel_rfl) ?_
    rw [<-hD]
    clear hD
    refine tL 0 (.agg #[.bool l.2.2.2.2,.int .i64 l.1,.int .i64 l.2.1,.int .u64 (l.2.2.1:Int),.int .u64 (l.2.2.2.1:Int)]) ⟨ra.out,rb.out⟩ ?_ ?_
    ·exact fun w' h=>yN h.1
    refine tL 1 (.agg #[.bool y.2.2.2.2,.int .i64 y.1,.int .i64 y.2.1,.int .u64 (y.2.2.1:Int),.int .u64 (y.2.2.2.1:Int)]) ⟨ra.out,rb.out⟩ ?_ ?_
    ·exact fun w' h=>yN h.2
    simp only [Act.put,List.setIfInBounds_toArray,List.set_cons_zero,List.set_cons_succ]
    refine wpAnyL_step (i:=2) (by kernel_rfl) rfl (fun K hK=>?_)
    obtain ⟨k0,k1,k2,k3,k4,k5,k6,k7,k8,k9⟩:=row5_facts rl.out
    go_simp
    obtain ⟨Z1,hZ1⟩:∃ Z,Z=(((((D.setCell ⟨gl,0,none⟩ (.bool l.2.2.2.2)).setCell ⟨gl,1,none⟩ (.int .i64 l.1)).setCell ⟨gl,2,none⟩ (.int .i64 l.2.1)).setCell ⟨gl,3,none⟩ (.int .u64 (l.2.2.1:Int))).setCell ⟨gl,4,none⟩ (.int .u64 (l.2.2.2.1:Int))):=⟨_,rfl⟩
    obtain ⟨HZ1,rlz,keep⟩:=(rows_put1 rl.out HD.out (by omega) _ _ _ _ _ hZ1).out
    replace HZ1:Hid (Ok w0 Z1):=HZ1
    replace rlz:Hid _:=rlz
    replace ra:Hid _:=keep _ _ (by omega) ra.out
    replace rb:Hid _:=keep _ _ (by omega) rb.out
    replace rr:Hid _:=keep _ _ (by omega) rr.out
    rw [<-hZ1]
    clear hZ1 keep rl
    clear k0 k1 k2 k3 k4 k5 k6 k7 k8 k9
    refine hK.out _ _ (fun _=>⟨ra.out,rb.out⟩) ?_
    clear hK K
    refine wpAnyL_step (i:=3) (by kernel_rfl) rfl (fun K hK=>?_)
    obtain ⟨j0,j1,j2,j3,j4,j5,j6,j7,j8,j9⟩:=row5_facts rr.out
    go_simp
    refine hK.out _ _ (fun h=>absurd rfl h) ?_
    clear hK K
    refine wpAnyL_done (by kernel_rfl) ?_ _
    obtain ⟨Z2,hZ2⟩:∃ Z,Z=(((((Z1.setCell ⟨gr,0,none⟩ (.bool y.2.2.2.2)).setCell ⟨gr,1,none⟩ (.int .i64 y.1)).setCell ⟨gr,2,none⟩ (.int .i64 y.2.1)).setCell ⟨gr,3,none⟩ (.int .u64 (y.2.2.1:Int))).setCell ⟨gr,4,none⟩ (.int .u64 (y.2.2.2.1:Int))):=⟨_,rfl⟩
    obtain ⟨HZ2,rrz,keep⟩:=(rows_put1 rr.out HZ1.out (by omega) _ _ _ _ _ hZ2).out
    replace HZ2:Hid (Ok w0 Z2):=HZ2
    replace rrz:Hid _:=rrz
    replace rlz:Hid _:=keep _ _ (by omega) rlz.out
    rw [<-hZ2]
    clear hZ2 keep rr
    clear j0 j1 j2 j3 j4 j5 j6 j7 j8 j9
    go_wp2_with fail
    refine bodyPost_ret (results_2c rfl _ _ gl gr 29 #[_,_,_,_,_] #[_,_,_,_,_] (0,0) _ rfl rfl rlz.out rrz.out Tryz.underlying29 rfl infoN infoN) rfl ?_
    exact ⟨by rw [HR.out],HZ2.out⟩
 ·have HA:Hid (l=a/\r=b):=by unfold Hid;rw [HL.out,HR.out];unfold leavN;rw [if_pos HP.out.symm];exact ⟨rfl,rfl⟩
  obtain ⟨b0,b1,b2,b3,b4,b5,b6,b7,b8,b9⟩:=row5_facts rb.out
  rw [<-HP.out] at b0
  go_wp2_with fail
  clear b0 b1 b2 b3 b4 b5 b6 b7 b8 b9
  clear HX HY HL HR
  obtain ⟨D,hD⟩:∃ z,z=W.drew:=⟨_,rfl⟩
  have S0:Ok W D:=by rw [hD];exact Below.drew (Ok.refl _)
  replace ra:Hid _:=Ok.row' S0 ra.out
  replace rb:Hid _:=Ok.row' S0 rb.out
  replace rl:Hid _:=Ok.row' S0 rl.out
  replace rr:Hid _:=Ok.row' S0 rr.out
  have HD:Hid (Ok w0 D):=HW.out.step S0
  clear S0
  refine wp_region_L (fun Y=>Y.heap[ga]?=some (.cells #[.bool a.2.2.2.2,.int .i64 a.1,.int .i64 a.2.1,.int .u64 (a.2.2.1:Int),.int .u64 (a.2.2.2.1:Int)] 29 (0,0))/\Y.heap[gb]?=some (.cells #[.bool b.2.2.2.2,.int .i64 b.1,.int .i64 b.2.1,.int .u64 (b.2.2.1:Int),.int .u64 (b.2.2.2.1:Int)] 29 (0,0))) 3 (by kernel_rfl) ?_
  rw [<-hD]
  clear hD
  refine tL 0 (.agg #[.bool a.2.2.2.2,.int .i64 a.1,.int .i64 a.2.1,.int .u64 (a.2.2.1:Int),.int .u64 (a.2.2.2.1:Int)]) ⟨ra.out,rb.out⟩ ?_ ?_
  ·exact fun w' h=>yN h.1
  refine tL 1 (.agg #[.bool b.2.2.2.2,.int .i64 b.1,.int .i64 b.2.1,.int .u64 (b.2.2.1:Int),.int .u64 (b.2.2.2.1:Int)]) ⟨ra.out,rb.out⟩ ?_ ?_
  ·exact fun w' h=>yN h.2
  simp only [Act.put,List.setIfInBounds_toArray,List.set_cons_zero,List.set_cons_succ]
  refine wpAnyL_step (i:=2) (by kernel_rfl) rfl (fun K hK=>?_)
  obtain ⟨k0,k1,k2,k3,k4,k5,k6,k7,k8,k9⟩:=row5_facts rl.out
  go_simp
  obtain ⟨Z1,hZ1⟩:∃ Z,Z=(((((D.setCell ⟨gl,0,none⟩ (.bool a.2.2.2.2)).setCell ⟨gl,1,none⟩ (.int .i64 a.1)).setCell ⟨gl,2,none⟩ (.int .i64 a.2.1)).setCell ⟨gl,3,none⟩ (.int .u64 (a.2.2.1:Int))).setCell ⟨gl,4,none⟩ (.int .u64 (a.2.2.2.1:Int))):=⟨_,rfl⟩
  obtain ⟨HZ1,rlz,keep⟩:=(rows_put1 rl.out HD.out (by omega) _ _ _ _ _ hZ1).out
  replace HZ1:Hid (Ok w0 Z1):=HZ1
  replace rlz:Hid _:=rlz
  replace ra:Hid _:=keep _ _ (by omega) ra.out
  replace rb:Hid _:=keep _ _ (by omega) rb.out
  replace rr:Hid _:=keep _ _ (by omega) rr.out
  rw [<-hZ1]
  clear hZ1 keep rl
  clear k0 k1 k2 k3 k4 k5 k6 k7 k8 k9
  refine hK.out _ _ (fun _=>⟨ra.out,rb.out⟩) ?_
  clear hK K
  refine wpAnyL_step (i:=3) (by kernel_rfl) rfl (fun K hK=>?_)
  obtain ⟨j0,j1,j2,j3,j4,j5,j6,j7,j8,j9⟩:=row5_facts rr.out
  go_simp
  refine hK.out _ _ (fun h=>absurd rfl h) ?_
  clear hK K
  refine wpAnyL_done (by kernel_rfl) ?_ _
  obtain ⟨Z2,hZ2⟩:∃ Z,Z=(((((Z1.setCell ⟨gr,0,none⟩ (.bool b.2.2.2.2)).setCell ⟨gr,1,none⟩ (.int .i64 b.1)).setCell ⟨gr,2,none⟩ (.int .i64 b.2.1)).setCell ⟨gr,3,none⟩ (.int .u64 (b.2.2.1:Int))).setCell ⟨gr,4,none⟩ (.int .u64 (b.2.2.2.1:Int))):=⟨_,rfl⟩
  obtain ⟨HZ2,rrz,keep⟩:=(rows_put1 rr.out HZ1.out (by omega) _ _ _ _ _ hZ2).out
  replace HZ2:Hid (Ok w0 Z2):=HZ2
  replace rrz:Hid _:=rrz
  replace rlz:Hid _:=keep _ _ (by omega) rlz.out
  rw [<-hZ2]
  clear hZ2 keep rr
  clear j0 j1 j2 j3 j4 j5 j6 j7 j8 j9
  go_wp2_with fail
  refine bodyPost_ret (results_2c rfl _ _ gl gr 29 #[_,_,_,_,_] #[_,_,_,_,_] (0,0) _ rfl rfl rlz.out rrz.out Tryz.underlying29 rfl infoN infoN) rfl ?_
  exact ⟨by rw [HA.out.1,HA.out.2],HZ2.out⟩
end Go.Proofs.YtnjmjnmhldhaoaaGreat
