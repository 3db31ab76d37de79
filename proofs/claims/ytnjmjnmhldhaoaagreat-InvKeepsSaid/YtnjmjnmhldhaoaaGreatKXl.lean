import Derived.Deep.Cut
import Derived.Deep.CutRange
import Derived.Test.YtnjmjnmhldhaoaaGreatKXt
set_option maxHeartbeats 8000000
set_option linter.all false
namespace Go.Proofs.YtnjmjnmhldhaoaaGreat
open Go.RowKit Go.Shelf
def pkM (x m:Int):Int:=if x<m then x else m
def mnK (z0 z1 z2 z3:Int):Nat->Int
 | 0=>z0
 | 1=>pkM z1 z0
 | 2=>pkM z2 (pkM z1 z0)
 | _=>pkM z3 (pkM z2 (pkM z1 z0))
theorem mnK_end (z0 z1 z2 z3:Int):mnK z0 z1 z2 z3 3=min (min z0 z1) (min z2 z3):=by
 show pkM z3 (pkM z2 (pkM z1 z0))=_
 unfold pkM;omega
def pkX (x m:Int):Int:=if m<x then x else m
def mxK (z0 z1 z2 z3:Int):Nat->Int
 | 0=>z0
 | 1=>pkX z1 z0
 | 2=>pkX z2 (pkX z1 z0)
 | _=>pkX z3 (pkX z2 (pkX z1 z0))
theorem mxK_end (z0 z1 z2 z3:Int):mxK z0 z1 z2 z3 3=max (max z0 z1) (max z2 z3):=by
 show pkX z3 (pkX z2 (pkX z1 z0))=_
 unfold pkX;omega
theorem yW {o:Oper} {a:Act} {w:World} {x:Operand} {g:Nat} {v0 v1:Value} (hg:w.heap[g]?=some (.cells #[v0,v1] 104 (0,0))) (ho:o.op=.load 104 x:=by rfl) (hx:a.eval x=.pointer (some ⟨g,0,none⟩):=by rfl):Sem.run Tryz.prog (execOp a.eval o) w=.ok (.value (.agg #[v0,v1])) w:=by
 unfold execOp
 simp only [ho,hx,Instr.loadAt,Instr.sureAddr,Sem.run_bind,Sem.run_pure,Result.andThen_ok,run_loadVar_row (P:=Tryz.prog) w g 104 104 _ (0,0) _ hg Tryz.underlying104 rfl infoV]
def zK (z0 z1 z2 z3:Int):Nat->Int
 | 0=>z0
 | 1=>z1
 | 2=>z2
 | _=>z3
set_option maxRecDepth 100000 in
theorem vminf_any (z0 z1 z2 z3:Int) (g:Nat) (w:World) (hR:w.heap[g]?=some (wRow z0 z1 z2 z3)) :
  Calls Tryz.prog 94 #[.slice (some ⟨g,0,none⟩) 4 4,.func (Fn.func 95) #[] #[]] w fun e w'=>e=.returned (wvv (min (min z0 z1) (min z2 z3)))/\Ok w w':=by
 have hR2:Hid (w.heap[g]?=some (.cells #[.int .i64 (hiW z0),.int .u64 (loW z0),.int .i64 (hiW z1),.int .u64 (loW z1),.int .i64 (hiW z2),.int .u64 (loW z2),.int .i64 (hiW z3),.int .u64 (loW z3)] 104 (0,0))):=hR
 clear hR
 rw [<-mnK_end]
 have hgl:=lt_row hR2.out
 have c0:w.cell? ⟨g,0,none⟩=some (.int .i64 (hiW z0)):=(cell_of_row _ g 0 _ _ _ hR2.out).trans rfl
 have c1:w.cell? ⟨g,1,none⟩=some (.int .u64 (loW z0)):=(cell_of_row _ g 1 _ _ _ hR2.out).trans rfl
 have hle:=Nat.le_refl w.heap.size
 go_enter Tryz.func94,Tryz.ntmps94
 go_wp2_with fail
 clear c0 c1
 obtain ⟨W,hW⟩:∃ W,W=((w).alloc (.cells #[.int .i64 0,.int .u64 0] 104)).alloc (.cells #[.int .i64 (hiW z0),.int .u64 (loW z0)] 104):=⟨_,rfl⟩
 have rz:Hid (W.heap[w.heap.size]?=some (.cells #[.int .i64 0,.int .u64 0] 104)):=by unfold Hid;rw [hW];exact jj
 have rm:Hid (W.heap[w.heap.size+1]?=some (.cells #[.int .i64 (hiW z0),.int .u64 (loW z0)] 104)):=by unfold Hid;rw [hW];exact jj
 have HW:Hid (Ok w W):=by unfold Hid;rw [hW];exact ((Ok.refl _).alloc _).alloc _
 rw [<-hW]
 clear hW
 obtain ⟨gm,egm⟩:∃ g,g=w.heap.size+1:=⟨_,rfl⟩
 rw [<-egm] at rm ⊢
 obtain ⟨gz,egz⟩:∃ g,g=w.heap.size:=⟨_,rfl⟩
 rw [<-egz] at rz ⊢
 have lgz:w.heap.size<=gz:=by omega
 have ngzgm:¬gz=gm:=by omega
 have lgm:w.heap.size<=gm:=by omega
 have ngmgz:¬gm=gz:=by omega
 clear egz egm
 go_loopw [6] (fun s6 wr=>∃ (k:Nat),k<=3/\s6=.int .i64 ((k+1:Nat):Int)/\Hid (Ok w wr/\wr.heap[gm]?=some (.cells #[.int .i64 (hiW (mnK z0 z1 z2 z3 k)),.int .u64 (loW (mnK z0 z1 z2 z3 k))] 104 (0,0))/\wr.heap[gz]?=some (.cells #[.int .i64 0,.int .u64 0] 104 (0,0)))) (fun s6 _=>4-(intOf s6).toNat)
 case atStart=>exact ⟨0,by omega,rfl,HW.out,rm.out,rz.out⟩
 case round =>
  obtain ⟨k,hk,rfl,HI⟩:=hrel
  clear rz rm HW
  have Hwr:Hid (Ok w wr):=HI.out.1
  have rm:Hid _:=HI.out.2.1
  have rz:Hid _:=HI.out.2.2
  have rg:Hid _:=Ok.row' HI.out.1 hR2.out
  clear HI
  rcases (show k=0\/k=1\/k=2\/k=3 by omega) with rfl | rfl | rfl | rfl
  case' inl =>
   obtain ⟨n,hn⟩:∃ t,t=mnK z0 z1 z2 z3 1:=⟨_,rfl⟩
   obtain ⟨m,hm⟩:∃ t,t=mnK z0 z1 z2 z3 0:=⟨_,rfl⟩
   have HN:Hid (n=pkM z1 m):=by rw [hn,hm];rfl
   have HNN:Hid _:=hn
   rw [<-hm] at rm
   clear hm hn
   simp only [show ((0+1:Nat):Int)=1 from rfl]
   obtain ⟨m0,m1,m2,m3⟩:=row_facts rm.out
   go_wp2_with fail
   clear m0 m1 m2 m3
   obtain ⟨c,hc⟩:∃ t,t=cmpI z1 m:=⟨_,rfl⟩
   have HC:Hid _:=hc
   clear hc
   by_cases h:z1<m
   ·have cn:c<0:=by rw [HC.out];exact cmp_lt h
    have en:n=z1:=by rw [HN.out];unfold pkM;rw [if_pos h]
    have EN:Hid _:=en
    clear en
    obtain ⟨D,hD⟩:∃ z,z=wr.drew:=⟨_,rfl⟩
    have S0:Ok wr D:=by rw [hD];exact Below.drew (Ok.refl _)
    refine wp_region_T (fun Y=>Ok wr Y) 8 (by kernel_rfl) ?_
    rw [<-hD]
    clear hD
    refine tT 0 (.func (Fn.func 95) #[] #[]) S0 ?_ ?_
    ·intro w' hS;kernel_rfl
    refine tT 1 (.slice (some ⟨g,0,none⟩) 4 4) S0 ?_ ?_
    ·intro w' hS;kernel_rfl
    refine tT 2 (.int .i64 1) S0 ?_ ?_
    ·intro w' hS;kernel_rfl
    refine tT 3 (.pointer (some ⟨g,2,none⟩)) S0 ?_ ?_
    ·intro w' hS;kernel_rfl
    refine tT 4 (.agg #[.int .i64 (hiW z1),.int .u64 (loW z1)]) S0 ?_ ?_
    ·intro w' hS
     have x0:w'.cell? ⟨g,2,none⟩=some (.int .i64 (hiW z1)):=(cell_of_row _ g 2 _ _ _ (Ok.row' hS rg.out)).trans rfl
     have x1:w'.cell? ⟨g,3,none⟩=some (.int .u64 (loW z1)):=(cell_of_row _ g 3 _ _ _ (Ok.row' hS rg.out)).trans rfl
     go_simp
    refine tT 5 (.agg #[.int .i64 (hiW m),.int .u64 (loW m)]) S0 ?_ ?_
    ·exact fun w' hS=>yW (Ok.row' hS rm.out)
    simp only [Act.put,List.setIfInBounds_toArray,List.set_cons_zero,List.set_cons_succ]
    refine sT (i:=6) (by kernel_rfl) rfl (fun K hK=>?_)
    go_simp
    refine (vcompare_any z1 m wr _ S0).mono ?_
    rintro e v1 ⟨rfl,hv1⟩
    rw [<-HC.out]
    go_wp2_with fail
    refine hK.out _ _ (fun _=>hv1) ?_
    clear hK K
    refine sT (i:=7) (by kernel_rfl) rfl (fun K hK=>?_)
    go_simp
    refine hK.out _ _ (fun _=>hv1) ?_
    clear hK K
    refine wpAnyT_done (by kernel_rfl) ?_ _
    replace rm:Hid _:=Ok.row' hv1 rm.out
    replace rz:Hid _:=Ok.row' hv1 rz.out
    replace rg:Hid _:=Ok.row' hv1 rg.out
    have Hv1:Hid (Ok w v1):=Hwr.out.step hv1
    clear hv1
    have x0:v1.cell? ⟨g,2,none⟩=some (.int .i64 (hiW z1)):=(cell_of_row _ g 2 _ _ _ rg.out).trans rfl
    have x1:v1.cell? ⟨g,3,none⟩=some (.int .u64 (loW z1)):=(cell_of_row _ g 3 _ _ _ rg.out).trans rfl
    obtain ⟨m0,m1,m2,m3⟩:=row_facts rm.out
    go_wp2_with fail
    have hp:=(rows_put1w rm.out Hv1.out lgm (.int .i64 (hiW z1)) (.int .u64 (loW z1)) rfl).out
    exact ⟨⟨1,by omega,rfl,hp.1,by rw [<-HNN.out,EN.out];exact hp.2.1,hp.2.2 _ _ ngzgm rz.out⟩,by simp [intOf]⟩
   ·have cn:0<=c:=by rw [HC.out];exact cmp_ge (by omega)
    have en:n=m:=by rw [HN.out];unfold pkM;rw [if_neg h]
    have EN:Hid _:=en
    clear en
    obtain ⟨D,hD⟩:∃ z,z=wr.drew:=⟨_,rfl⟩
    have S0:Ok wr D:=by rw [hD];exact Below.drew (Ok.refl _)
    refine wp_region_T (fun Y=>Ok wr Y) 8 (by kernel_rfl) ?_
    rw [<-hD]
    clear hD
    refine tT 0 (.func (Fn.func 95) #[] #[]) S0 ?_ ?_
    ·intro w' hS;kernel_rfl
    refine tT 1 (.slice (some ⟨g,0,none⟩) 4 4) S0 ?_ ?_
    ·intro w' hS;kernel_rfl
    refine tT 2 (.int .i64 1) S0 ?_ ?_
    ·intro w' hS;kernel_rfl
    refine tT 3 (.pointer (some ⟨g,2,none⟩)) S0 ?_ ?_
    ·intro w' hS;kernel_rfl
    refine tT 4 (.agg #[.int .i64 (hiW z1),.int .u64 (loW z1)]) S0 ?_ ?_
    ·intro w' hS
     have x0:w'.cell? ⟨g,2,none⟩=some (.int .i64 (hiW z1)):=(cell_of_row _ g 2 _ _ _ (Ok.row' hS rg.out)).trans rfl
     have x1:w'.cell? ⟨g,3,none⟩=some (.int .u64 (loW z1)):=(cell_of_row _ g 3 _ _ _ (Ok.row' hS rg.out)).trans rfl
     go_simp
    refine tT 5 (.agg #[.int .i64 (hiW m),.int .u64 (loW m)]) S0 ?_ ?_
    ·exact fun w' hS=>yW (Ok.row' hS rm.out)
    simp only [Act.put,List.setIfInBounds_toArray,List.set_cons_zero,List.set_cons_succ]
    refine sT (i:=6) (by kernel_rfl) rfl (fun K hK=>?_)
    go_simp
    refine (vcompare_any z1 m wr _ S0).mono ?_
    rintro e v1 ⟨rfl,hv1⟩
    rw [<-HC.out]
    go_wp2_with fail
    refine hK.out _ _ (fun _=>hv1) ?_
    clear hK K
    refine sT (i:=7) (by kernel_rfl) rfl (fun K hK=>?_)
    go_simp
    refine hK.out _ _ (fun _=>hv1) ?_
    clear hK K
    refine wpAnyT_done (by kernel_rfl) ?_ _
    replace rm:Hid _:=Ok.row' hv1 rm.out
    replace rz:Hid _:=Ok.row' hv1 rz.out
    replace rg:Hid _:=Ok.row' hv1 rg.out
    have Hv1:Hid (Ok w v1):=Hwr.out.step hv1
    clear hv1
    go_wp2_with fail
    exact ⟨⟨1,by omega,rfl,Hv1.out,by rw [<-HNN.out,EN.out];exact rm.out,rz.out⟩,by simp [intOf]⟩
  case' inr.inl =>
   obtain ⟨n,hn⟩:∃ t,t=mnK z0 z1 z2 z3 2:=⟨_,rfl⟩
   obtain ⟨m,hm⟩:∃ t,t=mnK z0 z1 z2 z3 1:=⟨_,rfl⟩
   have HN:Hid (n=pkM z2 m):=by rw [hn,hm];rfl
   have HNN:Hid _:=hn
   rw [<-hm] at rm
   clear hm hn
   simp only [show ((1+1:Nat):Int)=2 from rfl]
   obtain ⟨m0,m1,m2,m3⟩:=row_facts rm.out
   go_wp2_with fail
   clear m0 m1 m2 m3
   obtain ⟨c,hc⟩:∃ t,t=cmpI z2 m:=⟨_,rfl⟩
   have HC:Hid _:=hc
   clear hc
   by_cases h:z2<m
   ·have cn:c<0:=by rw [HC.out];exact cmp_lt h
    have en:n=z2:=by rw [HN.out];unfold pkM;rw [if_pos h]
    have EN:Hid _:=en
    clear en
    obtain ⟨D,hD⟩:∃ z,z=wr.drew:=⟨_,rfl⟩
    have S0:Ok wr D:=by rw [hD];exact Below.drew (Ok.refl _)
    refine wp_region_T (fun Y=>Ok wr Y) 8 (by kernel_rfl) ?_
    rw [<-hD]
    clear hD
    refine tT 0 (.func (Fn.func 95) #[] #[]) S0 ?_ ?_
    ·intro w' hS;kernel_rfl
    refine tT 1 (.slice (some ⟨g,0,none⟩) 4 4) S0 ?_ ?_
    ·intro w' hS;kernel_rfl
    refine tT 2 (.int .i64 2) S0 ?_ ?_
    ·intro w' hS;kernel_rfl
    refine tT 3 (.pointer (some ⟨g,4,none⟩)) S0 ?_ ?_
    ·intro w' hS;kernel_rfl
    refine tT 4 (.agg #[.int .i64 (hiW z2),.int .u64 (loW z2)]) S0 ?_ ?_
    ·intro w' hS
     have x0:w'.cell? ⟨g,4,none⟩=some (.int .i64 (hiW z2)):=(cell_of_row _ g 4 _ _ _ (Ok.row' hS rg.out)).trans rfl
     have x1:w'.cell? ⟨g,5,none⟩=some (.int .u64 (loW z2)):=(cell_of_row _ g 5 _ _ _ (Ok.row' hS rg.out)).trans rfl
     go_simp
    refine tT 5 (.agg #[.int .i64 (hiW m),.int .u64 (loW m)]) S0 ?_ ?_
    ·exact fun w' hS=>yW (Ok.row' hS rm.out)
    simp only [Act.put,List.setIfInBounds_toArray,List.set_cons_zero,List.set_cons_succ]
    refine sT (i:=6) (by kernel_rfl) rfl (fun K hK=>?_)
    go_simp
    refine (vcompare_any z2 m wr _ S0).mono ?_
    rintro e v1 ⟨rfl,hv1⟩
    rw [<-HC.out]
    go_wp2_with fail
    refine hK.out _ _ (fun _=>hv1) ?_
    clear hK K
    refine sT (i:=7) (by kernel_rfl) rfl (fun K hK=>?_)
    go_simp
    refine hK.out _ _ (fun _=>hv1) ?_
    clear hK K
    refine wpAnyT_done (by kernel_rfl) ?_ _
    replace rm:Hid _:=Ok.row' hv1 rm.out
    replace rz:Hid _:=Ok.row' hv1 rz.out
    replace rg:Hid _:=Ok.row' hv1 rg.out
    have Hv1:Hid (Ok w v1):=Hwr.out.step hv1
    clear hv1
    have x0:v1.cell? ⟨g,4,none⟩=some (.int .i64 (hiW z2)):=(cell_of_row _ g 4 _ _ _ rg.out).trans rfl
    have x1:v1.cell? ⟨g,5,none⟩=some (.int .u64 (loW z2)):=(cell_of_row _ g 5 _ _ _ rg.out).trans rfl
    obtain ⟨m0,m1,m2,m3⟩:=row_facts rm.out
    go_wp2_with fail
    have hp:=(rows_put1w rm.out Hv1.out lgm (.int .i64 (hiW z2)) (.int .u64 (loW z2)) rfl).out
    exact ⟨⟨2,by omega,rfl,hp.1,by rw [<-HNN.out,EN.out];exact hp.2.1,hp.2.2 _ _ ngzgm rz.out⟩,by simp [intOf]⟩
   ·have cn:0<=c:=by rw [HC.out];exact cmp_ge (by omega)
    have en:n=m:=by rw [HN.out];unfold pkM;rw [if_neg h]
    have EN:Hid _:=en
    clear en
    obtain ⟨D,hD⟩:∃ z,z=wr.drew:=⟨_,rfl⟩
    have S0:Ok wr D:=by rw [hD];exact Below.drew (Ok.refl _)
    refine wp_region_T (fun Y=>Ok wr Y) 8 (by kernel_rfl) ?_
    rw [<-hD]
    clear hD
    refine tT 0 (.func (Fn.func 95) #[] #[]) S0 ?_ ?_
    ·intro w' hS;kernel_rfl
    refine tT 1 (.slice (some ⟨g,0,none⟩) 4 4) S0 ?_ ?_
    ·intro w' hS;kernel_rfl
    refine tT 2 (.int .i64 2) S0 ?_ ?_
    ·intro w' hS;kernel_rfl
    refine tT 3 (.pointer (some ⟨g,4,none⟩)) S0 ?_ ?_
    ·intro w' hS;kernel_rfl
    refine tT 4 (.agg #[.int .i64 (hiW z2),.int .u64 (loW z2)]) S0 ?_ ?_
    ·intro w' hS
     have x0:w'.cell? ⟨g,4,none⟩=some (.int .i64 (hiW z2)):=(cell_of_row _ g 4 _ _ _ (Ok.row' hS rg.out)).trans rfl
     have x1:w'.cell? ⟨g,5,none⟩=some (.int .u64 (loW z2)):=(cell_of_row _ g 5 _ _ _ (Ok.row' hS rg.out)).trans rfl
     go_simp
    refine tT 5 (.agg #[.int .i64 (hiW m),.int .u64 (loW m)]) S0 ?_ ?_
    ·exact fun w' hS=>yW (Ok.row' hS rm.out)
    simp only [Act.put,List.setIfInBounds_toArray,List.set_cons_zero,List.set_cons_succ]
    refine sT (i:=6) (by kernel_rfl) rfl (fun K hK=>?_)
    go_simp
    refine (vcompare_any z2 m wr _ S0).mono ?_
    rintro e v1 ⟨rfl,hv1⟩
    rw [<-HC.out]
    go_wp2_with fail
    refine hK.out _ _ (fun _=>hv1) ?_
    clear hK K
    refine sT (i:=7) (by kernel_rfl) rfl (fun K hK=>?_)
    go_simp
    refine hK.out _ _ (fun _=>hv1) ?_
    clear hK K
    refine wpAnyT_done (by kernel_rfl) ?_ _
    replace rm:Hid _:=Ok.row' hv1 rm.out
    replace rz:Hid _:=Ok.row' hv1 rz.out
    replace rg:Hid _:=Ok.row' hv1 rg.out
    have Hv1:Hid (Ok w v1):=Hwr.out.step hv1
    clear hv1
    go_wp2_with fail
    exact ⟨⟨2,by omega,rfl,Hv1.out,by rw [<-HNN.out,EN.out];exact rm.out,rz.out⟩,by simp [intOf]⟩
  case' inr.inr.inl =>
   obtain ⟨n,hn⟩:∃ t,t=mnK z0 z1 z2 z3 3:=⟨_,rfl⟩
   obtain ⟨m,hm⟩:∃ t,t=mnK z0 z1 z2 z3 2:=⟨_,rfl⟩
   have HN:Hid (n=pkM z3 m):=by rw [hn,hm];rfl
   have HNN:Hid _:=hn
   rw [<-hm] at rm
   clear hm hn
   simp only [show ((2+1:Nat):Int)=3 from rfl]
   obtain ⟨m0,m1,m2,m3⟩:=row_facts rm.out
   go_wp2_with fail
   clear m0 m1 m2 m3
   obtain ⟨c,hc⟩:∃ t,t=cmpI z3 m:=⟨_,rfl⟩
   have HC:Hid _:=hc
   clear hc
   by_cases h:z3<m
   ·have cn:c<0:=by rw [HC.out];exact cmp_lt h
    have en:n=z3:=by rw [HN.out];unfold pkM;rw [if_pos h]
    have EN:Hid _:=en
    clear en
    obtain ⟨D,hD⟩:∃ z,z=wr.drew:=⟨_,rfl⟩
    have S0:Ok wr D:=by rw [hD];exact Below.drew (Ok.refl _)
    refine wp_region_T (fun Y=>Ok wr Y) 8 (by kernel_rfl) ?_
    rw [<-hD]
    clear hD
    refine tT 0 (.func (Fn.func 95) #[] #[]) S0 ?_ ?_
    ·intro w' hS;kernel_rfl
    refine tT 1 (.slice (some ⟨g,0,none⟩) 4 4) S0 ?_ ?_
    ·intro w' hS;kernel_rfl
    refine tT 2 (.int .i64 3) S0 ?_ ?_
    ·intro w' hS;kernel_rfl
    refine tT 3 (.pointer (some ⟨g,6,none⟩)) S0 ?_ ?_
    ·intro w' hS;kernel_rfl
    refine tT 4 (.agg #[.int .i64 (hiW z3),.int .u64 (loW z3)]) S0 ?_ ?_
    ·intro w' hS
     have x0:w'.cell? ⟨g,6,none⟩=some (.int .i64 (hiW z3)):=(cell_of_row _ g 6 _ _ _ (Ok.row' hS rg.out)).trans rfl
     have x1:w'.cell? ⟨g,7,none⟩=some (.int .u64 (loW z3)):=(cell_of_row _ g 7 _ _ _ (Ok.row' hS rg.out)).trans rfl
     go_simp
    refine tT 5 (.agg #[.int .i64 (hiW m),.int .u64 (loW m)]) S0 ?_ ?_
    ·exact fun w' hS=>yW (Ok.row' hS rm.out)
    simp only [Act.put,List.setIfInBounds_toArray,List.set_cons_zero,List.set_cons_succ]
    refine sT (i:=6) (by kernel_rfl) rfl (fun K hK=>?_)
    go_simp
    refine (vcompare_any z3 m wr _ S0).mono ?_
    rintro e v1 ⟨rfl,hv1⟩
    rw [<-HC.out]
    go_wp2_with fail
    refine hK.out _ _ (fun _=>hv1) ?_
    clear hK K
    refine sT (i:=7) (by kernel_rfl) rfl (fun K hK=>?_)
    go_simp
    refine hK.out _ _ (fun _=>hv1) ?_
    clear hK K
    refine wpAnyT_done (by kernel_rfl) ?_ _
    replace rm:Hid _:=Ok.row' hv1 rm.out
    replace rz:Hid _:=Ok.row' hv1 rz.out
    replace rg:Hid _:=Ok.row' hv1 rg.out
    have Hv1:Hid (Ok w v1):=Hwr.out.step hv1
    clear hv1
    have x0:v1.cell? ⟨g,6,none⟩=some (.int .i64 (hiW z3)):=(cell_of_row _ g 6 _ _ _ rg.out).trans rfl
    have x1:v1.cell? ⟨g,7,none⟩=some (.int .u64 (loW z3)):=(cell_of_row _ g 7 _ _ _ rg.out).trans rfl
    obtain ⟨m0,m1,m2,m3⟩:=row_facts rm.out
    go_wp2_with fail
    have hp:=(rows_put1w rm.out Hv1.out lgm (.int .i64 (hiW z3)) (.int .u64 (loW z3)) rfl).out
    exact ⟨⟨3,by omega,rfl,hp.1,by rw [<-HNN.out,EN.out];exact hp.2.1,hp.2.2 _ _ ngzgm rz.out⟩,by simp [intOf]⟩
   ·have cn:0<=c:=by rw [HC.out];exact cmp_ge (by omega)
    have en:n=m:=by rw [HN.out];unfold pkM;rw [if_neg h]
    have EN:Hid _:=en
    clear en
    obtain ⟨D,hD⟩:∃ z,z=wr.drew:=⟨_,rfl⟩
    have S0:Ok wr D:=by rw [hD];exact Below.drew (Ok.refl _)
    refine wp_region_T (fun Y=>Ok wr Y) 8 (by kernel_rfl) ?_
    rw [<-hD]
    clear hD
    refine tT 0 (.func (Fn.func 95) #[] #[]) S0 ?_ ?_
    ·intro w' hS;kernel_rfl
    refine tT 1 (.slice (some ⟨g,0,none⟩) 4 4) S0 ?_ ?_
    ·intro w' hS;kernel_rfl
    refine tT 2 (.int .i64 3) S0 ?_ ?_
    ·intro w' hS;kernel_rfl
    refine tT 3 (.pointer (some ⟨g,6,none⟩)) S0 ?_ ?_
    ·intro w' hS;kernel_rfl
    refine tT 4 (.agg #[.int .i64 (hiW z3),.int .u64 (loW z3)]) S0 ?_ ?_
    ·intro w' hS
     have x0:w'.cell? ⟨g,6,none⟩=some (.int .i64 (hiW z3)):=(cell_of_row _ g 6 _ _ _ (Ok.row' hS rg.out)).trans rfl
     have x1:w'.cell? ⟨g,7,none⟩=some (.int .u64 (loW z3)):=(cell_of_row _ g 7 _ _ _ (Ok.row' hS rg.out)).trans rfl
     go_simp
    refine tT 5 (.agg #[.int .i64 (hiW m),.int .u64 (loW m)]) S0 ?_ ?_
    ·exact fun w' hS=>yW (Ok.row' hS rm.out)
    simp only [Act.put,List.setIfInBounds_toArray,List.set_cons_zero,List.set_cons_succ]
    refine sT (i:=6) (by kernel_rfl) rfl (fun K hK=>?_)
    go_simp
    refine (vcompare_any z3 m wr _ S0).mono ?_
    rintro e v1 ⟨rfl,hv1⟩
    rw [<-HC.out]
    go_wp2_with fail
    refine hK.out _ _ (fun _=>hv1) ?_
    clear hK K
    refine sT (i:=7) (by kernel_rfl) rfl (fun K hK=>?_)
    go_simp
    refine hK.out _ _ (fun _=>hv1) ?_
    clear hK K
    refine wpAnyT_done (by kernel_rfl) ?_ _
    replace rm:Hid _:=Ok.row' hv1 rm.out
    replace rz:Hid _:=Ok.row' hv1 rz.out
    replace rg:Hid _:=Ok.row' hv1 rg.out
    have Hv1:Hid (Ok w v1):=Hwr.out.step hv1
    clear hv1
    go_wp2_with fail
    exact ⟨⟨3,by omega,rfl,Hv1.out,by rw [<-HNN.out,EN.out];exact rm.out,rz.out⟩,by simp [intOf]⟩
  case' inr.inr.inr =>
   simp only [show ((3+1:Nat):Int)=4 from rfl]
   obtain ⟨m0,m1,m2,m3⟩:=row_facts rm.out
   obtain ⟨k0,k1,k2,k3⟩:=row_facts rz.out
   go_wp2_with fail
   (try simp only [Exit.inBlock,Exit.then]);refine bodyPost_ret (results_cell_row rfl _ _ (gz) 104 #[_,_] (0,0) _ rfl (row_set2 rz.out _ _) Tryz.underlying104 rfl infoV) rfl ?_
   exact ⟨rfl,(Hwr.out.set lgz _).set lgz _⟩
set_option maxRecDepth 100000 in
theorem vmaxf_any (z0 z1 z2 z3:Int) (g:Nat) (w:World) (hR:w.heap[g]?=some (wRow z0 z1 z2 z3)) :
  Calls Tryz.prog 96 #[.slice (some ⟨g,0,none⟩) 4 4,.func (Fn.func 95) #[] #[]] w fun e w'=>e=.returned (wvv (max (max z0 z1) (max z2 z3)))/\Ok w w':=by
 have hR2:Hid (w.heap[g]?=some (.cells #[.int .i64 (hiW z0),.int .u64 (loW z0),.int .i64 (hiW z1),.int .u64 (loW z1),.int .i64 (hiW z2),.int .u64 (loW z2),.int .i64 (hiW z3),.int .u64 (loW z3)] 104 (0,0))):=hR
 clear hR
 rw [<-mxK_end]
 have hgl:=lt_row hR2.out
 have c0:w.cell? ⟨g,0,none⟩=some (.int .i64 (hiW z0)):=(cell_of_row _ g 0 _ _ _ hR2.out).trans rfl
 have c1:w.cell? ⟨g,1,none⟩=some (.int .u64 (loW z0)):=(cell_of_row _ g 1 _ _ _ hR2.out).trans rfl
 have hle:=Nat.le_refl w.heap.size
 go_enter Tryz.func96,Tryz.ntmps96
 go_wp2_with fail
 clear c0 c1
 obtain ⟨W,hW⟩:∃ W,W=((w).alloc (.cells #[.int .i64 0,.int .u64 0] 104)).alloc (.cells #[.int .i64 (hiW z0),.int .u64 (loW z0)] 104):=⟨_,rfl⟩
 have rz:Hid (W.heap[w.heap.size]?=some (.cells #[.int .i64 0,.int .u64 0] 104)):=by unfold Hid;rw [hW];exact jj
 have rm:Hid (W.heap[w.heap.size+1]?=some (.cells #[.int .i64 (hiW z0),.int .u64 (loW z0)] 104)):=by unfold Hid;rw [hW];exact jj
 have HW:Hid (Ok w W):=by unfold Hid;rw [hW];exact ((Ok.refl _).alloc _).alloc _
 rw [<-hW]
 clear hW
 obtain ⟨gm,egm⟩:∃ g,g=w.heap.size+1:=⟨_,rfl⟩
 rw [<-egm] at rm ⊢
 obtain ⟨gz,egz⟩:∃ g,g=w.heap.size:=⟨_,rfl⟩
 rw [<-egz] at rz ⊢
 have lgz:w.heap.size<=gz:=by omega
 have ngzgm:¬gz=gm:=by omega
 have lgm:w.heap.size<=gm:=by omega
 have ngmgz:¬gm=gz:=by omega
 clear egz egm
 go_loopw [6] (fun s6 wr=>∃ (k:Nat),k<=3/\s6=.int .i64 ((k+1:Nat):Int)/\Hid (Ok w wr/\wr.heap[gm]?=some (.cells #[.int .i64 (hiW (mxK z0 z1 z2 z3 k)),.int .u64 (loW (mxK z0 z1 z2 z3 k))] 104 (0,0))/\wr.heap[gz]?=some (.cells #[.int .i64 0,.int .u64 0] 104 (0,0)))) (fun s6 _=>4-(intOf s6).toNat)
 case atStart=>exact ⟨0,by omega,rfl,HW.out,rm.out,rz.out⟩
 case round =>
  obtain ⟨k,hk,rfl,HI⟩:=hrel
  clear rz rm HW
  have Hwr:Hid (Ok w wr):=HI.out.1
  have rm:Hid _:=HI.out.2.1
  have rz:Hid _:=HI.out.2.2
  have rg:Hid _:=Ok.row' HI.out.1 hR2.out
  clear HI
  rcases (show k=0\/k=1\/k=2\/k=3 by omega) with rfl | rfl | rfl | rfl
  case' inl =>
   obtain ⟨n,hn⟩:∃ t,t=mxK z0 z1 z2 z3 1:=⟨_,rfl⟩
   obtain ⟨m,hm⟩:∃ t,t=mxK z0 z1 z2 z3 0:=⟨_,rfl⟩
   have HN:Hid (n=pkX z1 m):=by rw [hn,hm];rfl
   have HNN:Hid _:=hn
   rw [<-hm] at rm
   clear hm hn
   simp only [show ((0+1:Nat):Int)=1 from rfl]
   obtain ⟨m0,m1,m2,m3⟩:=row_facts rm.out
   go_wp2_with fail
   clear m0 m1 m2 m3
   obtain ⟨c,hc⟩:∃ t,t=cmpI z1 m:=⟨_,rfl⟩
   have HC:Hid _:=hc
   clear hc
   by_cases h:m<z1
   ·have cn:0<c:=by rw [HC.out];exact cmp_gt h
    have en:n=z1:=by rw [HN.out];unfold pkX;rw [if_pos h]
    have EN:Hid _:=en
    clear en
    obtain ⟨D,hD⟩:∃ z,z=wr.drew:=⟨_,rfl⟩
    have S0:Ok wr D:=by rw [hD];exact Below.drew (Ok.refl _)
    refine wp_region_T (fun Y=>Ok wr Y) 8 (by kernel_rfl) ?_
    rw [<-hD]
    clear hD
    refine tT 0 (.func (Fn.func 95) #[] #[]) S0 ?_ ?_
    ·intro w' hS;kernel_rfl
    refine tT 1 (.slice (some ⟨g,0,none⟩) 4 4) S0 ?_ ?_
    ·intro w' hS;kernel_rfl
    refine tT 2 (.int .i64 1) S0 ?_ ?_
    ·intro w' hS;kernel_rfl
    refine tT 3 (.pointer (some ⟨g,2,none⟩)) S0 ?_ ?_
    ·intro w' hS;kernel_rfl
    refine tT 4 (.agg #[.int .i64 (hiW z1),.int .u64 (loW z1)]) S0 ?_ ?_
    ·intro w' hS
     have x0:w'.cell? ⟨g,2,none⟩=some (.int .i64 (hiW z1)):=(cell_of_row _ g 2 _ _ _ (Ok.row' hS rg.out)).trans rfl
     have x1:w'.cell? ⟨g,3,none⟩=some (.int .u64 (loW z1)):=(cell_of_row _ g 3 _ _ _ (Ok.row' hS rg.out)).trans rfl
     go_simp
    refine tT 5 (.agg #[.int .i64 (hiW m),.int .u64 (loW m)]) S0 ?_ ?_
    ·exact fun w' hS=>yW (Ok.row' hS rm.out)
    simp only [Act.put,List.setIfInBounds_toArray,List.set_cons_zero,List.set_cons_succ]
    refine sT (i:=6) (by kernel_rfl) rfl (fun K hK=>?_)
    go_simp
    refine (vcompare_any z1 m wr _ S0).mono ?_
    rintro e v1 ⟨rfl,hv1⟩
    rw [<-HC.out]
    go_wp2_with fail
    refine hK.out _ _ (fun _=>hv1) ?_
    clear hK K
    refine sT (i:=7) (by kernel_rfl) rfl (fun K hK=>?_)
    go_simp
    refine hK.out _ _ (fun _=>hv1) ?_
    clear hK K
    refine wpAnyT_done (by kernel_rfl) ?_ _
    replace rm:Hid _:=Ok.row' hv1 rm.out
    replace rz:Hid _:=Ok.row' hv1 rz.out
    replace rg:Hid _:=Ok.row' hv1 rg.out
    have Hv1:Hid (Ok w v1):=Hwr.out.step hv1
    clear hv1
    have x0:v1.cell? ⟨g,2,none⟩=some (.int .i64 (hiW z1)):=(cell_of_row _ g 2 _ _ _ rg.out).trans rfl
    have x1:v1.cell? ⟨g,3,none⟩=some (.int .u64 (loW z1)):=(cell_of_row _ g 3 _ _ _ rg.out).trans rfl
    obtain ⟨m0,m1,m2,m3⟩:=row_facts rm.out
    go_wp2_with fail
    have hp:=(rows_put1w rm.out Hv1.out lgm (.int .i64 (hiW z1)) (.int .u64 (loW z1)) rfl).out
    exact ⟨⟨1,by omega,rfl,hp.1,by rw [<-HNN.out,EN.out];exact hp.2.1,hp.2.2 _ _ ngzgm rz.out⟩,by simp [intOf]⟩
   ·have cn:c<=0:=by rw [HC.out];exact cmp_le (by omega)
    have en:n=m:=by rw [HN.out];unfold pkX;rw [if_neg h]
    have EN:Hid _:=en
    clear en
    obtain ⟨D,hD⟩:∃ z,z=wr.drew:=⟨_,rfl⟩
    have S0:Ok wr D:=by rw [hD];exact Below.drew (Ok.refl _)
    refine wp_region_T (fun Y=>Ok wr Y) 8 (by kernel_rfl) ?_
    rw [<-hD]
    clear hD
    refine tT 0 (.func (Fn.func 95) #[] #[]) S0 ?_ ?_
    ·intro w' hS;kernel_rfl
    refine tT 1 (.slice (some ⟨g,0,none⟩) 4 4) S0 ?_ ?_
    ·intro w' hS;kernel_rfl
    refine tT 2 (.int .i64 1) S0 ?_ ?_
    ·intro w' hS;kernel_rfl
    refine tT 3 (.pointer (some ⟨g,2,none⟩)) S0 ?_ ?_
    ·intro w' hS;kernel_rfl
    refine tT 4 (.agg #[.int .i64 (hiW z1),.int .u64 (loW z1)]) S0 ?_ ?_
    ·intro w' hS
     have x0:w'.cell? ⟨g,2,none⟩=some (.int .i64 (hiW z1)):=(cell_of_row _ g 2 _ _ _ (Ok.row' hS rg.out)).trans rfl
     have x1:w'.cell? ⟨g,3,none⟩=some (.int .u64 (loW z1)):=(cell_of_row _ g 3 _ _ _ (Ok.row' hS rg.out)).trans rfl
     go_simp
    refine tT 5 (.agg #[.int .i64 (hiW m),.int .u64 (loW m)]) S0 ?_ ?_
    ·exact fun w' hS=>yW (Ok.row' hS rm.out)
    simp only [Act.put,List.setIfInBounds_toArray,List.set_cons_zero,List.set_cons_succ]
    refine sT (i:=6) (by kernel_rfl) rfl (fun K hK=>?_)
    go_simp
    refine (vcompare_any z1 m wr _ S0).mono ?_
    rintro e v1 ⟨rfl,hv1⟩
    rw [<-HC.out]
    go_wp2_with fail
    refine hK.out _ _ (fun _=>hv1) ?_
    clear hK K
    refine sT (i:=7) (by kernel_rfl) rfl (fun K hK=>?_)
    go_simp
    refine hK.out _ _ (fun _=>hv1) ?_
    clear hK K
    refine wpAnyT_done (by kernel_rfl) ?_ _
    replace rm:Hid _:=Ok.row' hv1 rm.out
    replace rz:Hid _:=Ok.row' hv1 rz.out
    replace rg:Hid _:=Ok.row' hv1 rg.out
    have Hv1:Hid (Ok w v1):=Hwr.out.step hv1
    clear hv1
    go_wp2_with fail
    exact ⟨⟨1,by omega,rfl,Hv1.out,by rw [<-HNN.out,EN.out];exact rm.out,rz.out⟩,by simp [intOf]⟩
  case' inr.inl =>
   obtain ⟨n,hn⟩:∃ t,t=mxK z0 z1 z2 z3 2:=⟨_,rfl⟩
   obtain ⟨m,hm⟩:∃ t,t=mxK z0 z1 z2 z3 1:=⟨_,rfl⟩
   have HN:Hid (n=pkX z2 m):=by rw [hn,hm];rfl
   have HNN:Hid _:=hn
   rw [<-hm] at rm
   clear hm hn
   simp only [show ((1+1:Nat):Int)=2 from rfl]
   obtain ⟨m0,m1,m2,m3⟩:=row_facts rm.out
   go_wp2_with fail
   clear m0 m1 m2 m3
   obtain ⟨c,hc⟩:∃ t,t=cmpI z2 m:=⟨_,rfl⟩
   have HC:Hid _:=hc
   clear hc
   by_cases h:m<z2
   ·have cn:0<c:=by rw [HC.out];exact cmp_gt h
    have en:n=z2:=by rw [HN.out];unfold pkX;rw [if_pos h]
    have EN:Hid _:=en
    clear en
    obtain ⟨D,hD⟩:∃ z,z=wr.drew:=⟨_,rfl⟩
    have S0:Ok wr D:=by rw [hD];exact Below.drew (Ok.refl _)
    refine wp_region_T (fun Y=>Ok wr Y) 8 (by kernel_rfl) ?_
    rw [<-hD]
    clear hD
    refine tT 0 (.func (Fn.func 95) #[] #[]) S0 ?_ ?_
    ·intro w' hS;kernel_rfl
    refine tT 1 (.slice (some ⟨g,0,none⟩) 4 4) S0 ?_ ?_
    ·intro w' hS;kernel_rfl
    refine tT 2 (.int .i64 2) S0 ?_ ?_
    ·intro w' hS;kernel_rfl
    refine tT 3 (.pointer (some ⟨g,4,none⟩)) S0 ?_ ?_
    ·intro w' hS;kernel_rfl
    refine tT 4 (.agg #[.int .i64 (hiW z2),.int .u64 (loW z2)]) S0 ?_ ?_
    ·intro w' hS
     have x0:w'.cell? ⟨g,4,none⟩=some (.int .i64 (hiW z2)):=(cell_of_row _ g 4 _ _ _ (Ok.row' hS rg.out)).trans rfl
     have x1:w'.cell? ⟨g,5,none⟩=some (.int .u64 (loW z2)):=(cell_of_row _ g 5 _ _ _ (Ok.row' hS rg.out)).trans rfl
     go_simp
    refine tT 5 (.agg #[.int .i64 (hiW m),.int .u64 (loW m)]) S0 ?_ ?_
    ·exact fun w' hS=>yW (Ok.row' hS rm.out)
    simp only [Act.put,List.setIfInBounds_toArray,List.set_cons_zero,List.set_cons_succ]
    refine sT (i:=6) (by kernel_rfl) rfl (fun K hK=>?_)
    go_simp
    refine (vcompare_any z2 m wr _ S0).mono ?_
    rintro e v1 ⟨rfl,hv1⟩
    rw [<-HC.out]
    go_wp2_with fail
    refine hK.out _ _ (fun _=>hv1) ?_
    clear hK K
    refine sT (i:=7) (by kernel_rfl) rfl (fun K hK=>?_)
    go_simp
    refine hK.out _ _ (fun _=>hv1) ?_
    clear hK K
    refine wpAnyT_done (by kernel_rfl) ?_ _
    replace rm:Hid _:=Ok.row' hv1 rm.out
    replace rz:Hid _:=Ok.row' hv1 rz.out
    replace rg:Hid _:=Ok.row' hv1 rg.out
    have Hv1:Hid (Ok w v1):=Hwr.out.step hv1
    clear hv1
    have x0:v1.cell? ⟨g,4,none⟩=some (.int .i64 (hiW z2)):=(cell_of_row _ g 4 _ _ _ rg.out).trans rfl
    have x1:v1.cell? ⟨g,5,none⟩=some (.int .u64 (loW z2)):=(cell_of_row _ g 5 _ _ _ rg.out).trans rfl
    obtain ⟨m0,m1,m2,m3⟩:=row_facts rm.out
    go_wp2_with fail
    have hp:=(rows_put1w rm.out Hv1.out lgm (.int .i64 (hiW z2)) (.int .u64 (loW z2)) rfl).out
    exact ⟨⟨2,by omega,rfl,hp.1,by rw [<-HNN.out,EN.out];exact hp.2.1,hp.2.2 _ _ ngzgm rz.out⟩,by simp [intOf]⟩
   ·have cn:c<=0:=by rw [HC.out];exact cmp_le (by omega)
    have en:n=m:=by rw [HN.out];unfold pkX;rw [if_neg h]
    have EN:Hid _:=en
    clear en
    obtain ⟨D,hD⟩:∃ z,z=wr.drew:=⟨_,rfl⟩
    have S0:Ok wr D:=by rw [hD];exact Below.drew (Ok.refl _)
    refine wp_region_T (fun Y=>Ok wr Y) 8 (by kernel_rfl) ?_
    rw [<-hD]
    clear hD
    refine tT 0 (.func (Fn.func 95) #[] #[]) S0 ?_ ?_
    ·intro w' hS;kernel_rfl
    refine tT 1 (.slice (some ⟨g,0,none⟩) 4 4) S0 ?_ ?_
    ·intro w' hS;kernel_rfl
    refine tT 2 (.int .i64 2) S0 ?_ ?_
    ·intro w' hS;kernel_rfl
    refine tT 3 (.pointer (some ⟨g,4,none⟩)) S0 ?_ ?_
    ·intro w' hS;kernel_rfl
    refine tT 4 (.agg #[.int .i64 (hiW z2),.int .u64 (loW z2)]) S0 ?_ ?_
    ·intro w' hS
     have x0:w'.cell? ⟨g,4,none⟩=some (.int .i64 (hiW z2)):=(cell_of_row _ g 4 _ _ _ (Ok.row' hS rg.out)).trans rfl
     have x1:w'.cell? ⟨g,5,none⟩=some (.int .u64 (loW z2)):=(cell_of_row _ g 5 _ _ _ (Ok.row' hS rg.out)).trans rfl
     go_simp
    refine tT 5 (.agg #[.int .i64 (hiW m),.int .u64 (loW m)]) S0 ?_ ?_
    ·exact fun w' hS=>yW (Ok.row' hS rm.out)
    simp only [Act.put,List.setIfInBounds_toArray,List.set_cons_zero,List.set_cons_succ]
    refine sT (i:=6) (by kernel_rfl) rfl (fun K hK=>?_)
    go_simp
    refine (vcompare_any z2 m wr _ S0).mono ?_
    rintro e v1 ⟨rfl,hv1⟩
    rw [<-HC.out]
    go_wp2_with fail
    refine hK.out _ _ (fun _=>hv1) ?_
    clear hK K
    refine sT (i:=7) (by kernel_rfl) rfl (fun K hK=>?_)
    go_simp
    refine hK.out _ _ (fun _=>hv1) ?_
    clear hK K
    refine wpAnyT_done (by kernel_rfl) ?_ _
    replace rm:Hid _:=Ok.row' hv1 rm.out
    replace rz:Hid _:=Ok.row' hv1 rz.out
    replace rg:Hid _:=Ok.row' hv1 rg.out
    have Hv1:Hid (Ok w v1):=Hwr.out.step hv1
    clear hv1
    go_wp2_with fail
    exact ⟨⟨2,by omega,rfl,Hv1.out,by rw [<-HNN.out,EN.out];exact rm.out,rz.out⟩,by simp [intOf]⟩
  case' inr.inr.inl =>
   obtain ⟨n,hn⟩:∃ t,t=mxK z0 z1 z2 z3 3:=⟨_,rfl⟩
   obtain ⟨m,hm⟩:∃ t,t=mxK z0 z1 z2 z3 2:=⟨_,rfl⟩
   have HN:Hid (n=pkX z3 m):=by rw [hn,hm];rfl
   have HNN:Hid _:=hn
   rw [<-hm] at rm
   clear hm hn
   simp only [show ((2+1:Nat):Int)=3 from rfl]
   obtain ⟨m0,m1,m2,m3⟩:=row_facts rm.out
   go_wp2_with fail
   clear m0 m1 m2 m3
   obtain ⟨c,hc⟩:∃ t,t=cmpI z3 m:=⟨_,rfl⟩
   have HC:Hid _:=hc
   clear hc
   by_cases h:m<z3
   ·have cn:0<c:=by rw [HC.out];exact cmp_gt h
    have en:n=z3:=by rw [HN.out];unfold pkX;rw [if_pos h]
    have EN:Hid _:=en
    clear en
    obtain ⟨D,hD⟩:∃ z,z=wr.drew:=⟨_,rfl⟩
    have S0:Ok wr D:=by rw [hD];exact Below.drew (Ok.refl _)
    refine wp_region_T (fun Y=>Ok wr Y) 8 (by kernel_rfl) ?_
    rw [<-hD]
    clear hD
    refine tT 0 (.func (Fn.func 95) #[] #[]) S0 ?_ ?_
    ·intro w' hS;kernel_rfl
    refine tT 1 (.slice (some ⟨g,0,none⟩) 4 4) S0 ?_ ?_
    ·intro w' hS;kernel_rfl
    refine tT 2 (.int .i64 3) S0 ?_ ?_
    ·intro w' hS;kernel_rfl
    refine tT 3 (.pointer (some ⟨g,6,none⟩)) S0 ?_ ?_
    ·intro w' hS;kernel_rfl
    refine tT 4 (.agg #[.int .i64 (hiW z3),.int .u64 (loW z3)]) S0 ?_ ?_
    ·intro w' hS
     have x0:w'.cell? ⟨g,6,none⟩=some (.int .i64 (hiW z3)):=(cell_of_row _ g 6 _ _ _ (Ok.row' hS rg.out)).trans rfl
     have x1:w'.cell? ⟨g,7,none⟩=some (.int .u64 (loW z3)):=(cell_of_row _ g 7 _ _ _ (Ok.row' hS rg.out)).trans rfl
     go_simp
    refine tT 5 (.agg #[.int .i64 (hiW m),.int .u64 (loW m)]) S0 ?_ ?_
    ·exact fun w' hS=>yW (Ok.row' hS rm.out)
    simp only [Act.put,List.setIfInBounds_toArray,List.set_cons_zero,List.set_cons_succ]
    refine sT (i:=6) (by kernel_rfl) rfl (fun K hK=>?_)
    go_simp
    refine (vcompare_any z3 m wr _ S0).mono ?_
    rintro e v1 ⟨rfl,hv1⟩
    rw [<-HC.out]
    go_wp2_with fail
    refine hK.out _ _ (fun _=>hv1) ?_
    clear hK K
    refine sT (i:=7) (by kernel_rfl) rfl (fun K hK=>?_)
    go_simp
    refine hK.out _ _ (fun _=>hv1) ?_
    clear hK K
    refine wpAnyT_done (by kernel_rfl) ?_ _
    replace rm:Hid _:=Ok.row' hv1 rm.out
    replace rz:Hid _:=Ok.row' hv1 rz.out
    replace rg:Hid _:=Ok.row' hv1 rg.out
    have Hv1:Hid (Ok w v1):=Hwr.out.step hv1
    clear hv1
    have x0:v1.cell? ⟨g,6,none⟩=some (.int .i64 (hiW z3)):=(cell_of_row _ g 6 _ _ _ rg.out).trans rfl
    have x1:v1.cell? ⟨g,7,none⟩=some (.int .u64 (loW z3)):=(cell_of_row _ g 7 _ _ _ rg.out).trans rfl
    obtain ⟨m0,m1,m2,m3⟩:=row_facts rm.out
    go_wp2_with fail
    have hp:=(rows_put1w rm.out Hv1.out lgm (.int .i64 (hiW z3)) (.int .u64 (loW z3)) rfl).out
    exact ⟨⟨3,by omega,rfl,hp.1,by rw [<-HNN.out,EN.out];exact hp.2.1,hp.2.2 _ _ ngzgm rz.out⟩,by simp [intOf]⟩
   ·have cn:c<=0:=by rw [HC.out];exact cmp_le (by omega)
    have en:n=m:=by rw [HN.out];unfold pkX;rw [if_neg h]
    have EN:Hid _:=en
    clear en
    obtain ⟨D,hD⟩:∃ z,z=wr.drew:=⟨_,rfl⟩
    have S0:Ok wr D:=by rw [hD];exact Below.drew (Ok.refl _)
    refine wp_region_T (fun Y=>Ok wr Y) 8 (by kernel_rfl) ?_
    rw [<-hD]
    clear hD
    refine tT 0 (.func (Fn.func 95) #[] #[]) S0 ?_ ?_
    ·intro w' hS;kernel_rfl
    refine tT 1 (.slice (some ⟨g,0,none⟩) 4 4) S0 ?_ ?_
    ·intro w' hS;kernel_rfl
    refine tT 2 (.int .i64 3) S0 ?_ ?_
    ·intro w' hS;kernel_rfl
    refine tT 3 (.pointer (some ⟨g,6,none⟩)) S0 ?_ ?_
    ·intro w' hS;kernel_rfl
    refine tT 4 (.agg #[.int .i64 (hiW z3),.int .u64 (loW z3)]) S0 ?_ ?_
    ·intro w' hS
     have x0:w'.cell? ⟨g,6,none⟩=some (.int .i64 (hiW z3)):=(cell_of_row _ g 6 _ _ _ (Ok.row' hS rg.out)).trans rfl
     have x1:w'.cell? ⟨g,7,none⟩=some (.int .u64 (loW z3)):=(cell_of_row _ g 7 _ _ _ (Ok.row' hS rg.out)).trans rfl
     go_simp
    refine tT 5 (.agg #[.int .i64 (hiW m),.int .u64 (loW m)]) S0 ?_ ?_
    ·exact fun w' hS=>yW (Ok.row' hS rm.out)
    simp only [Act.put,List.setIfInBounds_toArray,List.set_cons_zero,List.set_cons_succ]
    refine sT (i:=6) (by kernel_rfl) rfl (fun K hK=>?_)
    go_simp
    refine (vcompare_any z3 m wr _ S0).mono ?_
    rintro e v1 ⟨rfl,hv1⟩
    rw [<-HC.out]
    go_wp2_with fail
    refine hK.out _ _ (fun _=>hv1) ?_
    clear hK K
    refine sT (i:=7) (by kernel_rfl) rfl (fun K hK=>?_)
    go_simp
    refine hK.out _ _ (fun _=>hv1) ?_
    clear hK K
    refine wpAnyT_done (by kernel_rfl) ?_ _
    replace rm:Hid _:=Ok.row' hv1 rm.out
    replace rz:Hid _:=Ok.row' hv1 rz.out
    replace rg:Hid _:=Ok.row' hv1 rg.out
    have Hv1:Hid (Ok w v1):=Hwr.out.step hv1
    clear hv1
    go_wp2_with fail
    exact ⟨⟨3,by omega,rfl,Hv1.out,by rw [<-HNN.out,EN.out];exact rm.out,rz.out⟩,by simp [intOf]⟩
  case' inr.inr.inr =>
   simp only [show ((3+1:Nat):Int)=4 from rfl]
   obtain ⟨m0,m1,m2,m3⟩:=row_facts rm.out
   obtain ⟨k0,k1,k2,k3⟩:=row_facts rz.out
   go_wp2_with fail
   (try simp only [Exit.inBlock,Exit.then]);refine bodyPost_ret (results_cell_row rfl _ _ (gz) 104 #[_,_] (0,0) _ rfl (row_set2 rz.out _ _) Tryz.underlying104 rfl infoV) rfl ?_
   exact ⟨rfl,(Hwr.out.set lgz _).set lgz _⟩
end Go.Proofs.YtnjmjnmhldhaoaaGreat
