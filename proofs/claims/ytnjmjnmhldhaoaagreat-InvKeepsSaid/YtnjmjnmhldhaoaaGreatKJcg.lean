import Derived.Test.YtnjmjnmhldhaoaaGreatKJr
set_option linter.all false
namespace Go.Proofs.YtnjmjnmhldhaoaaGreat
section
open Go
section
variable {P:Program} {ops:Array Oper} {Q:Exit->Act->World->Prop} {md:Region.Mode} {S:World->Prop} {n:Nat}
def wpAnyL (P:Program) (md:Region.Mode) (ops:Array Oper) (Q:Exit->Act->World->Prop) (S:World->Prop) (n:Nat):Nat->Array Bool->Act->World->Prop
 | 0,listed,a,w=>Region.ready md ops listed=[]/\Q .normal a w
 | fuel+1,listed,a,w =>
  (Region.ready md ops listed=[]->Q .normal a w) /\
  ∀ i∈Region.ready md ops listed,wpOp P ops Q i (fun a' w'=>(i≠n->S w')/\wpAnyL P md ops Q S n fuel (listed.setIfInBounds i true) a' w') a w
theorem wpAny_of_L:∀ (fuel:Nat) (listed:Array Bool) (a:Act) (w:World),wpAnyL P md ops Q S n fuel listed a w->wpAny P md ops Q fuel listed a w
 | 0,_,_,_,h=>h
 | fuel+1,_,_,_,h=>⟨h.1,fun i hi=>wpOp_mono (fun a' w' h'=>wpAny_of_L fuel _ a' w' h'.2) (h.2 i hi)⟩
theorem wpAnyL_first {i:Nat} {oi:Oper} {v:Value} (hi:ops[i]?=some oi) (hsel:∀ (j:Nat) (o:Oper) cs b,ops[j]?=some o->o.op≠.select cs b)
  (hw:∃ ol,ops[n]?=some ol/\∃ e∈ol.after,Region.binds md e=true/\e.on=i)
  (hQ:∀ c a w,Q (.panic c) (a.put oi.dst v) w->Q (.panic c) a w) :
  ∀ (fuel:Nat) (listed:Array Bool) (a:Act) (w:World),
   (∀ j oj,ops[j]?=some oj->j≠i->listed.getD j true=false->(∀ e∈oj.after,Region.binds md e=true->e.on≠i)->oi.apart ops oj=true) ->
   i∈Region.ready md ops listed->YieldsIf P ops S oi v a->S w ->
   wpAnyL P md ops Q S n fuel (listed.setIfInBounds i true) (a.put oi.dst v) w->wpAnyL P md ops Q S n (fuel+1) listed a w:=by
 intro fuel
 induction fuel with
 | zero =>
  intro listed a w _ hr hy hS H
  refine ⟨fun h=>(by rw [h] at hr;cases hr),fun j hj=>?_⟩
  by_cases hji:j=i
  ·subst hji;exact hy.wpOp hi hS ⟨fun _=>hS,H⟩
  ·have:=ready_mono hj hji
   rw [H.1] at this
   cases this
 | succ fuel ih =>
  intro listed a w hfree hr hy hS H
  refine ⟨fun h=>(by rw [h] at hr;cases hr),fun j hj=>?_⟩
  by_cases hji:j=i
  ·subst hji;exact hy.wpOp hi hS ⟨fun _=>hS,H⟩
  ·have h1:=H.2 j (ready_mono hj hji)
   obtain ⟨hjun,oj,hoj,hall⟩:=mem_ready.1 hj
   have hnot:∀ e∈oj.after,Region.binds md e=true->e.on≠i:=fun e he hb heq=>by
    have h1:=hall e he hb
    have h0:=(mem_ready.1 hr).1
    rw [heq] at h1
    rcases Nat.lt_or_ge i listed.size with h' | h'
    ·simp [h'] at h0 h1;rw [h0] at h1;cases h1
    ·simp [Array.getElem?_eq_none h'] at h1
   have hjn:j≠n:=by
    rintro rfl
    obtain ⟨ol,h3,e,h4,h5,h6⟩:=hw
    rw [hoj] at h3
    cases h3
    exact hnot e h4 h5 h6
   have h2:=wpOp_putIf hoj (hfree j oj hoj hji hjun hnot) (fun cs b=>hsel i oi cs b hi) (fun cs b=>hsel j oj cs b hoj) hQ hy h1
   have hfree':∀ k ok,ops[k]?=some ok->k≠i->(listed.setIfInBounds j true).getD k true=false ->
     (∀ e∈ok.after,Region.binds md e=true->e.on≠i)->oi.apart ops ok=true:=fun k ok hk hki hun hno=>by
    refine hfree k ok hk hki ?_ hno
    by_cases hjk:j=k
    ·subst hjk;exact hjun
    ·rw [getD_set_ne true hjk] at hun;exact hun
   refine wpOp_mono (fun a' w' h3=>⟨h3.2.1,ih (listed.setIfInBounds j true) a' w' hfree' (ready_mono hr (Ne.symm hji)) h3.1 (h3.2.1 hjn) ?_⟩) h2
   rw [Array.setIfInBounds_comm _ _ hji]
   exact h3.2.2
def waitsFor (md:Region.Mode) (ops:Array Oper) (n i:Nat):Bool :=
 match ops[n]? with
 | some o=>o.after.any fun e=>Region.binds md e&&(e.on==i)
 | none=>false
theorem waitsFor_spec {i:Nat} (h:waitsFor md ops n i=true):∃ ol,ops[n]?=some ol/\∃ e∈ol.after,Region.binds md e=true/\e.on=i:=by
 unfold waitsFor at h
 split at h
 ·rename_i o ho
  refine ⟨o,ho,?_⟩
  rw [Array.any_eq_true'] at h
  obtain ⟨e,he,h2⟩:=h
  simp only [Bool.and_eq_true,beq_iff_eq] at h2
  exact ⟨e,he,h2.1,h2.2⟩
 ·cases h
theorem wpAnyL_take {i:Nat} {oi:Oper} {v:Value} {fuel:Nat} {listed:Array Bool} {a:Act} {w:World} (hi:ops[i]?=some oi)
  (hs:Region.noSelect ops=true) (hf:Region.free md ops listed i=true) (hr:(Region.ready md ops listed).contains i=true) (hn:waitsFor md ops n i=true)
  (hQ:∀ c a w,Q (.panic c) (a.put oi.dst v) w->Q (.panic c) a w) (hS:S w) (hy:YieldsIf P ops S oi v a)
  (h:wpAnyL P md ops Q S n fuel (listed.setIfInBounds i true) (a.put oi.dst v) w):wpAnyL P md ops Q S n (fuel+1) listed a w :=
 wpAnyL_first hi (Region.noSelect_spec hs) (waitsFor_spec hn) hQ fuel listed a w (Region.free_spec hi hf) (by simpa using hr) hy hS h
theorem tL {P:Program} {ops:Array Oper} {Q:Exit->Act->World->Prop} {md:Region.Mode} {S:World->Prop} {n:Nat} (i:Nat) (v:Value) {oi:Oper} {fuel:Nat} {listed:Array Bool} {a:Act} {w:World} (hS:S w) (hy:∀ w',S w'->Sem.run P (execOp a.eval oi) w'=Result.ok (Next.value v) w') (h:wpAnyL P md ops Q S n fuel (listed.setIfInBounds i true) (a.put oi.dst v) w) (hi:ops[i]?=some oi:=by rfl) (hs:Region.noSelect ops=true:=by kernel_rfl) (hf:Region.free md ops listed i=true:=by kernel_rfl) (hr:(Region.ready md ops listed).contains i=true:=by kernel_rfl) (hn:waitsFor md ops n i=true:=by kernel_rfl) (hw:Region.wanted oi (yielded ops a.tmps)=true:=by rfl) (hQ:∀ c a w,Q (.panic c) (a.put oi.dst v) w->Q (.panic c) a w:=by exact fun _ _ _ h=>h):wpAnyL P md ops Q S n (fuel+1) listed a w:=wpAnyL_take hi hs hf hr hn hQ hS (Or.inl ⟨hw,hy⟩) h
theorem wpAnyL_step {i:Nat} {o:Oper} {fuel:Nat} {listed:Array Bool} {a:Act} {w:World} (hr:Region.ready md ops listed=[i]) (ho:ops[i]?=some o)
  (h:∀ K':Act->World->Prop,Shut (∀ a w,(i≠n->S w)->wpAnyL P md ops Q S n fuel (listed.setIfInBounds i true) a w->K' a w)->if Region.wanted o (yielded ops a.tmps)=true then Oper.wp P o a w K' Q else K' (a.put o.dst undef) w) :
  wpAnyL P md ops Q S n (fuel+1) listed a w:=by
 refine ⟨fun h0=>(by rw [hr] at h0;cases h0),fun j hj=>?_⟩
 rw [hr,List.mem_singleton] at hj
 subst hj
 exact wpOp_step ho (fun K' hK=>h K' (fun a w hS hW=>hK a w ⟨hS,hW⟩))
theorem wpAnyL_done {listed:Array Bool} {a:Act} {w:World} (hr:Region.ready md ops listed=[]) (h:Q .normal a w) :
  ∀ fuel,wpAnyL P md ops Q S n fuel listed a w
 | 0=>⟨hr,h⟩
 | _+1=>⟨fun _=>h,by rw [hr];simp⟩
theorem wp_region_L {id:Nat} {a:Act} {w:World} (S:World->Prop) (n:Nat) (hm:P.follows .mixedOrders=true)
  (h:wpAnyL P .any ops Q S n ops.size (Array.replicate ops.size false) a w.drew):(Code.region id ops true).wp P Q a w :=
 wp_region_any hm (wpAny_of_L _ _ _ _ h)
end
end
section
open Go.RowKit
theorem cX_or (al ah:Int) (k:Nat):cX al ah k=al\/cX al ah k=ah:=by
 unfold cX;split
 ·exact Or.inl rfl
 ·exact Or.inl rfl
 ·exact Or.inr rfl
theorem cY_or (bl bh:Int) (k:Nat):cY bl bh k=bl\/cY bl bh k=bh:=by
 unfold cY;split
 ·exact Or.inl rfl
 ·exact Or.inr rfl
 ·exact Or.inl rfl
 ·exact Or.inr rfl
theorem idxk (al ah bl bh:Int) (k:Nat) (hk:k<4) (w:World):(Instr.index 199 (.agg #[.int .i64 al,.int .i64 bl,.int .i64 al,.int .i64 bh,.int .i64 ah,.int .i64 bl,.int .i64 ah,.int .i64 bh]) (.int .i64 k)).run Tryz.prog w=.ok (.agg #[.int .i64 (cX al ah k),.int .i64 (cY bl bh k)]) w:=by
 match k,hk with
 | 0,_=>exact idx0 al bl al bh ah bl ah bh w
 | 1,_=>exact idx1 al bl al bh ah bl ah bh w
 | 2,_=>exact idx2 al bl al bh ah bl ah bh w
 | 3,_=>exact idx3 al bl al bh ah bl ah bh w
set_option maxRecDepth 100000 in
set_option maxHeartbeats 2000000 in
theorem pthr (fo:Nat) (hen:∀ (x y:Int) (w:World),(callFunc fo #[.int .i64 x,.int .i64 y]).run Tryz.prog w=.ok (.enter fo #[.int .i64 x,.int .i64 y]) w) (W:Int->Int->Int) (al ah bl bh:Int) (bf:Nat) (w:World) (hop:OpAt fo al ah bl bh W) (hbf:w.heap[bf]?=some (.cells #[.func (.func fo) #[] #[]] 183 (0,0))) :
  Calls Tryz.prog 253 #[.agg #[.int .i64 al,.int .i64 ah],.agg #[.int .i64 bl,.int .i64 bh],.pointer (some ⟨bf,0,none⟩)] w fun e w'=>e=retS (cL W al ah bl bh 4) (cH W al ah bl bh 4)/\Ok w w':=by
 have hb0:=lt_row hbf
 have cf:w.cell? ⟨bf,0,none⟩=some (.func (.func fo) #[] #[]):=by rw [cell_of_row _ _ _ _ _ _ hbf];rfl
 have yb0:¬bf=w.heap.size:=by omega
 have xb0:¬w.heap.size=bf:=by omega
 have zb1:bf<w.heap.size+1:=by omega
 have yb1:¬bf=w.heap.size+1:=by omega
 have xb1:¬w.heap.size+1=bf:=by omega
 have zb2:bf<w.heap.size+1+1:=by omega
 have yb2:¬bf=w.heap.size+1+1:=by omega
 have xb2:¬w.heap.size+1+1=bf:=by omega
 have zb3:bf<w.heap.size+1+1+1:=by omega
 have yb3:¬bf=w.heap.size+1+1+1:=by omega
 have xb3:¬w.heap.size+1+1+1=bf:=by omega
 have zb4:bf<w.heap.size+1+1+1+1:=by omega
 have yb4:¬bf=w.heap.size+1+1+1+1:=by omega
 have xb4:¬w.heap.size+1+1+1+1=bf:=by omega
 have HB:Hid _:=hbf
 have HO:Hid _:=hop
 clear hop hbf
 go_enter Tryz.func253,Tryz.ntmps253
 have CF:Hid _:=cf
 go_wp2_with fail
 refine (HO.out _ _ (Or.inl rfl) (Or.inl rfl) _ _ (Ok.refl _)).mono ?_
 rintro e w1 ⟨rfl,hb1⟩
 have hok:Ok w w:=Ok.refl w
 have hle1:w.heap.size+4<=w1.heap.size:=by have:=hb1.le;simpa using this
 have HW:Hid (Ok w w1/\w1.heap[w.heap.size+2]?=some (.cells #[.int .i64 0,.int .i64 0,.int .i64 0,.int .i64 0] 187)):=⟨Ok.step (by repeat (first | exact hok | refine Ok.alloc ?_ _ | refine Ok.draws ?_ _ | fail)) hb1,Ok.row' hb1 jj⟩
 have HR:Hid (w1.heap[w.heap.size+1+1+1]?=some (.cells #[.int .i64 al,.int .i64 bl,.int .i64 al,.int .i64 bh,.int .i64 ah,.int .i64 bl,.int .i64 ah,.int .i64 bh] 199)):=Ok.row' hb1 jj
 have k0:w1.cell? ⟨w.heap.size+1+1+1,0,none⟩=some (.int .i64 al):=by rw [cell_of_row _ _ _ _ _ _ HR.out];rfl
 have k1:w1.cell? ⟨w.heap.size+1+1+1,1,none⟩=some (.int .i64 bl):=by rw [cell_of_row _ _ _ _ _ _ HR.out];rfl
 have k2:w1.cell? ⟨w.heap.size+1+1+1,2,none⟩=some (.int .i64 al):=by rw [cell_of_row _ _ _ _ _ _ HR.out];rfl
 have k3:w1.cell? ⟨w.heap.size+1+1+1,3,none⟩=some (.int .i64 bh):=by rw [cell_of_row _ _ _ _ _ _ HR.out];rfl
 have k4:w1.cell? ⟨w.heap.size+1+1+1,4,none⟩=some (.int .i64 ah):=by rw [cell_of_row _ _ _ _ _ _ HR.out];rfl
 have k5:w1.cell? ⟨w.heap.size+1+1+1,5,none⟩=some (.int .i64 bl):=by rw [cell_of_row _ _ _ _ _ _ HR.out];rfl
 have k6:w1.cell? ⟨w.heap.size+1+1+1,6,none⟩=some (.int .i64 ah):=by rw [cell_of_row _ _ _ _ _ _ HR.out];rfl
 have k7:w1.cell? ⟨w.heap.size+1+1+1,7,none⟩=some (.int .i64 bh):=by rw [cell_of_row _ _ _ _ _ _ HR.out];rfl
 have zc0:w.heap.size+1+1+1<w1.heap.size:=by omega
 have yc0:¬w.heap.size+1+1+1=w1.heap.size:=by omega
 have xc0:¬w1.heap.size=w.heap.size+1+1+1:=by omega
 have zc1:w.heap.size+1+1+1<w1.heap.size+1:=by omega
 have yc1:¬w.heap.size+1+1+1=w1.heap.size+1:=by omega
 have xc1:¬w1.heap.size+1=w.heap.size+1+1+1:=by omega
 have zc2:w.heap.size+1+1+1<w1.heap.size+1+1:=by omega
 have yc2:¬w.heap.size+1+1+1=w1.heap.size+1+1:=by omega
 have xc2:¬w1.heap.size+1+1=w.heap.size+1+1+1:=by omega
 clear hb1 hok cf zb1 zb2 zb3 zb4 yb0 yb1 yb2 yb3 yb4 xb0 xb1 xb2 xb3 xb4
 go_wp2_with fail
 clear k0 k1 k2 k3 k4 k5 k6 k7 zc0 zc1 zc2 yc0 yc1 yc2 xc0 xc1 xc2 HR
 obtain ⟨g8,hg8⟩:∃ g8,g8=w1.heap.size+1:=⟨_,rfl⟩
 obtain ⟨W1,hW1⟩:∃ W1,W1=(w1.alloc (.cells #[.int .i64 (tW (W al bl)),.int .i64 (wrap64 (W al bl))] 185)).alloc (.cells #[.int .i64 (tW (W al bl)),.int .i64 (wrap64 (W al bl)),.int .i64 (tW (W al bl)),.int .i64 (wrap64 (W al bl))] 187):=⟨_,rfl⟩
 have HS:Hid (ThrInv w W1 g8 (cL W al ah bl bh 0) (cH W al ah bl bh 0)):=by
  rw [hW1]
  refine ⟨(HW.out.1.alloc _).alloc _,heap_past _ _ _ (by simp;omega) (heap_past _ _ _ (by omega) HW.out.2),heap_at _ _ _ (by rw [hg8];simp),by omega⟩
 rw [<-hW1,<-hg8]
 have HG:Hid (bf<w.heap.size):=hb0
 clear hW1 hg8 hle1 HW hb0 HB
 go_loopw [42] (fun i wr=>∃ k:Nat,k<=4/\i=.int .i64 k/\Hid (ThrInv w wr g8 (cL W al ah bl bh k) (cH W al ah bl bh k))) (fun i _=>(4-intOf i).toNat)
 case atStart=>exact ⟨0,by omega,rfl,HS⟩
 case round =>
  obtain ⟨k,hk,rfl,HI⟩:=hrel
  clear HS
  by_cases hk1:k<4
  ·have hk2:(k:Int)<4:=by omega
   obtain ⟨r1,r2,r3,r4⟩:=HI.out
   have sz:=lt_row r3
   have e0:=Ok.cell r1 HG.out CF.out
   obtain ⟨L,hL⟩:∃ L,L=cL W al ah bl bh k:=⟨_,rfl⟩
   obtain ⟨H,hH⟩:∃ H,H=cH W al ah bl bh k:=⟨_,rfl⟩
   have SL:Hid (cL W al ah bl bh (k+1)=min L (W (cX al ah k) (cY bl bh k))):=by rw [hL];rfl
   have SH:Hid (cH W al ah bl bh (k+1)=max H (W (cX al ah k) (cY bl bh k))):=by rw [hH];rfl
   rw [<-hL,<-hH] at r3
   have l0:wr.cell? ⟨g8,0,none⟩=some (.int .i64 (tW L)):=by rw [cell_of_row _ _ _ _ _ _ r3];rfl
   have l1:wr.cell? ⟨g8,1,none⟩=some (.int .i64 (wrap64 L)):=by rw [cell_of_row _ _ _ _ _ _ r3];rfl
   have l2:wr.cell? ⟨g8,2,none⟩=some (.int .i64 (tW H)):=by rw [cell_of_row _ _ _ _ _ _ r3];rfl
   have l3:wr.cell? ⟨g8,3,none⟩=some (.int .i64 (wrap64 H)):=by rw [cell_of_row _ _ _ _ _ _ r3];rfl
   have HV:Hid (ThrInv w wr g8 L H):=⟨r1,r2,r3,r4⟩
   clear HI r1 r2 r3 r4 hL hH
   have b1:g8<wr.heap.size:=sz
   have b2:¬g8=wr.heap.size:=by omega
   have b3:¬wr.heap.size=g8:=by omega
   have hb:=HG.out;have hg:=HV.out.2.2.2
   have b4:bf<wr.heap.size:=by omega
   have b5:¬bf=wr.heap.size:=by omega
   have b6:¬wr.heap.size=bf:=by omega
   have b7:¬bf=g8:=by omega
   have b8:¬g8=bf:=by omega
   clear hb hg
   obtain ⟨x,hx⟩:∃ x,x=cX al ah k:=⟨_,rfl⟩
   obtain ⟨y,hy⟩:∃ y,y=cY bl bh k:=⟨_,rfl⟩
   rw [<-hx,<-hy] at SL SH
   have XA:Hid (x=al\/x=ah):=by rw [hx];exact cX_or al ah k
   have XB:Hid (y=bl\/y=bh):=by rw [hy];exact cY_or bl bh k
   have ix:∀ w,(Instr.index 199 (.agg #[.int .i64 al,.int .i64 bl,.int .i64 al,.int .i64 bh,.int .i64 ah,.int .i64 bl,.int .i64 ah,.int .i64 bh]) (.int .i64 k)).run Tryz.prog w=.ok (.agg #[.int .i64 x,.int .i64 y]) w:=by rw [hx,hy];exact fun w=>idxk al ah bl bh k hk1 w
   clear hx hy
   go_wp2_with fail
   obtain ⟨gt,hgt⟩:∃ gt,gt=wr.heap.size:=⟨_,rfl⟩
   obtain ⟨X,hX⟩:∃ X,X=wr.alloc (.cells #[.int .i64 x,.int .i64 y] 198):=⟨_,rfl⟩
   have okX:Ok wr X:=by rw [hX];exact (Ok.refl _).alloc _
   have rt:X.heap[gt]?=some (.cells #[.int .i64 x,.int .i64 y] 198):=by rw [hX];exact heap_at _ _ _ hgt
   obtain ⟨t0,t1,_,_⟩:=row_facts rt
   have u1:=lt_row rt
   rw [<-hX,<-hgt]
   have m0:=Ok.cell okX b1 l0;have m1:=Ok.cell okX b1 l1;have m2:=Ok.cell okX b1 l2;have m3:=Ok.cell okX b1 l3
   have m4:=Ok.cell okX b4 e0
   have u2:g8<X.heap.size:=by omega
   have u3:bf<X.heap.size:=by omega
   have HX:Hid (Ok wr X):=okX
   have HM:Hid (X.cell? ⟨g8,0,none⟩=some (.int .i64 (tW L))/\X.cell? ⟨g8,1,none⟩=some (.int .i64 (wrap64 L))/\X.cell? ⟨g8,2,none⟩=some (.int .i64 (tW H))/\X.cell? ⟨g8,3,none⟩=some (.int .i64 (wrap64 H))/\X.cell? ⟨bf,0,none⟩=some (.func (.func fo) #[] #[])/\X.cell? ⟨gt,0,none⟩=some (.int .i64 x)/\X.cell? ⟨gt,1,none⟩=some (.int .i64 y)):=⟨m0,m1,m2,m3,m4,t0,t1⟩
   have HU:Hid (g8<X.heap.size/\bf<X.heap.size/\gt<X.heap.size):=⟨u2,u3,u1⟩
   clear hX hgt okX rt l0 l1 l2 l3 e0 b1 b2 b3 b4 b5 b6 b7 b8 sz u1 u2 u3 m0 m1 m2 m3 m4 t0 t1
   refine wp_region_L (fun w'=>w'.cell? ⟨g8,0,none⟩=some (.int .i64 (tW L))/\w'.cell? ⟨g8,1,none⟩=some (.int .i64 (wrap64 L))/\w'.cell? ⟨g8,2,none⟩=some (.int .i64 (tW H))/\w'.cell? ⟨g8,3,none⟩=some (.int .i64 (wrap64 H))/\w'.cell? ⟨bf,0,none⟩=some (.func (.func fo) #[] #[])/\w'.cell? ⟨gt,0,none⟩=some (.int .i64 x)/\w'.cell? ⟨gt,1,none⟩=some (.int .i64 y)) 8 (by kernel_rfl) ?_
   refine tL 0 (.agg #[.int .i64 (tW L),.int .i64 (wrap64 L),.int .i64 (tW H),.int .i64 (wrap64 H)]) HM.out ?_ ?_
   ·rintro w' ⟨s0,s1,s2,s3,s4,s5,s6⟩;go_simp
   simp only [Act.put,List.setIfInBounds_toArray,List.set_cons_zero,List.set_cons_succ]
   refine tL 1 (.func (.func fo) #[] #[]) HM.out ?_ ?_
   ·rintro w' ⟨s0,s1,s2,s3,s4,s5,s6⟩;go_simp
   simp only [Act.put,List.setIfInBounds_toArray,List.set_cons_zero,List.set_cons_succ]
   refine tL 2 (.pointer (some ⟨gt,0,none⟩)) HM.out ?_ ?_
   ·rintro w' ⟨s0,s1,s2,s3,s4,s5,s6⟩;go_simp
   simp only [Act.put,List.setIfInBounds_toArray,List.set_cons_zero,List.set_cons_succ]
   refine tL 3 (.int .i64 x) HM.out ?_ ?_
   ·rintro w' ⟨s0,s1,s2,s3,s4,s5,s6⟩;go_simp
   simp only [Act.put,List.setIfInBounds_toArray,List.set_cons_zero,List.set_cons_succ]
   refine tL 4 (.pointer (some ⟨gt,1,none⟩)) HM.out ?_ ?_
   ·rintro w' ⟨s0,s1,s2,s3,s4,s5,s6⟩;go_simp
   simp only [Act.put,List.setIfInBounds_toArray,List.set_cons_zero,List.set_cons_succ]
   refine tL 5 (.int .i64 y) HM.out ?_ ?_
   ·rintro w' ⟨s0,s1,s2,s3,s4,s5,s6⟩;go_simp
   simp only [Act.put,List.setIfInBounds_toArray,List.set_cons_zero,List.set_cons_succ]
   refine wpAnyL_step (i:=6) (by kernel_rfl) rfl (fun K hK=>?_)
   go_simp
   refine (HO.out _ _ XA.out XB.out X _ (Below.drew (Ok.refl _))).mono ?_
   rintro e w2 ⟨rfl,hb2⟩
   go_wp2_with fail
   refine hK.out _ _ (fun _=>⟨Ok.cell hb2 HU.out.1 HM.out.1,Ok.cell hb2 HU.out.1 HM.out.2.1,Ok.cell hb2 HU.out.1 HM.out.2.2.1,Ok.cell hb2 HU.out.1 HM.out.2.2.2.1,Ok.cell hb2 HU.out.2.1 HM.out.2.2.2.2.1,Ok.cell hb2 HU.out.2.2 HM.out.2.2.2.2.2.1,Ok.cell hb2 HU.out.2.2 HM.out.2.2.2.2.2.2⟩) ?_
   clear hK K
   refine wpAnyL_step (i:=7) (by kernel_rfl) rfl (fun K hK=>?_)
   go_simp
   refine (pwith_is _ _ _ X _ hb2).mono ?_
   rintro e w3 ⟨rfl,hb3⟩
   go_wp2_with fail
   refine hK.out _ _ (fun _=>⟨Ok.cell hb3 HU.out.1 HM.out.1,Ok.cell hb3 HU.out.1 HM.out.2.1,Ok.cell hb3 HU.out.1 HM.out.2.2.1,Ok.cell hb3 HU.out.1 HM.out.2.2.2.1,Ok.cell hb3 HU.out.2.1 HM.out.2.2.2.2.1,Ok.cell hb3 HU.out.2.2 HM.out.2.2.2.2.2.1,Ok.cell hb3 HU.out.2.2 HM.out.2.2.2.2.2.2⟩) ?_
   clear hK K
   have hb4:=Ok.step HX.out hb3
   obtain ⟨⟨y0,y1,y2,y3⟩,z0,z1,z2,z3⟩:=row_facts4 (Ok.row' hb4 HV.out.2.2.1)
   have H4:Hid (Ok wr w3):=hb4
   clear hb4 hb3 hb2 HX HM HU
   refine wpAnyL_step (i:=8) (by kernel_rfl) rfl (fun K hK=>?_)
   go_simp
   refine hK.out _ _ (fun h=>absurd rfl h) ?_
   clear hK K
   refine wpAnyL_done (by kernel_rfl) ?_ _
   go_wp2_with fail
   go_roundw
   case rel =>
    refine ⟨k+1,by omega,by simp,?_⟩
    rw [SL.out,SH.out]
    exact HV.out.next H4.out
   case measure=>simp only [intOf];omega
  ·have hk2:k=4:=by omega
   subst hk2
   obtain ⟨⟨y0,y1,y2,y3⟩,z0,z1,z2,z3⟩:=row_facts4 HI.out.2.2.1
   obtain ⟨⟨x0,x1,x2,x3⟩,v0,v1,v2,v3⟩:=row_facts4 HI.out.2.1
   go_wp2_with fail
   (try simp only [Exit.inBlock,Exit.then])
   refine bodyPost_ret (results_cell_row rfl _ _ (w.heap.size+2) 187 #[_,_,_,_] (0,0) _ rfl (Jrow_set4 HI.out.2.1 _ _ _ _) Tryz.underlying187 rfl infoS) rfl ?_
   exact ⟨rfl,(((HI.out.1.set (show w.heap.size<=w.heap.size+2 by omega) _).set (show w.heap.size<=w.heap.size+2 by omega) _).set (show w.heap.size<=w.heap.size+2 by omega) _).set (show w.heap.size<=w.heap.size+2 by omega) _⟩
end
end Go.Proofs.YtnjmjnmhldhaoaaGreat
