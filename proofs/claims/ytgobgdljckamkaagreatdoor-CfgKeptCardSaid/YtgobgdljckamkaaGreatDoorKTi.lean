import Derived.Test.YtgobgdljckamkaaGreatDoorKTh
set_option linter.unusedVariables false
set_option linter.unusedSimpArgs false
set_option linter.unnecessarySimpa false
namespace Go.Proofs.YtgobgdljckamkaaGreatDoor
section
open Go
section
variable {P:Program} {ops:Array Oper} {Q:Exit→Act→World→Prop} {md:Region.Mode} {S:World→Prop} {n:Nat}
def wpAnyL (P:Program) (md:Region.Mode) (ops:Array Oper) (Q:Exit→Act→World→Prop) (S:World→Prop) (n:Nat):Nat→Array Bool→Act→World→Prop
 | 0,listed,a,w=>Region.ready md ops listed=[]∧Q .normal a w
 | fuel+1,listed,a,w =>
  (Region.ready md ops listed=[]→Q .normal a w) ∧
  ∀ i∈Region.ready md ops listed,wpOp P ops Q i (fun a' w'=>(i≠n→S w')∧wpAnyL P md ops Q S n fuel (listed.setIfInBounds i true) a' w') a w
theorem zu3:∀ (fuel:Nat) (listed:Array Bool) (a:Act) (w:World),wpAnyL P md ops Q S n fuel listed a w→wpAny P md ops Q fuel listed a w
 | 0,_,_,_,h=>h
 | fuel+1,_,_,_,h=>⟨h.1,fun i hi=>wpOp_mono (fun a' w' h'=>zu3 fuel _ a' w' h'.2) (h.2 i hi)⟩
theorem zC0 {i:Nat} {oi:Oper} {v:Value} (hi:ops[i]?=some oi) (hsel:∀ (j:Nat) (o:Oper) cs b,ops[j]?=some o→o.op≠.select cs b)
  (hw:∃ ol,ops[n]?=some ol∧∃ e∈ol.after,Region.binds md e=true∧e.on=i)
  (hQ:∀ c a w,Q (.panic c) (a.put oi.dst v) w→Q (.panic c) a w) :
  ∀ (fuel:Nat) (listed:Array Bool) (a:Act) (w:World),
   (∀ j oj,ops[j]?=some oj→j≠i→listed.getD j true=false→(∀ e∈oj.after,Region.binds md e=true→e.on≠i)→oi.apart ops oj=true) →
   i∈Region.ready md ops listed→YieldsIf P ops S oi v a→S w →
   wpAnyL P md ops Q S n fuel (listed.setIfInBounds i true) (a.put oi.dst v) w→wpAnyL P md ops Q S n (fuel+1) listed a w:=by
 intro fuel
 induction fuel with
 | zero =>
  intro listed a w _ hr hy hS H
  refine ⟨fun h=>(by rw [h] at hr;cases hr),fun j hj=>?_⟩
  by_cases hji:j=i
  ·subst hji;exact hy.wpOp hi hS ⟨fun _=>hS,H⟩
  ·have:=ready_mono hj hji
   rw [H.1] at this
   cases this
 | succ fuel ih =>
  intro listed a w hfree hr hy hS H
  refine ⟨fun h=>(by rw [h] at hr;cases hr),fun j hj=>?_⟩
  by_cases hji:j=i
  ·subst hji;exact hy.wpOp hi hS ⟨fun _=>hS,H⟩
  ·have h1:=H.2 j (ready_mono hj hji)
   obtain ⟨hjun,oj,hoj,hall⟩:=mem_ready.1 hj
   have hnot:∀ e∈oj.after,Region.binds md e=true→e.on≠i:=fun e he hb heq=>by
    have h1:=hall e he hb
    have h0:=(mem_ready.1 hr).1
    rw [heq] at h1
    rcases Nat.lt_or_ge i listed.size with h' | h'
    ·simp [h'] at h0 h1;rw [h0] at h1;cases h1
    ·simp [Array.getElem?_eq_none h'] at h1
   have hjn:j≠n:=by
    rintro rfl
    obtain ⟨ol,h3,e,h4,h5,h6⟩:=hw
    rw [hoj] at h3
    cases h3
    exact hnot e h4 h5 h6
   have h2:=wpOp_putIf hoj (hfree j oj hoj hji hjun hnot) (fun cs b=>hsel i oi cs b hi) (fun cs b=>hsel j oj cs b hoj) hQ hy h1
   have hfree':∀ k ok,ops[k]?=some ok→k≠i→(listed.setIfInBounds j true).getD k true=false →
     (∀ e∈ok.after,Region.binds md e=true→e.on≠i)→oi.apart ops ok=true:=fun k ok hk hki hun hno=>by
    refine hfree k ok hk hki ?_ hno
    by_cases hjk:j=k
    ·subst hjk;exact hjun
    ·rw [getD_set_ne true hjk] at hun;exact hun
   refine wpOp_mono (fun a' w' h3=>⟨h3.2.1,ih (listed.setIfInBounds j true) a' w' hfree' (ready_mono hr (Ne.symm hji)) h3.1 (h3.2.1 hjn) ?_⟩) h2
   rw [Array.setIfInBounds_comm _ _ hji]
   exact h3.2.2
def waitsFor (md:Region.Mode) (ops:Array Oper) (n i:Nat):Bool :=
 match ops[n]? with
 | some o=>o.after.any fun e=>Region.binds md e&&(e.on==i)
 | none=>false
theorem zy1 {i:Nat} (h:waitsFor md ops n i=true):∃ ol,ops[n]?=some ol∧∃ e∈ol.after,Region.binds md e=true∧e.on=i:=by
 unfold waitsFor at h
 split at h
 ·rename_i o ho
  refine ⟨o,ho,?_⟩
  rw [Array.any_eq_true'] at h
  obtain ⟨e,he,h2⟩:=h
  simp only [Bool.and_eq_true,beq_iff_eq] at h2
  exact ⟨e,he,h2.1,h2.2⟩
 ·cases h
theorem zb4 {i:Nat} {oi:Oper} {v:Value} {fuel:Nat} {listed:Array Bool} {a:Act} {w:World} (hi:ops[i]?=some oi)
  (hs:Region.noSelect ops=true) (hf:Region.free md ops listed i=true) (hr:(Region.ready md ops listed).contains i=true) (hn:waitsFor md ops n i=true)
  (hQ:∀ c a w,Q (.panic c) (a.put oi.dst v) w→Q (.panic c) a w) (hS:S w) (hy:YieldsIf P ops S oi v a)
  (h:wpAnyL P md ops Q S n fuel (listed.setIfInBounds i true) (a.put oi.dst v) w):wpAnyL P md ops Q S n (fuel+1) listed a w :=
 zC0 hi (Region.noSelect_spec hs) (zy1 hn) hQ fuel listed a w (Region.free_spec hi hf) (by simpa using hr) hy hS h
theorem zb1 {i:Nat} {o:Oper} {fuel:Nat} {listed:Array Bool} {a:Act} {w:World} (hr:Region.ready md ops listed=[i]) (ho:ops[i]?=some o)
  (h:∀ K':Act→World→Prop,Shut (∀ a w,(i≠n→S w)→wpAnyL P md ops Q S n fuel (listed.setIfInBounds i true) a w→K' a w)→if Region.wanted o (yielded ops a.tmps)=true then Oper.wp P o a w K' Q else K' (a.put o.dst undef) w) :
  wpAnyL P md ops Q S n (fuel+1) listed a w:=by
 refine ⟨fun h0=>(by rw [hr] at h0;cases h0),fun j hj=>?_⟩
 rw [hr,List.mem_singleton] at hj
 subst hj
 exact wpOp_step ho (fun K' hK=>h K' (fun a w hS hW=>hK a w ⟨hS,hW⟩))
theorem zi1 {listed:Array Bool} {a:Act} {w:World} (hr:Region.ready md ops listed=[]) (h:Q .normal a w) :
  ∀ fuel,wpAnyL P md ops Q S n fuel listed a w
 | 0=>⟨hr,h⟩
 | _+1=>⟨fun _=>h,by rw [hr];simp⟩
theorem zi2 {id:Nat} {a:Act} {w:World} (S:World→Prop) (n:Nat) (hm:P.follows .mixedOrders=true)
  (h:wpAnyL P .any ops Q S n ops.size (Array.replicate ops.size false) a w.drew):(Code.region id ops true).wp P Q a w :=
 wp_region_any hm (zu3 _ _ _ _ h)
end
end
section
open Go.RowKit
set_option maxRecDepth 100000 in
set_option maxHeartbeats 4000000 in
theorem yi8 (v0 v1 v2 v3 v4 v5:Value) (ns:List Nd) (l:Ls) (w:World) (h:ProgIs w v0 v1 v2 v3 v4 v5 ns l) (hg:goodD ns l=false) :
  Calls Tryz.prog 10 #[.agg #[v0,v1,v2,v3,v4,v5]] w fun e w'=>e=.returned (.tuple #[.agg #[.slice none 0 0,.slice none 0 0,.slice none 0 0,.slice none 0 0,.slice none 0 0,.slice none 0 0,.int .i64 0,.int .i64 0,.slice none 0 0],.int .i64 2])∧Ok w w':=by
 have HG:=hid hg
 have HP:=hid h
 clear hg h
 go_enter Tryz.func10,Tryz.ntmps10
 go_wp2_with fail
 obtain ⟨w0,hw0⟩:∃ x,x=(w.alloc (Obj.cells #[v0,v1,v2,v3,v4,v5] 27)).alloc (Obj.cells #[.slice none 0 0,.slice none 0 0,.slice none 0 0,.slice none 0 0,.slice none 0 0,.slice none 0 0,.int .i64 0,.int .i64 0,.slice none 0 0] 42):=⟨_,rfl⟩
 obtain ⟨b1,hb1⟩:∃ x,x=w.heap.size+1:=⟨_,rfl⟩
 rw [←hw0,←hb1]
 have HK0:Hid (Ok w w0):=by unfold Hid;rw [hw0];exact ((Ok.refl w).alloc _).alloc _
 have HG0:Hid (w0.heap[b1]?=some (.cells #[.slice none 0 0,.slice none 0 0,.slice none 0 0,.slice none 0 0,.slice none 0 0,.slice none 0 0,.int .i64 0,.int .i64 0,.slice none 0 0] 42 (0,0))):=by unfold Hid;rw [hw0,hb1];exact zd0 _ _ _ (by simp)
 have HB:Hid (b1=w.heap.size+1):=hb1
 clear hw0 hb1
 refine (zB3 v0 v1 v2 v3 v4 v5 ns l w0 (HP.out.below HK0.out)).mono ?_
 rintro e w1 ⟨rfl,hk1⟩
 rw [HG.out]
 have HK1:Hid (Ok w w1):=HK0.out.step hk1
 have HG1:Hid (w1.heap[b1]?=some (.cells #[.slice none 0 0,.slice none 0 0,.slice none 0 0,.slice none 0 0,.slice none 0 0,.slice none 0 0,.int .i64 0,.int .i64 0,.slice none 0 0] 42 (0,0))):=Ok.row' hk1 HG0.out
 clear hk1 HG0
 have r0:w1.cell? ⟨b1,0,none⟩=some (.slice none 0 0):=(cell_of_row _ _ 0 _ _ _ HG1.out).trans (by simp)
 have r1:w1.cell? ⟨b1,1,none⟩=some (.slice none 0 0):=(cell_of_row _ _ 1 _ _ _ HG1.out).trans (by simp)
 have r2:w1.cell? ⟨b1,2,none⟩=some (.slice none 0 0):=(cell_of_row _ _ 2 _ _ _ HG1.out).trans (by simp)
 have r3:w1.cell? ⟨b1,3,none⟩=some (.slice none 0 0):=(cell_of_row _ _ 3 _ _ _ HG1.out).trans (by simp)
 have r4:w1.cell? ⟨b1,4,none⟩=some (.slice none 0 0):=(cell_of_row _ _ 4 _ _ _ HG1.out).trans (by simp)
 have r5:w1.cell? ⟨b1,5,none⟩=some (.slice none 0 0):=(cell_of_row _ _ 5 _ _ _ HG1.out).trans (by simp)
 have r6:w1.cell? ⟨b1,6,none⟩=some (.int .i64 0):=(cell_of_row _ _ 6 _ _ _ HG1.out).trans (by simp)
 have r7:w1.cell? ⟨b1,7,none⟩=some (.int .i64 0):=(cell_of_row _ _ 7 _ _ _ HG1.out).trans (by simp)
 have r8:w1.cell? ⟨b1,8,none⟩=some (.slice none 0 0):=(cell_of_row _ _ 8 _ _ _ HG1.out).trans (by simp)
 have wf:∀ i,w1.frozen? ⟨b1,i,none⟩=false:=fun i=>frozen_of_row _ _ _ _ _ HG1.out
 have lg1:=za3 HG1.out
 go_wp2_with fail
 try simp only [Exit.inBlock,Exit.then]
 refine bodyPost_ret (zc6 rfl _ _ b1 42 _ (0,0) _ rfl (zn5 HG1.out _ _ _ _ _ _ _ _ _) Tryz.underlying42 rfl Tryz.infoG) rfl ?_
 exact ⟨rfl,zl7 HK1.out (by have:=HB.out;omega) _ _ _ _ _ _ _ _ _⟩
set_option maxRecDepth 100000 in
set_option maxHeartbeats 8000000 in
theorem yh9 (v0 v1 v2 v3 v4 v5:Value) (ns:List Nd) (l:Ls) (w:World) (h:ProgIs w v0 v1 v2 v3 v4 v5 ns l) (hg:goodD ns l=true) :
  Calls Tryz.prog 10 #[.agg #[v0,v1,v2,v3,v4,v5]] w fun e w'=>∃ ev:Value,e=.returned (.tuple #[.agg #[v0,v1,v2,v3,v4,v5,.int .i64 ((ptF ns ns.length+1:Nat):Int),.int .i64 (ptF ns ns.length:Nat),ev],.int .i64 0])∧w'.ownsRow w.heap.size 53 6 ev (elF ns).length (edL (elF ns))∧Ok w w':=by
 have h0:=zn4 hg
 have HT:Hid (TreeOK ns):=zs8 (zj2 h0)
 have HLN:Hid (ns.length≤300):=(zg4 ns h0).2
 have HG:=hid hg
 have HP:=hid h
 obtain ⟨_,x0,y0,rfl,_⟩:=h.nodes
 obtain ⟨_,_,x1,y1,rfl,_⟩:=h.lists.sc.sl
 obtain ⟨_,_,x2,y2,rfl,_⟩:=h.lists.ar.sl
 obtain ⟨_,_,x3,y3,rfl,_⟩:=h.lists.sy.sl
 obtain ⟨_,_,x4,y4,rfl,_⟩:=h.lists.si.sl
 obtain ⟨_,_,x5,y5,rfl,_⟩:=h.lists.so.sl
 clear h0 hg h
 obtain ⟨pn,hpn⟩:∃ x,x=ptF ns ns.length:=⟨_,rfl⟩
 have HPN:Hid (pn=ptF ns ns.length∧pn≤300):=⟨hpn,by rw [hpn];exact Nat.le_trans (zn3 _ _) HLN.out⟩
 have hpw:IntKind.i64.wrap ((pn:Int)+1)=((pn+1:Nat):Int):=zb0 (by have:=HPN.out;omega)
 rw [←hpn]
 clear hpn
 go_enter Tryz.func10,Tryz.ntmps10
 go_wp2_with fail
 obtain ⟨w0,hw0⟩:∃ x,x=(w.alloc (Obj.cells #[Value.slice x0 ns.length y0,Value.slice x1 l.sc.length y1,Value.slice x2 l.ar.length y2,Value.slice x3 l.sy.length y3,Value.slice x4 l.si.length y4,Value.slice x5 l.so.length y5] 27)).alloc (Obj.cells #[Value.slice none 0 0,Value.slice none 0 0,Value.slice none 0 0,Value.slice none 0 0,Value.slice none 0 0,Value.slice none 0 0,Value.int IntKind.i64 0,Value.int IntKind.i64 0,Value.slice none 0 0] 42):=⟨_,rfl⟩
 obtain ⟨b1,hb1⟩:∃ x,x=w.heap.size+1:=⟨_,rfl⟩
 obtain ⟨b0,hb0⟩:∃ x,x=w.heap.size:=⟨_,rfl⟩
 rw [←hw0,←hb1,←hb0]
 have HK0:Hid (Ok w w0):=by unfold Hid;rw [hw0];exact ((Ok.refl w).alloc _).alloc _
 have HX0:Hid (Six w0 b0 (.slice x0 ns.length y0) (.slice x1 l.sc.length y1) (.slice x2 l.ar.length y2) (.slice x3 l.sy.length y3) (.slice x4 l.si.length y4) (.slice x5 l.so.length y5)):=by unfold Hid;rw [hw0,hb0];exact (Six.new w _ _ _ _ _ _).below ((Ok.refl _).alloc _)
 have HG0:Hid (w0.heap[b1]?=some (.cells #[Value.slice none 0 0,Value.slice none 0 0,Value.slice none 0 0,Value.slice none 0 0,Value.slice none 0 0,Value.slice none 0 0,Value.int IntKind.i64 0,Value.int IntKind.i64 0,Value.slice none 0 0] 42 (0,0))):=by unfold Hid;rw [hw0,hb1];exact zd0 _ _ _ (by simp)
 have HB:Hid (b0=w.heap.size∧b1=w.heap.size+1):=⟨hb0,hb1⟩
 clear hw0 hb1 hb0
 refine (zB3 _ _ _ _ _ _ ns l w0 (HP.out.below HK0.out)).mono ?_
 rintro e w1 ⟨rfl,hk1⟩
 rw [HG.out]
 have HK1:Hid (Ok w w1):=HK0.out.step hk1
 have HX1:Hid (Six w1 b0 (.slice x0 ns.length y0) (.slice x1 l.sc.length y1) (.slice x2 l.ar.length y2) (.slice x3 l.sy.length y3) (.slice x4 l.si.length y4) (.slice x5 l.so.length y5)):=HX0.out.below hk1
 have HG1:Hid (w1.heap[b1]?=some (.cells #[Value.slice none 0 0,Value.slice none 0 0,Value.slice none 0 0,Value.slice none 0 0,Value.slice none 0 0,Value.slice none 0 0,Value.int IntKind.i64 0,Value.int IntKind.i64 0,Value.slice none 0 0] 42 (0,0))):=Ok.row' hk1 HG0.out
 clear hk1 HG0 HX0
 obtain ⟨z1,c0,c1,c2,c3,c4,c5⟩:=HX1.out.pc
 go_wp2_with fail
 refine (zc7 _ ns ns.length _ ((HP.out.below HK1.out).nodes) (by have:=HLN.out;omega)).mono ?_
 rintro e w2 ⟨rfl,hk2⟩
 rw [←HPN.out.1]
 have HK2:Hid (Ok w w2):=HK1.out.step hk2
 have HX2:Hid (Six w2 b0 (.slice x0 ns.length y0) (.slice x1 l.sc.length y1) (.slice x2 l.ar.length y2) (.slice x3 l.sy.length y3) (.slice x4 l.si.length y4) (.slice x5 l.so.length y5)):=HX1.out.below hk2
 have HG2:Hid (w2.heap[b1]?=some (.cells #[Value.slice none 0 0,Value.slice none 0 0,Value.slice none 0 0,Value.slice none 0 0,Value.slice none 0 0,Value.slice none 0 0,Value.int IntKind.i64 0,Value.int IntKind.i64 0,Value.slice none 0 0] 42 (0,0))):=Ok.row' hk2 HG1.out
 clear hk2 HG1 HX1 z1 c0 c1 c2 c3 c4 c5
 obtain ⟨z1,c0,c1,c2,c3,c4,c5⟩:=HX2.out.pc
 go_wp2_with fail
 obtain ⟨bg,hbg⟩:∃ x,x=w2.heap.size:=⟨_,rfl⟩
 obtain ⟨W,hW⟩:∃ x,x=w2.alloc (Obj.cells #[Value.slice x0 ns.length y0,Value.slice x1 l.sc.length y1,Value.slice x2 l.ar.length y2,Value.slice x3 l.sy.length y3,Value.slice x4 l.si.length y4,Value.slice x5 l.so.length y5,Value.int IntKind.i64 ((pn:Int)+1),Value.int IntKind.i64 (pn:Nat),Value.slice none 0 0] 42):=⟨_,rfl⟩
 rw [←hW,←hbg]
 have HBG:Hid (bg=w2.heap.size∧b1<bg∧b0<bg):=⟨hbg,by rw [hbg];exact za3 HG2.out,by have h1:=za3 HG2.out;have h2:=HB.out;omega⟩
 have HWK:Hid (Ok w2 W):=by unfold Hid;rw [hW];exact (Ok.refl _).alloc _
 have HWG:Hid (W.heap[bg]?=some (.cells #[Value.slice x0 ns.length y0,Value.slice x1 l.sc.length y1,Value.slice x2 l.ar.length y2,Value.slice x3 l.sy.length y3,Value.slice x4 l.si.length y4,Value.slice x5 l.so.length y5,Value.int IntKind.i64 ((pn:Int)+1),Value.int IntKind.i64 (pn:Nat),Value.slice none 0 0] 42 (0,0))):=by unfold Hid;rw [hW,hbg];exact za6 _ _
 clear hW hbg z1 c0 c1 c2 c3 c4 c5 hpw
 go_loopw [6] (fun i wr=>∃ (k:Nat) (ev:Value),i=.int .i64 (k:Nat)∧k≤ns.length∧Hid (wr.heap[bg]?=some (.cells #[Value.slice x0 ns.length y0,Value.slice x1 l.sc.length y1,Value.slice x2 l.ar.length y2,Value.slice x3 l.sy.length y3,Value.slice x4 l.si.length y4,Value.slice x5 l.so.length y5,Value.int IntKind.i64 ((pn:Int)+1),Value.int IntKind.i64 (pn:Nat),ev] 42 (0,0)))∧Hid (wr.ownsRow (bg+1) 53 6 ev (rgE ns 0 k).length (edL (rgE ns 0 k)))∧Hid ((rgE ns 0 k).length≤2*k)∧Hid (Ok w2 wr)) (fun i _=>ns.length-(intOf i).toNat)
 case atStart=>exact ⟨0,_,rfl,Nat.zero_le _,HWG.out,World.ownsRow_nil _ _ _ _,Nat.zero_le _,HWK.out⟩
 case round =>
  obtain ⟨k,ev,rfl,hk,HGB,HOW,HLE,HKR⟩:=hrel
  obtain ⟨es,hes⟩:∃ x,x=rgE ns 0 k:=⟨_,rfl⟩
  have HES:Hid (es=rgE ns 0 k):=hes
  rw [←hes] at HOW HLE
  clear hes
  obtain ⟨eo,ec,rfl⟩:=za0 HOW.out
  obtain ⟨m,hm⟩:∃ x,x=es.length:=⟨_,rfl⟩
  have HM:Hid (m=es.length):=hm
  rw [←hm] at HGB HOW HLE
  clear hm
  obtain ⟨z1,c0,c1,c2,c3,c4,c5⟩:=(HX2.out.below HKR.out).pc
  by_cases hkl:k<ns.length
  ·have hkl':(k:Int)<(ns.length:Int):=za4 hkl
   have hkw:IntKind.i64.wrap ((k:Int)+1)=((k+1:Nat):Int):=zb0 (by have:=HLN.out;omega)
   obtain ⟨n,hn⟩:∃ n,ns[k]?=some n:=⟨_,List.getElem?_eq_getElem hkl⟩
   obtain ⟨_,ao',cap',e1,_,_,hN⟩:=((HP.out.below HK2.out).below HKR.out).nodes
   injection e1 with e1 e2 e3;clear e2
   subst e1 e3
   obtain ⟨b,o,rfl,M1⟩:=hN.resolve_left (fun e=>by rw [e] at hkl;simp at hkl)
   obtain ⟨n0,n1,n2,n3,n4,n5⟩:=M1.get hn
   have lb:=M1.lt
   have HKDN:Hid (kdA ns k=n.kind):=zd6 hn
   obtain ⟨nd,nk,nm,nu,no,nps⟩:=n
   simp only at n0 n1 n2 n3 n4 n5 HKDN
   have HKL:Hid (k<ns.length):=hkl
   clear hn M1 hN
   by_cases hs:2≤nk∧nk≤8
   ·have HS:Hid ((decide (2≤nk)&&decide (nk≤8))=true):=by unfold Hid;rw [decide_eq_true hs.1,decide_eq_true hs.2];rfl
    have HKK:Hid (2≤kdA ns k∧kdA ns k≤8):=by unfold Hid;rw [HKDN.out];exact hs
    have HSUC:Hid (rgE ns 0 (k+1)=es++elR ns k):=by unfold Hid;rw [HES.out,zg1 (x:=k) (by omega) (by omega),zF0 HKK.out]
    clear hs
    go_wp2_with (first
     | (go_at_call 25;refine (zn8 _ _ _ _ _ _ _).mono ?_;rintro e w3 ⟨rfl,hk3⟩;have HK3:Hid (Ok wr w3):=hk3;rw [HS.out];clear hk3)
     | fail)
    have HR3:Hid (Ok w2 w3):=HKR.out.step HK3.out
    have HG3:Hid _:=Ok.row' HK3.out HGB.out
    have HO3:Hid (w3.ownsRow (bg+1) 53 6 (.slice eo m ec) m (edL es)):=za1 HOW.out HK3.out
    obtain ⟨q1,d0,d1,d2,d3,d4,d5⟩:=(HX2.out.below HR3.out).pc
    have HSS:Hid (∀ X,Ok w3 X→X.cell? ⟨bg,8,none⟩=some (.slice eo m ec)∧X.cell? ⟨b0,0,none⟩=some (.slice (some ⟨b,o,none⟩) ns.length y0)):=fun X hX=>⟨(cell_of_row _ _ 8 _ _ _ (Ok.row' hX HG3.out)).trans (by simp),(HX2.out.below (HR3.out.step hX)).pc.c0⟩
    clear z1 c0 c1 c2 c3 c4 c5 n0 n1 n2 n3 n4 n5 lb
    have S0:=HSS.out w3.drew (Below.drew (Ok.refl _))
    refine zi2 (fun w'=>w'.cell? ⟨bg,8,none⟩=some (.slice eo m ec)∧w'.cell? ⟨b0,0,none⟩=some (.slice (some ⟨b,o,none⟩) ns.length y0)) 8 (by kernel_rfl) ?_
    refine zb4 (i:=0) (v:=.pointer (some ⟨bg,8,none⟩)) rfl (by kernel_rfl) (by kernel_rfl) (by kernel_rfl) (by kernel_rfl) (fun _ _ _ h=>h) S0 (Or.inl ⟨by rfl,?_⟩) ?_
    ·intro w' hSw;obtain ⟨s0,s1⟩:=hSw;go_simp;try with_reducible rfl
    simp only [Act.put,List.setIfInBounds_toArray,List.set_cons_zero,List.set_cons_succ]
    refine zb4 (i:=1) (v:=.slice eo m ec) rfl (by kernel_rfl) (by kernel_rfl) (by kernel_rfl) (by kernel_rfl) (fun _ _ _ h=>h) S0 (Or.inl ⟨by rfl,?_⟩) ?_
    ·intro w' hSw;obtain ⟨s0,s1⟩:=hSw;go_simp;try with_reducible rfl
    simp only [Act.put,List.setIfInBounds_toArray,List.set_cons_zero,List.set_cons_succ]
    refine zb4 (i:=2) (v:=.pointer (some ⟨b0,0,none⟩)) rfl (by kernel_rfl) (by kernel_rfl) (by kernel_rfl) (by kernel_rfl) (fun _ _ _ h=>h) S0 (Or.inl ⟨by rfl,?_⟩) ?_
    ·intro w' hSw;obtain ⟨s0,s1⟩:=hSw;go_simp;try with_reducible rfl
    simp only [Act.put,List.setIfInBounds_toArray,List.set_cons_zero,List.set_cons_succ]
    refine zb4 (i:=3) (v:=.slice (some ⟨b,o,none⟩) ns.length y0) rfl (by kernel_rfl) (by kernel_rfl) (by kernel_rfl) (by kernel_rfl) (fun _ _ _ h=>h) S0 (Or.inl ⟨by rfl,?_⟩) ?_
    ·intro w' hSw;obtain ⟨s0,s1⟩:=hSw;go_simp;try with_reducible rfl
    simp only [Act.put,List.setIfInBounds_toArray,List.set_cons_zero,List.set_cons_succ]
    refine zb4 (i:=4) (v:=.int .i64 (k:Nat)) rfl (by kernel_rfl) (by kernel_rfl) (by kernel_rfl) (by kernel_rfl) (fun _ _ _ h=>h) S0 (Or.inl ⟨by rfl,?_⟩) ?_
    ·intro w' hSw;obtain ⟨s0,s1⟩:=hSw;go_simp;try with_reducible rfl
    simp only [Act.put,List.setIfInBounds_toArray,List.set_cons_zero,List.set_cons_succ]
    refine zb1 (i:=5) (by kernel_rfl) rfl (fun K hK=>?_)
    go_simp
    refine (zM5 _ ns HT.out (by have:=HLN.out;omega) k _ (((HP.out.below HK2.out).below (HR3.out.step (Below.drew (Ok.refl _)))).nodes) HKL.out HKK.out).mono ?_
    rintro e w4 ⟨lv,rfl,hsl,hk4'⟩
    have hk4:Ok w3 w4:=Ok.step (Below.drew (Ok.refl _)) hk4'
    obtain ⟨hl1,hl2,lo,lc,rfl,hl3⟩:=hsl
    have hne:0<(elR ns k).length:=by unfold elR;split<;>simp
    have hne2:(elR ns k).length≤2:=by unfold elR;split<;>simp
    obtain ⟨gb,go,rfl,hgl,hcs⟩:=hl3.resolve_left (by omega)
    go_wp2_with fail
    refine hK.out _ _ (fun _=>HSS.out w4 hk4) ?_
    clear hK K
    obtain ⟨i0,hi0,hy0,hy1,hy2⟩:=ze5 infEd
    have HK4:Hid (Ok w3 w4):=hk4
    have HO4:Hid (w4.ownsRow (bg+1) 53 6 (.slice eo m ec) m (edL es)):=za1 HO3.out hk4
    have HG4:Hid _:=Ok.row' hk4 HG3.out
    have HML:Hid (m≤2*300):=by have h1:=HLE.out;have h2:=HLN.out;unfold Hid;omega
    obtain ⟨nn,hnn⟩:∃ x,x=(elR ns k).length:=⟨_,rfl⟩
    have HNN:Hid (nn=(elR ns k).length∧0<nn∧nn≤2):=⟨hnn,by omega,by omega⟩
    have HNL:Hid ((edL (elR ns k)).length=nn*6):=by unfold Hid;rw [hnn];exact hl1
    have HN1:Hid (∀ u∈edL (elR ns k),u.oneCell'=true):=hl2
    have HCS:Hid (∀ j u,(edL (elR ns k))[j]?=some u→w4.cell? ((⟨gb,go,none⟩:Addr).add j)=some u):=fun j u hj=>by rw [zc0];exact hcs j u hj
    rw [←hnn]
    clear hk4 hk4' hl1 hl2 hl3 hcs hne hne2 hnn S0
    refine zb1 (i:=6) (by kernel_rfl) rfl (fun K hK=>?_)
    refine step_append_lies w4 (by rfl) _ _ _ (by rfl) (bg+1) 53 i0 _ 6 40 Tryz.underlying40 hi0 hy0 hy1 hy2 rfl (by decide) (.slice eo m ec) m (edL es) (by rfl) HO4.out ⟨gb,go,none⟩ nn lc (edL (elR ns k)) (by rfl) HNL.out HCS.out HN1.out HNN.out.2.1 (by have h1:=HML.out;have h2:=HNN.out;unfold maxLen;omega) (by have h1:=HML.out;have h2:=HNN.out;omega) (by have:=za3 HG4.out;omega) w4.heap.size rfl ?_
    intro gg capg w5 hown hgrow hat hlt
    have HG5:Hid _:=(show w5.heap[bg]?=_ from (hgrow.block bg (za3 HG4.out) (fun e=>by have:=(HO4.out.lt bg e.symm).1;omega)).trans HG4.out)
    have HR5:Hid (Ok w2 w5):=(HR3.out.step HK4.out).grown hgrow (fun b e=>by have h1:=(HO4.out.lt b e).1;have h2:=HBG.out;omega)
    have HO5:Hid (w5.ownsRow (bg+1) 53 6 (.slice (some ⟨gg,0,none⟩) (m+nn) capg) (m+nn) (edL es++edL (elR ns k))):=hown
    have S5:w5.cell? ⟨bg,8,none⟩=some (.slice eo m ec)∧w5.cell? ⟨b0,0,none⟩=some (.slice (some ⟨b,o,none⟩) ns.length y0):=⟨(cell_of_row _ _ 8 _ _ _ HG5.out).trans (by simp),(HX2.out.below HR5.out).pc.c0⟩
    refine hK.out _ _ (fun _=>S5) ?_
    clear hK K hown hgrow hat hlt
    simp only [Act.put,List.setIfInBounds_toArray,List.set_cons_zero,List.set_cons_succ]
    refine zb4 (i:=7) (v:=.pointer (some ⟨bg,8,none⟩)) rfl (by kernel_rfl) (by kernel_rfl) (by kernel_rfl) (by kernel_rfl) (fun _ _ _ h=>h) S5 (Or.inl ⟨by rfl,?_⟩) ?_
    ·intro w' hSw;obtain ⟨s0,s1⟩:=hSw;go_simp;try with_reducible rfl
    simp only [Act.put,List.setIfInBounds_toArray,List.set_cons_zero,List.set_cons_succ]
    have f5:w5.frozen? ⟨bg,8,none⟩=false:=frozen_of_row _ _ _ _ _ HG5.out
    have l5:=za3 HG5.out
    have e5:=S5.1
    refine zb1 (i:=8) (by kernel_rfl) rfl (fun K hK=>?_)
    go_simp
    refine hK.out _ _ (fun h=>absurd rfl h) ?_
    clear hK K
    refine zi1 (by kernel_rfl) ?_ _
    go_wp2_with fail
    go_roundw
    case rel=>exact ⟨k+1,_,rfl,hkl,by have:=heap_setCell_same w5 bg 8 _ 42 (.slice (some ⟨gg,0,none⟩) (m+nn) capg) HG5.out;unfold Hid;simpa using this,by have:=HO5.out;unfold Hid;rw [HSUC.out,List.length_append,←HM.out,←HNN.out.1,zU5];exact zc2 this (by omega) _,by unfold Hid;rw [HSUC.out,List.length_append,←HM.out,←HNN.out.1];have h1:=HLE.out;have h2:=HNN.out;omega,Below.setCell (p:=⟨bg,8,none⟩) HR5.out (by have:=HBG.out;show w2.heap.size≤bg;omega) _⟩
    case measure=>simp only [intOf,Int.toNat_natCast];omega
   ·have HS:Hid ((decide (2≤nk)&&decide (nk≤8))=false):=by
     unfold Hid
     by_cases h2:2≤nk
     ·rw [decide_eq_false (show ¬nk≤8 from fun h8=>hs ⟨h2,h8⟩),Bool.and_false]
     ·rw [decide_eq_false h2];rfl
    have HSUC:Hid (rgE ns 0 (k+1)=es):=by unfold Hid;rw [HES.out,zg1 (x:=k) (by omega) (by omega),zk0 (p:=k) (fun r r1 r2=>by rw [show r=k by omega,HKDN.out];exact hs),List.append_nil]
    clear hs
    go_wp2_with (first
     | (go_at_call 25;refine (zn8 _ _ _ _ _ _ _).mono ?_;rintro e w3 ⟨rfl,hk3⟩;have HK3:Hid (Ok wr w3):=hk3;rw [HS.out];clear hk3)
     | fail)
    go_roundw
    case rel=>exact ⟨k+1,_,rfl,hkl,Ok.row' HK3.out HGB.out,by unfold Hid;rw [HSUC.out,←HM.out];exact za1 HOW.out HK3.out,by unfold Hid;rw [HSUC.out,←HM.out];have:=HLE.out;omega,HKR.out.step HK3.out⟩
    case measure=>simp only [intOf,Int.toNat_natCast];omega
  ·have hkl':¬(k:Int)<(ns.length:Int):=za9 hkl
   have G1:=Ok.row' HKR.out HG2.out
   have r0:wr.cell? ⟨bg,0,none⟩=some (.slice x0 ns.length y0):=(cell_of_row _ _ 0 _ _ _ HGB.out).trans (by simp)
   have r1:wr.cell? ⟨bg,1,none⟩=some (.slice x1 l.sc.length y1):=(cell_of_row _ _ 1 _ _ _ HGB.out).trans (by simp)
   have r2:wr.cell? ⟨bg,2,none⟩=some (.slice x2 l.ar.length y2):=(cell_of_row _ _ 2 _ _ _ HGB.out).trans (by simp)
   have r3:wr.cell? ⟨bg,3,none⟩=some (.slice x3 l.sy.length y3):=(cell_of_row _ _ 3 _ _ _ HGB.out).trans (by simp)
   have r4:wr.cell? ⟨bg,4,none⟩=some (.slice x4 l.si.length y4):=(cell_of_row _ _ 4 _ _ _ HGB.out).trans (by simp)
   have r5:wr.cell? ⟨bg,5,none⟩=some (.slice x5 l.so.length y5):=(cell_of_row _ _ 5 _ _ _ HGB.out).trans (by simp)
   have r6:wr.cell? ⟨bg,6,none⟩=some (.int .i64 ((pn:Int)+1)):=(cell_of_row _ _ 6 _ _ _ HGB.out).trans (by simp)
   have r7:wr.cell? ⟨bg,7,none⟩=some (.int .i64 (pn:Nat)):=(cell_of_row _ _ 7 _ _ _ HGB.out).trans (by simp)
   have r8:wr.cell? ⟨bg,8,none⟩=some (.slice eo m ec):=(cell_of_row _ _ 8 _ _ _ HGB.out).trans (by simp)
   have t0:wr.cell? ⟨b1,0,none⟩=some (.slice none 0 0):=(cell_of_row _ _ 0 _ _ _ G1).trans (by simp)
   have t1:wr.cell? ⟨b1,1,none⟩=some (.slice none 0 0):=(cell_of_row _ _ 1 _ _ _ G1).trans (by simp)
   have t2:wr.cell? ⟨b1,2,none⟩=some (.slice none 0 0):=(cell_of_row _ _ 2 _ _ _ G1).trans (by simp)
   have t3:wr.cell? ⟨b1,3,none⟩=some (.slice none 0 0):=(cell_of_row _ _ 3 _ _ _ G1).trans (by simp)
   have t4:wr.cell? ⟨b1,4,none⟩=some (.slice none 0 0):=(cell_of_row _ _ 4 _ _ _ G1).trans (by simp)
   have t5:wr.cell? ⟨b1,5,none⟩=some (.slice none 0 0):=(cell_of_row _ _ 5 _ _ _ G1).trans (by simp)
   have t6:wr.cell? ⟨b1,6,none⟩=some (.int .i64 0):=(cell_of_row _ _ 6 _ _ _ G1).trans (by simp)
   have t7:wr.cell? ⟨b1,7,none⟩=some (.int .i64 0):=(cell_of_row _ _ 7 _ _ _ G1).trans (by simp)
   have t8:wr.cell? ⟨b1,8,none⟩=some (.slice none 0 0):=(cell_of_row _ _ 8 _ _ _ G1).trans (by simp)
   have wf:∀ i,wr.frozen? ⟨b1,i,none⟩=false:=fun i=>frozen_of_row _ _ _ _ _ G1
   have lg1:=za3 G1
   have lg2:=za3 HGB.out
   have HG9:Hid _:=G1
   have HEL:Hid (elF ns=es):=by unfold Hid;rw [yh8 HT.out,HES.out,show k=ns.length by omega]
   go_wp2_with fail
   try simp only [Exit.inBlock,Exit.then]
   refine bodyPost_ret (zc6 rfl _ _ b1 42 _ (0,0) _ rfl (zn5 HG9.out _ _ _ _ _ _ _ _ _) Tryz.underlying42 rfl Tryz.infoG) rfl ?_
   refine ⟨.slice eo m ec,rfl,?_,?_⟩
   ·rw [HEL.out,←HM.out]
    have hb:=HB.out
    have hg:=HBG.out
    exact za7 (zx6 HOW.out (fun b hbb=>by have:=(HOW.out.lt b hbb).1;omega) _ _ _ _ _ _ _ _ _) (by omega)
   ·exact zl7 (HK2.out.step HKR.out) (by have:=HB.out;omega) _ _ _ _ _ _ _ _ _
end
end Go.Proofs.YtgobgdljckamkaaGreatDoor
