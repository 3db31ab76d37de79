import Derived.Test.YtgobgdljckamkaaGreatDoorKWd0
set_option linter.unusedVariables false
set_option linter.unusedSimpArgs false
set_option linter.unnecessarySimpa false
namespace Go.Proofs.YtgobgdljckamkaaGreatDoor
open Go.RowKit
theorem zu6 {w:World} {g:Nat} {v0 v1 v2 v3 v4 v5 v6 v7 v8:Value} {t:TypeId} (h:w.heap[g]?=some (.cells #[v0,v1,v2,v3,v4,v5,v6,v7,v8] t (0,0))):w.cell? ⟨g,0,none⟩=some v0∧w.cell? ⟨g,1,none⟩=some v1∧w.cell? ⟨g,2,none⟩=some v2∧w.cell? ⟨g,3,none⟩=some v3∧w.cell? ⟨g,4,none⟩=some v4∧w.cell? ⟨g,5,none⟩=some v5∧w.cell? ⟨g,6,none⟩=some v6∧w.cell? ⟨g,7,none⟩=some v7∧w.cell? ⟨g,8,none⟩=some v8:=by
 refine ⟨?_,?_,?_,?_,?_,?_,?_,?_,?_⟩
 all_goals exact (cell_of_row _ _ _ _ _ _ h).trans (by simp)
def nineU (u:Nat→Value) (gx gy:Int):Array Value:=#[u 0,u 1,u 2,u 3,u 4,u 5,.int .i64 gx,.int .i64 gy,u 6]
set_option maxRecDepth 100000 in
set_option maxHeartbeats 8000000 in
theorem zW5 (k B:Nat) (hk:k<4) (a:Nat→Option Addr) (n c:Nat→Nat) (gx gy:Int) (w:World) (h:GR w w B k a n c (slO a n c) n) :
  Calls Tryz.prog 30 #[.agg #[Value.slice (a 0) (n 0) (c 0),Value.slice (a 1) (n 1) (c 1),Value.slice (a 2) (n 2) (c 2),Value.slice (a 3) (n 3) (c 3),Value.slice (a 4) (n 4) (c 4),Value.slice (a 5) (n 5) (c 5),Value.int .i64 gx,Value.int .i64 gy,Value.slice (a 6) (n 6) (c 6)],.int .i64 (k:Nat)] w fun e w'=>∃ (u:Nat→Value) (m:Nat→Nat),e=.returned (.agg (nineU u gx gy))∧(∀ j,j<7→m j=n j+20)∧GR w w' B k a n c u m:=by
 have HKK:=hid hk
 have h3k:wrap64 (3*(k:Int))=3*(k:Int):=by unfold wrap64;omega
 have h31:wrap64 (-1-3*(k:Int)) = -1-3*(k:Int):=by unfold wrap64;omega
 have h32:wrap64 (-2-3*(k:Int)) = -2-3*(k:Int):=by unfold wrap64;omega
 have h33:wrap64 (-3-3*(k:Int)) = -3-3*(k:Int):=by unfold wrap64;omega
 obtain ⟨w0,hw0⟩:∃ z,z=(w.alloc (Obj.cells (nineU (slO a n c) gx gy) 42)).alloc (Obj.cells #[Value.slice none 0 0,Value.slice none 0 0,Value.slice none 0 0,Value.slice none 0 0,Value.slice none 0 0,Value.slice none 0 0,Value.int .i64 0,Value.int .i64 0,Value.slice none 0 0] 42):=⟨_,rfl⟩
 obtain ⟨gr,hgr⟩:∃ z,z=w.heap.size+1:=⟨_,rfl⟩
 obtain ⟨gl,hgl⟩:∃ z,z=w.heap.size:=⟨_,rfl⟩
 have HG0:Hid (GR w w0 B k a n c (slO a n c) n):=by unfold Hid;rw [hw0];exact h.call (((Ok.refl w).alloc _).alloc _)
 have HX0:Hid (w0.heap[gl]?=some (.cells (nineU (slO a n c) gx gy) 42 (0,0))):=by unfold Hid;rw [hw0,hgl];exact Ok.row' ((Ok.refl _).alloc _) (za6 _ _)
 have HR0:Hid (w0.heap[gr]?=some (.cells #[Value.slice none 0 0,Value.slice none 0 0,Value.slice none 0 0,Value.slice none 0 0,Value.slice none 0 0,Value.slice none 0 0,Value.int .i64 0,Value.int .i64 0,Value.slice none 0 0] 42 (0,0))):=by unfold Hid;rw [hw0,hgr];exact zd0 _ _ _ (by simp)
 have HGG:Hid (gl=w.heap.size∧gr=w.heap.size+1):=⟨hgl,hgr⟩
 have hw1:w0=(w.alloc (Obj.cells #[Value.slice (a 0) (n 0) (c 0),Value.slice (a 1) (n 1) (c 1),Value.slice (a 2) (n 2) (c 2),Value.slice (a 3) (n 3) (c 3),Value.slice (a 4) (n 4) (c 4),Value.slice (a 5) (n 5) (c 5),Value.int .i64 gx,Value.int .i64 gy,Value.slice (a 6) (n 6) (c 6)] 42)).alloc (Obj.cells #[Value.slice none 0 0,Value.slice none 0 0,Value.slice none 0 0,Value.slice none 0 0,Value.slice none 0 0,Value.slice none 0 0,Value.int .i64 0,Value.int .i64 0,Value.slice none 0 0] 42):=hw0
 clear hk h hw0
 go_enter Tryz.func30,Tryz.ntmps30
 go_wp2_with fail
 rw [←hw1,←hgr,←hgl]
 clear hw1 hgr hgl
 go_loopw [5] (fun t wr=>∃ (t':Nat) (u:Nat→Value) (m:Nat→Nat),t'≤20∧t=.int .i64 (t':Nat)∧Hid (∀ j,j<7→m j=n j+t')∧Hid (GR w wr B k a n c u m)∧Hid (wr.heap[gl]?=some (.cells (nineU u gx gy) 42 (0,0)))∧Hid (wr.heap[gr]?=some (.cells #[Value.slice none 0 0,Value.slice none 0 0,Value.slice none 0 0,Value.slice none 0 0,Value.slice none 0 0,Value.slice none 0 0,Value.int .i64 0,Value.int .i64 0,Value.slice none 0 0] 42 (0,0)))) (fun t _=>20-(intOf t).toNat)
 case atStart=>exact ⟨0,slO a n c,n,by omega,rfl,fun j _=>rfl,HG0,HX0,HR0⟩
 case round =>
  obtain ⟨t,u,m,ht,rfl,HMT,HGA,HXA,HRA⟩:=hrel
  obtain ⟨x0,y0,e0⟩:=za0 (HGA.out.row 0 (by decide))
  obtain ⟨l0,hl0⟩:∃ z,z=m 0:=⟨_,rfl⟩
  rw [←hl0] at e0
  obtain ⟨x1,y1,e1⟩:=za0 (HGA.out.row 1 (by decide))
  obtain ⟨l1,hl1⟩:∃ z,z=m 1:=⟨_,rfl⟩
  rw [←hl1] at e1
  obtain ⟨x2,y2,e2⟩:=za0 (HGA.out.row 2 (by decide))
  obtain ⟨l2,hl2⟩:∃ z,z=m 2:=⟨_,rfl⟩
  rw [←hl2] at e2
  obtain ⟨x3,y3,e3⟩:=za0 (HGA.out.row 3 (by decide))
  obtain ⟨l3,hl3⟩:∃ z,z=m 3:=⟨_,rfl⟩
  rw [←hl3] at e3
  obtain ⟨x4,y4,e4⟩:=za0 (HGA.out.row 4 (by decide))
  obtain ⟨l4,hl4⟩:∃ z,z=m 4:=⟨_,rfl⟩
  rw [←hl4] at e4
  obtain ⟨x5,y5,e5⟩:=za0 (HGA.out.row 5 (by decide))
  obtain ⟨l5,hl5⟩:∃ z,z=m 5:=⟨_,rfl⟩
  rw [←hl5] at e5
  obtain ⟨x6,y6,e6⟩:=za0 (HGA.out.row 6 (by decide))
  obtain ⟨l6,hl6⟩:∃ z,z=m 6:=⟨_,rfl⟩
  rw [←hl6] at e6
  have HU:Hid (u 0=.slice x0 l0 y0∧u 1=.slice x1 l1 y1∧u 2=.slice x2 l2 y2∧u 3=.slice x3 l3 y3∧u 4=.slice x4 l4 y4∧u 5=.slice x5 l5 y5∧u 6=.slice x6 l6 y6):=⟨e0,e1,e2,e3,e4,e5,e6⟩
  have HL:Hid (m 0=l0∧m 1=l1∧m 2=l2∧m 3=l3∧m 4=l4∧m 5=l5∧m 6=l6):=⟨hl0.symm,hl1.symm,hl2.symm,hl3.symm,hl4.symm,hl5.symm,hl6.symm⟩
  have HLE:Hid (l0≤100020∧l1≤100020∧l2≤100020∧l3≤100020∧l4≤100020∧l5≤100020∧l6≤100020):=⟨by have h1:=HMT.out 0 (by decide);have h2:=HGA.out.old.le 0 (by decide);omega,by have h1:=HMT.out 1 (by decide);have h2:=HGA.out.old.le 1 (by decide);omega,by have h1:=HMT.out 2 (by decide);have h2:=HGA.out.old.le 2 (by decide);omega,by have h1:=HMT.out 3 (by decide);have h2:=HGA.out.old.le 3 (by decide);omega,by have h1:=HMT.out 4 (by decide);have h2:=HGA.out.old.le 4 (by decide);omega,by have h1:=HMT.out 5 (by decide);have h2:=HGA.out.old.le 5 (by decide);omega,by have h1:=HMT.out 6 (by decide);have h2:=HGA.out.old.le 6 (by decide);omega⟩
  have HXB:Hid (wr.heap[gl]?=some (.cells #[Value.slice x0 l0 y0,Value.slice x1 l1 y1,Value.slice x2 l2 y2,Value.slice x3 l3 y3,Value.slice x4 l4 y4,Value.slice x5 l5 y5,Value.int .i64 gx,Value.int .i64 gy,Value.slice x6 l6 y6] 42 (0,0))):=by have:=HXA.out;unfold nineU at this;rw [e0,e1,e2,e3,e4,e5,e6] at this;exact this
  clear e0 hl0 e1 hl1 e2 hl2 e3 hl3 e4 hl4 e5 hl5 e6 hl6
  by_cases hlt:t<20
  ·have hlt':(t:Int)<20:=by omega
   have htw:IntKind.i64.wrap ((t:Int)+1)=((t+1:Nat):Int):=zb0 (by omega)
   have HGLW:Hid (w.heap.size≤gl∧gr≠gl):=⟨by have:=HGG.out;omega,by have:=HGG.out;omega⟩
   go_upto_region 3 with (fail)
   have S0:wr.drew.cell? ⟨gl,8,none⟩=some (.slice x6 l6 y6):=(cell_of_row _ _ 8 _ _ _ HXB.out).trans (by simp)
   refine zi2 (fun Y=>Y.cell? ⟨gl,8,none⟩=some (.slice x6 l6 y6)) 7 (by kernel_rfl) ?_
   refine zb4 (i:=0) (v:=.pointer (some ⟨gl,8,none⟩)) rfl (by kernel_rfl) (by kernel_rfl) (by kernel_rfl) (by kernel_rfl) (fun _ _ _ h=>h) S0 (Or.inl ⟨by rfl,?_⟩) ?_
   ·intro w' s0;go_simp;try with_reducible rfl
   simp only [Act.put,List.setIfInBounds_toArray,List.set_cons_zero,List.set_cons_succ]
   refine zb4 (i:=1) (v:=.slice x6 l6 y6) rfl (by kernel_rfl) (by kernel_rfl) (by kernel_rfl) (by kernel_rfl) (fun _ _ _ h=>h) S0 (Or.inl ⟨by rfl,?_⟩) ?_
   ·intro w' s0;go_simp;try with_reducible rfl
   simp only [Act.put,List.setIfInBounds_toArray,List.set_cons_zero,List.set_cons_succ]
   refine zb4 (i:=2) (v:=.int .i64 (k:Nat)) rfl (by kernel_rfl) (by kernel_rfl) (by kernel_rfl) (by kernel_rfl) (fun _ _ _ h=>h) S0 (Or.inl ⟨by rfl,?_⟩) ?_
   ·intro w' s0;go_simp;try with_reducible rfl
   simp only [Act.put,List.setIfInBounds_toArray,List.set_cons_zero,List.set_cons_succ]
   refine zb1 (i:=3) (by kernel_rfl) rfl (fun K hK=>?_)
   go_simp
   refine (zp0 k HKK.out _).mono ?_
   rintro e wc ⟨rfl,hkc⟩
   have HKC:Hid (Ok wr wc):=Ok.step (Below.drew (Ok.refl _)) hkc
   have HBC:Hid _:=Ok.row' HKC.out HXB.out
   have HRC:Hid _:=Ok.row' HKC.out HRA.out
   have SC:wc.cell? ⟨gl,8,none⟩=some (.slice x6 l6 y6):=(cell_of_row _ _ 8 _ _ _ HBC.out).trans (by simp)
   clear hkc
   go_wp2_with fail
   refine hK.out _ _ (fun _=>SC) ?_
   clear hK K S0
   refine zb1 (i:=4) (by kernel_rfl) rfl (fun K hK=>?_)
   go_simp
   obtain ⟨wd,hwd⟩:∃ z,z=wc.alloc (Obj.cells #[Value.int .i64 (-1-(k:Int)),Value.int .i64 0,Value.int .i64 0,Value.int .i64 0,Value.bool false,Value.bool false] 53):=⟨_,rfl⟩
   obtain ⟨gw,hgw⟩:∃ z,z=wc.heap.size:=⟨_,rfl⟩
   rw [←hwd,←hgw]
   have HKD:Hid (Ok wr wd):=by unfold Hid;rw [hwd];exact HKC.out.alloc _
   have HWR:Hid (∀ q x,(wdM k 6)[q]?=some x→wd.cell? ((⟨gw,0,none⟩:Addr).add q)=some x):=fun q x hq=>by rw [zc0,Nat.zero_add,hwd,hgw];exact (cell_of_row _ _ q _ _ _ (za6 _ _)).trans (by simpa [wdM,ndV,edV,ndM,edM] using hq)
   clear hwd hgw
   have HQ:Hid _:=GR.call HGA.out HKD.out
   have HBQ:Hid _:=Ok.row' HKD.out HXB.out
   have HRQ:Hid _:=Ok.row' HKD.out HRA.out
   have SD:wd.cell? ⟨gl,8,none⟩=some (.slice x6 l6 y6):=(cell_of_row _ _ 8 _ _ _ HBQ.out).trans (by simp)
   refine hK.out _ _ (fun _=>SD) ?_
   clear hK K SC
   obtain ⟨i0,hi0,hy0,hy1,hy2⟩:=ze5 infEd
   have HOQ:Hid (wd.ownsRow B 53 6 (.slice x6 l6 y6) l6 (rep l6 (wdM k 6))):=by have h9:=HQ.out.row 6 (by decide);rw [show u 6=_ from HU.out.2.2.2.2.2.2,show m 6=_ from HL.out.2.2.2.2.2.2] at h9;exact h9
   refine zb1 (i:=5) (by kernel_rfl) rfl (fun K hK=>?_)
   refine zf6 wd (by rfl) _ _ _ (by rfl) B 53 i0 _ 6 40 Tryz.underlying40 hi0 hy0 hy1 hy2 rfl (by decide) (.slice x6 l6 y6) l6 (rep l6 (wdM k 6)) (by rfl) HOQ.out ⟨gw,0,none⟩ 1 1 (wdM k 6) (by rfl) rfl HWR.out (by simp [wdM,ndV,edV,Value.oneCell']) (by decide) (by have:=HLE.out;unfold maxLen;omega) (by have:=HLE.out;omega) (Nat.le_trans HQ.out.le HQ.out.bel.size) wd.heap.size rfl ?_
   intro g6 d6 we hown hgrow hat hlg hkeep
   obtain ⟨hA,hB,hC,hD⟩:=GR.step (gl:=gl) (gr:=gr) (j:=6) (v:=.slice x6 l6 y6) (l:=l6) HQ.out HBQ.out HRQ.out HGLW.out.1 HGLW.out.2 8 (by decide) (show u 6=_ from HU.out.2.2.2.2.2.2) (show m 6=_ from HL.out.2.2.2.2.2.2) hown hgrow hat hkeep
   have SE:we.cell? ⟨gl,8,none⟩=some (.slice x6 l6 y6):=(cell_of_row _ _ 8 _ _ _ hD).trans (by simp)
   have fe:we.frozen? ⟨gl,8,none⟩=false:=frozen_of_row _ _ _ _ _ hD
   have le:=za3 hD
   refine hK.out _ _ (fun _=>SE) ?_
   clear hK K hown hgrow hat hlg hkeep SD
   simp only [Act.put,List.setIfInBounds_toArray,List.set_cons_zero,List.set_cons_succ]
   refine zb1 (i:=6) (by kernel_rfl) rfl (fun K hK=>?_)
   go_simp
   refine hK.out _ _ (fun _=>SE) ?_
   clear hK K
   refine zb1 (i:=7) (by kernel_rfl) rfl (fun K hK=>?_)
   go_simp
   refine hK.out _ _ (fun h=>absurd rfl h) ?_
   clear hK K SE fe le
   refine zi1 (by kernel_rfl) ?_ _
   obtain ⟨wz6,hz6⟩:∃ z,z=we.setCell ⟨gl,8,none⟩ (.slice (some ⟨g6,0,none⟩) (l6+1) d6):=⟨_,rfl⟩
   rw [←hz6] at hA hB hC
   have HGA6:Hid _:=hA
   have HXB6:Hid (wz6.heap[gl]?=some (.cells #[Value.slice x0 l0 y0,Value.slice x1 l1 y1,Value.slice x2 l2 y2,Value.slice x3 l3 y3,Value.slice x4 l4 y4,Value.slice x5 l5 y5,Value.int .i64 gx,Value.int .i64 gy,Value.slice (some ⟨g6,0,none⟩) (l6+1) d6] 42 (0,0))):=by unfold Hid;rw [hB];simp
   have HRA6:Hid _:=hC
   go_upto_region 4 with (fail)
   rw [←hz6]
   clear hz6 hA hB hC hD HQ HBQ HRQ HBC HRC HKC HKD HWR HOQ hi0 hy0 hy1 hy2
   have S0:wz6.drew.cell? ⟨gl,0,none⟩=some (.slice x0 l0 y0):=(cell_of_row _ _ 0 _ _ _ HXB6.out).trans (by simp)
   refine zi2 (fun Y=>Y.cell? ⟨gl,0,none⟩=some (.slice x0 l0 y0)) 9 (by kernel_rfl) ?_
   refine zb4 (i:=0) (v:=.pointer (some ⟨gl,0,none⟩)) rfl (by kernel_rfl) (by kernel_rfl) (by kernel_rfl) (by kernel_rfl) (fun _ _ _ h=>h) S0 (Or.inl ⟨by rfl,?_⟩) ?_
   ·intro w' s0;go_simp;try with_reducible rfl
   simp only [Act.put,List.setIfInBounds_toArray,List.set_cons_zero,List.set_cons_succ]
   refine zb4 (i:=1) (v:=.pointer (some ⟨gl,0,none⟩)) rfl (by kernel_rfl) (by kernel_rfl) (by kernel_rfl) (by kernel_rfl) (fun _ _ _ h=>h) S0 (Or.inl ⟨by rfl,?_⟩) ?_
   ·intro w' s0;go_simp;try with_reducible rfl
   simp only [Act.put,List.setIfInBounds_toArray,List.set_cons_zero,List.set_cons_succ]
   refine zb4 (i:=2) (v:=.slice x0 l0 y0) rfl (by kernel_rfl) (by kernel_rfl) (by kernel_rfl) (by kernel_rfl) (fun _ _ _ h=>h) S0 (Or.inl ⟨by rfl,?_⟩) ?_
   ·intro w' s0;go_simp;try with_reducible rfl
   simp only [Act.put,List.setIfInBounds_toArray,List.set_cons_zero,List.set_cons_succ]
   refine zb4 (i:=3) (v:=.int .i64 (k:Nat)) rfl (by kernel_rfl) (by kernel_rfl) (by kernel_rfl) (by kernel_rfl) (fun _ _ _ h=>h) S0 (Or.inl ⟨by rfl,?_⟩) ?_
   ·intro w' s0;go_simp;try with_reducible rfl
   simp only [Act.put,List.setIfInBounds_toArray,List.set_cons_zero,List.set_cons_succ]
   refine zb1 (i:=4) (by kernel_rfl) rfl (fun K hK=>?_)
   go_simp
   refine (zp1 k HKK.out _).mono ?_
   rintro e wc ⟨rfl,hkc⟩
   have HKC:Hid (Ok wz6 wc):=Ok.step (Below.drew (Ok.refl _)) hkc
   have HBC:Hid _:=Ok.row' HKC.out HXB6.out
   have HRC:Hid _:=Ok.row' HKC.out HRA6.out
   have SC:wc.cell? ⟨gl,0,none⟩=some (.slice x0 l0 y0):=(cell_of_row _ _ 0 _ _ _ HBC.out).trans (by simp)
   clear hkc
   go_wp2_with fail
   refine hK.out _ _ (fun _=>SC) ?_
   clear hK K S0
   refine zb1 (i:=5) (by kernel_rfl) rfl (fun K hK=>?_)
   go_simp
   obtain ⟨wd,hwd⟩:∃ z,z=wc.alloc (Obj.cells #[Value.int .i64 (-1-(k:Int)),Value.int .i64 0,Value.string ⟨#[]⟩,Value.int .i64 0,Value.int .i64 0,Value.int .i64 0] 31):=⟨_,rfl⟩
   obtain ⟨gw,hgw⟩:∃ z,z=wc.heap.size:=⟨_,rfl⟩
   rw [←hwd,←hgw]
   have HKD:Hid (Ok wz6 wd):=by unfold Hid;rw [hwd];exact HKC.out.alloc _
   have HWR:Hid (∀ q x,(wdM k 0)[q]?=some x→wd.cell? ((⟨gw,0,none⟩:Addr).add q)=some x):=fun q x hq=>by rw [zc0,Nat.zero_add,hwd,hgw];exact (cell_of_row _ _ q _ _ _ (za6 _ _)).trans (by simpa [wdM,ndV,edV,ndM,edM] using hq)
   clear hwd hgw
   have HQ:Hid _:=GR.call HGA6.out HKD.out
   have HBQ:Hid _:=Ok.row' HKD.out HXB6.out
   have HRQ:Hid _:=Ok.row' HKD.out HRA6.out
   have SD:wd.cell? ⟨gl,0,none⟩=some (.slice x0 l0 y0):=(cell_of_row _ _ 0 _ _ _ HBQ.out).trans (by simp)
   refine hK.out _ _ (fun _=>SD) ?_
   clear hK K SC
   obtain ⟨i0,hi0,hy0,hy1,hy2⟩:=ze5 infFN
   have HOQ:Hid (wd.ownsRow B 31 6 (.slice x0 l0 y0) l0 (rep l0 (wdM k 0))):=by have h9:=HQ.out.row 0 (by decide);rw [show (putAt u 6 (.slice (some ⟨g6,0,none⟩) (l6+1) d6)) 0=_ from HU.out.1,show (putAt m 6 (l6+1)) 0=_ from HL.out.1] at h9;exact h9
   refine zb1 (i:=6) (by kernel_rfl) rfl (fun K hK=>?_)
   refine zf6 wd (by rfl) _ _ _ (by rfl) B 31 i0 _ 6 56 Tryz.underlying22 hi0 hy0 hy1 hy2 rfl (by decide) (.slice x0 l0 y0) l0 (rep l0 (wdM k 0)) (by rfl) HOQ.out ⟨gw,0,none⟩ 1 1 (wdM k 0) (by rfl) rfl HWR.out (by simp [wdM,ndV,edV,Value.oneCell']) (by decide) (by have:=HLE.out;unfold maxLen;omega) (by have:=HLE.out;omega) (Nat.le_trans HQ.out.le HQ.out.bel.size) wd.heap.size rfl ?_
   intro g0 d0 we hown hgrow hat hlg hkeep
   obtain ⟨hA,hB,hC,hD⟩:=GR.step (gl:=gl) (gr:=gr) (j:=0) (v:=.slice x0 l0 y0) (l:=l0) HQ.out HBQ.out HRQ.out HGLW.out.1 HGLW.out.2 0 (by decide) (show (putAt u 6 (.slice (some ⟨g6,0,none⟩) (l6+1) d6)) 0=_ from HU.out.1) (show (putAt m 6 (l6+1)) 0=_ from HL.out.1) hown hgrow hat hkeep
   have SE:we.cell? ⟨gl,0,none⟩=some (.slice x0 l0 y0):=(cell_of_row _ _ 0 _ _ _ hD).trans (by simp)
   have fe:we.frozen? ⟨gl,0,none⟩=false:=frozen_of_row _ _ _ _ _ hD
   have le:=za3 hD
   refine hK.out _ _ (fun _=>SE) ?_
   clear hK K hown hgrow hat hlg hkeep SD
   simp only [Act.put,List.setIfInBounds_toArray,List.set_cons_zero,List.set_cons_succ]
   refine zb1 (i:=7) (by kernel_rfl) rfl (fun K hK=>?_)
   go_simp
   refine hK.out _ _ (fun _=>SE) ?_
   clear hK K
   refine zb1 (i:=8) (by kernel_rfl) rfl (fun K hK=>?_)
   go_simp
   refine hK.out _ _ (fun _=>SE) ?_
   clear hK K
   refine zb1 (i:=9) (by kernel_rfl) rfl (fun K hK=>?_)
   go_simp
   refine hK.out _ _ (fun h=>absurd rfl h) ?_
   clear hK K SE fe le
   refine zi1 (by kernel_rfl) ?_ _
   obtain ⟨wz0,hz0⟩:∃ z,z=we.setCell ⟨gl,0,none⟩ (.slice (some ⟨g0,0,none⟩) (l0+1) d0):=⟨_,rfl⟩
   rw [←hz0] at hA hB hC
   have HGA0:Hid _:=hA
   have HXB0:Hid (wz0.heap[gl]?=some (.cells #[Value.slice (some ⟨g0,0,none⟩) (l0+1) d0,Value.slice x1 l1 y1,Value.slice x2 l2 y2,Value.slice x3 l3 y3,Value.slice x4 l4 y4,Value.slice x5 l5 y5,Value.int .i64 gx,Value.int .i64 gy,Value.slice (some ⟨g6,0,none⟩) (l6+1) d6] 42 (0,0))):=by unfold Hid;rw [hB];simp
   have HRA0:Hid _:=hC
   go_upto_region 5 with (fail)
   rw [←hz0]
   clear hz0 hA hB hC hD HQ HBQ HRQ HBC HRC HKC HKD HWR HOQ hi0 hy0 hy1 hy2
   have S0:wz0.drew.cell? ⟨gl,1,none⟩=some (.slice x1 l1 y1):=(cell_of_row _ _ 1 _ _ _ HXB0.out).trans (by simp)
   refine zi2 (fun Y=>Y.cell? ⟨gl,1,none⟩=some (.slice x1 l1 y1)) 9 (by kernel_rfl) ?_
   refine zb4 (i:=0) (v:=.pointer (some ⟨gl,0,none⟩)) rfl (by kernel_rfl) (by kernel_rfl) (by kernel_rfl) (by kernel_rfl) (fun _ _ _ h=>h) S0 (Or.inl ⟨by rfl,?_⟩) ?_
   ·intro w' s0;go_simp;try with_reducible rfl
   simp only [Act.put,List.setIfInBounds_toArray,List.set_cons_zero,List.set_cons_succ]
   refine zb4 (i:=1) (v:=.pointer (some ⟨gl,1,none⟩)) rfl (by kernel_rfl) (by kernel_rfl) (by kernel_rfl) (by kernel_rfl) (fun _ _ _ h=>h) S0 (Or.inl ⟨by rfl,?_⟩) ?_
   ·intro w' s0;go_simp;try with_reducible rfl
   simp only [Act.put,List.setIfInBounds_toArray,List.set_cons_zero,List.set_cons_succ]
   refine zb4 (i:=2) (v:=.slice x1 l1 y1) rfl (by kernel_rfl) (by kernel_rfl) (by kernel_rfl) (by kernel_rfl) (fun _ _ _ h=>h) S0 (Or.inl ⟨by rfl,?_⟩) ?_
   ·intro w' s0;go_simp;try with_reducible rfl
   simp only [Act.put,List.setIfInBounds_toArray,List.set_cons_zero,List.set_cons_succ]
   refine zb4 (i:=3) (v:=.int .i64 (k:Nat)) rfl (by kernel_rfl) (by kernel_rfl) (by kernel_rfl) (by kernel_rfl) (fun _ _ _ h=>h) S0 (Or.inl ⟨by rfl,?_⟩) ?_
   ·intro w' s0;go_simp;try with_reducible rfl
   simp only [Act.put,List.setIfInBounds_toArray,List.set_cons_zero,List.set_cons_succ]
   refine zb1 (i:=4) (by kernel_rfl) rfl (fun K hK=>?_)
   go_simp
   refine (zp2 k HKK.out _).mono ?_
   rintro e wc ⟨rfl,hkc⟩
   have HKC:Hid (Ok wz0 wc):=Ok.step (Below.drew (Ok.refl _)) hkc
   have HBC:Hid _:=Ok.row' HKC.out HXB0.out
   have HRC:Hid _:=Ok.row' HKC.out HRA0.out
   have SC:wc.cell? ⟨gl,1,none⟩=some (.slice x1 l1 y1):=(cell_of_row _ _ 1 _ _ _ HBC.out).trans (by simp)
   clear hkc
   go_wp2_with fail
   refine hK.out _ _ (fun _=>SC) ?_
   clear hK K S0
   refine zb1 (i:=5) (by kernel_rfl) rfl (fun K hK=>?_)
   go_simp
   obtain ⟨wd,hwd⟩:∃ z,z=wc.alloc (Obj.cells #[Value.string (nmM k)] 9):=⟨_,rfl⟩
   obtain ⟨gw,hgw⟩:∃ z,z=wc.heap.size:=⟨_,rfl⟩
   rw [←hwd,←hgw]
   have HKD:Hid (Ok wz0 wd):=by unfold Hid;rw [hwd];exact HKC.out.alloc _
   have HWR:Hid (∀ q x,(wdM k 1)[q]?=some x→wd.cell? ((⟨gw,0,none⟩:Addr).add q)=some x):=fun q x hq=>by rw [zc0,Nat.zero_add,hwd,hgw];exact (cell_of_row _ _ q _ _ _ (za6 _ _)).trans (by simpa [wdM,ndV,edV,ndM,edM] using hq)
   clear hwd hgw
   have HQ:Hid _:=GR.call HGA0.out HKD.out
   have HBQ:Hid _:=Ok.row' HKD.out HXB0.out
   have HRQ:Hid _:=Ok.row' HKD.out HRA0.out
   have SD:wd.cell? ⟨gl,1,none⟩=some (.slice x1 l1 y1):=(cell_of_row _ _ 1 _ _ _ HBQ.out).trans (by simp)
   refine hK.out _ _ (fun _=>SD) ?_
   clear hK K SC
   obtain ⟨i0,hi0,hy0,hy1,hy2⟩:=ze5 infFS
   have HOQ:Hid (wd.ownsRow B 9 1 (.slice x1 l1 y1) l1 (rep l1 (wdM k 1))):=by have h9:=HQ.out.row 1 (by decide);rw [show (putAt (putAt u 6 (.slice (some ⟨g6,0,none⟩) (l6+1) d6)) 0 (.slice (some ⟨g0,0,none⟩) (l0+1) d0)) 1=_ from HU.out.2.1,show (putAt (putAt m 6 (l6+1)) 0 (l0+1)) 1=_ from HL.out.2.1] at h9;exact h9
   refine zb1 (i:=6) (by kernel_rfl) rfl (fun K hK=>?_)
   refine zf6 wd (by rfl) _ _ _ (by rfl) B 9 i0 _ 1 16 Tryz.underlying23 hi0 hy0 hy1 hy2 rfl (by decide) (.slice x1 l1 y1) l1 (rep l1 (wdM k 1)) (by rfl) HOQ.out ⟨gw,0,none⟩ 1 1 (wdM k 1) (by rfl) rfl HWR.out (by simp [wdM,ndV,edV,Value.oneCell']) (by decide) (by have:=HLE.out;unfold maxLen;omega) (by have:=HLE.out;omega) (Nat.le_trans HQ.out.le HQ.out.bel.size) wd.heap.size rfl ?_
   intro g1 d1 we hown hgrow hat hlg hkeep
   obtain ⟨hA,hB,hC,hD⟩:=GR.step (gl:=gl) (gr:=gr) (j:=1) (v:=.slice x1 l1 y1) (l:=l1) HQ.out HBQ.out HRQ.out HGLW.out.1 HGLW.out.2 1 (by decide) (show (putAt (putAt u 6 (.slice (some ⟨g6,0,none⟩) (l6+1) d6)) 0 (.slice (some ⟨g0,0,none⟩) (l0+1) d0)) 1=_ from HU.out.2.1) (show (putAt (putAt m 6 (l6+1)) 0 (l0+1)) 1=_ from HL.out.2.1) hown hgrow hat hkeep
   have SE:we.cell? ⟨gl,1,none⟩=some (.slice x1 l1 y1):=(cell_of_row _ _ 1 _ _ _ hD).trans (by simp)
   have fe:we.frozen? ⟨gl,1,none⟩=false:=frozen_of_row _ _ _ _ _ hD
   have le:=za3 hD
   refine hK.out _ _ (fun _=>SE) ?_
   clear hK K hown hgrow hat hlg hkeep SD
   simp only [Act.put,List.setIfInBounds_toArray,List.set_cons_zero,List.set_cons_succ]
   refine zb1 (i:=7) (by kernel_rfl) rfl (fun K hK=>?_)
   go_simp
   refine hK.out _ _ (fun _=>SE) ?_
   clear hK K
   refine zb1 (i:=8) (by kernel_rfl) rfl (fun K hK=>?_)
   go_simp
   refine hK.out _ _ (fun _=>SE) ?_
   clear hK K
   refine zb1 (i:=9) (by kernel_rfl) rfl (fun K hK=>?_)
   go_simp
   refine hK.out _ _ (fun h=>absurd rfl h) ?_
   clear hK K SE fe le
   refine zi1 (by kernel_rfl) ?_ _
   obtain ⟨wz1,hz1⟩:∃ z,z=we.setCell ⟨gl,1,none⟩ (.slice (some ⟨g1,0,none⟩) (l1+1) d1):=⟨_,rfl⟩
   rw [←hz1] at hA hB hC
   have HGA1:Hid _:=hA
   have HXB1:Hid (wz1.heap[gl]?=some (.cells #[Value.slice (some ⟨g0,0,none⟩) (l0+1) d0,Value.slice (some ⟨g1,0,none⟩) (l1+1) d1,Value.slice x2 l2 y2,Value.slice x3 l3 y3,Value.slice x4 l4 y4,Value.slice x5 l5 y5,Value.int .i64 gx,Value.int .i64 gy,Value.slice (some ⟨g6,0,none⟩) (l6+1) d6] 42 (0,0))):=by unfold Hid;rw [hB];simp
   have HRA1:Hid _:=hC
   go_upto_region 6 with (fail)
   rw [←hz1]
   clear hz1 hA hB hC hD HQ HBQ HRQ HBC HRC HKC HKD HWR HOQ hi0 hy0 hy1 hy2
   have S0:wz1.drew.cell? ⟨gl,2,none⟩=some (.slice x2 l2 y2):=(cell_of_row _ _ 2 _ _ _ HXB1.out).trans (by simp)
   refine zi2 (fun Y=>Y.cell? ⟨gl,2,none⟩=some (.slice x2 l2 y2)) 9 (by kernel_rfl) ?_
   refine zb4 (i:=0) (v:=.pointer (some ⟨gl,0,none⟩)) rfl (by kernel_rfl) (by kernel_rfl) (by kernel_rfl) (by kernel_rfl) (fun _ _ _ h=>h) S0 (Or.inl ⟨by rfl,?_⟩) ?_
   ·intro w' s0;go_simp;try with_reducible rfl
   simp only [Act.put,List.setIfInBounds_toArray,List.set_cons_zero,List.set_cons_succ]
   refine zb4 (i:=1) (v:=.pointer (some ⟨gl,2,none⟩)) rfl (by kernel_rfl) (by kernel_rfl) (by kernel_rfl) (by kernel_rfl) (fun _ _ _ h=>h) S0 (Or.inl ⟨by rfl,?_⟩) ?_
   ·intro w' s0;go_simp;try with_reducible rfl
   simp only [Act.put,List.setIfInBounds_toArray,List.set_cons_zero,List.set_cons_succ]
   refine zb4 (i:=2) (v:=.slice x2 l2 y2) rfl (by kernel_rfl) (by kernel_rfl) (by kernel_rfl) (by kernel_rfl) (fun _ _ _ h=>h) S0 (Or.inl ⟨by rfl,?_⟩) ?_
   ·intro w' s0;go_simp;try with_reducible rfl
   simp only [Act.put,List.setIfInBounds_toArray,List.set_cons_zero,List.set_cons_succ]
   refine zb4 (i:=3) (v:=.int .i64 (k:Nat)) rfl (by kernel_rfl) (by kernel_rfl) (by kernel_rfl) (by kernel_rfl) (fun _ _ _ h=>h) S0 (Or.inl ⟨by rfl,?_⟩) ?_
   ·intro w' s0;go_simp;try with_reducible rfl
   simp only [Act.put,List.setIfInBounds_toArray,List.set_cons_zero,List.set_cons_succ]
   refine zb1 (i:=4) (by kernel_rfl) rfl (fun K hK=>?_)
   go_simp
   refine (zm5 k HKK.out _).mono ?_
   rintro e wc ⟨rfl,hkc⟩
   have HKC:Hid (Ok wz1 wc):=Ok.step (Below.drew (Ok.refl _)) hkc
   have HBC:Hid _:=Ok.row' HKC.out HXB1.out
   have HRC:Hid _:=Ok.row' HKC.out HRA1.out
   have SC:wc.cell? ⟨gl,2,none⟩=some (.slice x2 l2 y2):=(cell_of_row _ _ 2 _ _ _ HBC.out).trans (by simp)
   clear hkc
   go_wp2_with fail
   refine hK.out _ _ (fun _=>SC) ?_
   clear hK K S0
   refine zb1 (i:=5) (by kernel_rfl) rfl (fun K hK=>?_)
   go_simp
   obtain ⟨wd,hwd⟩:∃ z,z=wc.alloc (Obj.cells #[Value.string ⟨#[]⟩,Value.int .i64 (-1-(k:Int))] 56):=⟨_,rfl⟩
   obtain ⟨gw,hgw⟩:∃ z,z=wc.heap.size:=⟨_,rfl⟩
   rw [←hwd,←hgw]
   have HKD:Hid (Ok wz1 wd):=by unfold Hid;rw [hwd];exact HKC.out.alloc _
   have HWR:Hid (∀ q x,(wdM k 2)[q]?=some x→wd.cell? ((⟨gw,0,none⟩:Addr).add q)=some x):=fun q x hq=>by rw [zc0,Nat.zero_add,hwd,hgw];exact (cell_of_row _ _ q _ _ _ (za6 _ _)).trans (by simpa [wdM,ndV,edV,ndM,edM] using hq)
   clear hwd hgw
   have HQ:Hid _:=GR.call HGA1.out HKD.out
   have HBQ:Hid _:=Ok.row' HKD.out HXB1.out
   have HRQ:Hid _:=Ok.row' HKD.out HRA1.out
   have SD:wd.cell? ⟨gl,2,none⟩=some (.slice x2 l2 y2):=(cell_of_row _ _ 2 _ _ _ HBQ.out).trans (by simp)
   refine hK.out _ _ (fun _=>SD) ?_
   clear hK K SC
   obtain ⟨i0,hi0,hy0,hy1,hy2⟩:=ze5 infFA
   have HOQ:Hid (wd.ownsRow B 56 2 (.slice x2 l2 y2) l2 (rep l2 (wdM k 2))):=by have h9:=HQ.out.row 2 (by decide);rw [show (putAt (putAt (putAt u 6 (.slice (some ⟨g6,0,none⟩) (l6+1) d6)) 0 (.slice (some ⟨g0,0,none⟩) (l0+1) d0)) 1 (.slice (some ⟨g1,0,none⟩) (l1+1) d1)) 2=_ from HU.out.2.2.1,show (putAt (putAt (putAt m 6 (l6+1)) 0 (l0+1)) 1 (l1+1)) 2=_ from HL.out.2.2.1] at h9;exact h9
   refine zb1 (i:=6) (by kernel_rfl) rfl (fun K hK=>?_)
   refine zf6 wd (by rfl) _ _ _ (by rfl) B 56 i0 _ 2 24 Tryz.underlying24 hi0 hy0 hy1 hy2 rfl (by decide) (.slice x2 l2 y2) l2 (rep l2 (wdM k 2)) (by rfl) HOQ.out ⟨gw,0,none⟩ 1 1 (wdM k 2) (by rfl) rfl HWR.out (by simp [wdM,ndV,edV,Value.oneCell']) (by decide) (by have:=HLE.out;unfold maxLen;omega) (by have:=HLE.out;omega) (Nat.le_trans HQ.out.le HQ.out.bel.size) wd.heap.size rfl ?_
   intro g2 d2 we hown hgrow hat hlg hkeep
   obtain ⟨hA,hB,hC,hD⟩:=GR.step (gl:=gl) (gr:=gr) (j:=2) (v:=.slice x2 l2 y2) (l:=l2) HQ.out HBQ.out HRQ.out HGLW.out.1 HGLW.out.2 2 (by decide) (show (putAt (putAt (putAt u 6 (.slice (some ⟨g6,0,none⟩) (l6+1) d6)) 0 (.slice (some ⟨g0,0,none⟩) (l0+1) d0)) 1 (.slice (some ⟨g1,0,none⟩) (l1+1) d1)) 2=_ from HU.out.2.2.1) (show (putAt (putAt (putAt m 6 (l6+1)) 0 (l0+1)) 1 (l1+1)) 2=_ from HL.out.2.2.1) hown hgrow hat hkeep
   have SE:we.cell? ⟨gl,2,none⟩=some (.slice x2 l2 y2):=(cell_of_row _ _ 2 _ _ _ hD).trans (by simp)
   have fe:we.frozen? ⟨gl,2,none⟩=false:=frozen_of_row _ _ _ _ _ hD
   have le:=za3 hD
   refine hK.out _ _ (fun _=>SE) ?_
   clear hK K hown hgrow hat hlg hkeep SD
   simp only [Act.put,List.setIfInBounds_toArray,List.set_cons_zero,List.set_cons_succ]
   refine zb1 (i:=7) (by kernel_rfl) rfl (fun K hK=>?_)
   go_simp
   refine hK.out _ _ (fun _=>SE) ?_
   clear hK K
   refine zb1 (i:=8) (by kernel_rfl) rfl (fun K hK=>?_)
   go_simp
   refine hK.out _ _ (fun _=>SE) ?_
   clear hK K
   refine zb1 (i:=9) (by kernel_rfl) rfl (fun K hK=>?_)
   go_simp
   refine hK.out _ _ (fun h=>absurd rfl h) ?_
   clear hK K SE fe le
   refine zi1 (by kernel_rfl) ?_ _
   obtain ⟨wz2,hz2⟩:∃ z,z=we.setCell ⟨gl,2,none⟩ (.slice (some ⟨g2,0,none⟩) (l2+1) d2):=⟨_,rfl⟩
   rw [←hz2] at hA hB hC
   have HGA2:Hid _:=hA
   have HXB2:Hid (wz2.heap[gl]?=some (.cells #[Value.slice (some ⟨g0,0,none⟩) (l0+1) d0,Value.slice (some ⟨g1,0,none⟩) (l1+1) d1,Value.slice (some ⟨g2,0,none⟩) (l2+1) d2,Value.slice x3 l3 y3,Value.slice x4 l4 y4,Value.slice x5 l5 y5,Value.int .i64 gx,Value.int .i64 gy,Value.slice (some ⟨g6,0,none⟩) (l6+1) d6] 42 (0,0))):=by unfold Hid;rw [hB];simp
   have HRA2:Hid _:=hC
   go_upto_region 7 with (fail)
   rw [←hz2]
   clear hz2 hA hB hC hD HQ HBQ HRQ HBC HRC HKC HKD HWR HOQ hi0 hy0 hy1 hy2
   have hwd3:wdM k 3=[.int .i64 (-1-3*(k:Int))]:=by unfold wdM;simp;omega
   have HW3:=hid hwd3
   have HKD:Hid (Ok wz2 (wz2.alloc (Obj.cells #[Value.int .i64 (-1-3*(k:Int))] 3))):=(Ok.refl _).alloc _
   have HQ:Hid _:=GR.call HGA2.out HKD.out
   have HBQ:Hid _:=Ok.row' HKD.out HXB2.out
   have HRQ:Hid _:=Ok.row' HKD.out HRA2.out
   obtain ⟨i0,hi0,hy0,hy1,hy2⟩:=ze5 infFI
   have HOQ:Hid ((wz2.alloc (Obj.cells #[Value.int .i64 (-1-3*(k:Int))] 3)).ownsRow B 3 1 (.slice x3 l3 y3) l3 (rep l3 (wdM k 3))):=by have h9:=HQ.out.row 3 (by decide);rw [show (putAt (putAt (putAt (putAt u 6 (.slice (some ⟨g6,0,none⟩) (l6+1) d6)) 0 (.slice (some ⟨g0,0,none⟩) (l0+1) d0)) 1 (.slice (some ⟨g1,0,none⟩) (l1+1) d1)) 2 (.slice (some ⟨g2,0,none⟩) (l2+1) d2)) 3=_ from HU.out.2.2.2.1,show (putAt (putAt (putAt (putAt m 6 (l6+1)) 0 (l0+1)) 1 (l1+1)) 2 (l2+1)) 3=_ from HL.out.2.2.2.1] at h9;exact h9
   have SB:wz2.cell? ⟨gl,3,none⟩=some (.slice x3 l3 y3):=(cell_of_row _ _ 3 _ _ _ HXB2.out).trans (by simp)
   have lB:=za3 HXB2.out
   clear hwd3
   go_upto_region 8 with (first
    | (at_builtin;refine zg2 _ rfl _ _ 25 rfl B 3 i0 _ 1 8 Tryz.underlying25 hi0 hy0 hy1 hy2 rfl (by decide) (.slice x3 l3 y3) l3 (rep l3 (wdM k 3)) (by rfl) HOQ.out ⟨wz2.heap.size,0,none⟩ 1 1 [.int .i64 (-1-3*(k:Int))] (by rfl) rfl (cell_one_new _ _ _) (by simp [Value.oneCell']) (by decide) (by have:=HLE.out;unfold maxLen;omega) (by have:=HLE.out;omega) (Nat.le_trans HQ.out.le HQ.out.bel.size) ?_;intro g3 d3 we hown hgrow hat hkeep;obtain ⟨hA,hB,hC,hD⟩:=GR.step (gl:=gl) (gr:=gr) (j:=3) (v:=.slice x3 l3 y3) (l:=l3) HQ.out HBQ.out HRQ.out HGLW.out.1 HGLW.out.2 3 (by decide) (show (putAt (putAt (putAt (putAt u 6 (.slice (some ⟨g6,0,none⟩) (l6+1) d6)) 0 (.slice (some ⟨g0,0,none⟩) (l0+1) d0)) 1 (.slice (some ⟨g1,0,none⟩) (l1+1) d1)) 2 (.slice (some ⟨g2,0,none⟩) (l2+1) d2)) 3=_ from HU.out.2.2.2.1) (show (putAt (putAt (putAt (putAt m 6 (l6+1)) 0 (l0+1)) 1 (l1+1)) 2 (l2+1)) 3=_ from HL.out.2.2.2.1) (by rw [HW3.out] at hown ⊢;exact hown) hgrow hat hkeep;have SE:we.cell? ⟨gl,3,none⟩=some (.slice x3 l3 y3):=(cell_of_row _ _ 3 _ _ _ hD).trans (by simp);have fe:we.frozen? ⟨gl,3,none⟩=false:=frozen_of_row _ _ _ _ _ hD;have le:=za3 hD;clear hown hgrow hat hkeep)
    | fail)
   obtain ⟨wz3,hz3⟩:∃ z,z=we.setCell ⟨gl,3,none⟩ (.slice (some ⟨g3,0,none⟩) (l3+1) d3):=⟨_,rfl⟩
   rw [←hz3] at hA hB hC
   have HGA3:Hid _:=hA
   have HXB3:Hid (wz3.heap[gl]?=some (.cells #[Value.slice (some ⟨g0,0,none⟩) (l0+1) d0,Value.slice (some ⟨g1,0,none⟩) (l1+1) d1,Value.slice (some ⟨g2,0,none⟩) (l2+1) d2,Value.slice (some ⟨g3,0,none⟩) (l3+1) d3,Value.slice x4 l4 y4,Value.slice x5 l5 y5,Value.int .i64 gx,Value.int .i64 gy,Value.slice (some ⟨g6,0,none⟩) (l6+1) d6] 42 (0,0))):=by unfold Hid;rw [hB];simp
   have HRA3:Hid _:=hC
   rw [←hz3]
   clear hz3 hA hB hC hD HQ HBQ HRQ HKD HOQ hi0 hy0 hy1 hy2 SE fe le SB lB HW3
   have hwd3:wdM k 4=[.int .i64 (-2-3*(k:Int))]:=by unfold wdM;simp;omega
   have HW3:=hid hwd3
   have HKD:Hid (Ok wz3 (wz3.alloc (Obj.cells #[Value.int .i64 (-2-3*(k:Int))] 3))):=(Ok.refl _).alloc _
   have HQ:Hid _:=GR.call HGA3.out HKD.out
   have HBQ:Hid _:=Ok.row' HKD.out HXB3.out
   have HRQ:Hid _:=Ok.row' HKD.out HRA3.out
   obtain ⟨i0,hi0,hy0,hy1,hy2⟩:=ze5 infFI
   have HOQ:Hid ((wz3.alloc (Obj.cells #[Value.int .i64 (-2-3*(k:Int))] 3)).ownsRow B 3 1 (.slice x4 l4 y4) l4 (rep l4 (wdM k 4))):=by have h9:=HQ.out.row 4 (by decide);rw [show (putAt (putAt (putAt (putAt (putAt u 6 (.slice (some ⟨g6,0,none⟩) (l6+1) d6)) 0 (.slice (some ⟨g0,0,none⟩) (l0+1) d0)) 1 (.slice (some ⟨g1,0,none⟩) (l1+1) d1)) 2 (.slice (some ⟨g2,0,none⟩) (l2+1) d2)) 3 (.slice (some ⟨g3,0,none⟩) (l3+1) d3)) 4=_ from HU.out.2.2.2.2.1,show (putAt (putAt (putAt (putAt (putAt m 6 (l6+1)) 0 (l0+1)) 1 (l1+1)) 2 (l2+1)) 3 (l3+1)) 4=_ from HL.out.2.2.2.2.1] at h9;exact h9
   have SB:wz3.cell? ⟨gl,4,none⟩=some (.slice x4 l4 y4):=(cell_of_row _ _ 4 _ _ _ HXB3.out).trans (by simp)
   have lB:=za3 HXB3.out
   clear hwd3
   go_upto_region 9 with (first
    | (at_builtin;refine zg2 _ rfl _ _ 25 rfl B 3 i0 _ 1 8 Tryz.underlying25 hi0 hy0 hy1 hy2 rfl (by decide) (.slice x4 l4 y4) l4 (rep l4 (wdM k 4)) (by rfl) HOQ.out ⟨wz3.heap.size,0,none⟩ 1 1 [.int .i64 (-2-3*(k:Int))] (by rfl) rfl (cell_one_new _ _ _) (by simp [Value.oneCell']) (by decide) (by have:=HLE.out;unfold maxLen;omega) (by have:=HLE.out;omega) (Nat.le_trans HQ.out.le HQ.out.bel.size) ?_;intro g4 d4 we hown hgrow hat hkeep;obtain ⟨hA,hB,hC,hD⟩:=GR.step (gl:=gl) (gr:=gr) (j:=4) (v:=.slice x4 l4 y4) (l:=l4) HQ.out HBQ.out HRQ.out HGLW.out.1 HGLW.out.2 4 (by decide) (show (putAt (putAt (putAt (putAt (putAt u 6 (.slice (some ⟨g6,0,none⟩) (l6+1) d6)) 0 (.slice (some ⟨g0,0,none⟩) (l0+1) d0)) 1 (.slice (some ⟨g1,0,none⟩) (l1+1) d1)) 2 (.slice (some ⟨g2,0,none⟩) (l2+1) d2)) 3 (.slice (some ⟨g3,0,none⟩) (l3+1) d3)) 4=_ from HU.out.2.2.2.2.1) (show (putAt (putAt (putAt (putAt (putAt m 6 (l6+1)) 0 (l0+1)) 1 (l1+1)) 2 (l2+1)) 3 (l3+1)) 4=_ from HL.out.2.2.2.2.1) (by rw [HW3.out] at hown ⊢;exact hown) hgrow hat hkeep;have SE:we.cell? ⟨gl,4,none⟩=some (.slice x4 l4 y4):=(cell_of_row _ _ 4 _ _ _ hD).trans (by simp);have fe:we.frozen? ⟨gl,4,none⟩=false:=frozen_of_row _ _ _ _ _ hD;have le:=za3 hD;clear hown hgrow hat hkeep)
    | fail)
   obtain ⟨wz4,hz4⟩:∃ z,z=we.setCell ⟨gl,4,none⟩ (.slice (some ⟨g4,0,none⟩) (l4+1) d4):=⟨_,rfl⟩
   rw [←hz4] at hA hB hC
   have HGA4:Hid _:=hA
   have HXB4:Hid (wz4.heap[gl]?=some (.cells #[Value.slice (some ⟨g0,0,none⟩) (l0+1) d0,Value.slice (some ⟨g1,0,none⟩) (l1+1) d1,Value.slice (some ⟨g2,0,none⟩) (l2+1) d2,Value.slice (some ⟨g3,0,none⟩) (l3+1) d3,Value.slice (some ⟨g4,0,none⟩) (l4+1) d4,Value.slice x5 l5 y5,Value.int .i64 gx,Value.int .i64 gy,Value.slice (some ⟨g6,0,none⟩) (l6+1) d6] 42 (0,0))):=by unfold Hid;rw [hB];simp
   have HRA4:Hid _:=hC
   rw [←hz4]
   clear hz4 hA hB hC hD HQ HBQ HRQ HKD HOQ hi0 hy0 hy1 hy2 SE fe le SB lB HW3
   have hwd3:wdM k 5=[.int .i64 (-3-3*(k:Int))]:=by unfold wdM;simp;omega
   have HW3:=hid hwd3
   have HKD:Hid (Ok wz4 (wz4.alloc (Obj.cells #[Value.int .i64 (-3-3*(k:Int))] 3))):=(Ok.refl _).alloc _
   have HQ:Hid _:=GR.call HGA4.out HKD.out
   have HBQ:Hid _:=Ok.row' HKD.out HXB4.out
   have HRQ:Hid _:=Ok.row' HKD.out HRA4.out
   obtain ⟨i0,hi0,hy0,hy1,hy2⟩:=ze5 infFI
   have HOQ:Hid ((wz4.alloc (Obj.cells #[Value.int .i64 (-3-3*(k:Int))] 3)).ownsRow B 3 1 (.slice x5 l5 y5) l5 (rep l5 (wdM k 5))):=by have h9:=HQ.out.row 5 (by decide);rw [show (putAt (putAt (putAt (putAt (putAt (putAt u 6 (.slice (some ⟨g6,0,none⟩) (l6+1) d6)) 0 (.slice (some ⟨g0,0,none⟩) (l0+1) d0)) 1 (.slice (some ⟨g1,0,none⟩) (l1+1) d1)) 2 (.slice (some ⟨g2,0,none⟩) (l2+1) d2)) 3 (.slice (some ⟨g3,0,none⟩) (l3+1) d3)) 4 (.slice (some ⟨g4,0,none⟩) (l4+1) d4)) 5=_ from HU.out.2.2.2.2.2.1,show (putAt (putAt (putAt (putAt (putAt (putAt m 6 (l6+1)) 0 (l0+1)) 1 (l1+1)) 2 (l2+1)) 3 (l3+1)) 4 (l4+1)) 5=_ from HL.out.2.2.2.2.2.1] at h9;exact h9
   have SB:wz4.cell? ⟨gl,5,none⟩=some (.slice x5 l5 y5):=(cell_of_row _ _ 5 _ _ _ HXB4.out).trans (by simp)
   have lB:=za3 HXB4.out
   clear hwd3
   go_upto_region 10 with (first
    | (at_builtin;refine zg2 _ rfl _ _ 25 rfl B 3 i0 _ 1 8 Tryz.underlying25 hi0 hy0 hy1 hy2 rfl (by decide) (.slice x5 l5 y5) l5 (rep l5 (wdM k 5)) (by rfl) HOQ.out ⟨wz4.heap.size,0,none⟩ 1 1 [.int .i64 (-3-3*(k:Int))] (by rfl) rfl (cell_one_new _ _ _) (by simp [Value.oneCell']) (by decide) (by have:=HLE.out;unfold maxLen;omega) (by have:=HLE.out;omega) (Nat.le_trans HQ.out.le HQ.out.bel.size) ?_;intro g5 d5 we hown hgrow hat hkeep;obtain ⟨hA,hB,hC,hD⟩:=GR.step (gl:=gl) (gr:=gr) (j:=5) (v:=.slice x5 l5 y5) (l:=l5) HQ.out HBQ.out HRQ.out HGLW.out.1 HGLW.out.2 5 (by decide) (show (putAt (putAt (putAt (putAt (putAt (putAt u 6 (.slice (some ⟨g6,0,none⟩) (l6+1) d6)) 0 (.slice (some ⟨g0,0,none⟩) (l0+1) d0)) 1 (.slice (some ⟨g1,0,none⟩) (l1+1) d1)) 2 (.slice (some ⟨g2,0,none⟩) (l2+1) d2)) 3 (.slice (some ⟨g3,0,none⟩) (l3+1) d3)) 4 (.slice (some ⟨g4,0,none⟩) (l4+1) d4)) 5=_ from HU.out.2.2.2.2.2.1) (show (putAt (putAt (putAt (putAt (putAt (putAt m 6 (l6+1)) 0 (l0+1)) 1 (l1+1)) 2 (l2+1)) 3 (l3+1)) 4 (l4+1)) 5=_ from HL.out.2.2.2.2.2.1) (by rw [HW3.out] at hown ⊢;exact hown) hgrow hat hkeep;have SE:we.cell? ⟨gl,5,none⟩=some (.slice x5 l5 y5):=(cell_of_row _ _ 5 _ _ _ hD).trans (by simp);have fe:we.frozen? ⟨gl,5,none⟩=false:=frozen_of_row _ _ _ _ _ hD;have le:=za3 hD;clear hown hgrow hat hkeep)
    | fail)
   obtain ⟨wz5,hz5⟩:∃ z,z=we.setCell ⟨gl,5,none⟩ (.slice (some ⟨g5,0,none⟩) (l5+1) d5):=⟨_,rfl⟩
   rw [←hz5] at hA hB hC
   have HGA5:Hid _:=hA
   have HXB5:Hid (wz5.heap[gl]?=some (.cells #[Value.slice (some ⟨g0,0,none⟩) (l0+1) d0,Value.slice (some ⟨g1,0,none⟩) (l1+1) d1,Value.slice (some ⟨g2,0,none⟩) (l2+1) d2,Value.slice (some ⟨g3,0,none⟩) (l3+1) d3,Value.slice (some ⟨g4,0,none⟩) (l4+1) d4,Value.slice (some ⟨g5,0,none⟩) (l5+1) d5,Value.int .i64 gx,Value.int .i64 gy,Value.slice (some ⟨g6,0,none⟩) (l6+1) d6] 42 (0,0))):=by unfold Hid;rw [hB];simp
   have HRA5:Hid _:=hC
   rw [←hz5]
   clear hz5 hA hB hC hD HQ HBQ HRQ HKD HOQ hi0 hy0 hy1 hy2 SE fe le SB lB HW3
   go_wp2_with fail
   go_roundw
   case rel=>exact ⟨t+1,(putAt (putAt (putAt (putAt (putAt (putAt (putAt u 6 (.slice (some ⟨g6,0,none⟩) (l6+1) d6)) 0 (.slice (some ⟨g0,0,none⟩) (l0+1) d0)) 1 (.slice (some ⟨g1,0,none⟩) (l1+1) d1)) 2 (.slice (some ⟨g2,0,none⟩) (l2+1) d2)) 3 (.slice (some ⟨g3,0,none⟩) (l3+1) d3)) 4 (.slice (some ⟨g4,0,none⟩) (l4+1) d4)) 5 (.slice (some ⟨g5,0,none⟩) (l5+1) d5)),(putAt (putAt (putAt (putAt (putAt (putAt (putAt m 6 (l6+1)) 0 (l0+1)) 1 (l1+1)) 2 (l2+1)) 3 (l3+1)) 4 (l4+1)) 5 (l5+1)),by omega,rfl,fun j hj=>by have h1:=HMT.out j hj;have h2:=HL.out;rcases (show j=0∨j=1∨j=2∨j=3∨j=4∨j=5∨j=6 by omega) with rfl | rfl | rfl | rfl | rfl | rfl | rfl<;>simp only [putAt,Nat.reduceEqDiff,if_true,if_false]<;>omega,HGA5,HXB5,HRA5⟩
   case measure=>simp only [intOf,Int.toNat_natCast];omega
  ·have hlt':¬(t:Int)<20:=by omega
   have HT:Hid (t=20):=by unfold Hid;omega
   obtain ⟨k0,k1,k2,k3,k4,k5,k6,k7,k8⟩:=zu6 HXB.out
   obtain ⟨r0,r1,r2,r3,r4,r5,r6,r7,r8⟩:=zu6 HRA.out
   have rf:∀ i,wr.frozen? ⟨gr,i,none⟩=false:=fun i=>frozen_of_row _ _ _ _ _ HRA.out
   have lb:=za3 HXB.out
   have lr:=za3 HRA.out
   have nb:¬gl=gr:=by have:=HGG.out;omega
   have nb':¬gr=gl:=by have:=HGG.out;omega
   go_wp2_with fail
   try simp only [Exit.inBlock,Exit.then]
   refine bodyPost_ret (results_cell_row rfl _ _ gr 42 _ (0,0) _ rfl (zn5 HRA.out _ _ _ _ _ _ _ _ _) Tryz.underlying42 rfl Tryz.infoG) rfl ?_
   have hne:=HGA.out.ne HRA.out
   have hge:w.heap.size≤gr:=by have:=HGG.out;omega
   refine ⟨u,?_,m,fun j hj=>by rw [HMT.out j hj,HT.out],((((((((HGA.out.set hge hne _ _).set hge hne _ _).set hge hne _ _).set hge hne _ _).set hge hne _ _).set hge hne _ _).set hge hne _ _).set hge hne _ _).set hge hne _ _⟩
   obtain ⟨e0,e1,e2,e3,e4,e5,e6⟩:=HU.out
   unfold nineU
   rw [e0,e1,e2,e3,e4,e5,e6]
end Go.Proofs.YtgobgdljckamkaaGreatDoor
