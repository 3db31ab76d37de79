import Derived.Deep.Cut
import Derived.Deep.CutRange
import Derived.Test.YtnjmjnmhldhaoaaGreatKXp
set_option linter.all false
namespace Go.Proofs.YtnjmjnmhldhaoaaGreat
open Go.RowKit Go.Shelf
theorem row17_facts {w:World} {g:Nat} {c0 c1 c2 c3 c4 c5 c6 c7 c8 c9 c10 c11 c12 c13 c14 c15 c16:Value} {t:TypeId} (h:w.heap[g]?=some (.cells #[c0,c1,c2,c3,c4,c5,c6,c7,c8,c9,c10,c11,c12,c13,c14,c15,c16] t (0,0))) :
  w.cell? ⟨g,0,none⟩=some c0/\w.cell? ⟨g,1,none⟩=some c1/\w.cell? ⟨g,2,none⟩=some c2/\w.cell? ⟨g,3,none⟩=some c3/\w.cell? ⟨g,4,none⟩=some c4/\w.cell? ⟨g,5,none⟩=some c5/\w.cell? ⟨g,6,none⟩=some c6/\w.cell? ⟨g,7,none⟩=some c7/\w.cell? ⟨g,8,none⟩=some c8/\w.cell? ⟨g,9,none⟩=some c9/\w.cell? ⟨g,10,none⟩=some c10/\w.cell? ⟨g,11,none⟩=some c11/\w.cell? ⟨g,12,none⟩=some c12/\w.cell? ⟨g,13,none⟩=some c13/\w.cell? ⟨g,14,none⟩=some c14/\w.cell? ⟨g,15,none⟩=some c15/\w.cell? ⟨g,16,none⟩=some c16:=by
 refine ⟨?_,?_,?_,?_,?_,?_,?_,?_,?_,?_,?_,?_,?_,?_,?_,?_,?_⟩
 ·exact (cell_of_row _ _ 0 _ _ _ h).trans (by simp)
 ·exact (cell_of_row _ _ 1 _ _ _ h).trans (by simp)
 ·exact (cell_of_row _ _ 2 _ _ _ h).trans (by simp)
 ·exact (cell_of_row _ _ 3 _ _ _ h).trans (by simp)
 ·exact (cell_of_row _ _ 4 _ _ _ h).trans (by simp)
 ·exact (cell_of_row _ _ 5 _ _ _ h).trans (by simp)
 ·exact (cell_of_row _ _ 6 _ _ _ h).trans (by simp)
 ·exact (cell_of_row _ _ 7 _ _ _ h).trans (by simp)
 ·exact (cell_of_row _ _ 8 _ _ _ h).trans (by simp)
 ·exact (cell_of_row _ _ 9 _ _ _ h).trans (by simp)
 ·exact (cell_of_row _ _ 10 _ _ _ h).trans (by simp)
 ·exact (cell_of_row _ _ 11 _ _ _ h).trans (by simp)
 ·exact (cell_of_row _ _ 12 _ _ _ h).trans (by simp)
 ·exact (cell_of_row _ _ 13 _ _ _ h).trans (by simp)
 ·exact (cell_of_row _ _ 14 _ _ _ h).trans (by simp)
 ·exact (cell_of_row _ _ 15 _ _ _ h).trans (by simp)
 ·exact (cell_of_row _ _ 16 _ _ _ h).trans (by simp)
theorem field_bot (w:World):(Instr.field 29 (.agg #[.bool true,.int .i64 0,.int .i64 0,.int .u64 0,.int .u64 0]) 0).run Tryz.prog w=.ok (.bool true) w:=by kernel_rfl
attribute [local go_sem] field_bot
set_option maxRecDepth 100000 in
set_option maxHeartbeats 40000000 in
theorem ikeeps_any (op:Int) (a b c:Int×Int×Nat×Nat×Bool) (kx ky:Int) (ha:RawN a) (hb:RawN b) (hc:RawN c) (hx:In64 kx) (hy:In64 ky) (w0 w:World) (hok:Ok w0 w) :
  Calls Tryz.prog 3 #[.int .i64 op,.agg #[.bool a.2.2.2.2,.int .i64 a.1,.int .i64 a.2.1,.int .u64 (a.2.2.1:Int),.int .u64 (a.2.2.2.1:Int),.bool b.2.2.2.2,.int .i64 b.1,.int .i64 b.2.1,.int .u64 (b.2.2.1:Int),.int .u64 (b.2.2.2.1:Int),.bool c.2.2.2.2,.int .i64 c.1,.int .i64 c.2.1,.int .u64 (c.2.2.1:Int),.int .u64 (c.2.2.2.1:Int),.int .i64 kx,.int .i64 ky]] w fun e w'=>e=.returned (.bool true)/\Ok w0 w':=by
 have hle:=hok.le
 have HU:Hid (RawN a/\RawN b/\RawN c/\In64 kx/\In64 ky):=⟨ha,hb,hc,hx,hy⟩
 clear ha hb hc hx hy
 by_cases ho:Op6 op
 ·have HO:Hid _:=ho
  clear ho
  obtain ⟨L,hL⟩:∃ t,t=(solA op (normN a) (normN b) (normN c)).1:=⟨_,rfl⟩
  have HL:Hid _:=hL
  clear hL
  obtain ⟨R,hR⟩:∃ t,t=(solA op (normN a) (normN b) (normN c)).2:=⟨_,rfl⟩
  have HR:Hid _:=hR
  clear hR
  obtain ⟨pa,hpa⟩:∃ t,t=insN a kx:=⟨_,rfl⟩
  have HPA:Hid _:=hpa
  clear hpa
  obtain ⟨pb,hpb⟩:∃ t,t=insN b ky:=⟨_,rfl⟩
  have HPB:Hid _:=hpb
  clear hpb
  obtain ⟨z,hz⟩:∃ t,t=doneV op kx ky:=⟨_,rfl⟩
  have HZ:Hid _:=hz
  clear hz
  obtain ⟨dB,hdB⟩:∃ t,t=doneB op ky:=⟨_,rfl⟩
  have HD:Hid _:=hdB
  clear hdB
  obtain ⟨pc,hpc⟩:∃ t,t=insN c (doneV op kx ky):=⟨_,rfl⟩
  have HPC:Hid _:=hpc
  clear hpc
  obtain ⟨ob,hob⟩:∃ t,t=(op==1):=⟨_,rfl⟩
  have HOB:Hid _:=hob
  clear hob
  have QL:Hid (lqN L a=true/\(ob=false->lqN R b=true)):=by rw [HL.out,HR.out];have q:=solA_leq (op:=op) HU.out.1 HU.out.2.1 HU.out.2.2.1;exact ⟨q.1,fun h=>q.2 (beq_eq_false_iff_ne.1 (by rw [<-HOB.out];exact h))⟩
  have RL:Hid (RawN L/\RawN R):=by rw [HL.out,HR.out];exact solA_raw (normN_raw HU.out.1) (normN_raw HU.out.2.1) (normN_raw HU.out.2.2.1)
  obtain ⟨inn,hinn⟩:∃ t,t=(pa&&(pb||ob)):=⟨_,rfl⟩
  have HIN:Hid _:=hinn
  clear hinn
  obtain ⟨bad,hbad⟩:∃ t,t=(!dB || !inn || !pc):=⟨_,rfl⟩
  have HB:Hid _:=hbad
  clear hbad
  have KT:Hid (bad=false->insN L kx=true/\(ob=false->insN R ky=true)):=by intro hbad;rw [HB.out,HIN.out] at hbad;have hd:dB=true:=(by cases dB;(· cases hbad);(· rfl));have hpa:pa=true:=(by cases pa;(· rw [hd] at hbad;cases hbad);(· rfl));have hpc:pc=true:=(by cases pc;(· rw [hd,hpa] at hbad;revert hbad;cases pb<;>cases ob<;>(intro h;cases h));(· rfl));have hpb:ob=false->pb=true:=(by intro h;cases pb;(· rw [hd,hpa,h] at hbad;cases hbad);(· rfl));rw [HL.out,HR.out];have k:=solA_has HO.out HU.out.1 HU.out.2.1 HU.out.2.2.1 HU.out.2.2.2.1 HU.out.2.2.2.2 (by rw [<-HPA.out];exact hpa) (fun h1=>by rw [<-HPB.out];exact hpb (by rw [HOB.out];exact beq_eq_false_iff_ne.2 h1)) (by rw [<-HD.out];exact hd) (by rw [<-HPC.out];exact hpc);exact ⟨k.1,fun h=>k.2 (beq_eq_false_iff_ne.1 (by rw [<-HOB.out];exact h))⟩
  rw [<-HZ.out] at HPC
  have hob:(op==1)=ob:=HOB.out.symm
  have hnb:(op != 1) = !ob:=by rw [HOB.out];rfl
  go_enter Tryz.func3,Tryz.ntmps3
  go_upto_region 1 with (fail)
  obtain ⟨W,hW⟩:∃ W,W=(w).alloc (.cells #[.bool a.2.2.2.2,.int .i64 a.1,.int .i64 a.2.1,.int .u64 (a.2.2.1:Int),.int .u64 (a.2.2.2.1:Int),.bool b.2.2.2.2,.int .i64 b.1,.int .i64 b.2.1,.int .u64 (b.2.2.1:Int),.int .u64 (b.2.2.2.1:Int),.bool c.2.2.2.2,.int .i64 c.1,.int .i64 c.2.1,.int .u64 (c.2.2.1:Int),.int .u64 (c.2.2.2.1:Int),.int .i64 kx,.int .i64 ky] 31):=⟨_,rfl⟩
  have rk:Hid (W.heap[w.heap.size]?=some (.cells #[.bool a.2.2.2.2,.int .i64 a.1,.int .i64 a.2.1,.int .u64 (a.2.2.1:Int),.int .u64 (a.2.2.2.1:Int),.bool b.2.2.2.2,.int .i64 b.1,.int .i64 b.2.1,.int .u64 (b.2.2.1:Int),.int .u64 (b.2.2.2.1:Int),.bool c.2.2.2.2,.int .i64 c.1,.int .i64 c.2.1,.int .u64 (c.2.2.1:Int),.int .u64 (c.2.2.2.1:Int),.int .i64 kx,.int .i64 ky] 31)):=by unfold Hid;rw [hW];exact jj
  have HW:Hid (Ok w0 W):=by unfold Hid;rw [hW];exact (by repeat (first | exact hok | refine Ok.alloc ?_ _ | refine Ok.draws ?_ _ | fail))
  rw [<-hW]
  clear hW
  obtain ⟨gk,egk⟩:∃ g,g=w.heap.size:=⟨_,rfl⟩
  rw [<-egk] at rk ⊢
  have lgk:w0.heap.size<=gk:=by omega
  clear egk
  have zz:=row17_facts (rk.out)
  have kk0:=zz.1
  have kk1:=zz.2.1
  have kk2:=zz.2.2.1
  have kk3:=zz.2.2.2.1
  have kk4:=zz.2.2.2.2.1
  have kk5:=zz.2.2.2.2.2.1
  have kk6:=zz.2.2.2.2.2.2.1
  have kk7:=zz.2.2.2.2.2.2.2.1
  have kk8:=zz.2.2.2.2.2.2.2.2.1
  have kk9:=zz.2.2.2.2.2.2.2.2.2.1
  have kk10:=zz.2.2.2.2.2.2.2.2.2.2.1
  have kk11:=zz.2.2.2.2.2.2.2.2.2.2.2.1
  have kk12:=zz.2.2.2.2.2.2.2.2.2.2.2.2.1
  have kk13:=zz.2.2.2.2.2.2.2.2.2.2.2.2.2.1
  have kk14:=zz.2.2.2.2.2.2.2.2.2.2.2.2.2.2.1
  have kk15:=zz.2.2.2.2.2.2.2.2.2.2.2.2.2.2.2.1
  have kk16:=zz.2.2.2.2.2.2.2.2.2.2.2.2.2.2.2.2
  clear zz
  go_wp2_with fail
  clear kk0 kk1 kk2 kk3 kk4 kk5 kk6 kk7 kk8 kk9 kk10 kk11 kk12 kk13 kk14 kk15 kk16
  refine (vSolve_any op HO.out a b c HU.out.1 HU.out.2.1 HU.out.2.2.1 W _ (Ok.refl _)).mono ?_
  rintro e v1 ⟨rfl,hb⟩
  rw [<-HL.out,<-HR.out]
  unfold nv
  replace rk:Hid _:=Ok.row' hb rk.out
  have Hv1:Hid (Ok w0 v1):=HW.out.step hb
  clear hb HW
  go_upto_region 2 with (fail)
  obtain ⟨v2,hv2⟩:∃ W,W=(v1.alloc (.cells #[.bool L.2.2.2.2,.int .i64 L.1,.int .i64 L.2.1,.int .u64 (L.2.2.1:Int),.int .u64 (L.2.2.2.1:Int)] 29)).alloc (.cells #[.bool R.2.2.2.2,.int .i64 R.1,.int .i64 R.2.1,.int .u64 (R.2.2.1:Int),.int .u64 (R.2.2.2.1:Int)] 29):=⟨_,rfl⟩
  have rg5:Hid (v2.heap[v1.heap.size]?=some (.cells #[.bool L.2.2.2.2,.int .i64 L.1,.int .i64 L.2.1,.int .u64 (L.2.2.1:Int),.int .u64 (L.2.2.2.1:Int)] 29)):=by unfold Hid;rw [hv2];exact jj
  have rg6:Hid (v2.heap[v1.heap.size+1]?=some (.cells #[.bool R.2.2.2.2,.int .i64 R.1,.int .i64 R.2.1,.int .u64 (R.2.2.1:Int),.int .u64 (R.2.2.2.1:Int)] 29)):=by unfold Hid;rw [hv2];exact jj
  have hO:Ok v1 v2:=by rw [hv2];exact ((Ok.refl _).alloc _).alloc _
  rw [<-hv2]
  obtain ⟨g6,eg6⟩:∃ g,g=v1.heap.size+1:=⟨_,rfl⟩
  rw [<-eg6] at rg6 ⊢
  obtain ⟨g5,eg5⟩:∃ g,g=v1.heap.size:=⟨_,rfl⟩
  rw [<-eg5] at rg5 ⊢
  clear hv2 eg5 eg6
  replace rk:Hid _:=Ok.row' hO rk.out
  have Hv2:Hid (Ok w0 v2):=Hv1.out.step hO
  clear hO Hv1
  clear HL HR
  go_upto_region 4 with (fail)
  go_cut [51] from 36 to 51 (fun s0 wx=>s0=.bool false/\Hid (Ok w0 wx)/\Hid (wx.heap[gk]?=some (.cells #[.bool a.2.2.2.2,.int .i64 a.1,.int .i64 a.2.1,.int .u64 (a.2.2.1:Int),.int .u64 (a.2.2.2.1:Int),.bool b.2.2.2.2,.int .i64 b.1,.int .i64 b.2.1,.int .u64 (b.2.2.1:Int),.int .u64 (b.2.2.2.1:Int),.bool c.2.2.2.2,.int .i64 c.1,.int .i64 c.2.1,.int .u64 (c.2.2.1:Int),.int .u64 (c.2.2.2.1:Int),.int .i64 kx,.int .i64 ky] 31 (0,0)))/\Hid (wx.heap[g5]?=some (.cells #[.bool L.2.2.2.2,.int .i64 L.1,.int .i64 L.2.1,.int .u64 (L.2.2.1:Int),.int .u64 (L.2.2.2.1:Int)] 29 (0,0)))/\Hid (wx.heap[g6]?=some (.cells #[.bool R.2.2.2.2,.int .i64 R.1,.int .i64 R.2.1,.int .u64 (R.2.2.1:Int),.int .u64 (R.2.2.2.1:Int)] 29 (0,0))))
  case first =>
   have zz:=row5_facts (rg5.out)
   have fa0:=zz.1
   have fa1:=zz.2.1
   have fa2:=zz.2.2.1
   have fa3:=zz.2.2.2.1
   have fa4:=zz.2.2.2.2.1
   have fa5:=zz.2.2.2.2.2.1
   have fa6:=zz.2.2.2.2.2.2.1
   have fa7:=zz.2.2.2.2.2.2.2.1
   have fa8:=zz.2.2.2.2.2.2.2.2.1
   have fa9:=zz.2.2.2.2.2.2.2.2.2
   clear zz
   have zz:=row17_facts (rk.out)
   have kk0:=zz.1
   have kk1:=zz.2.1
   have kk2:=zz.2.2.1
   have kk3:=zz.2.2.2.1
   have kk4:=zz.2.2.2.2.1
   have kk5:=zz.2.2.2.2.2.1
   have kk6:=zz.2.2.2.2.2.2.1
   have kk7:=zz.2.2.2.2.2.2.2.1
   have kk8:=zz.2.2.2.2.2.2.2.2.1
   have kk9:=zz.2.2.2.2.2.2.2.2.2.1
   have kk10:=zz.2.2.2.2.2.2.2.2.2.2.1
   have kk11:=zz.2.2.2.2.2.2.2.2.2.2.2.1
   have kk12:=zz.2.2.2.2.2.2.2.2.2.2.2.2.1
   have kk13:=zz.2.2.2.2.2.2.2.2.2.2.2.2.2.1
   have kk14:=zz.2.2.2.2.2.2.2.2.2.2.2.2.2.2.1
   have kk15:=zz.2.2.2.2.2.2.2.2.2.2.2.2.2.2.2.1
   have kk16:=zz.2.2.2.2.2.2.2.2.2.2.2.2.2.2.2.2
   clear zz
   go_wp2_with fail
   clear fa0 fa1 fa2 fa3 fa4 fa5 fa6 fa7 fa8 fa9
   clear kk0 kk1 kk2 kk3 kk4 kk5 kk6 kk7 kk8 kk9 kk10 kk11 kk12 kk13 kk14 kk15 kk16
   refine (rnleq_any L a RL.out.1 HU.out.1 v2 _ (Ok.refl _)).mono ?_
   rintro e x1 ⟨rfl,hb⟩
   rw [QL.out.1]
   replace rk:Hid _:=Ok.row' hb rk.out
   replace rg5:Hid _:=Ok.row' hb rg5.out
   replace rg6:Hid _:=Ok.row' hb rg6.out
   have Hx1:Hid (Ok w0 x1):=Hv2.out.step hb
   clear hb Hv2
   cases ob
   ·have zz:=row5_facts (rg6.out)
    have fb0:=zz.1
    have fb1:=zz.2.1
    have fb2:=zz.2.2.1
    have fb3:=zz.2.2.2.1
    have fb4:=zz.2.2.2.2.1
    have fb5:=zz.2.2.2.2.2.1
    have fb6:=zz.2.2.2.2.2.2.1
    have fb7:=zz.2.2.2.2.2.2.2.1
    have fb8:=zz.2.2.2.2.2.2.2.2.1
    have fb9:=zz.2.2.2.2.2.2.2.2.2
    clear zz
    have zz:=row17_facts (rk.out)
    have kk0:=zz.1
    have kk1:=zz.2.1
    have kk2:=zz.2.2.1
    have kk3:=zz.2.2.2.1
    have kk4:=zz.2.2.2.2.1
    have kk5:=zz.2.2.2.2.2.1
    have kk6:=zz.2.2.2.2.2.2.1
    have kk7:=zz.2.2.2.2.2.2.2.1
    have kk8:=zz.2.2.2.2.2.2.2.2.1
    have kk9:=zz.2.2.2.2.2.2.2.2.2.1
    have kk10:=zz.2.2.2.2.2.2.2.2.2.2.1
    have kk11:=zz.2.2.2.2.2.2.2.2.2.2.2.1
    have kk12:=zz.2.2.2.2.2.2.2.2.2.2.2.2.1
    have kk13:=zz.2.2.2.2.2.2.2.2.2.2.2.2.2.1
    have kk14:=zz.2.2.2.2.2.2.2.2.2.2.2.2.2.2.1
    have kk15:=zz.2.2.2.2.2.2.2.2.2.2.2.2.2.2.2.1
    have kk16:=zz.2.2.2.2.2.2.2.2.2.2.2.2.2.2.2.2
    clear zz
    go_wp2_with fail
    clear fb0 fb1 fb2 fb3 fb4 fb5 fb6 fb7 fb8 fb9
    clear kk0 kk1 kk2 kk3 kk4 kk5 kk6 kk7 kk8 kk9 kk10 kk11 kk12 kk13 kk14 kk15 kk16
    refine (rnleq_any R b RL.out.2 HU.out.2.1 x1 _ (Ok.refl _)).mono ?_
    rintro e x2 ⟨rfl,hb⟩
    rw [QL.out.2 (by first | rfl | trivial)]
    replace rk:Hid _:=Ok.row' hb rk.out
    replace rg5:Hid _:=Ok.row' hb rg5.out
    replace rg6:Hid _:=Ok.row' hb rg6.out
    have Hx2:Hid (Ok w0 x2):=Hx1.out.step hb
    clear hb Hx1
    go_wp2_with fail
    go_meet
    case rel=>exact ⟨rfl,Hx2,rk,rg5,rg6⟩
   ·go_wp2_with fail
    go_meet
    case rel=>exact ⟨rfl,Hx1,rk,rg5,rg6⟩
  case rest =>
   clear rk rg5 rg6 Hv2
   obtain ⟨rfl,Hwc,rk,rg5,rg6⟩:=hcut
   have zz:=row17_facts (rk.out)
   have kk0:=zz.1
   have kk1:=zz.2.1
   have kk2:=zz.2.2.1
   have kk3:=zz.2.2.2.1
   have kk4:=zz.2.2.2.2.1
   have kk5:=zz.2.2.2.2.2.1
   have kk6:=zz.2.2.2.2.2.2.1
   have kk7:=zz.2.2.2.2.2.2.2.1
   have kk8:=zz.2.2.2.2.2.2.2.2.1
   have kk9:=zz.2.2.2.2.2.2.2.2.2.1
   have kk10:=zz.2.2.2.2.2.2.2.2.2.2.1
   have kk11:=zz.2.2.2.2.2.2.2.2.2.2.2.1
   have kk12:=zz.2.2.2.2.2.2.2.2.2.2.2.2.1
   have kk13:=zz.2.2.2.2.2.2.2.2.2.2.2.2.2.1
   have kk14:=zz.2.2.2.2.2.2.2.2.2.2.2.2.2.2.1
   have kk15:=zz.2.2.2.2.2.2.2.2.2.2.2.2.2.2.2.1
   have kk16:=zz.2.2.2.2.2.2.2.2.2.2.2.2.2.2.2.2
   clear zz
   go_wp2_with fail
   clear kk0 kk1 kk2 kk3 kk4 kk5 kk6 kk7 kk8 kk9 kk10 kk11 kk12 kk13 kk14 kk15 kk16
   refine (vresult_any op kx ky HO.out HU.out.2.2.2.1 HU.out.2.2.2.2 wc _ (Ok.refl _)).mono ?_
   rintro e x3 ⟨rfl,hb⟩
   rw [<-HZ.out,<-HD.out]
   replace rk:Hid _:=Ok.row' hb rk.out
   replace rg5:Hid _:=Ok.row' hb rg5.out
   replace rg6:Hid _:=Ok.row' hb rg6.out
   have Hx3:Hid (Ok w0 x3):=Hwc.out.step hb
   clear hb Hwc
   go_upto_region 7 with (fail)
   go_cut [10] from 61 to 76 (fun s0 wx=>s0=.bool inn/\Hid (Ok w0 wx)/\Hid (wx.heap[gk]?=some (.cells #[.bool a.2.2.2.2,.int .i64 a.1,.int .i64 a.2.1,.int .u64 (a.2.2.1:Int),.int .u64 (a.2.2.2.1:Int),.bool b.2.2.2.2,.int .i64 b.1,.int .i64 b.2.1,.int .u64 (b.2.2.1:Int),.int .u64 (b.2.2.2.1:Int),.bool c.2.2.2.2,.int .i64 c.1,.int .i64 c.2.1,.int .u64 (c.2.2.1:Int),.int .u64 (c.2.2.2.1:Int),.int .i64 kx,.int .i64 ky] 31 (0,0)))/\Hid (wx.heap[g5]?=some (.cells #[.bool L.2.2.2.2,.int .i64 L.1,.int .i64 L.2.1,.int .u64 (L.2.2.1:Int),.int .u64 (L.2.2.2.1:Int)] 29 (0,0)))/\Hid (wx.heap[g6]?=some (.cells #[.bool R.2.2.2.2,.int .i64 R.1,.int .i64 R.2.1,.int .u64 (R.2.2.1:Int),.int .u64 (R.2.2.2.1:Int)] 29 (0,0))))
   case first =>
    have zz:=row17_facts (rk.out)
    have kk0:=zz.1
    have kk1:=zz.2.1
    have kk2:=zz.2.2.1
    have kk3:=zz.2.2.2.1
    have kk4:=zz.2.2.2.2.1
    have kk5:=zz.2.2.2.2.2.1
    have kk6:=zz.2.2.2.2.2.2.1
    have kk7:=zz.2.2.2.2.2.2.2.1
    have kk8:=zz.2.2.2.2.2.2.2.2.1
    have kk9:=zz.2.2.2.2.2.2.2.2.2.1
    have kk10:=zz.2.2.2.2.2.2.2.2.2.2.1
    have kk11:=zz.2.2.2.2.2.2.2.2.2.2.2.1
    have kk12:=zz.2.2.2.2.2.2.2.2.2.2.2.2.1
    have kk13:=zz.2.2.2.2.2.2.2.2.2.2.2.2.2.1
    have kk14:=zz.2.2.2.2.2.2.2.2.2.2.2.2.2.2.1
    have kk15:=zz.2.2.2.2.2.2.2.2.2.2.2.2.2.2.2.1
    have kk16:=zz.2.2.2.2.2.2.2.2.2.2.2.2.2.2.2.2
    clear zz
    go_wp2_with fail
    clear kk0 kk1 kk2 kk3 kk4 kk5 kk6 kk7 kk8 kk9 kk10 kk11 kk12 kk13 kk14 kk15 kk16
    refine (rnhas_any a kx HU.out.1 x3 _ (Ok.refl _)).mono ?_
    rintro e y1 ⟨rfl,hb⟩
    rw [<-HPA.out]
    replace rk:Hid _:=Ok.row' hb rk.out
    replace rg5:Hid _:=Ok.row' hb rg5.out
    replace rg6:Hid _:=Ok.row' hb rg6.out
    have Hy1:Hid (Ok w0 y1):=Hx3.out.step hb
    clear hb Hx3
    cases pa
    ·go_wp2_with fail
     go_meet
     case rel=>exact ⟨(by rw [HIN.out];rfl),Hy1,rk,rg5,rg6⟩
    ·have zz:=row17_facts (rk.out)
     have kk0:=zz.1
     have kk1:=zz.2.1
     have kk2:=zz.2.2.1
     have kk3:=zz.2.2.2.1
     have kk4:=zz.2.2.2.2.1
     have kk5:=zz.2.2.2.2.2.1
     have kk6:=zz.2.2.2.2.2.2.1
     have kk7:=zz.2.2.2.2.2.2.2.1
     have kk8:=zz.2.2.2.2.2.2.2.2.1
     have kk9:=zz.2.2.2.2.2.2.2.2.2.1
     have kk10:=zz.2.2.2.2.2.2.2.2.2.2.1
     have kk11:=zz.2.2.2.2.2.2.2.2.2.2.2.1
     have kk12:=zz.2.2.2.2.2.2.2.2.2.2.2.2.1
     have kk13:=zz.2.2.2.2.2.2.2.2.2.2.2.2.2.1
     have kk14:=zz.2.2.2.2.2.2.2.2.2.2.2.2.2.2.1
     have kk15:=zz.2.2.2.2.2.2.2.2.2.2.2.2.2.2.2.1
     have kk16:=zz.2.2.2.2.2.2.2.2.2.2.2.2.2.2.2.2
     clear zz
     go_wp2_with fail
     clear kk0 kk1 kk2 kk3 kk4 kk5 kk6 kk7 kk8 kk9 kk10 kk11 kk12 kk13 kk14 kk15 kk16
     refine (rnhas_any b ky HU.out.2.1 y1 _ (Ok.refl _)).mono ?_
     rintro e y2 ⟨rfl,hb⟩
     rw [<-HPB.out]
     replace rk:Hid _:=Ok.row' hb rk.out
     replace rg5:Hid _:=Ok.row' hb rg5.out
     replace rg6:Hid _:=Ok.row' hb rg6.out
     have Hy2:Hid (Ok w0 y2):=Hy1.out.step hb
     clear hb Hy1
     cases pb
     all_goals cases ob
     all_goals as_aux_lemma =>
      go_wp2_with fail
      go_meet
      case rel=>exact ⟨(by rw [HIN.out];rfl),Hy2,rk,rg5,rg6⟩
   case rest =>
    clear rk rg5 rg6 Hx3
    obtain ⟨rfl,Hwc,rk,rg5,rg6⟩:=hcut
    go_upto_region 8 with (fail)
    go_cut [89] from 77 to 89 (fun s0 wx=>s0=.bool bad/\Hid (Ok w0 wx)/\Hid (wx.heap[gk]?=some (.cells #[.bool a.2.2.2.2,.int .i64 a.1,.int .i64 a.2.1,.int .u64 (a.2.2.1:Int),.int .u64 (a.2.2.2.1:Int),.bool b.2.2.2.2,.int .i64 b.1,.int .i64 b.2.1,.int .u64 (b.2.2.1:Int),.int .u64 (b.2.2.2.1:Int),.bool c.2.2.2.2,.int .i64 c.1,.int .i64 c.2.1,.int .u64 (c.2.2.1:Int),.int .u64 (c.2.2.2.1:Int),.int .i64 kx,.int .i64 ky] 31 (0,0)))/\Hid (wx.heap[g5]?=some (.cells #[.bool L.2.2.2.2,.int .i64 L.1,.int .i64 L.2.1,.int .u64 (L.2.2.1:Int),.int .u64 (L.2.2.2.1:Int)] 29 (0,0)))/\Hid (wx.heap[g6]?=some (.cells #[.bool R.2.2.2.2,.int .i64 R.1,.int .i64 R.2.1,.int .u64 (R.2.2.1:Int),.int .u64 (R.2.2.2.1:Int)] 29 (0,0))))
    case first =>
     cases dB
     ·go_wp2_with fail
      go_meet
      case rel=>exact ⟨(by rw [HB.out];rfl),Hwc,rk,rg5,rg6⟩
     ·cases inn
      ·go_wp2_with fail
       go_meet
       case rel=>exact ⟨(by rw [HB.out];rfl),Hwc,rk,rg5,rg6⟩
      ·have zz:=row17_facts (rk.out)
       have kk0:=zz.1
       have kk1:=zz.2.1
       have kk2:=zz.2.2.1
       have kk3:=zz.2.2.2.1
       have kk4:=zz.2.2.2.2.1
       have kk5:=zz.2.2.2.2.2.1
       have kk6:=zz.2.2.2.2.2.2.1
       have kk7:=zz.2.2.2.2.2.2.2.1
       have kk8:=zz.2.2.2.2.2.2.2.2.1
       have kk9:=zz.2.2.2.2.2.2.2.2.2.1
       have kk10:=zz.2.2.2.2.2.2.2.2.2.2.1
       have kk11:=zz.2.2.2.2.2.2.2.2.2.2.2.1
       have kk12:=zz.2.2.2.2.2.2.2.2.2.2.2.2.1
       have kk13:=zz.2.2.2.2.2.2.2.2.2.2.2.2.2.1
       have kk14:=zz.2.2.2.2.2.2.2.2.2.2.2.2.2.2.1
       have kk15:=zz.2.2.2.2.2.2.2.2.2.2.2.2.2.2.2.1
       have kk16:=zz.2.2.2.2.2.2.2.2.2.2.2.2.2.2.2.2
       clear zz
       go_wp2_with fail
       clear kk0 kk1 kk2 kk3 kk4 kk5 kk6 kk7 kk8 kk9 kk10 kk11 kk12 kk13 kk14 kk15 kk16
       refine (rnhas_any c z HU.out.2.2.1 wc _ (Ok.refl _)).mono ?_
       rintro e y3 ⟨rfl,hb⟩
       rw [<-HPC.out]
       replace rk:Hid _:=Ok.row' hb rk.out
       replace rg5:Hid _:=Ok.row' hb rg5.out
       replace rg6:Hid _:=Ok.row' hb rg6.out
       have Hy3:Hid (Ok w0 y3):=Hwc.out.step hb
       clear hb Hwc
       cases pc
       all_goals as_aux_lemma =>
        go_wp2_with fail
        go_meet
        case rel=>exact ⟨(by rw [HB.out];rfl),Hy3,rk,rg5,rg6⟩
    case rest =>
     clear rk rg5 rg6 Hwc
     obtain ⟨rfl,Hwc,rk,rg5,rg6⟩:=hcut
     cases bad
     ·have KT1:Hid _:=KT.out rfl
      clear KT
      have zz:=row5_facts (rg5.out)
      have fa0:=zz.1
      have fa1:=zz.2.1
      have fa2:=zz.2.2.1
      have fa3:=zz.2.2.2.1
      have fa4:=zz.2.2.2.2.1
      have fa5:=zz.2.2.2.2.2.1
      have fa6:=zz.2.2.2.2.2.2.1
      have fa7:=zz.2.2.2.2.2.2.2.1
      have fa8:=zz.2.2.2.2.2.2.2.2.1
      have fa9:=zz.2.2.2.2.2.2.2.2.2
      clear zz
      have zz:=row17_facts (rk.out)
      have kk0:=zz.1
      have kk1:=zz.2.1
      have kk2:=zz.2.2.1
      have kk3:=zz.2.2.2.1
      have kk4:=zz.2.2.2.2.1
      have kk5:=zz.2.2.2.2.2.1
      have kk6:=zz.2.2.2.2.2.2.1
      have kk7:=zz.2.2.2.2.2.2.2.1
      have kk8:=zz.2.2.2.2.2.2.2.2.1
      have kk9:=zz.2.2.2.2.2.2.2.2.2.1
      have kk10:=zz.2.2.2.2.2.2.2.2.2.2.1
      have kk11:=zz.2.2.2.2.2.2.2.2.2.2.2.1
      have kk12:=zz.2.2.2.2.2.2.2.2.2.2.2.2.1
      have kk13:=zz.2.2.2.2.2.2.2.2.2.2.2.2.2.1
      have kk14:=zz.2.2.2.2.2.2.2.2.2.2.2.2.2.2.1
      have kk15:=zz.2.2.2.2.2.2.2.2.2.2.2.2.2.2.2.1
      have kk16:=zz.2.2.2.2.2.2.2.2.2.2.2.2.2.2.2.2
      clear zz
      go_wp2_with fail
      clear fa0 fa1 fa2 fa3 fa4 fa5 fa6 fa7 fa8 fa9
      clear kk0 kk1 kk2 kk3 kk4 kk5 kk6 kk7 kk8 kk9 kk10 kk11 kk12 kk13 kk14 kk15 kk16
      refine (rnhas_any L kx RL.out.1 wc _ (Ok.refl _)).mono ?_
      rintro e z1 ⟨rfl,hb⟩
      rw [KT1.out.1]
      replace rk:Hid _:=Ok.row' hb rk.out
      replace rg5:Hid _:=Ok.row' hb rg5.out
      replace rg6:Hid _:=Ok.row' hb rg6.out
      have Hz1:Hid (Ok w0 z1):=Hwc.out.step hb
      clear hb Hwc
      cases ob
      ·have zz:=row5_facts (rg6.out)
       have fb0:=zz.1
       have fb1:=zz.2.1
       have fb2:=zz.2.2.1
       have fb3:=zz.2.2.2.1
       have fb4:=zz.2.2.2.2.1
       have fb5:=zz.2.2.2.2.2.1
       have fb6:=zz.2.2.2.2.2.2.1
       have fb7:=zz.2.2.2.2.2.2.2.1
       have fb8:=zz.2.2.2.2.2.2.2.2.1
       have fb9:=zz.2.2.2.2.2.2.2.2.2
       clear zz
       have zz:=row17_facts (rk.out)
       have kk0:=zz.1
       have kk1:=zz.2.1
       have kk2:=zz.2.2.1
       have kk3:=zz.2.2.2.1
       have kk4:=zz.2.2.2.2.1
       have kk5:=zz.2.2.2.2.2.1
       have kk6:=zz.2.2.2.2.2.2.1
       have kk7:=zz.2.2.2.2.2.2.2.1
       have kk8:=zz.2.2.2.2.2.2.2.2.1
       have kk9:=zz.2.2.2.2.2.2.2.2.2.1
       have kk10:=zz.2.2.2.2.2.2.2.2.2.2.1
       have kk11:=zz.2.2.2.2.2.2.2.2.2.2.2.1
       have kk12:=zz.2.2.2.2.2.2.2.2.2.2.2.2.1
       have kk13:=zz.2.2.2.2.2.2.2.2.2.2.2.2.2.1
       have kk14:=zz.2.2.2.2.2.2.2.2.2.2.2.2.2.2.1
       have kk15:=zz.2.2.2.2.2.2.2.2.2.2.2.2.2.2.2.1
       have kk16:=zz.2.2.2.2.2.2.2.2.2.2.2.2.2.2.2.2
       clear zz
       go_wp2_with fail
       clear fb0 fb1 fb2 fb3 fb4 fb5 fb6 fb7 fb8 fb9
       clear kk0 kk1 kk2 kk3 kk4 kk5 kk6 kk7 kk8 kk9 kk10 kk11 kk12 kk13 kk14 kk15 kk16
       refine (rnhas_any R ky RL.out.2 z1 _ (Ok.refl _)).mono ?_
       rintro e z2 ⟨rfl,hb⟩
       rw [KT1.out.2 (by first | rfl | trivial)]
       replace rk:Hid _:=Ok.row' hb rk.out
       replace rg5:Hid _:=Ok.row' hb rg5.out
       replace rg6:Hid _:=Ok.row' hb rg6.out
       have Hz2:Hid (Ok w0 z2):=Hz1.out.step hb
       clear hb Hz1
       go_wp2_with fail
       refine (taken14 z2 _ (Ok.refl _)).mono ?_
       rintro e z3 ⟨rfl,hb⟩
       replace rk:Hid _:=Ok.row' hb rk.out
       replace rg5:Hid _:=Ok.row' hb rg5.out
       replace rg6:Hid _:=Ok.row' hb rg6.out
       have Hz3:Hid (Ok w0 z3):=Hz2.out.step hb
       clear hb Hz2
       go_wp2_with fail
       go_ret
       exact ⟨rfl,Hz3.out⟩
      ·go_wp2_with fail
       refine (taken14 z1 _ (Ok.refl _)).mono ?_
       rintro e z3 ⟨rfl,hb⟩
       replace rk:Hid _:=Ok.row' hb rk.out
       replace rg5:Hid _:=Ok.row' hb rg5.out
       replace rg6:Hid _:=Ok.row' hb rg6.out
       have Hz3:Hid (Ok w0 z3):=Hz1.out.step hb
       clear hb Hz1
       go_wp2_with fail
       go_ret
       exact ⟨rfl,Hz3.out⟩
     ·go_wp2_with fail
      refine (taken14 wc _ (Ok.refl _)).mono ?_
      rintro e z1 ⟨rfl,hb⟩
      replace rk:Hid _:=Ok.row' hb rk.out
      replace rg5:Hid _:=Ok.row' hb rg5.out
      replace rg6:Hid _:=Ok.row' hb rg6.out
      have Hz1:Hid (Ok w0 z1):=Hwc.out.step hb
      clear hb Hwc
      go_wp2_with fail
      go_ret
      exact ⟨rfl,Hz1.out⟩
 ·have HO:Hid _:=ho
  clear ho
  obtain ⟨n,hn⟩:∃ t,t=botN:=⟨_,rfl⟩
  have HN:Hid _:=hn
  clear hn
  go_enter Tryz.func3,Tryz.ntmps3
  go_upto_region 1 with (fail)
  obtain ⟨W,hW⟩:∃ W,W=(w).alloc (.cells #[.bool a.2.2.2.2,.int .i64 a.1,.int .i64 a.2.1,.int .u64 (a.2.2.1:Int),.int .u64 (a.2.2.2.1:Int),.bool b.2.2.2.2,.int .i64 b.1,.int .i64 b.2.1,.int .u64 (b.2.2.1:Int),.int .u64 (b.2.2.2.1:Int),.bool c.2.2.2.2,.int .i64 c.1,.int .i64 c.2.1,.int .u64 (c.2.2.1:Int),.int .u64 (c.2.2.2.1:Int),.int .i64 kx,.int .i64 ky] 31):=⟨_,rfl⟩
  have rk:Hid (W.heap[w.heap.size]?=some (.cells #[.bool a.2.2.2.2,.int .i64 a.1,.int .i64 a.2.1,.int .u64 (a.2.2.1:Int),.int .u64 (a.2.2.2.1:Int),.bool b.2.2.2.2,.int .i64 b.1,.int .i64 b.2.1,.int .u64 (b.2.2.1:Int),.int .u64 (b.2.2.2.1:Int),.bool c.2.2.2.2,.int .i64 c.1,.int .i64 c.2.1,.int .u64 (c.2.2.1:Int),.int .u64 (c.2.2.2.1:Int),.int .i64 kx,.int .i64 ky] 31)):=by unfold Hid;rw [hW];exact jj
  have HW:Hid (Ok w0 W):=by unfold Hid;rw [hW];exact (by repeat (first | exact hok | refine Ok.alloc ?_ _ | refine Ok.draws ?_ _ | fail))
  rw [<-hW]
  clear hW
  obtain ⟨gk,egk⟩:∃ g,g=w.heap.size:=⟨_,rfl⟩
  rw [<-egk] at rk ⊢
  have lgk:w0.heap.size<=gk:=by omega
  clear egk
  have zz:=row17_facts (rk.out)
  have kk0:=zz.1
  have kk1:=zz.2.1
  have kk2:=zz.2.2.1
  have kk3:=zz.2.2.2.1
  have kk4:=zz.2.2.2.2.1
  have kk5:=zz.2.2.2.2.2.1
  have kk6:=zz.2.2.2.2.2.2.1
  have kk7:=zz.2.2.2.2.2.2.2.1
  have kk8:=zz.2.2.2.2.2.2.2.2.1
  have kk9:=zz.2.2.2.2.2.2.2.2.2.1
  have kk10:=zz.2.2.2.2.2.2.2.2.2.2.1
  have kk11:=zz.2.2.2.2.2.2.2.2.2.2.2.1
  have kk12:=zz.2.2.2.2.2.2.2.2.2.2.2.2.1
  have kk13:=zz.2.2.2.2.2.2.2.2.2.2.2.2.2.1
  have kk14:=zz.2.2.2.2.2.2.2.2.2.2.2.2.2.2.1
  have kk15:=zz.2.2.2.2.2.2.2.2.2.2.2.2.2.2.2.1
  have kk16:=zz.2.2.2.2.2.2.2.2.2.2.2.2.2.2.2.2
  clear zz
  go_wp2_with fail
  clear kk0 kk1 kk2 kk3 kk4 kk5 kk6 kk7 kk8 kk9 kk10 kk11 kk12 kk13 kk14 kk15 kk16
  refine (vSolve_bad op HO.out a b c HU.out.1 HU.out.2.1 HU.out.2.2.1 W _ (Ok.refl _)).mono ?_
  rintro e v1 ⟨rfl,hb⟩
  rw [<-HN.out]
  unfold nv
  replace rk:Hid _:=Ok.row' hb rk.out
  have Hv1:Hid (Ok w0 v1):=HW.out.step hb
  clear hb HW
  go_upto_region 2 with (fail)
  obtain ⟨v2,hv2⟩:∃ W,W=(v1.alloc (.cells #[.bool n.2.2.2.2,.int .i64 n.1,.int .i64 n.2.1,.int .u64 (n.2.2.1:Int),.int .u64 (n.2.2.2.1:Int)] 29)).alloc (.cells #[.bool n.2.2.2.2,.int .i64 n.1,.int .i64 n.2.1,.int .u64 (n.2.2.1:Int),.int .u64 (n.2.2.2.1:Int)] 29):=⟨_,rfl⟩
  have rg5:Hid (v2.heap[v1.heap.size]?=some (.cells #[.bool n.2.2.2.2,.int .i64 n.1,.int .i64 n.2.1,.int .u64 (n.2.2.1:Int),.int .u64 (n.2.2.2.1:Int)] 29)):=by unfold Hid;rw [hv2];exact jj
  have rg6:Hid (v2.heap[v1.heap.size+1]?=some (.cells #[.bool n.2.2.2.2,.int .i64 n.1,.int .i64 n.2.1,.int .u64 (n.2.2.1:Int),.int .u64 (n.2.2.2.1:Int)] 29)):=by unfold Hid;rw [hv2];exact jj
  have hO:Ok v1 v2:=by rw [hv2];exact ((Ok.refl _).alloc _).alloc _
  rw [<-hv2]
  obtain ⟨g6,eg6⟩:∃ g,g=v1.heap.size+1:=⟨_,rfl⟩
  rw [<-eg6] at rg6 ⊢
  obtain ⟨g5,eg5⟩:∃ g,g=v1.heap.size:=⟨_,rfl⟩
  rw [<-eg5] at rg5 ⊢
  clear hv2 eg5 eg6
  replace rk:Hid _:=Ok.row' hO rk.out
  have Hv2:Hid (Ok w0 v2):=Hv1.out.step hO
  clear hO Hv1
  go_wp2_with fail
  refine (taken14 v2 _ (Ok.refl _)).mono ?_
  rintro e v3 ⟨rfl,hb⟩
  replace rg5:Hid _:=Ok.row' hb rg5.out
  replace rg6:Hid _:=Ok.row' hb rg6.out
  have Hv3:Hid (Ok w0 v3):=Hv2.out.step hb
  clear hb Hv2
  have zz:=row5_facts (rg5.out)
  have fa0:=zz.1
  have fa1:=zz.2.1
  have fa2:=zz.2.2.1
  have fa3:=zz.2.2.2.1
  have fa4:=zz.2.2.2.2.1
  have fa5:=zz.2.2.2.2.2.1
  have fa6:=zz.2.2.2.2.2.2.1
  have fa7:=zz.2.2.2.2.2.2.2.1
  have fa8:=zz.2.2.2.2.2.2.2.2.1
  have fa9:=zz.2.2.2.2.2.2.2.2.2
  clear zz
  go_wp2_with fail
  clear fa0 fa1 fa2 fa3 fa4 fa5 fa6 fa7 fa8 fa9
  have RB:Hid (RawN n/\normN n=botN):=by rw [HN.out];exact ⟨bot_raw,by kernel_rfl⟩
  refine (nnorm_any n RB.out.1 v3 _ (Ok.refl _)).mono ?_
  rintro e v4 ⟨rfl,hb⟩
  rw [RB.out.2]
  rw [show nv botN=.agg #[.bool true,.int .i64 0,.int .i64 0,.int .u64 0,.int .u64 0] from rfl]
  replace rg5:Hid _:=Ok.row' hb rg5.out
  replace rg6:Hid _:=Ok.row' hb rg6.out
  have Hv4:Hid (Ok w0 v4):=Hv3.out.step hb
  clear hb Hv3
  have zz:=row5_facts (rg6.out)
  have fb0:=zz.1
  have fb1:=zz.2.1
  have fb2:=zz.2.2.1
  have fb3:=zz.2.2.2.1
  have fb4:=zz.2.2.2.2.1
  have fb5:=zz.2.2.2.2.2.1
  have fb6:=zz.2.2.2.2.2.2.1
  have fb7:=zz.2.2.2.2.2.2.2.1
  have fb8:=zz.2.2.2.2.2.2.2.2.1
  have fb9:=zz.2.2.2.2.2.2.2.2.2
  clear zz
  go_wp2_with fail
  clear fb0 fb1 fb2 fb3 fb4 fb5 fb6 fb7 fb8 fb9
  refine (nnorm_any n RB.out.1 v4 _ (Ok.refl _)).mono ?_
  rintro e v5 ⟨rfl,hb⟩
  rw [RB.out.2]
  rw [show nv botN=.agg #[.bool true,.int .i64 0,.int .i64 0,.int .u64 0,.int .u64 0] from rfl]
  replace rg5:Hid _:=Ok.row' hb rg5.out
  replace rg6:Hid _:=Ok.row' hb rg6.out
  have Hv5:Hid (Ok w0 v5):=Hv4.out.step hb
  clear hb Hv4
  go_wp2_with fail
  go_ret
  exact ⟨rfl,Hv5.out⟩
end Go.Proofs.YtnjmjnmhldhaoaaGreat
