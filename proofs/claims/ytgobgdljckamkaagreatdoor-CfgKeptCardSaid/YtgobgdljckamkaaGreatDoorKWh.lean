import Derived.Test.YtgobgdljckamkaaGreatDoorKWroot
import Derived.Test.YtgobgdljckamkaaGreatDoorKWg4
set_option linter.unusedVariables false
set_option linter.unusedSimpArgs false
set_option linter.unnecessarySimpa false
namespace Go.Proofs.YtgobgdljckamkaaGreatDoor
open Go.RowKit
def PB (w:World) (g:Nat):Prop:=∃ (a:Nat→Option Addr) (n c:Nat→Nat) (ns:List Nd) (m:Ls),Six w g (.slice (a 0) (n 0) (c 0)) (.slice (a 1) (n 1) (c 1)) (.slice (a 2) (n 2) (c 2)) (.slice (a 3) (n 3) (c 3)) (.slice (a 4) (n 4) (c 4)) (.slice (a 5) (n 5) (c 5))∧PG w (slO a n c) ns m
theorem TYg_ne:∀ k,k<6→TY k≠42:=by decide
theorem TYp_ne:∀ k,k<6→TY k≠27:=by decide
theorem PG.set {w:World} {u:Nat→Value} {ns:List Nd} {m:Ls} {g p:Nat} {v:Value} {cs:Array Value} (h:PG w u ns m) (hg:w.heap[g]?=some (.cells cs 27 (0,0))):PG (w.setCell ⟨g,p,none⟩ v) u ns m :=
 ⟨fun k hk=>zd2 (h.pr k hk) fun b hb=>Below.heap_setCell _ _ _ _ (fun e=>by
  obtain ⟨c1,f1,k1⟩:=zm0 (h.pr k hk) b hb
  have e2:b=g:=e
  subst e2
  rw [k1] at hg
  injection hg with hg
  injection hg with _ h3
  exact TYp_ne k hk h3),h.ok,h.rd,h.good⟩
theorem PB.put {w:World} {g:Nat} {a0 a1 a2 a3 a4 a5:Value} {a:Nat→Option Addr} {n c:Nat→Nat} {ns:List Nd} {m:Ls} (hx:Six w g a0 a1 a2 a3 a4 a5) (hp:PG w (slO a n c) ns m):PB ((((((w.setCell ⟨g,0,none⟩ (.slice (a 0) (n 0) (c 0))).setCell ⟨g,1,none⟩ (.slice (a 1) (n 1) (c 1))).setCell ⟨g,2,none⟩ (.slice (a 2) (n 2) (c 2))).setCell ⟨g,3,none⟩ (.slice (a 3) (n 3) (c 3))).setCell ⟨g,4,none⟩ (.slice (a 4) (n 4) (c 4))).setCell ⟨g,5,none⟩ (.slice (a 5) (n 5) (c 5))) g:=by
 have h0:=heap_setCell_same w g 0 _ 27 (.slice (a 0) (n 0) (c 0)) hx.heap
 have h1:=heap_setCell_same _ g 1 _ 27 (.slice (a 1) (n 1) (c 1)) h0
 have h2:=heap_setCell_same _ g 2 _ 27 (.slice (a 2) (n 2) (c 2)) h1
 have h3:=heap_setCell_same _ g 3 _ 27 (.slice (a 3) (n 3) (c 3)) h2
 have h4:=heap_setCell_same _ g 4 _ 27 (.slice (a 4) (n 4) (c 4)) h3
 exact ⟨a,n,c,ns,m,⟨zd4 hx.heap _ _ _ _ _ _⟩,(((((hp.set hx.heap).set h0).set h1).set h2).set h3).set h4⟩
theorem PB.other {w:World} {g h:Nat} {a0 a1 a2 a3 a4 a5:Value} (hx:Six w g a0 a1 a2 a3 a4 a5) (hne:h≠g) (hp:PB w h) (b0 b1 b2 b3 b4 b5:Value):PB ((((((w.setCell ⟨g,0,none⟩ b0).setCell ⟨g,1,none⟩ b1).setCell ⟨g,2,none⟩ b2).setCell ⟨g,3,none⟩ b3).setCell ⟨g,4,none⟩ b4).setCell ⟨g,5,none⟩ b5) h:=by
 obtain ⟨a,n,c,ns,m,hy,hp⟩:=hp
 have h0:=heap_setCell_same w g 0 _ 27 b0 hx.heap
 have h1:=heap_setCell_same _ g 1 _ 27 b1 h0
 have h2:=heap_setCell_same _ g 2 _ 27 b2 h1
 have h3:=heap_setCell_same _ g 3 _ 27 b3 h2
 have h4:=heap_setCell_same _ g 4 _ 27 b4 h3
 refine ⟨a,n,c,ns,m,hy.kept ?_,(((((hp.set hx.heap).set h0).set h1).set h2).set h3).set h4⟩
 rw [Below.heap_setCell _ _ _ _ hne,Below.heap_setCell _ _ _ _ hne,Below.heap_setCell _ _ _ _ hne,Below.heap_setCell _ _ _ _ hne,Below.heap_setCell _ _ _ _ hne,Below.heap_setCell _ _ _ _ hne]
set_option maxRecDepth 100000 in
set_option maxHeartbeats 16000000 in
theorem kept_any (s t:ByteArray) (w:World) (hR:RulesIs w) (hS:StepsIs w) :
  Calls Tryz.prog 4 #[.string s,.string t] w fun e w'=>e=.returned (.bool true)∧Ok w w':=by
 have HR:=hid hR
 have HS:=hid hS
 clear hR hS
 go_enter Tryz.func4,Tryz.ntmps4
 go_wp2_with fail
 refine (yk7 w HR.out HS.out).mono ?_
 rintro e w1 ⟨rfl,hk1⟩
 have HK1:=hid hk1
 clear hk1
 go_wp2_with fail
 refine (yi9 s w1).mono ?_
 rintro e w2 ⟨a,n,c,b,rfl,HP,HT,HK2⟩
 go_upto_if 36 with (fail)
 obtain ⟨w3,gp,hw3,hgp,hnr0,hnk0⟩:=newB w2 (Obj.cells #[Value.slice (a 0) (n 0) (c 0),Value.slice (a 1) (n 1) (c 1),Value.slice (a 2) (n 2) (c 2),Value.slice (a 3) (n 3) (c 3),Value.slice (a 4) (n 4) (c 4),Value.slice (a 5) (n 5) (c 5)] 27)
 rw [←hw3,←hgp]
 have HK3:=hid hnk0
 have HX3:Hid (Six w3 gp (.slice (a 0) (n 0) (c 0)) (.slice (a 1) (n 1) (c 1)) (.slice (a 2) (n 2) (c 2)) (.slice (a 3) (n 3) (c 3)) (.slice (a 4) (n 4) (c 4)) (.slice (a 5) (n 5) (c 5))):=by unfold Hid;rw [hw3,hgp];exact Six.new _ _ _ _ _ _ _
 have HGP:=hid hgp
 clear hnr0 hnk0
 clear hw3 hgp
 go_cut [6,36] from 28 (fun s6 s36 u=>Hid (PB u gp∧Ok w1 u))
 case first =>
  cases b
  ·have l3:=HX3.out.lt
   obtain ⟨_,c0,c1,c2,c3,c4,c5⟩:=HX3.out.pc
   go_wp2_with fail
   refine (yi9 _ w3).mono ?_
   rintro e w4 ⟨a',n',c',b',rfl,HP',HT',HK4⟩
   have HB:Hid (b'=true):=by
    cases b' with
    | true=>rfl
    | false=>exact absurd (HT'.out rfl) (by rw [ByteArray.toList_eq];exact ym1)
   have HX4:=hid (HX3.out.below HK4.out)
   obtain ⟨l4,d0,d1,d2,d3,d4,d5⟩:=HX4.out.pc
   have f4:=HX4.out.warm
   clear c0 c1 c2 c3 c4 c5
   go_wp2_with fail
   go_meet
   case rel =>
    obtain ⟨ns,m,hp⟩:=(by first | exact HP'.out HB.out | simpa using HP'.out:∃ ns m,PG w4 (slO a' n' c') ns m)
    exact ⟨PB.put HX4.out hp,Ok.six ((HK2.out.step HK3.out).step HK4.out) (by have:=HGP.out;have:=HK2.out.le;omega) _ _ _ _ _ _⟩
  ·go_wp2_with fail
   go_meet
   case rel =>
    obtain ⟨ns,m,hp⟩:=(by first | exact HP.out rfl | simpa using HP.out:∃ ns m,PG w2 (slO a n c) ns m)
    exact ⟨⟨a,n,c,ns,m,HX3.out,hp.below HK3.out⟩,HK2.out.step HK3.out⟩
 have HW:Hid (PB wc gp∧Ok w1 wc):=hcut
 clear hcut HP HT HK2 HK3 HX3 HGP w2 w3 b a n c
 go_wp2_with fail
 refine (yi9 t wc).mono ?_
 rintro e w5 ⟨a,n,c,b,rfl,HP,HT,HK5⟩
 go_upto_if 47 with (fail)
 obtain ⟨w6,gq,hw6,hgq,hnr1,hnk1⟩:=newB w5 (Obj.cells #[Value.slice (a 0) (n 0) (c 0),Value.slice (a 1) (n 1) (c 1),Value.slice (a 2) (n 2) (c 2),Value.slice (a 3) (n 3) (c 3),Value.slice (a 4) (n 4) (c 4),Value.slice (a 5) (n 5) (c 5)] 27)
 rw [←hw6,←hgq]
 have HK6:=hid hnk1
 have HX6:Hid (Six w6 gq (.slice (a 0) (n 0) (c 0)) (.slice (a 1) (n 1) (c 1)) (.slice (a 2) (n 2) (c 2)) (.slice (a 3) (n 3) (c 3)) (.slice (a 4) (n 4) (c 4)) (.slice (a 5) (n 5) (c 5))):=by unfold Hid;rw [hw6,hgq];exact Six.new _ _ _ _ _ _ _
 have HGQ:=hid hgq
 clear hnr1 hnk1
 clear hw6 hgq
 obtain ⟨a',n',c',ns',m',hx',hp'⟩:=HW.out.1
 have HNQ:Hid (gp<gq):=by have h1:=hx'.lt;have h2:=HK5.out.le;have h3:=HGQ.out;show gp<gq;omega
 have HXP:=hid (hx'.below (HK5.out.step HK6.out))
 have HPP:=hid (hp'.below (HK5.out.step HK6.out))
 clear hx' hp'
 go_cut [8,47] from 28 (fun s8 s47 u=>Hid (PB u gp∧PB u gq∧Ok w1 u))
 case first =>
  cases b
  ·have l6:=HX6.out.lt
   have f6:=HX6.out.warm
   obtain ⟨_,c0,c1,c2,c3,c4,c5⟩:=HX6.out.pc
   obtain ⟨lp,d0,d1,d2,d3,d4,d5⟩:=HXP.out.pc
   go_wp2_with fail
   go_meet
   case rel =>
    refine ⟨PB.other HX6.out (by have:=HNQ.out;omega) ⟨a',n',c',ns',m',HXP.out,HPP.out⟩ _ _ _ _ _ _,PB.put HX6.out HPP.out,Ok.six ((HW.out.2.step HK5.out).step HK6.out) (by have:=HGQ.out;have:=HK5.out.le;have:=HW.out.2.le;omega) _ _ _ _ _ _⟩
  ·go_wp2_with fail
   go_meet
   case rel =>
    obtain ⟨ns,m,hp⟩:=(by first | exact HP.out rfl | simpa using HP.out:∃ ns m,PG w5 (slO a n c) ns m)
    exact ⟨⟨a',n',c',ns',m',HXP.out,HPP.out⟩,⟨a,n,c,ns,m,HX6.out,hp.below HK6.out⟩,(HW.out.2.step HK5.out).step HK6.out⟩
 have HV:Hid (PB wc gp∧PB wc gq∧Ok w1 wc):=hcut
 clear hcut HW HP HT HK5 HK6 HX6 HGQ HXP HPP w5 w6 b a n c a' n' c' ns' m'
 obtain ⟨a,n,c,ns,m,hx,hp⟩:=HV.out.1
 obtain ⟨a',n',c',ns',m',hx',hp'⟩:=HV.out.2.1
 have HXP:=hid hx
 have HPP:=hid hp
 have HXQ:=hid hx'
 have HPQ:=hid hp'
 have HKW:=hid HV.out.2.2
 clear hx hp hx' hp' HV
 obtain ⟨lp,d0,d1,d2,d3,d4,d5⟩:=HXP.out.pc
 obtain ⟨lq,d0',d1',d2',d3',d4',d5'⟩:=HXQ.out.pc
 go_wp2_with fail
 obtain ⟨w3,gs4,hw3,hgs4,hnr2,hnk2⟩:=newB wc (Obj.cells #[Value.slice (a 0) (n 0) (c 0),Value.slice (a 1) (n 1) (c 1),Value.slice (a 2) (n 2) (c 2),Value.slice (a 3) (n 3) (c 3),Value.slice (a 4) (n 4) (c 4),Value.slice (a 5) (n 5) (c 5),Value.slice (a 0) (n 0) (c 0),Value.slice (a 1) (n 1) (c 1),Value.slice (a 2) (n 2) (c 2),Value.slice (a 3) (n 3) (c 3),Value.slice (a 4) (n 4) (c 4),Value.slice (a 5) (n 5) (c 5),Value.slice (a' 0) (n' 0) (c' 0),Value.slice (a' 1) (n' 1) (c' 1),Value.slice (a' 2) (n' 2) (c' 2),Value.slice (a' 3) (n' 3) (c' 3),Value.slice (a' 4) (n' 4) (c' 4),Value.slice (a' 5) (n' 5) (c' 5),Value.slice (a 0) (n 0) (c 0),Value.slice (a 1) (n 1) (c 1),Value.slice (a 2) (n 2) (c 2),Value.slice (a 3) (n 3) (c 3),Value.slice (a 4) (n 4) (c 4),Value.slice (a 5) (n 5) (c 5)] 27)
 rw [←hw3,←hgs4]
 have HK3:=hid hnk2
 have HPS:=hid hnr2
 clear hnr2 hnk2
 clear hw3 hgs4 lp d0 d1 d2 d3 d4 d5 lq d0' d1' d2' d3' d4' d5'
 have HSS:Hid (∀ Y,Ok wc Y→Six Y gp (.slice (a 0) (n 0) (c 0)) (.slice (a 1) (n 1) (c 1)) (.slice (a 2) (n 2) (c 2)) (.slice (a 3) (n 3) (c 3)) (.slice (a 4) (n 4) (c 4)) (.slice (a 5) (n 5) (c 5))∧Six Y gq (.slice (a' 0) (n' 0) (c' 0)) (.slice (a' 1) (n' 1) (c' 1)) (.slice (a' 2) (n' 2) (c' 2)) (.slice (a' 3) (n' 3) (c' 3)) (.slice (a' 4) (n' 4) (c' 4)) (.slice (a' 5) (n' 5) (c' 5))):=fun Y hY=>⟨HXP.out.below hY,HXQ.out.below hY⟩
 have S0:Six w3.drew gp (.slice (a 0) (n 0) (c 0)) (.slice (a 1) (n 1) (c 1)) (.slice (a 2) (n 2) (c 2)) (.slice (a 3) (n 3) (c 3)) (.slice (a 4) (n 4) (c 4)) (.slice (a 5) (n 5) (c 5))∧Six w3.drew gq (.slice (a' 0) (n' 0) (c' 0)) (.slice (a' 1) (n' 1) (c' 1)) (.slice (a' 2) (n' 2) (c' 2)) (.slice (a' 3) (n' 3) (c' 3)) (.slice (a' 4) (n' 4) (c' 4)) (.slice (a' 5) (n' 5) (c' 5)):=HSS.out _ (Below.drew HK3.out)
 refine zi2 (fun Y=>Six Y gp (.slice (a 0) (n 0) (c 0)) (.slice (a 1) (n 1) (c 1)) (.slice (a 2) (n 2) (c 2)) (.slice (a 3) (n 3) (c 3)) (.slice (a 4) (n 4) (c 4)) (.slice (a 5) (n 5) (c 5))∧Six Y gq (.slice (a' 0) (n' 0) (c' 0)) (.slice (a' 1) (n' 1) (c' 1)) (.slice (a' 2) (n' 2) (c' 2)) (.slice (a' 3) (n' 3) (c' 3)) (.slice (a' 4) (n' 4) (c' 4)) (.slice (a' 5) (n' 5) (c' 5))) 9 (by kernel_rfl) ?_
 refine zb4 (i:=0) (v:=.agg #[Value.slice (a 0) (n 0) (c 0),Value.slice (a 1) (n 1) (c 1),Value.slice (a 2) (n 2) (c 2),Value.slice (a 3) (n 3) (c 3),Value.slice (a 4) (n 4) (c 4),Value.slice (a 5) (n 5) (c 5)]) rfl (by kernel_rfl) (by kernel_rfl) (by kernel_rfl) (by kernel_rfl) (fun _ _ _ h=>h) S0 (Or.inl ⟨by rfl,?_⟩) ?_
 ·intro w' s0;obtain ⟨lp,d0,d1,d2,d3,d4,d5⟩:=s0.1.pc;clear s0;go_simp;try with_reducible rfl
 simp only [Act.put,List.setIfInBounds_toArray,List.set_cons_zero,List.set_cons_succ]
 refine zb4 (i:=2) (v:=.agg #[Value.slice (a 0) (n 0) (c 0),Value.slice (a 1) (n 1) (c 1),Value.slice (a 2) (n 2) (c 2),Value.slice (a 3) (n 3) (c 3),Value.slice (a 4) (n 4) (c 4),Value.slice (a 5) (n 5) (c 5)]) rfl (by kernel_rfl) (by kernel_rfl) (by kernel_rfl) (by kernel_rfl) (fun _ _ _ h=>h) S0 (Or.inl ⟨by rfl,?_⟩) ?_
 ·intro w' s0;obtain ⟨lp,d0,d1,d2,d3,d4,d5⟩:=s0.1.pc;clear s0;go_simp;try with_reducible rfl
 simp only [Act.put,List.setIfInBounds_toArray,List.set_cons_zero,List.set_cons_succ]
 refine zb4 (i:=4) (v:=.agg #[Value.slice (a' 0) (n' 0) (c' 0),Value.slice (a' 1) (n' 1) (c' 1),Value.slice (a' 2) (n' 2) (c' 2),Value.slice (a' 3) (n' 3) (c' 3),Value.slice (a' 4) (n' 4) (c' 4),Value.slice (a' 5) (n' 5) (c' 5)]) rfl (by kernel_rfl) (by kernel_rfl) (by kernel_rfl) (by kernel_rfl) (fun _ _ _ h=>h) S0 (Or.inl ⟨by rfl,?_⟩) ?_
 ·intro w' s0;obtain ⟨lp,d0,d1,d2,d3,d4,d5⟩:=s0.2.pc;clear s0;go_simp;try with_reducible rfl
 simp only [Act.put,List.setIfInBounds_toArray,List.set_cons_zero,List.set_cons_succ]
 refine zb4 (i:=6) (v:=.agg #[Value.slice (a 0) (n 0) (c 0),Value.slice (a 1) (n 1) (c 1),Value.slice (a 2) (n 2) (c 2),Value.slice (a 3) (n 3) (c 3),Value.slice (a 4) (n 4) (c 4),Value.slice (a 5) (n 5) (c 5)]) rfl (by kernel_rfl) (by kernel_rfl) (by kernel_rfl) (by kernel_rfl) (fun _ _ _ h=>h) S0 (Or.inl ⟨by rfl,?_⟩) ?_
 ·intro w' s0;obtain ⟨lp,d0,d1,d2,d3,d4,d5⟩:=s0.1.pc;clear s0;go_simp;try with_reducible rfl
 simp only [Act.put,List.setIfInBounds_toArray,List.set_cons_zero,List.set_cons_succ]
 refine zb1 (i:=1) (by kernel_rfl) rfl (fun K hK=>?_)
 go_simp
 refine (zM3 _ _ _ _ _ _ ns m _ ((HPP.out.pr.prog HPP.out.ok).below (Below.drew HK3.out)) (by have:=HPP.out.lens;omega)).mono ?_
 rintro e wA ⟨gA,dA,rfl,hcp,hk⟩
 have HKA:=hid (Ok.step (Below.drew HK3.out) hk)
 have HSA:=hid hk
 have HCA:=hid hcp
 clear hk hcp
 go_wp2_with fail
 refine hK.out _ _ (fun _=>HSS.out _ HKA.out) ?_
 clear hK K
 refine zb1 (i:=3) (by kernel_rfl) rfl (fun K hK=>?_)
 go_simp
 refine (zM3 _ _ _ _ _ _ ns m _ ((HPP.out.pr.prog HPP.out.ok).below HKA.out) (by have:=HPP.out.lens;omega)).mono ?_
 rintro e wB ⟨gB,dB,rfl,hcp,hk⟩
 have HKB:=hid (Ok.step HKA.out hk)
 have HSB:=hid hk
 have HCB:=hid hcp
 clear hk hcp
 go_wp2_with fail
 refine hK.out _ _ (fun _=>HSS.out _ HKB.out) ?_
 clear hK K
 refine zb1 (i:=5) (by kernel_rfl) rfl (fun K hK=>?_)
 go_simp
 refine (zM3 _ _ _ _ _ _ ns' m' _ ((HPQ.out.pr.prog HPQ.out.ok).below HKB.out) (by have:=HPQ.out.lens;omega)).mono ?_
 rintro e wC ⟨gC,dC,rfl,hcp,hk⟩
 have HKC:=hid (Ok.step HKB.out hk)
 have HSC:=hid hk
 have HCC:=hid hcp
 clear hk hcp
 go_wp2_with fail
 refine hK.out _ _ (fun _=>HSS.out _ HKC.out) ?_
 clear hK K
 refine zb1 (i:=7) (by kernel_rfl) rfl (fun K hK=>?_)
 go_simp
 refine (zM3 _ _ _ _ _ _ ns m _ ((HPP.out.pr.prog HPP.out.ok).below HKC.out) (by have:=HPP.out.lens;omega)).mono ?_
 rintro e wD ⟨gD,dD,rfl,hcp,hk⟩
 have HKD:=hid (Ok.step HKC.out hk)
 have HSD:=hid hk
 have HCD:=hid hcp
 clear hk hcp
 go_wp2_with fail
 refine hK.out _ _ (fun _=>HSS.out _ HKD.out) ?_
 clear hK K
 refine zb1 (i:=8) (by kernel_rfl) rfl (fun K hK=>?_)
 go_simp
 refine hK.out _ _ (fun _=>HSS.out _ (HKD.out.alloc _)) ?_
 clear hK K
 refine zb1 (i:=9) (by kernel_rfl) rfl (fun K hK=>?_)
 go_simp
 refine hK.out _ _ (fun h=>absurd rfl h) ?_
 clear hK K
 refine zi1 (by kernel_rfl) ?_ _
 simp only [cpV]
 go_wp2_with fail
 obtain ⟨wE,go4,hwE,hgo4,hnr3,hnk3⟩:=newB wD (Obj.cells #[Value.slice (some ⟨gA 0,0,none⟩) (nOf ns.length m 0) (dA 0),Value.slice (some ⟨gA 1,0,none⟩) (nOf ns.length m 1) (dA 1),Value.slice (some ⟨gA 2,0,none⟩) (nOf ns.length m 2) (dA 2),Value.slice (some ⟨gA 3,0,none⟩) (nOf ns.length m 3) (dA 3),Value.slice (some ⟨gA 4,0,none⟩) (nOf ns.length m 4) (dA 4),Value.slice (some ⟨gA 5,0,none⟩) (nOf ns.length m 5) (dA 5),Value.slice (some ⟨gA 0,0,none⟩) (nOf ns.length m 0) (dA 0),Value.slice (some ⟨gA 1,0,none⟩) (nOf ns.length m 1) (dA 1),Value.slice (some ⟨gA 2,0,none⟩) (nOf ns.length m 2) (dA 2),Value.slice (some ⟨gA 3,0,none⟩) (nOf ns.length m 3) (dA 3),Value.slice (some ⟨gA 4,0,none⟩) (nOf ns.length m 4) (dA 4),Value.slice (some ⟨gA 5,0,none⟩) (nOf ns.length m 5) (dA 5),Value.slice (some ⟨gC 0,0,none⟩) (nOf ns'.length m' 0) (dC 0),Value.slice (some ⟨gC 1,0,none⟩) (nOf ns'.length m' 1) (dC 1),Value.slice (some ⟨gC 2,0,none⟩) (nOf ns'.length m' 2) (dC 2),Value.slice (some ⟨gC 3,0,none⟩) (nOf ns'.length m' 3) (dC 3),Value.slice (some ⟨gC 4,0,none⟩) (nOf ns'.length m' 4) (dC 4),Value.slice (some ⟨gC 5,0,none⟩) (nOf ns'.length m' 5) (dC 5),Value.slice (some ⟨gA 0,0,none⟩) (nOf ns.length m 0) (dA 0),Value.slice (some ⟨gA 1,0,none⟩) (nOf ns.length m 1) (dA 1),Value.slice (some ⟨gA 2,0,none⟩) (nOf ns.length m 2) (dA 2),Value.slice (some ⟨gA 3,0,none⟩) (nOf ns.length m 3) (dA 3),Value.slice (some ⟨gA 4,0,none⟩) (nOf ns.length m 4) (dA 4),Value.slice (some ⟨gA 5,0,none⟩) (nOf ns.length m 5) (dA 5)] 27)
 rw [←hwE,←hgo4]
 have HKE:Hid (Ok wc wE):=by unfold Hid;rw [hwE];exact HKD.out.alloc _
 have HOW:=hid hnr3
 have HDE:=hid hnk3
 clear hnr3 hnk3
 clear hwE hgo4
 obtain ⟨pa,hpa⟩:∃ z:Nat→Nat→Option Addr,z=fun k=>if k=2 then a' else a:=⟨_,rfl⟩
 obtain ⟨pn,hpn⟩:∃ z:Nat→Nat→Nat,z=fun k=>if k=2 then n' else n:=⟨_,rfl⟩
 obtain ⟨pc,hpc⟩:∃ z:Nat→Nat→Nat,z=fun k=>if k=2 then c' else c:=⟨_,rfl⟩
 obtain ⟨og,hog⟩:∃ z:Nat→Nat→Nat,z=fun k=>if k=2 then gC else gA:=⟨_,rfl⟩
 obtain ⟨od,hod⟩:∃ z:Nat→Nat→Nat,z=fun k=>if k=2 then dC else dA:=⟨_,rfl⟩
 obtain ⟨NS,hNS⟩:∃ z:Nat→List Nd,z=fun k=>if k=2 then ns' else ns:=⟨_,rfl⟩
 obtain ⟨MS,hMS⟩:∃ z:Nat→Ls,z=fun k=>if k=2 then m' else m:=⟨_,rfl⟩
 have HK4:Hid (K4 wE gs4 go4 pa pn pc og od NS MS):=by
  have h3E:Ok w3 wE:=Ok.step (Ok.step (Ok.step (Ok.step (Ok.step (Below.drew (Ok.refl w3)) HSA.out) HSB.out) HSC.out) HSD.out) HDE.out
  have hps:=Ok.row' h3E HPS.out
  have hAE:Ok wA wE:=((HSB.out.step HSC.out).step HSD.out).step HDE.out
  have hCE:Ok wC wE:=HSD.out.step HDE.out
  subst hpa hpn hpc hog hod hNS hMS
  refine ⟨?_,?_,za3 hps,za3 HOW.out,?_,?_,?_⟩
  ·intro k hk q hq
   obtain rfl | rfl | rfl | rfl:k=0∨k=1∨k=2∨k=3:=by omega
   all_goals obtain rfl | rfl | rfl | rfl | rfl | rfl:q=0∨q=1∨q=2∨q=3∨q=4∨q=5:=by omega
   all_goals exact (cell_of_row _ _ _ _ _ _ hps).trans (by simp)
  ·intro k hk q hq
   obtain rfl | rfl | rfl | rfl:k=0∨k=1∨k=2∨k=3:=by omega
   all_goals obtain rfl | rfl | rfl | rfl | rfl | rfl:q=0∨q=1∨q=2∨q=3∨q=4∨q=5:=by omega
   all_goals exact (cell_of_row _ _ _ _ _ _ HOW.out).trans (by simp)
  ·intro k hk
   by_cases e:k=2
   ·subst e;simp only [if_true];exact HPQ.out.below HKE.out
   ·simp only [if_neg e];exact HPP.out.below HKE.out
  ·intro k hk
   by_cases e:k=2
   ·subst e;simp only [if_true];exact fun j hj=>za1 (za7 (HCC.out.row j hj) (by omega)) hCE
   ·simp only [if_neg e];exact fun j hj=>za1 (za7 (HCA.out.row j hj) (by omega)) hAE
  ·intro k hk
   by_cases e:k=2
   ·subst e;simp only [if_true];exact HCC.out.up
   ·simp only [if_neg e];exact HCA.out.up
 have HRE:Hid (RulesIs wE∧StepsIs wE):=by
  have hk:=(HK1.out.step HKW.out).step HKE.out
  exact ⟨HR.out.below hk,HS.out.below hk⟩
 have HKZ:=hid ((HK1.out.step HKW.out).step HKE.out)
 have HRC:Hid (RulesIs wc∧StepsIs wc∧Ok w wc):=⟨HR.out.below (HK1.out.step HKW.out),HS.out.below (HK1.out.step HKW.out),HK1.out.step HKW.out⟩
 have HCO:Hid (CRows wE wc.heap.size (og 0) (od 0) (NS 0) (MS 0)):=by
  have hAE:Ok wA wE:=((HSB.out.step HSC.out).step HSD.out).step HDE.out
  have hle:=(Below.drew HK3.out).size
  subst hog hod hNS hMS
  exact fun j hj=>za1 (za7 (HCA.out.row j hj) (by omega)) hAE
 have HGO:Hid (∃ cs,wE.heap[go4]?=some (.cells cs 27 (0,0))):=⟨_,HOW.out⟩
 have HP0:Hid (PG wc (slO a n c) (NS 0) (MS 0)):=by subst hNS hMS;exact HPP.out
 have HQ2:Hid (PG wc (slO a' n' c') (NS 2) (MS 2)):=by subst hNS hMS;exact HPQ.out
 have H02:Hid (NS 0=ns∧MS 0=m∧NS 2=ns'∧MS 2=m'):=by subst hNS hMS;exact ⟨rfl,rfl,rfl,rfl⟩
 clear hpa hpn hpc hog hod hNS hMS HK1 HKW HR HS HPS HOW HDE HKA HKB HKC HKD HSA HSB HSC HSD HCA HCB HCC HCD HSS S0 HK3
 obtain ⟨X,hX⟩:∃ z:Nat→Int,z=fun k=>((ptF (NS k) (NS k).length+1:Nat):Int):=⟨_,rfl⟩
 obtain ⟨Y,hY⟩:∃ z:Nat→Int,z=fun k=>((ptF (NS k) (NS k).length:Nat):Int):=⟨_,rfl⟩
 have HXY:Hid (∀ k,((ptF (NS k) (NS k).length+1:Nat):Int)=X k∧((ptF (NS k) (NS k).length:Nat):Int)=Y k):=fun k=>by rw [hX,hY];exact ⟨rfl,rfl⟩
 clear hX hY
 go_loopw [11,75] (fun t11 t75 wr=>∃ (k:Nat) (mv:Value) (U:Nat→Nat→Value),t11=mv∧t75=.int .i64 (k:Nat)∧k≤4∧Hid (KG wr wE.heap.size k U NS MS)∧Hid (wr.ownsRow wE.heap.size 42 9 mv k (moL U X Y k))∧Hid (Ok wE wr)) (fun _ t75 _=>4-(intOf t75).toNat)
 case atStart=>exact ⟨0,_,fun _ _=>undef,rfl,rfl,by omega,⟨fun i hi=>absurd hi (by omega),fun i j i' j' hi=>absurd hi (by omega)⟩,World.ownsRow_nil _ _ _ _,Ok.refl _⟩
 obtain ⟨k,mv,U,rfl,rfl,hk4,HKG,HMV,HOK⟩:=hrel
 obtain ⟨vo,vc,rfl⟩:=za0 HMV.out
 by_cases hlt:k<4
 ·have hlt':(k:Int)<4:=by omega
  have hkw:IntKind.i64.wrap ((k:Int)+1)=((k+1:Nat):Int):=zb0 (by omega)
  have HLT:=hid hlt
  have HKR:=hid (HK4.out.ok HOK.out)
  have o0:wr.cell? ⟨go4,k*6,none⟩=some (.slice (some ⟨og k 0,0,none⟩) (nOf (NS k).length (MS k) 0) (od k 0)):=HKR.out.ocell k HLT.out 0 (by decide)
  have o1:wr.cell? ⟨go4,k*6+1,none⟩=some (.slice (some ⟨og k 1,0,none⟩) (nOf (NS k).length (MS k) 1) (od k 1)):=HKR.out.ocell k HLT.out 1 (by decide)
  have o2:wr.cell? ⟨go4,k*6+2,none⟩=some (.slice (some ⟨og k 2,0,none⟩) (nOf (NS k).length (MS k) 2) (od k 2)):=HKR.out.ocell k HLT.out 2 (by decide)
  have o3:wr.cell? ⟨go4,k*6+3,none⟩=some (.slice (some ⟨og k 3,0,none⟩) (nOf (NS k).length (MS k) 3) (od k 3)):=HKR.out.ocell k HLT.out 3 (by decide)
  have o4:wr.cell? ⟨go4,k*6+4,none⟩=some (.slice (some ⟨og k 4,0,none⟩) (nOf (NS k).length (MS k) 4) (od k 4)):=HKR.out.ocell k HLT.out 4 (by decide)
  have o5:wr.cell? ⟨go4,k*6+5,none⟩=some (.slice (some ⟨og k 5,0,none⟩) (nOf (NS k).length (MS k) 5) (od k 5)):=HKR.out.ocell k HLT.out 5 (by decide)
  have lo:=HKR.out.lo
  go_wp2_with fail
  refine (yc5 _ _ _ _ _ _ (NS k) (MS k) wr (HRE.out.1.below HOK.out) (HRE.out.2.below HOK.out) (HKR.out.og k HLT.out) (HKR.out.pg k HLT.out).good).mono ?_
  rintro e wL ⟨u,ev,rfl,hap,hpr,hev,hkL⟩
  rw [←(HKR.out.pg k HLT.out).rd.2] at hpr
  have HNX:=hid (HKG.out.next HOK.out.le hkL hap hpr hev)
  have HOL:=hid (HOK.out.step hkL)
  have HML:=hid (za1 HMV.out hkL)
  have HPU:Hid (PrIs wL 0 u (NS k) (MS k)):=fun j hj=>za7 (hpr j hj) (Nat.zero_le _)
  have HEU:=hid (za7 hev (Nat.zero_le _))
  obtain ⟨eo,ec,rfl⟩:=za0 hev
  obtain ⟨x0,y0,e0⟩:=za0 (hpr 0 (by decide))
  obtain ⟨x1,y1,e1⟩:=za0 (hpr 1 (by decide))
  obtain ⟨x2,y2,e2⟩:=za0 (hpr 2 (by decide))
  obtain ⟨x3,y3,e3⟩:=za0 (hpr 3 (by decide))
  obtain ⟨x4,y4,e4⟩:=za0 (hpr 4 (by decide))
  obtain ⟨x5,y5,e5⟩:=za0 (hpr 5 (by decide))
  have HUE:=hid6 e0 e1 e2 e3 e4 e5
  rw [e0,e1,e2,e3,e4,e5,(HXY.out k).1,(HXY.out k).2]
  have HKL:=hid (HK4.out.ok HOL.out)
  have p0:wL.cell? ⟨gs4,k*6,none⟩=some (.slice (pa k 0) (pn k 0) (pc k 0)):=HKL.out.pcell k HLT.out 0 (by decide)
  have p1:wL.cell? ⟨gs4,k*6+1,none⟩=some (.slice (pa k 1) (pn k 1) (pc k 1)):=HKL.out.pcell k HLT.out 1 (by decide)
  have p2:wL.cell? ⟨gs4,k*6+2,none⟩=some (.slice (pa k 2) (pn k 2) (pc k 2)):=HKL.out.pcell k HLT.out 2 (by decide)
  have p3:wL.cell? ⟨gs4,k*6+3,none⟩=some (.slice (pa k 3) (pn k 3) (pc k 3)):=HKL.out.pcell k HLT.out 3 (by decide)
  have p4:wL.cell? ⟨gs4,k*6+4,none⟩=some (.slice (pa k 4) (pn k 4) (pc k 4)):=HKL.out.pcell k HLT.out 4 (by decide)
  have p5:wL.cell? ⟨gs4,k*6+5,none⟩=some (.slice (pa k 5) (pn k 5) (pc k 5)):=HKL.out.pcell k HLT.out 5 (by decide)
  have lp:=HKL.out.lp
  clear hap hpr hev hkL e0 e1 e2 e3 e4 e5 o0 o1 o2 o3 o4 o5 lo HKG HMV HOK HKR
  go_wp2_with fail
  obtain ⟨wM,gg,hwM,hgg,hnr4,hnk4⟩:=newB wL (Obj.cells #[Value.slice x0 (nOf (NS k).length (MS k) 0) y0,Value.slice x1 (nOf (NS k).length (MS k) 1) y1,Value.slice x2 (nOf (NS k).length (MS k) 2) y2,Value.slice x3 (nOf (NS k).length (MS k) 3) y3,Value.slice x4 (nOf (NS k).length (MS k) 4) y4,Value.slice x5 (nOf (NS k).length (MS k) 5) y5,Value.int IntKind.i64 (X k),Value.int IntKind.i64 (Y k),Value.slice eo (elF (NS k)).length ec] 42)
  rw [←hwM,←hgg]
  have HLM:=hid hnk4
  have HGM:=hid hnr4
  clear hnr4 hnk4
  clear hwM hgg p0 p1 p2 p3 p4 p5 lp
  have HLN:=hid ((HK4.out.pg k HLT.out).lens)
  refine (yl1 _ _ _ _ _ _ (NS k) (MS k) wM ((HKL.out.ok HLM.out).pr k HLT.out) (by have:=HLN.out;omega)).mono ?_
  rintro e wP ⟨gF,dF,rfl,hcp,hkP⟩
  have HCF:Hid (PrIs wP 0 (cpV (NS k) (MS k) gF dF) (NS k) (MS k)):=fun j hj=>za7 (hcp.pr j hj) (Nat.zero_le _)
  have HLP:=hid (HLM.out.step hkP)
  have HGP:Hid _:=Ok.row' hkP HGM.out
  clear hcp hkP
  simp only [cpV]
  go_wp2_with fail
  refine (yh9 _ _ _ _ _ _ (NS k) (MS k) wP (HCF.out.prog (HK4.out.pg k HLT.out).ok) (HK4.out.pg k HLT.out).good).mono ?_
  rintro e wQ ⟨fv,rfl,hfv,hkQ⟩
  have HLQ:=hid (HLP.out.step hkQ)
  have HGQ:Hid _:=Ok.row' hkQ HGP.out
  have HFQ:=hid (za7 hfv (Nat.zero_le _))
  have HCQ:Hid (PrIs wQ 0 (cpV (NS k) (MS k) gF dF) (NS k) (MS k)):=fun j hj=>za1 (HCF.out j hj) hkQ
  obtain ⟨fo,fc,rfl⟩:=za0 hfv
  rw [(HXY.out k).1,(HXY.out k).2]
  obtain ⟨r0,r1,r2,r3,r4,r5,r6,r7,r8⟩:=zu6 HGQ.out
  have lgg:=za3 HGQ.out
  clear hkQ hfv HGM HGP HCF
  simp only [cpV]
  go_wp2_with fail
  obtain ⟨wR,hwR⟩:∃ z,z=wQ.alloc (Obj.cells #[Value.slice (some ⟨gF 0,0,none⟩) (nOf (NS k).length (MS k) 0) (dF 0),Value.slice (some ⟨gF 1,0,none⟩) (nOf (NS k).length (MS k) 1) (dF 1),Value.slice (some ⟨gF 2,0,none⟩) (nOf (NS k).length (MS k) 2) (dF 2),Value.slice (some ⟨gF 3,0,none⟩) (nOf (NS k).length (MS k) 3) (dF 3),Value.slice (some ⟨gF 4,0,none⟩) (nOf (NS k).length (MS k) 4) (dF 4),Value.slice (some ⟨gF 5,0,none⟩) (nOf (NS k).length (MS k) 5) (dF 5),Value.int IntKind.i64 (X k),Value.int IntKind.i64 (Y k),Value.slice fo (elF (NS k)).length fc] 42):=⟨_,rfl⟩
  rw [←hwR]
  have HQR:Hid (Ok wQ wR):=by unfold Hid;rw [hwR];exact (Ok.refl _).alloc _
  clear hwR
  have HLR:=hid (HLQ.out.step HQR.out)
  refine (yl9 _ _ _ _ _ _ _ _ _ _ _ _ _ _ (X k) (Y k) (NS k) (MS k) (MS k) (elF (NS k)) wR (by have h9:PrIs wR 0 u (NS k) (MS k):=fun j hj=>za1 (HPU.out j hj) HLR.out;have:=h9.prog (HK4.out.pg k HLT.out).ok;obtain ⟨e0,e1,e2,e3,e4,e5⟩:=HUE.out;rw [e0,e1,e2,e3,e4,e5] at this;exact this) (by have h9:PrIs wR 0 (cpV (NS k) (MS k) gF dF) (NS k) (MS k):=fun j hj=>za1 (HCQ.out j hj) HQR.out;exact h9.prog (HK4.out.pg k HLT.out).ok) (zt1 _) (ym2 (za1 HEU.out HLR.out)) (ym2 (za1 HFQ.out HQR.out)) (by have:=(HK4.out.pg k HLT.out).edges;omega)).mono ?_
  rintro e wS ⟨rfl,hkS⟩
  have HLS:=hid (HLR.out.step hkS)
  have HGS:Hid _:=Ok.row' (HQR.out.step hkS) HGQ.out
  have HOS:=hid (HOL.out.step HLS.out)
  have HMS:=hid (za1 HML.out HLS.out)
  have HNS:=hid (HNX.out.ok HLS.out)
  have HN9:Hid ((nineU (gU u (.slice eo (elF (NS k)).length ec)) (X k) (Y k)).toList=[Value.slice x0 (nOf (NS k).length (MS k) 0) y0,Value.slice x1 (nOf (NS k).length (MS k) 1) y1,Value.slice x2 (nOf (NS k).length (MS k) 2) y2,Value.slice x3 (nOf (NS k).length (MS k) 3) y3,Value.slice x4 (nOf (NS k).length (MS k) 4) y4,Value.slice x5 (nOf (NS k).length (MS k) 5) y5,Value.int IntKind.i64 (X k),Value.int IntKind.i64 (Y k),Value.slice eo (elF (NS k)).length ec]):=by
   obtain ⟨e0,e1,e2,e3,e4,e5⟩:=HUE.out
   show [u 0,u 1,u 2,u 3,u 4,u 5,_,_,_]=_
   rw [e0,e1,e2,e3,e4,e5]
   rfl
  clear hkS r0 r1 r2 r3 r4 r5 r6 r7 r8 lgg HGQ HFQ HCQ HLR HQR HLQ HLP HLM HPU HEU HKL HML HNX
  obtain ⟨r0,r1,r2,r3,r4,r5,r6,r7,r8⟩:=zu6 HGS.out
  have lgg:=za3 HGS.out
  go_wp2_with (first | (at_builtin;refine zp6 rfl _ _ (by rfl) wE.heap.size (.slice vo k vc) k (moL U X Y k) (by rfl) (World.ownsRow.alloc HMS.out _) wS.heap.size [Value.slice x0 (nOf (NS k).length (MS k) 0) y0,Value.slice x1 (nOf (NS k).length (MS k) 1) y1,Value.slice x2 (nOf (NS k).length (MS k) 2) y2,Value.slice x3 (nOf (NS k).length (MS k) 3) y3,Value.slice x4 (nOf (NS k).length (MS k) 4) y4,Value.slice x5 (nOf (NS k).length (MS k) 5) y5,Value.int IntKind.i64 (X k),Value.int IntKind.i64 (Y k),Value.slice eo (elF (NS k)).length ec] (by rfl) (by exact za6 _ _) (by rfl) (by simp [Value.oneCell']) (by have:=HLT.out;omega) (by have:=HOS.out.le;simp;omega) ?_;intro v9 w9 k1 k2 k4;have HKN:Hid (KG w9 wE.heap.size (k+1) (fun i=>if i=k then gU u (.slice eo (elF (NS k)).length ec) else U i) NS MS):=(HNS.out.ok ((Ok.refl _).alloc _)).grow (World.ownsRow.alloc HMS.out _) k2;have HMN:Hid (w9.ownsRow wE.heap.size 42 9 v9 (k+1) (moL (fun i=>if i=k then gU u (.slice eo (elF (NS k)).length ec) else U i) X Y (k+1))):=(by unfold Hid;rw [yd5,HN9.out];exact k1);have HON:Hid (Ok wE w9):=Ok.grown (HOS.out.alloc _) k2 (fun b e=>(HMS.out.lt b e).1);obtain ⟨vo',vc',rfl⟩:=za0 k1;clear k1 k2 k4) | fail)
  go_roundw
  case rel=>exact ⟨k+1,_,_,rfl,rfl,by omega,HKN,HMN,HON⟩
  case measure=>simp only [intOf,Int.toNat_natCast];omega
 have hk:k=4:=by omega
 subst hk
 go_wp2_with fail
 simp only [show ((4:Nat):Int)=4 from rfl]
 obtain ⟨we,hwe⟩:∃ z,z=wr:=⟨_,rfl⟩
 rw [←hwe]
 rw [←hwe] at HKG HMV HOK
 obtain ⟨mg,mc,hmv,_⟩:=HMV.out.form (by decide)
 rw [hmv] at HMV ⊢
 clear hwe hmv
 obtain ⟨ga,gn,gc,hgf⟩:=KG.fit HKG.out HMV.out
 have HGF:=hid hgf
 have HKW:=hid (HK4.out.ok HOK.out)
 clear hgf HKG HMV
 go_loopw [106] (fun t wr=>∃ k:Nat,t=.int .i64 (k:Nat)∧k≤4∧Hid (Ok we wr)) (fun t _=>4-(intOf t).toNat)
 case atStart=>exact ⟨0,rfl,by omega,Ok.refl _⟩
 obtain ⟨k,rfl,hk4,HK⟩:=hrel
 by_cases hlt:k<4
 ·have hlt':(k:Int)<4:=by omega
  have hkw:IntKind.i64.wrap ((k:Int)+1)=((k+1:Nat):Int):=zb0 (by omega)
  have HLT:=hid hlt
  have HKR:=hid (HKW.out.ok HK.out)
  have p0:wr.cell? ⟨gs4,k*6,none⟩=some (.slice (pa k 0) (pn k 0) (pc k 0)):=HKR.out.pcell k HLT.out 0 (by decide)
  have p1:wr.cell? ⟨gs4,k*6+1,none⟩=some (.slice (pa k 1) (pn k 1) (pc k 1)):=HKR.out.pcell k HLT.out 1 (by decide)
  have p2:wr.cell? ⟨gs4,k*6+2,none⟩=some (.slice (pa k 2) (pn k 2) (pc k 2)):=HKR.out.pcell k HLT.out 2 (by decide)
  have p3:wr.cell? ⟨gs4,k*6+3,none⟩=some (.slice (pa k 3) (pn k 3) (pc k 3)):=HKR.out.pcell k HLT.out 3 (by decide)
  have p4:wr.cell? ⟨gs4,k*6+4,none⟩=some (.slice (pa k 4) (pn k 4) (pc k 4)):=HKR.out.pcell k HLT.out 4 (by decide)
  have p5:wr.cell? ⟨gs4,k*6+5,none⟩=some (.slice (pa k 5) (pn k 5) (pc k 5)):=HKR.out.pcell k HLT.out 5 (by decide)
  have lp:=HKR.out.lp
  have HLN:=hid ((HKW.out.pg k HLT.out).lens)
  go_wp2_with fail
  refine (yl1 _ _ _ _ _ _ (NS k) (MS k) wr (HKR.out.pr k HLT.out) (by have:=HLN.out;omega)).mono ?_
  rintro e wP ⟨gF,dF,rfl,hcp,hkP⟩
  have HCF:Hid (PrIs wP 0 (cpV (NS k) (MS k) gF dF) (NS k) (MS k)):=fun j hj=>za7 (hcp.pr j hj) (Nat.zero_le _)
  have HOP:=hid (HK.out.step hkP)
  clear hcp hkP p0 p1 p2 p3 p4 p5 lp
  simp only [cpV]
  go_wp2_with fail
  refine (yh9 _ _ _ _ _ _ (NS k) (MS k) wP (HCF.out.prog (HKW.out.pg k HLT.out).ok) (HKW.out.pg k HLT.out).good).mono ?_
  rintro e wQ ⟨fv,rfl,hfv,hkQ⟩
  have HOQ:=hid (HOP.out.step hkQ)
  have HFQ:=hid (za7 hfv (Nat.zero_le _))
  have HCQ:Hid (PrIs wQ 0 (cpV (NS k) (MS k) gF dF) (NS k) (MS k)):=fun j hj=>za1 (HCF.out j hj) hkQ
  obtain ⟨fo,fc,rfl⟩:=za0 hfv
  rw [(HXY.out k).1,(HXY.out k).2]
  have HGQ:=hid (HGF.out.ok HOQ.out)
  clear hkQ hfv HCF
  simp only [cpV]
  go_wp2_with fail
  obtain ⟨wR,gw,hwR,hgw,hnr5,hnk5⟩:=newB wQ (Obj.cells #[Value.slice (some ⟨gF 0,0,none⟩) (nOf (NS k).length (MS k) 0) (dF 0),Value.slice (some ⟨gF 1,0,none⟩) (nOf (NS k).length (MS k) 1) (dF 1),Value.slice (some ⟨gF 2,0,none⟩) (nOf (NS k).length (MS k) 2) (dF 2),Value.slice (some ⟨gF 3,0,none⟩) (nOf (NS k).length (MS k) 3) (dF 3),Value.slice (some ⟨gF 4,0,none⟩) (nOf (NS k).length (MS k) 4) (dF 4),Value.slice (some ⟨gF 5,0,none⟩) (nOf (NS k).length (MS k) 5) (dF 5),Value.int IntKind.i64 (X k),Value.int IntKind.i64 (Y k),Value.slice fo (elF (NS k)).length fc] 42)
  rw [←hwR,←hgw]
  have HQR:=hid hnk5
  have HWT:=hid hnr5
  clear hnr5 hnk5
  clear hwR hgw
  have HRC2:Hid (∀ W,Ok wR W→W.cell? ⟨mg,k*9,none⟩=some (.slice (ga k 0) (gn k 0) (gc k 0))∧W.cell? ⟨mg,k*9+1,none⟩=some (.slice (ga k 1) (gn k 1) (gc k 1))∧W.cell? ⟨mg,k*9+2,none⟩=some (.slice (ga k 2) (gn k 2) (gc k 2))∧W.cell? ⟨mg,k*9+3,none⟩=some (.slice (ga k 3) (gn k 3) (gc k 3))∧W.cell? ⟨mg,k*9+4,none⟩=some (.slice (ga k 4) (gn k 4) (gc k 4))∧W.cell? ⟨mg,k*9+5,none⟩=some (.slice (ga k 5) (gn k 5) (gc k 5))∧W.cell? ⟨mg,k*9+6,none⟩=some (.int .i64 (X k))∧W.cell? ⟨mg,k*9+7,none⟩=some (.int .i64 (Y k))∧W.cell? ⟨mg,k*9+8,none⟩=some (.slice (ga k 6) (gn k 6) (gc k 6))):=fun W hW=>by
   have hG:=HGQ.out.ok (HQR.out.step hW)
   exact ⟨hG.cs k HLT.out 0 (by decide),hG.cs k HLT.out 1 (by decide),hG.cs k HLT.out 2 (by decide),hG.cs k HLT.out 3 (by decide),hG.cs k HLT.out 4 (by decide),hG.cs k HLT.out 5 (by decide),hG.cs k HLT.out 6 (by decide),hG.cs k HLT.out 7 (by decide),hG.cs k HLT.out 8 (by decide)⟩
  refine wp_region_held_drew (S:=fun w'=>Ok wR w') (by kernel_rfl) (Below.drew (Ok.refl _)) (fun hHeld=>?_)
  refine wpAnyH_take (i:=0) (v:=?_) rfl (by kernel_rfl) (by kernel_rfl) (by kernel_rfl) (fun _ _ _ h=>h) (Or.inl ⟨by rfl,?_⟩) hHeld ?_
  rotate_left
  ·intro w hSw;(go_simp;try with_reducible rfl)
  (try simp only [Act.put,List.getElem_toArray,List.getElem_cons_succ,List.getElem_cons_zero,List.setIfInBounds_toArray,List.set_cons_zero,List.set_cons_succ])
  refine wpAnyH_take (i:=1) (v:=?_) rfl (by kernel_rfl) (by kernel_rfl) (by kernel_rfl) (fun _ _ _ h=>h) (Or.inl ⟨by rfl,?_⟩) hHeld ?_
  rotate_left
  ·intro w hSw;(go_simp;try with_reducible rfl)
  (try simp only [Act.put,List.getElem_toArray,List.getElem_cons_succ,List.getElem_cons_zero,List.setIfInBounds_toArray,List.set_cons_zero,List.set_cons_succ])
  refine wpAnyH_take (i:=2) (v:=?_) rfl (by kernel_rfl) (by kernel_rfl) (by kernel_rfl) (fun _ _ _ h=>h) (Or.inl ⟨by rfl,?_⟩) hHeld ?_
  rotate_left
  ·intro w hSw;(go_simp;try with_reducible rfl)
  (try simp only [Act.put,List.getElem_toArray,List.getElem_cons_succ,List.getElem_cons_zero,List.setIfInBounds_toArray,List.set_cons_zero,List.set_cons_succ])
  refine wpAnyH_take (i:=3) (v:=.agg #[Value.slice (ga k 0) (gn k 0) (gc k 0),Value.slice (ga k 1) (gn k 1) (gc k 1),Value.slice (ga k 2) (gn k 2) (gc k 2),Value.slice (ga k 3) (gn k 3) (gc k 3),Value.slice (ga k 4) (gn k 4) (gc k 4),Value.slice (ga k 5) (gn k 5) (gc k 5),Value.int .i64 (X k),Value.int .i64 (Y k),Value.slice (ga k 6) (gn k 6) (gc k 6)]) rfl (by kernel_rfl) (by kernel_rfl) (by kernel_rfl) (fun _ _ _ h=>h) (Or.inl ⟨by rfl,?_⟩) hHeld ?_
  ·intro w hSw;obtain ⟨r0,r1,r2,r3,r4,r5,r6,r7,r8⟩:=HRC2.out w hSw;have lgg:=(HGQ.out.ok (HQR.out.step hSw)).lt;(go_simp;try with_reducible rfl)
  (try simp only [Act.put,List.getElem_toArray,List.getElem_cons_succ,List.getElem_cons_zero,List.setIfInBounds_toArray,List.set_cons_zero,List.set_cons_succ])
  refine wpAnyH_take (i:=4) (v:=.agg #[Value.slice (some ⟨gF 0,0,none⟩) (nOf (NS k).length (MS k) 0) (dF 0),Value.slice (some ⟨gF 1,0,none⟩) (nOf (NS k).length (MS k) 1) (dF 1),Value.slice (some ⟨gF 2,0,none⟩) (nOf (NS k).length (MS k) 2) (dF 2),Value.slice (some ⟨gF 3,0,none⟩) (nOf (NS k).length (MS k) 3) (dF 3),Value.slice (some ⟨gF 4,0,none⟩) (nOf (NS k).length (MS k) 4) (dF 4),Value.slice (some ⟨gF 5,0,none⟩) (nOf (NS k).length (MS k) 5) (dF 5),Value.int .i64 (X k),Value.int .i64 (Y k),Value.slice fo (elF (NS k)).length fc]) rfl (by kernel_rfl) (by kernel_rfl) (by kernel_rfl) (fun _ _ _ h=>h) (Or.inl ⟨by rfl,?_⟩) hHeld ?_
  ·intro w hSw;obtain ⟨s0,s1,s2,s3,s4,s5,s6,s7,s8⟩:=zu6 (Ok.row' hSw HWT.out);have lgw:=za3 (Ok.row' hSw HWT.out);(go_simp;try with_reducible rfl)
  (try simp only [Act.put,List.getElem_toArray,List.getElem_cons_succ,List.getElem_cons_zero,List.setIfInBounds_toArray,List.set_cons_zero,List.set_cons_succ])
  refine wpAnyH_ready (rs:=[5]) (by kernel_rfl) (by simp) ?_
  refine AllReadyH.cons rfl (fun K hK=>?_) AllReadyH.nil
  go_simp
  refine (yl9 _ _ _ _ _ _ _ _ _ _ _ _ _ _ (X k) (Y k) (NS k) (MS k) (MS k) (elF (NS k)) _ (((HGQ.out.ok (HQR.out.step hHeld)).pr k HLT.out).prog (HKW.out.pg k HLT.out).ok) (by have h9:PrIs _ 0 (cpV (NS k) (MS k) gF dF) (NS k) (MS k):=fun j hj=>za1 (HCQ.out j hj) (HQR.out.step hHeld);exact h9.prog (HKW.out.pg k HLT.out).ok) (zt1 _) (ym2 ((HGQ.out.ok (HQR.out.step hHeld)).ed k HLT.out)) (ym2 (za1 HFQ.out (HQR.out.step hHeld))) (by have:=(HKW.out.pg k HLT.out).edges;omega)).mono ?_
  rintro e1 u1 ⟨rfl,hx⟩
  have hb:=hHeld.step hx
  dsimp only
  refine hK.out _ _ hb (fun hHeld=>?_)
  clear hK K hb
  (try simp only [Act.put,List.getElem_toArray,List.getElem_cons_succ,List.getElem_cons_zero,List.setIfInBounds_toArray,List.set_cons_zero,List.set_cons_succ])
  refine wpAnyH_take (i:=6) (v:=?_) rfl (by kernel_rfl) (by kernel_rfl) (by kernel_rfl) (fun _ _ _ h=>h) (Or.inl ⟨by rfl,?_⟩) hHeld ?_
  rotate_left
  ·intro w hSw;(go_simp;try with_reducible rfl)
  (try simp only [Act.put,List.getElem_toArray,List.getElem_cons_succ,List.getElem_cons_zero,List.setIfInBounds_toArray,List.set_cons_zero,List.set_cons_succ])
  refine wpAnyH_done (by kernel_rfl) ?_ _
  go_wp2_with fail
  have HOS:=hid ((HOQ.out.step HQR.out).step hHeld)
  clear hHeld
  go_roundw
  case rel=>exact ⟨k+1,rfl,by omega,HOS⟩
  case measure=>simp only [intOf,Int.toNat_natCast];omega
 have hk:k=4:=by omega
 subst hk
 obtain ⟨w7,hw7⟩:∃ z,z=wr:=⟨_,rfl⟩
 rw [←hw7]
 have HO7:Hid (Ok wE w7):=by unfold Hid;rw [hw7];exact HOK.out.step HK.out
 have HG7:Hid (GF w7 wE.heap.size mg ga gn gc X Y NS MS):=by unfold Hid;rw [hw7];exact HGF.out.ok HK.out
 have HNN:=hid (HGF.out.n_le HKW.out.pg)
 clear hw7 HK HGF HKW HOK
 go_wp2_with fail
 refine wp_region_held_drew (S:=fun w'=>Ok wE w') (by kernel_rfl) (Below.drew HO7.out) (fun hHeld=>?_)
 refine wpAnyH_take (i:=0) (v:=?_) rfl (by kernel_rfl) (by kernel_rfl) (by kernel_rfl) (fun _ _ _ h=>h) (Or.inl ⟨by rfl,?_⟩) hHeld ?_
 rotate_left
 ·intro w hSw;(go_simp;try with_reducible rfl)
 (try simp only [Act.put,List.getElem_toArray,List.getElem_cons_succ,List.getElem_cons_zero,List.setIfInBounds_toArray,List.set_cons_zero,List.set_cons_succ])
 refine wpAnyH_ready (rs:=[1]) (by kernel_rfl) (by simp) ?_
 refine AllReadyH.cons rfl (fun K hK=>?_) AllReadyH.nil
 go_simp
 refine (yk9 mg mc wE.heap.size ga gn gc X Y (xK NS MS) _ (HG7.out.ok (Below.drew (Ok.refl _))).rows HG7.out.ds (HG7.out.ok (Below.drew (Ok.refl _))).cs (HG7.out.ok (Below.drew (Ok.refl _))).lt HG7.out.ne HNN.out hHeld.le).mono ?_
 rintro e1 u1 ⟨rfl,hx⟩
 have hb:=Below.trans hHeld hx
 dsimp only
 refine hK.out _ _ hb (fun hHeld=>?_)
 clear hK K hb
 (try simp only [Act.put,List.getElem_toArray,List.getElem_cons_succ,List.getElem_cons_zero,List.setIfInBounds_toArray,List.set_cons_zero,List.set_cons_succ])
 refine wpAnyH_take (i:=2) (v:=?_) rfl (by kernel_rfl) (by kernel_rfl) (by kernel_rfl) (fun _ _ _ h=>h) (Or.inl ⟨by rfl,?_⟩) hHeld ?_
 rotate_left
 ·intro w hSw;(go_simp;try with_reducible rfl)
 (try simp only [Act.put,List.getElem_toArray,List.getElem_cons_succ,List.getElem_cons_zero,List.setIfInBounds_toArray,List.set_cons_zero,List.set_cons_succ])
 refine wpAnyH_take (i:=3) (v:=?_) rfl (by kernel_rfl) (by kernel_rfl) (by kernel_rfl) (fun _ _ _ h=>h) (Or.inl ⟨by rfl,?_⟩) hHeld ?_
 rotate_left
 ·intro w hSw;(go_simp;try with_reducible rfl)
 (try simp only [Act.put,List.getElem_toArray,List.getElem_cons_succ,List.getElem_cons_zero,List.setIfInBounds_toArray,List.set_cons_zero,List.set_cons_succ])
 refine wpAnyH_take (i:=4) (v:=?_) rfl (by kernel_rfl) (by kernel_rfl) (by kernel_rfl) (fun _ _ _ h=>h) (Or.inl ⟨by rfl,?_⟩) hHeld ?_
 rotate_left
 ·intro w hSw;(go_simp;try with_reducible rfl)
 (try simp only [Act.put,List.getElem_toArray,List.getElem_cons_succ,List.getElem_cons_zero,List.setIfInBounds_toArray,List.set_cons_zero,List.set_cons_succ])
 refine wpAnyH_take (i:=5) (v:=?_) rfl (by kernel_rfl) (by kernel_rfl) (by kernel_rfl) (fun _ _ _ h=>h) (Or.inl ⟨by rfl,?_⟩) hHeld ?_
 rotate_left
 ·intro w hSw;(go_simp;try with_reducible rfl)
 (try simp only [Act.put,List.getElem_toArray,List.getElem_cons_succ,List.getElem_cons_zero,List.setIfInBounds_toArray,List.set_cons_zero,List.set_cons_succ])
 refine wpAnyH_take (i:=6) (v:=.agg #[Value.slice (some ⟨og 0 0,0,none⟩) (nOf (NS 0).length (MS 0) 0) (od 0 0),Value.slice (some ⟨og 0 1,0,none⟩) (nOf (NS 0).length (MS 0) 1) (od 0 1),Value.slice (some ⟨og 0 2,0,none⟩) (nOf (NS 0).length (MS 0) 2) (od 0 2),Value.slice (some ⟨og 0 3,0,none⟩) (nOf (NS 0).length (MS 0) 3) (od 0 3),Value.slice (some ⟨og 0 4,0,none⟩) (nOf (NS 0).length (MS 0) 4) (od 0 4),Value.slice (some ⟨og 0 5,0,none⟩) (nOf (NS 0).length (MS 0) 5) (od 0 5)]) rfl (by kernel_rfl) (by kernel_rfl) (by kernel_rfl) (fun _ _ _ h=>h) (Or.inl ⟨by rfl,?_⟩) hHeld ?_
 ·intro w hSw;have o0:w.cell? ⟨go4,0,none⟩=some (.slice (some ⟨og 0 0,0,none⟩) (nOf (NS 0).length (MS 0) 0) (od 0 0)):=(HK4.out.ok hSw).ocell 0 (by decide) 0 (by decide);have o1:w.cell? ⟨go4,1,none⟩=some (.slice (some ⟨og 0 1,0,none⟩) (nOf (NS 0).length (MS 0) 1) (od 0 1)):=(HK4.out.ok hSw).ocell 0 (by decide) 1 (by decide);have o2:w.cell? ⟨go4,2,none⟩=some (.slice (some ⟨og 0 2,0,none⟩) (nOf (NS 0).length (MS 0) 2) (od 0 2)):=(HK4.out.ok hSw).ocell 0 (by decide) 2 (by decide);have o3:w.cell? ⟨go4,3,none⟩=some (.slice (some ⟨og 0 3,0,none⟩) (nOf (NS 0).length (MS 0) 3) (od 0 3)):=(HK4.out.ok hSw).ocell 0 (by decide) 3 (by decide);have o4:w.cell? ⟨go4,4,none⟩=some (.slice (some ⟨og 0 4,0,none⟩) (nOf (NS 0).length (MS 0) 4) (od 0 4)):=(HK4.out.ok hSw).ocell 0 (by decide) 4 (by decide);have o5:w.cell? ⟨go4,5,none⟩=some (.slice (some ⟨og 0 5,0,none⟩) (nOf (NS 0).length (MS 0) 5) (od 0 5)):=(HK4.out.ok hSw).ocell 0 (by decide) 5 (by decide);have lo:=(HK4.out.ok hSw).lo;(go_simp;try with_reducible rfl)
 (try simp only [Act.put,List.getElem_toArray,List.getElem_cons_succ,List.getElem_cons_zero,List.setIfInBounds_toArray,List.set_cons_zero,List.set_cons_succ])
 refine wpAnyH_take (i:=7) (v:=.agg #[Value.slice (a 0) (n 0) (c 0),Value.slice (a 1) (n 1) (c 1),Value.slice (a 2) (n 2) (c 2),Value.slice (a 3) (n 3) (c 3),Value.slice (a 4) (n 4) (c 4),Value.slice (a 5) (n 5) (c 5)]) rfl (by kernel_rfl) (by kernel_rfl) (by kernel_rfl) (fun _ _ _ h=>h) (Or.inl ⟨by rfl,?_⟩) hHeld ?_
 ·intro w hSw;obtain ⟨z1,c0,c1,c2,c3,c4,c5⟩:=(HXP.out.below (HKE.out.step hSw)).pc;(go_simp;try with_reducible rfl)
 (try simp only [Act.put,List.getElem_toArray,List.getElem_cons_succ,List.getElem_cons_zero,List.setIfInBounds_toArray,List.set_cons_zero,List.set_cons_succ])
 refine wpAnyH_ready (rs:=[8]) (by kernel_rfl) (by simp) ?_
 refine AllReadyH.cons rfl (fun K hK=>?_) AllReadyH.nil
 go_simp
 refine (yl6 _ _ _ _ _ _ (NS 0) (MS 0) (og 0) (od 0) _ (((HK4.out.ok hHeld).cr 0 (by decide)).cp (Nat.le_refl _) (HK4.out.up 0 (by decide))) ((HP0.out.below (HKE.out.step hHeld)).pr.prog HP0.out.ok) HP0.out.ok (by have:=HP0.out.lens;omega)).mono ?_
 rintro e1 u2 ⟨rfl,hx⟩
 have hb:=hHeld.step hx
 dsimp only
 refine hK.out _ _ hb (fun hHeld=>?_)
 clear hK K hb
 (try simp only [Act.put,List.getElem_toArray,List.getElem_cons_succ,List.getElem_cons_zero,List.setIfInBounds_toArray,List.set_cons_zero,List.set_cons_succ])
 refine wpAnyH_take (i:=9) (v:=?_) rfl (by kernel_rfl) (by kernel_rfl) (by kernel_rfl) (fun _ _ _ h=>h) (Or.inl ⟨by rfl,?_⟩) hHeld ?_
 rotate_left
 ·intro w hSw;(go_simp;try with_reducible rfl)
 (try simp only [Act.put,List.getElem_toArray,List.getElem_cons_succ,List.getElem_cons_zero,List.setIfInBounds_toArray,List.set_cons_zero,List.set_cons_succ])
 refine wpAnyH_take (i:=10) (v:=?_) rfl (by kernel_rfl) (by kernel_rfl) (by kernel_rfl) (fun _ _ _ h=>h) (Or.inl ⟨by rfl,?_⟩) hHeld ?_
 rotate_left
 ·intro w hSw;(go_simp;try with_reducible rfl)
 (try simp only [Act.put,List.getElem_toArray,List.getElem_cons_succ,List.getElem_cons_zero,List.setIfInBounds_toArray,List.set_cons_zero,List.set_cons_succ])
 refine wpAnyH_take (i:=11) (v:=?_) rfl (by kernel_rfl) (by kernel_rfl) (by kernel_rfl) (fun _ _ _ h=>h) (Or.inl ⟨by rfl,?_⟩) hHeld ?_
 rotate_left
 ·intro w hSw;(go_simp;try with_reducible rfl)
 (try simp only [Act.put,List.getElem_toArray,List.getElem_cons_succ,List.getElem_cons_zero,List.setIfInBounds_toArray,List.set_cons_zero,List.set_cons_succ])
 refine wpAnyH_take (i:=12) (v:=?_) rfl (by kernel_rfl) (by kernel_rfl) (by kernel_rfl) (fun _ _ _ h=>h) (Or.inl ⟨by rfl,?_⟩) hHeld ?_
 rotate_left
 ·intro w hSw;(go_simp;try with_reducible rfl)
 (try simp only [Act.put,List.getElem_toArray,List.getElem_cons_succ,List.getElem_cons_zero,List.setIfInBounds_toArray,List.set_cons_zero,List.set_cons_succ])
 refine wpAnyH_take (i:=13) (v:=?_) rfl (by kernel_rfl) (by kernel_rfl) (by kernel_rfl) (fun _ _ _ h=>h) (Or.inl ⟨by rfl,?_⟩) hHeld ?_
 rotate_left
 ·intro w hSw;(go_simp;try with_reducible rfl)
 (try simp only [Act.put,List.getElem_toArray,List.getElem_cons_succ,List.getElem_cons_zero,List.setIfInBounds_toArray,List.set_cons_zero,List.set_cons_succ])
 refine wpAnyH_take (i:=14) (v:=.agg #[Value.slice (some ⟨og 2 0,0,none⟩) (nOf (NS 2).length (MS 2) 0) (od 2 0),Value.slice (some ⟨og 2 1,0,none⟩) (nOf (NS 2).length (MS 2) 1) (od 2 1),Value.slice (some ⟨og 2 2,0,none⟩) (nOf (NS 2).length (MS 2) 2) (od 2 2),Value.slice (some ⟨og 2 3,0,none⟩) (nOf (NS 2).length (MS 2) 3) (od 2 3),Value.slice (some ⟨og 2 4,0,none⟩) (nOf (NS 2).length (MS 2) 4) (od 2 4),Value.slice (some ⟨og 2 5,0,none⟩) (nOf (NS 2).length (MS 2) 5) (od 2 5)]) rfl (by kernel_rfl) (by kernel_rfl) (by kernel_rfl) (fun _ _ _ h=>h) (Or.inl ⟨by rfl,?_⟩) hHeld ?_
 ·intro w hSw;have o0:w.cell? ⟨go4,12,none⟩=some (.slice (some ⟨og 2 0,0,none⟩) (nOf (NS 2).length (MS 2) 0) (od 2 0)):=(HK4.out.ok hSw).ocell 2 (by decide) 0 (by decide);have o1:w.cell? ⟨go4,13,none⟩=some (.slice (some ⟨og 2 1,0,none⟩) (nOf (NS 2).length (MS 2) 1) (od 2 1)):=(HK4.out.ok hSw).ocell 2 (by decide) 1 (by decide);have o2:w.cell? ⟨go4,14,none⟩=some (.slice (some ⟨og 2 2,0,none⟩) (nOf (NS 2).length (MS 2) 2) (od 2 2)):=(HK4.out.ok hSw).ocell 2 (by decide) 2 (by decide);have o3:w.cell? ⟨go4,15,none⟩=some (.slice (some ⟨og 2 3,0,none⟩) (nOf (NS 2).length (MS 2) 3) (od 2 3)):=(HK4.out.ok hSw).ocell 2 (by decide) 3 (by decide);have o4:w.cell? ⟨go4,16,none⟩=some (.slice (some ⟨og 2 4,0,none⟩) (nOf (NS 2).length (MS 2) 4) (od 2 4)):=(HK4.out.ok hSw).ocell 2 (by decide) 4 (by decide);have o5:w.cell? ⟨go4,17,none⟩=some (.slice (some ⟨og 2 5,0,none⟩) (nOf (NS 2).length (MS 2) 5) (od 2 5)):=(HK4.out.ok hSw).ocell 2 (by decide) 5 (by decide);have lo:=(HK4.out.ok hSw).lo;(go_simp;try with_reducible rfl)
 (try simp only [Act.put,List.getElem_toArray,List.getElem_cons_succ,List.getElem_cons_zero,List.setIfInBounds_toArray,List.set_cons_zero,List.set_cons_succ])
 refine wpAnyH_take (i:=15) (v:=.agg #[Value.slice (a' 0) (n' 0) (c' 0),Value.slice (a' 1) (n' 1) (c' 1),Value.slice (a' 2) (n' 2) (c' 2),Value.slice (a' 3) (n' 3) (c' 3),Value.slice (a' 4) (n' 4) (c' 4),Value.slice (a' 5) (n' 5) (c' 5)]) rfl (by kernel_rfl) (by kernel_rfl) (by kernel_rfl) (fun _ _ _ h=>h) (Or.inl ⟨by rfl,?_⟩) hHeld ?_
 ·intro w hSw;obtain ⟨z1,c0,c1,c2,c3,c4,c5⟩:=(HXQ.out.below (HKE.out.step hSw)).pc;(go_simp;try with_reducible rfl)
 (try simp only [Act.put,List.getElem_toArray,List.getElem_cons_succ,List.getElem_cons_zero,List.setIfInBounds_toArray,List.set_cons_zero,List.set_cons_succ])
 refine wpAnyH_ready (rs:=[16]) (by kernel_rfl) (by simp) ?_
 refine AllReadyH.cons rfl (fun K hK=>?_) AllReadyH.nil
 go_simp
 refine (yl6 _ _ _ _ _ _ (NS 2) (MS 2) (og 2) (od 2) _ (((HK4.out.ok hHeld).cr 2 (by decide)).cp (Nat.le_refl _) (HK4.out.up 2 (by decide))) ((HQ2.out.below (HKE.out.step hHeld)).pr.prog HQ2.out.ok) HQ2.out.ok (by have:=HQ2.out.lens;omega)).mono ?_
 rintro e1 u3 ⟨rfl,hx⟩
 have hb:=hHeld.step hx
 dsimp only
 refine hK.out _ _ hb (fun hHeld=>?_)
 clear hK K hb
 (try simp only [Act.put,List.getElem_toArray,List.getElem_cons_succ,List.getElem_cons_zero,List.setIfInBounds_toArray,List.set_cons_zero,List.set_cons_succ])
 refine wpAnyH_take (i:=17) (v:=?_) rfl (by kernel_rfl) (by kernel_rfl) (by kernel_rfl) (fun _ _ _ h=>h) (Or.inl ⟨by rfl,?_⟩) hHeld ?_
 rotate_left
 ·intro w hSw;(go_simp;try with_reducible rfl)
 (try simp only [Act.put,List.getElem_toArray,List.getElem_cons_succ,List.getElem_cons_zero,List.setIfInBounds_toArray,List.set_cons_zero,List.set_cons_succ])
 refine wpAnyH_take (i:=18) (v:=?_) rfl (by kernel_rfl) (by kernel_rfl) (by kernel_rfl) (fun _ _ _ h=>h) (Or.inl ⟨by rfl,?_⟩) hHeld ?_
 rotate_left
 ·intro w hSw;(go_simp;try with_reducible rfl)
 (try simp only [Act.put,List.getElem_toArray,List.getElem_cons_succ,List.getElem_cons_zero,List.setIfInBounds_toArray,List.set_cons_zero,List.set_cons_succ])
 refine wpAnyH_done (by kernel_rfl) ?_ _
 have HO8:=hid hHeld
 have HK8:=hid (HK4.out.ok HO8.out)
 clear hHeld HG7 HNN HO7
 have o0:u3.cell? ⟨go4,0,none⟩=some (.slice (some ⟨og 0 0,0,none⟩) (nOf (NS 0).length (MS 0) 0) (od 0 0)):=HK8.out.ocell 0 (by decide) 0 (by decide)
 have o1:u3.cell? ⟨go4,1,none⟩=some (.slice (some ⟨og 0 1,0,none⟩) (nOf (NS 0).length (MS 0) 1) (od 0 1)):=HK8.out.ocell 0 (by decide) 1 (by decide)
 have o2:u3.cell? ⟨go4,2,none⟩=some (.slice (some ⟨og 0 2,0,none⟩) (nOf (NS 0).length (MS 0) 2) (od 0 2)):=HK8.out.ocell 0 (by decide) 2 (by decide)
 have o3:u3.cell? ⟨go4,3,none⟩=some (.slice (some ⟨og 0 3,0,none⟩) (nOf (NS 0).length (MS 0) 3) (od 0 3)):=HK8.out.ocell 0 (by decide) 3 (by decide)
 have o4:u3.cell? ⟨go4,4,none⟩=some (.slice (some ⟨og 0 4,0,none⟩) (nOf (NS 0).length (MS 0) 4) (od 0 4)):=HK8.out.ocell 0 (by decide) 4 (by decide)
 have o5:u3.cell? ⟨go4,5,none⟩=some (.slice (some ⟨og 0 5,0,none⟩) (nOf (NS 0).length (MS 0) 5) (od 0 5)):=HK8.out.ocell 0 (by decide) 5 (by decide)
 have lo:=HK8.out.lo
 go_wp2_with fail
 refine (yc5 _ _ _ _ _ _ (NS 0) (MS 0) u3 (HRE.out.1.below HO8.out) (HRE.out.2.below HO8.out) (HK8.out.og 0 (by decide)) (HK8.out.pg 0 (by decide)).good).mono ?_
 rintro e wL ⟨u,ev,rfl,hap,hpr,hev,hkL⟩
 rw [←(HK8.out.pg 0 (by decide)).rd.2] at hpr
 have HOL:=hid (HO8.out.step hkL)
 have HPU:Hid (PrIs wL 0 u (NS 0) (MS 0)):=fun j hj=>za7 (hpr j hj) (Nat.zero_le _)
 have HEU:=hid (za7 hev (Nat.zero_le _))
 obtain ⟨eo,ec,rfl⟩:=za0 hev
 obtain ⟨x0,y0,e0⟩:=za0 (hpr 0 (by decide))
 obtain ⟨x1,y1,e1⟩:=za0 (hpr 1 (by decide))
 obtain ⟨x2,y2,e2⟩:=za0 (hpr 2 (by decide))
 obtain ⟨x3,y3,e3⟩:=za0 (hpr 3 (by decide))
 obtain ⟨x4,y4,e4⟩:=za0 (hpr 4 (by decide))
 obtain ⟨x5,y5,e5⟩:=za0 (hpr 5 (by decide))
 have HUE:=hid6 e0 e1 e2 e3 e4 e5
 rw [e0,e1,e2,e3,e4,e5,(HXY.out 0).1,(HXY.out 0).2]
 obtain ⟨lp,d0,d1,d2,d3,d4,d5⟩:=(HXP.out.below (HKE.out.step HOL.out)).pc
 clear hap hpr hev hkL e0 e1 e2 e3 e4 e5 o0 o1 o2 o3 o4 o5 lo
 go_wp2_with fail
 obtain ⟨wM,gg,hwM,hgg,hnr6,hnk6⟩:=newB wL (Obj.cells #[Value.slice x0 (nOf (NS 0).length (MS 0) 0) y0,Value.slice x1 (nOf (NS 0).length (MS 0) 1) y1,Value.slice x2 (nOf (NS 0).length (MS 0) 2) y2,Value.slice x3 (nOf (NS 0).length (MS 0) 3) y3,Value.slice x4 (nOf (NS 0).length (MS 0) 4) y4,Value.slice x5 (nOf (NS 0).length (MS 0) 5) y5,Value.int IntKind.i64 (X 0),Value.int IntKind.i64 (Y 0),Value.slice eo (elF (NS 0)).length ec] 42)
 rw [←hwM,←hgg]
 have HLM:=hid hnk6
 have HGM:=hid hnr6
 clear hnr6 hnk6
 clear hwM hgg lp d0 d1 d2 d3 d4 d5
 refine (yl1 _ _ _ _ _ _ (NS 0) (MS 0) wM ((HP0.out.below (HKE.out.step (HOL.out.step HLM.out))).pr.prog HP0.out.ok) (by have:=HP0.out.lens;omega)).mono ?_
 rintro e wP ⟨gF,dF,rfl,hcp,hkP⟩
 have HCF:Hid (PrIs wP 0 (cpV (NS 0) (MS 0) gF dF) (NS 0) (MS 0)):=fun j hj=>za7 (hcp.pr j hj) (Nat.zero_le _)
 have HLP:=hid (HLM.out.step hkP)
 have HGP:Hid _:=Ok.row' hkP HGM.out
 clear hcp hkP
 simp only [cpV]
 go_wp2_with fail
 refine (yh9 _ _ _ _ _ _ (NS 0) (MS 0) wP (HCF.out.prog HP0.out.ok) HP0.out.good).mono ?_
 rintro e wQ ⟨fv,rfl,hfv,hkQ⟩
 have HLQ:=hid (HLP.out.step hkQ)
 have HGQ:Hid _:=Ok.row' hkQ HGP.out
 have HFQ:=hid (za7 hfv (Nat.zero_le _))
 have HCQ:Hid (PrIs wQ 0 (cpV (NS 0) (MS 0) gF dF) (NS 0) (MS 0)):=fun j hj=>za1 (HCF.out j hj) hkQ
 obtain ⟨fo,fc,rfl⟩:=za0 hfv
 rw [(HXY.out 0).1,(HXY.out 0).2]
 obtain ⟨r0,r1,r2,r3,r4,r5,r6,r7,r8⟩:=zu6 HGQ.out
 have lgg:=za3 HGQ.out
 clear hkQ hfv HGM HGP HCF
 simp only [cpV]
 go_wp2_with fail
 obtain ⟨wR,gw,hwR,hgw,hnr7,hnk7⟩:=newB wQ (Obj.cells #[Value.slice (some ⟨gF 0,0,none⟩) (nOf (NS 0).length (MS 0) 0) (dF 0),Value.slice (some ⟨gF 1,0,none⟩) (nOf (NS 0).length (MS 0) 1) (dF 1),Value.slice (some ⟨gF 2,0,none⟩) (nOf (NS 0).length (MS 0) 2) (dF 2),Value.slice (some ⟨gF 3,0,none⟩) (nOf (NS 0).length (MS 0) 3) (dF 3),Value.slice (some ⟨gF 4,0,none⟩) (nOf (NS 0).length (MS 0) 4) (dF 4),Value.slice (some ⟨gF 5,0,none⟩) (nOf (NS 0).length (MS 0) 5) (dF 5),Value.int IntKind.i64 (X 0),Value.int IntKind.i64 (Y 0),Value.slice fo (elF (NS 0)).length fc] 42)
 rw [←hwR,←hgw]
 have HQR:=hid hnk7
 have HWW:=hid hnr7
 have HGW:Hid (wE.heap.size≤gw):=by have h1:=(HOL.out.step HLQ.out).le;unfold Hid;omega
 clear hnr7 hnk7
 clear hwR hgw
 have HLR:=hid (HLQ.out.step HQR.out)
 refine (yl9 _ _ _ _ _ _ _ _ _ _ _ _ _ _ (X 0) (Y 0) (NS 0) (MS 0) (MS 0) (elF (NS 0)) wR (by have h9:PrIs wR 0 u (NS 0) (MS 0):=fun j hj=>za1 (HPU.out j hj) HLR.out;have:=h9.prog HP0.out.ok;obtain ⟨e0,e1,e2,e3,e4,e5⟩:=HUE.out;rw [e0,e1,e2,e3,e4,e5] at this;exact this) (by have h9:PrIs wR 0 (cpV (NS 0) (MS 0) gF dF) (NS 0) (MS 0):=fun j hj=>za1 (HCQ.out j hj) HQR.out;exact h9.prog HP0.out.ok) (zt1 _) (ym2 (za1 HEU.out HLR.out)) (ym2 (za1 HFQ.out HQR.out)) (by have:=HP0.out.edges;omega)).mono ?_
 rintro e wS ⟨rfl,hkS⟩
 have HOS:=hid ((HOL.out.step HLR.out).step hkS)
 have HWS:=hid (Ok.row' hkS HWW.out)
 clear hkS r0 r1 r2 r3 r4 r5 r6 r7 r8 lgg HGQ HFQ HCQ HLR HQR HLQ HLP HLM HPU HEU HUE HOL HWW HK8 HO8
 have HKS:=hid (HK4.out.ok HOS.out)
 have o0:wS.cell? ⟨go4,0,none⟩=some (.slice (some ⟨og 0 0,0,none⟩) (nOf (NS 0).length (MS 0) 0) (od 0 0)):=HKS.out.ocell 0 (by decide) 0 (by decide)
 have o1:wS.cell? ⟨go4,1,none⟩=some (.slice (some ⟨og 0 1,0,none⟩) (nOf (NS 0).length (MS 0) 1) (od 0 1)):=HKS.out.ocell 0 (by decide) 1 (by decide)
 have o2:wS.cell? ⟨go4,2,none⟩=some (.slice (some ⟨og 0 2,0,none⟩) (nOf (NS 0).length (MS 0) 2) (od 0 2)):=HKS.out.ocell 0 (by decide) 2 (by decide)
 have o3:wS.cell? ⟨go4,3,none⟩=some (.slice (some ⟨og 0 3,0,none⟩) (nOf (NS 0).length (MS 0) 3) (od 0 3)):=HKS.out.ocell 0 (by decide) 3 (by decide)
 have o4:wS.cell? ⟨go4,4,none⟩=some (.slice (some ⟨og 0 4,0,none⟩) (nOf (NS 0).length (MS 0) 4) (od 0 4)):=HKS.out.ocell 0 (by decide) 4 (by decide)
 have o5:wS.cell? ⟨go4,5,none⟩=some (.slice (some ⟨og 0 5,0,none⟩) (nOf (NS 0).length (MS 0) 5) (od 0 5)):=HKS.out.ocell 0 (by decide) 5 (by decide)
 have lo:=HKS.out.lo
 go_wp2_with fail
 have HCS:=hid (HCO.out.ok HOS.out)
 have HLS:Hid ((NS 0).length≤300∧(MS 0).sy.length=(NS 0).length):=⟨HP0.out.lens.1,HP0.out.lens.2.1⟩
 refine (yl7 wc.heap.size (og 0) (od 0) (NS 0) (MS 0) wS HCS.out (HK4.out.up 0 (by decide)) (HKE.out.step HOS.out).le HLS.out.2 (by have:=HLS.out;omega)).mono ?_
 rintro e wT ⟨rfl,htu⟩
 obtain ⟨NT,hNT⟩:∃ z,z=tnL Go.Proofs.YtgobgdljckamkaaGreatDoor.x1 (MS 0).sc (NS 0) (NS 0).length:=⟨_,rfl⟩
 obtain ⟨MT,hMT⟩:∃ z,z=tnM (NS 0) (MS 0):=⟨_,rfl⟩
 have HTC:Hid (Ok wc wT):=Below.trans (HKE.out.step HOS.out) htu.bel
 have HPO:Hid (PrIs wT 0 (cpV (NS 0) (MS 0) (og 0) (od 0)) NT MT):=by
  unfold Hid
  rw [hNT,hMT]
  exact fun k hk=>za7 (htu.pr HLS.out.2 k hk) (Nat.zero_le _)
 have HNO:Hid (∀ n∈NT,n.Ok):=by unfold Hid;rw [hNT];exact yl5 HP0.out.ok HP0.out.names
 have HFR:Hid (∀ (b:Nat) (cs:Array Value) (t:TypeId),wS.heap[b]?=some (.cells cs t (0,0))→(∀ k,k<6→TY k≠t)→wT.heap[b]?=some (.cells cs t (0,0))):=fun b cs t hb ht=>by
  have key:∀ k,k<6→b≠og 0 k:=fun k hk e=>by
   obtain ⟨c1,f1,k1⟩:=zm0 (HCS.out k hk) (og 0 k) rfl
   rw [←e,hb] at k1
   injection k1 with k1
   injection k1 with _ k3
   exact ht k hk k3.symm
  rw [htu.fr b (za3 hb) (key 0 (by decide)) (key 3 (by decide))]
  exact hb
 have HGT:Hid (∃ cs,wS.heap[go4]?=some (.cells cs 27 (0,0))∧wT.heap[go4]?=some (.cells cs 27 (0,0))):=by
  obtain ⟨cs,hcs⟩:=HGO.out
  exact ⟨cs,Ok.row' HOS.out hcs,HFR.out _ _ _ (Ok.row' HOS.out hcs) TYp_ne⟩
 have HOT:Hid (∀ q,q<6→wT.cell? ⟨go4,q,none⟩=some (.slice (some ⟨og 0 q,0,none⟩) (nOf (NS 0).length (MS 0) q) (od 0 q))):=fun q hq=>by
  obtain ⟨cs,h1,h2⟩:=HGT.out
  refine (World.cell?_of_block (w:=wS) (a:=⟨go4,q,none⟩) (h2.trans h1.symm)).trans ?_
  have:=HKS.out.ocell 0 (by decide) q hq
  rw [Nat.zero_mul,Nat.zero_add] at this
  exact this
 have HLO:Hid (go4<wT.heap.size):=by obtain ⟨cs,_,h2⟩:=HGT.out;exact za3 h2
 have HWT:=hid (HFR.out _ _ _ HWS.out TYg_ne)
 clear htu o0 o1 o2 o3 o4 o5 lo HFR HGT HWS HKS HCS
 obtain ⟨lp,d0,d1,d2,d3,d4,d5⟩:=(HXP.out.below HTC.out).pc
 go_wp2_with fail
 refine (yl1 _ _ _ _ _ _ (NS 0) (MS 0) wT ((HP0.out.below HTC.out).pr.prog HP0.out.ok) (by have:=HP0.out.lens;omega)).mono ?_
 rintro e wO ⟨gO,dO,rfl,hcp,hkO⟩
 have HCP:=hid hcp
 have HTO:=hid hkO
 clear hcp hkO lp d0 d1 d2 d3 d4 d5
 simp only [cpV]
 go_wp2_with fail
 obtain ⟨wU,gt,hwU,hgt,hnr8,hnk8⟩:=newB wO (Obj.cells #[Value.slice (some ⟨gO 0,0,none⟩) (nOf (NS 0).length (MS 0) 0) (dO 0),Value.slice (some ⟨gO 1,0,none⟩) (nOf (NS 0).length (MS 0) 1) (dO 1),Value.slice (some ⟨gO 2,0,none⟩) (nOf (NS 0).length (MS 0) 2) (dO 2),Value.slice (some ⟨gO 3,0,none⟩) (nOf (NS 0).length (MS 0) 3) (dO 3),Value.slice (some ⟨gO 4,0,none⟩) (nOf (NS 0).length (MS 0) 4) (dO 4),Value.slice (some ⟨gO 5,0,none⟩) (nOf (NS 0).length (MS 0) 5) (dO 5)] 27)
 rw [←hwU,←hgt]
 have HOU:=hid hnk8
 have HXU:Hid (Six wU gt (.slice (some ⟨gO 0,0,none⟩) (nOf (NS 0).length (MS 0) 0) (dO 0)) (.slice (some ⟨gO 1,0,none⟩) (nOf (NS 0).length (MS 0) 1) (dO 1)) (.slice (some ⟨gO 2,0,none⟩) (nOf (NS 0).length (MS 0) 2) (dO 2)) (.slice (some ⟨gO 3,0,none⟩) (nOf (NS 0).length (MS 0) 3) (dO 3)) (.slice (some ⟨gO 4,0,none⟩) (nOf (NS 0).length (MS 0) 4) (dO 4)) (.slice (some ⟨gO 5,0,none⟩) (nOf (NS 0).length (MS 0) 5) (dO 5))):=by unfold Hid;rw [hwU,hgt];exact Six.new _ _ _ _ _ _ _
 have HGL:Hid (∀ k,k<6→gO k<gt):=fun k hk=>by rw [hgt];exact ((HCP.out.row k hk).lt (gO k) rfl).2
 clear hnr8 hnk8
 clear hwU hgt
 refine (yl7 wT.heap.size gO dO (NS 0) (MS 0) wU (fun k hk=>za1 (za7 (HCP.out.row k hk) (by omega)) HOU.out) HCP.out.up (HTO.out.step HOU.out).le HLS.out.2 (by have:=HLS.out;omega)).mono ?_
 rintro e wV ⟨rfl,htv⟩
 have HTV:Hid (Ok wT wV):=Below.trans (HTO.out.step HOU.out) htv.bel
 have HPV:Hid (PrIs wV wT.heap.size (cpV (NS 0) (MS 0) gO dO) NT MT):=by unfold Hid;rw [hNT,hMT];exact htv.pr HLS.out.2
 have HXV:=hid (HXU.out.kept (htv.fr gt HXU.out.lt (by have:=HGL.out 0 (by decide);omega) (by have:=HGL.out 3 (by decide);omega)))
 have HGV:=hid HXV.out.lt
 have HWV:=hid (Ok.row' HTV.out HWT.out)
 have HWL:=hid (za3 HWT.out)
 have HCV:=hid (HTC.out.step HTV.out)
 have HPW:Hid (PrIs wV 0 (cpV (NS 0) (MS 0) (og 0) (od 0)) NT MT):=fun k hk=>za1 (HPO.out k hk) HTV.out
 have o0:wV.cell? ⟨go4,0,none⟩=some (.slice (some ⟨og 0 0,0,none⟩) (nOf (NS 0).length (MS 0) 0) (od 0 0)):=HTV.out.cell (p:=⟨go4,0,none⟩) HLO.out (HOT.out 0 (by decide))
 have o1:wV.cell? ⟨go4,1,none⟩=some (.slice (some ⟨og 0 1,0,none⟩) (nOf (NS 0).length (MS 0) 1) (od 0 1)):=HTV.out.cell (p:=⟨go4,1,none⟩) HLO.out (HOT.out 1 (by decide))
 have o2:wV.cell? ⟨go4,2,none⟩=some (.slice (some ⟨og 0 2,0,none⟩) (nOf (NS 0).length (MS 0) 2) (od 0 2)):=HTV.out.cell (p:=⟨go4,2,none⟩) HLO.out (HOT.out 2 (by decide))
 have o3:wV.cell? ⟨go4,3,none⟩=some (.slice (some ⟨og 0 3,0,none⟩) (nOf (NS 0).length (MS 0) 3) (od 0 3)):=HTV.out.cell (p:=⟨go4,3,none⟩) HLO.out (HOT.out 3 (by decide))
 have o4:wV.cell? ⟨go4,4,none⟩=some (.slice (some ⟨og 0 4,0,none⟩) (nOf (NS 0).length (MS 0) 4) (od 0 4)):=HTV.out.cell (p:=⟨go4,4,none⟩) HLO.out (HOT.out 4 (by decide))
 have o5:wV.cell? ⟨go4,5,none⟩=some (.slice (some ⟨og 0 5,0,none⟩) (nOf (NS 0).length (MS 0) 5) (od 0 5)):=HTV.out.cell (p:=⟨go4,5,none⟩) HLO.out (HOT.out 5 (by decide))
 have lo:go4<wV.heap.size:=Nat.lt_of_lt_of_le HLO.out HTV.out.le
 clear htv hNT hMT HCP HTO HOU HXU HGL HOT HLO HWT HPO HOS
 go_wp2_with fail
 cases hgd:goodD NT MT with
 | false =>
  have HGD:=hid hgd
  clear hgd
  refine (zV1 _ _ _ _ _ _ NT MT wV (HRC.out.1.below HCV.out) (HPW.out.prog HNO.out) HGD.out).mono ?_
  rintro e wL ⟨rfl,hkL⟩
  have HVL:=hid hkL
  clear hkL o0 o1 o2 o3 o4 o5 lo
  obtain ⟨lt,t0,t1,t2,t3,t4,t5⟩:=(HXV.out.below HVL.out).pc
  go_wp2_with fail
  obtain ⟨wM,gh,hwM,hgh,hnr9,hnk9⟩:=newB wL (Obj.cells #[Value.slice none 0 0,Value.slice none 0 0,Value.slice none 0 0,Value.slice none 0 0,Value.slice none 0 0,Value.slice none 0 0,Value.int IntKind.i64 0,Value.int IntKind.i64 0,Value.slice none 0 0] 42)
  rw [←hwM,←hgh]
  have HLM:=hid hnk9
  have HHM:=hid hnr9
  have HNE:Hid (gw<gh):=by have h1:=HWL.out;have h2:=(HTV.out.step HVL.out).le;unfold Hid;omega
  clear hnr9 hnk9
  clear hwM hgh lt t0 t1 t2 t3 t4 t5
  have HPM:Hid (PrIs wM wT.heap.size (cpV (NS 0) (MS 0) gO dO) NT MT):=fun k hk=>za1 (HPV.out k hk) (HVL.out.step HLM.out)
  refine (yi8 _ _ _ _ _ _ NT MT wM (HPM.out.prog HNO.out) HGD.out).mono ?_
  rintro e wQ ⟨rfl,hkQ⟩
  have HMQ:=hid hkQ
  have HHQ:=hid (Ok.row' hkQ HHM.out)
  have HWQ:=hid (Ok.row' ((HVL.out.step HLM.out).step hkQ) HWV.out)
  clear hkQ
  obtain ⟨r0,r1,r2,r3,r4,r5,r6,r7,r8⟩:=zu6 HWQ.out
  have lgw:=za3 HWQ.out
  have fgw:=nine_warm HWQ.out
  simp only [cpV]
  go_upto_region 41 with (fail)
  obtain ⟨wN,hwN,hrN,hoN⟩:=nine_new HWQ.out (Value.slice none 0 0) (Value.slice none 0 0) (Value.slice none 0 0) (Value.slice none 0 0) (Value.slice none 0 0) (Value.slice none 0 0) (Value.int IntKind.i64 0) (Value.int IntKind.i64 0) (Value.slice none 0 0)
  have hwN':=hwN
  unfold nine at hwN'
  rw [←hwN']
  clear hwN' r0 r1 r2 r3 r4 r5 r6 r7 r8 lgw fgw
  have HWN:=hid hrN
  have HHN:=hid (hoN gh _ (by have:=HNE.out;omega) HHQ.out)
  clear hrN hoN
  have HCN:Hid (Ok wc wN):=by unfold Hid;rw [hwN];exact nine_ok (((HCV.out.step HVL.out).step HLM.out).step HMQ.out) (by have h1:=HGW.out;have h2:=HKE.out.le;omega) _ _ _ _ _ _ _ _ _
  clear hwN
  obtain ⟨r0,r1,r2,r3,r4,r5,r6,r7,r8⟩:=zu6 HWN.out
  have lgw:=za3 HWN.out
  obtain ⟨q0,q1,q2,q3,q4,q5,q6,q7,q8⟩:=zu6 HHN.out
  have lgh:=za3 HHN.out
  go_wp2_with fail
  refine (yl9 _ _ _ _ _ _ _ _ _ _ _ _ _ _ 0 0 [] ⟨[],[],[],[],[]⟩ ⟨[],[],[],[],[]⟩ [] wN (yl3 wN) (yl3 wN) rfl (ym0 wN) (ym0 wN) (by simp)).mono ?_
  rintro e wZ ⟨rfl,hkZ⟩
  have HKZ2:=hid (HRC.out.2.2.step (HCN.out.step hkZ))
  clear hkZ
  go_wp2_with fail
  go_ret
  exact ⟨rfl,HKZ2.out⟩
 | true =>
  have HGD:=hid hgd
  clear hgd
  refine (zM1 _ _ _ _ _ _ NT MT wV (HRC.out.1.below HCV.out) (HRC.out.2.1.below HCV.out) (HPW.out.prog HNO.out) HGD.out).mono ?_
  rintro e wL ⟨u,ev,rfl,hpr,hev,hkL⟩
  obtain ⟨MR,hMR⟩:∃ z,z=lsOf (readD NT rd0).2.2:=⟨_,rfl⟩
  have HSL:Hid (sameLs MR MT=true):=by unfold Hid;rw [hMR];exact yl2 HGD.out
  rw [←hMR] at hpr
  clear hMR
  have HPR:=hid hpr
  have HER:=hid hev
  obtain ⟨eo,ec,rfl⟩:=za0 hev
  obtain ⟨x0,y0,e0⟩:=za0 (hpr 0 (by decide))
  obtain ⟨x1,y1,e1⟩:=za0 (hpr 1 (by decide))
  obtain ⟨x2,y2,e2⟩:=za0 (hpr 2 (by decide))
  obtain ⟨x3,y3,e3⟩:=za0 (hpr 3 (by decide))
  obtain ⟨x4,y4,e4⟩:=za0 (hpr 4 (by decide))
  obtain ⟨x5,y5,e5⟩:=za0 (hpr 5 (by decide))
  have HUE:=hid6 e0 e1 e2 e3 e4 e5
  obtain ⟨XT,hXT⟩:∃ z:Int,z=((ptF NT NT.length+1:Nat):Int):=⟨_,rfl⟩
  obtain ⟨YT,hYT⟩:∃ z:Int,z=((ptF NT NT.length:Nat):Int):=⟨_,rfl⟩
  have HXT:Hid (((ptF NT NT.length+1:Nat):Int)=XT∧((ptF NT NT.length:Nat):Int)=YT):=⟨hXT.symm,hYT.symm⟩
  clear hXT hYT
  rw [e0,e1,e2,e3,e4,e5,HXT.out.1,HXT.out.2]
  clear e0 e1 e2 e3 e4 e5 hpr hev
  have HVL:=hid hkL
  clear hkL o0 o1 o2 o3 o4 o5 lo
  obtain ⟨lt,t0,t1,t2,t3,t4,t5⟩:=(HXV.out.below HVL.out).pc
  go_wp2_with fail
  obtain ⟨wM,gh,hwM,hgh,hnr10,hnk10⟩:=newB wL (Obj.cells #[Value.slice x0 (nOf NT.length MR 0) y0,Value.slice x1 (nOf NT.length MR 1) y1,Value.slice x2 (nOf NT.length MR 2) y2,Value.slice x3 (nOf NT.length MR 3) y3,Value.slice x4 (nOf NT.length MR 4) y4,Value.slice x5 (nOf NT.length MR 5) y5,Value.int IntKind.i64 XT,Value.int IntKind.i64 YT,Value.slice eo (elF NT).length ec] 42)
  rw [←hwM,←hgh]
  have HLM:=hid hnk10
  have HHM:=hid hnr10
  have HNE:Hid (gw<gh):=by have h1:=HWL.out;have h2:=(HTV.out.step HVL.out).le;unfold Hid;omega
  clear hnr10 hnk10
  clear hwM hgh lt t0 t1 t2 t3 t4 t5
  have HPM:Hid (PrIs wM wT.heap.size (cpV (NS 0) (MS 0) gO dO) NT MT):=fun k hk=>za1 (HPV.out k hk) (HVL.out.step HLM.out)
  refine (yh9 _ _ _ _ _ _ NT MT wM (HPM.out.prog HNO.out) HGD.out).mono ?_
  rintro e wQ ⟨fv,rfl,hfv,hkQ⟩
  have HFQ:=hid hfv
  obtain ⟨qo,qc,rfl⟩:=za0 hfv
  rw [HXT.out.1,HXT.out.2]
  clear hfv
  have HMQ:=hid hkQ
  have HHQ:=hid (Ok.row' hkQ HHM.out)
  have HWQ:=hid (Ok.row' ((HVL.out.step HLM.out).step hkQ) HWV.out)
  clear hkQ
  obtain ⟨r0,r1,r2,r3,r4,r5,r6,r7,r8⟩:=zu6 HWQ.out
  have lgw:=za3 HWQ.out
  have fgw:=nine_warm HWQ.out
  simp only [cpV]
  go_upto_region 41 with (fail)
  obtain ⟨wN,hwN,hrN,hoN⟩:=nine_new HWQ.out (Value.slice (some ⟨gO 0,0,none⟩) (nOf (NS 0).length (MS 0) 0) (dO 0)) (Value.slice (some ⟨gO 1,0,none⟩) (nOf (NS 0).length (MS 0) 1) (dO 1)) (Value.slice (some ⟨gO 2,0,none⟩) (nOf (NS 0).length (MS 0) 2) (dO 2)) (Value.slice (some ⟨gO 3,0,none⟩) (nOf (NS 0).length (MS 0) 3) (dO 3)) (Value.slice (some ⟨gO 4,0,none⟩) (nOf (NS 0).length (MS 0) 4) (dO 4)) (Value.slice (some ⟨gO 5,0,none⟩) (nOf (NS 0).length (MS 0) 5) (dO 5)) (Value.int IntKind.i64 XT) (Value.int IntKind.i64 YT) (Value.slice qo (elF NT).length qc)
  have hwN':=hwN
  unfold nine at hwN'
  rw [←hwN']
  clear hwN' r0 r1 r2 r3 r4 r5 r6 r7 r8 lgw fgw
  have HWN:=hid hrN
  have HHN:=hid (hoN gh _ (by have:=HNE.out;omega) HHQ.out)
  clear hrN hoN
  have HCN:Hid (Ok wc wN):=by unfold Hid;rw [hwN];exact nine_ok (((HCV.out.step HVL.out).step HLM.out).step HMQ.out) (by have h1:=HGW.out;have h2:=HKE.out.le;omega) _ _ _ _ _ _ _ _ _
  have HPN:Hid (PrIs wN 0 u NT MR):=by
   unfold Hid
   rw [hwN]
   exact fun k hk=>za7 (nine_own (za1 (HPR.out k hk) (HLM.out.step HMQ.out)) (by have h1:=HWL.out;have h2:=HTV.out.le;omega) _ _ _ _ _ _ _ _ _) (Nat.zero_le _)
  have HEN:Hid (wN.ownsRow 0 53 6 (.slice eo (elF NT).length ec) (elF NT).length (edL (elF NT))):=by
   unfold Hid
   rw [hwN]
   exact za7 (nine_own (za1 HER.out (HLM.out.step HMQ.out)) (by have h1:=HWL.out;have h2:=HTV.out.le;omega) _ _ _ _ _ _ _ _ _) (Nat.zero_le _)
  have HPT:Hid (PrIs wN 0 (cpV (NS 0) (MS 0) gO dO) NT MT):=by
   unfold Hid
   rw [hwN]
   exact fun k hk=>za7 (nine_own (za1 (HPM.out k hk) HMQ.out) HWL.out _ _ _ _ _ _ _ _ _) (Nat.zero_le _)
  have HFN:Hid (wN.ownsRow 0 53 6 (.slice qo (elF NT).length qc) (elF NT).length (edL (elF NT))):=by
   unfold Hid
   rw [hwN]
   exact za7 (nine_own HFQ.out (by have h1:=HWL.out;have h2:=((HTV.out.step HVL.out).step HLM.out).le;omega) _ _ _ _ _ _ _ _ _) (Nat.zero_le _)
  clear hwN
  obtain ⟨r0,r1,r2,r3,r4,r5,r6,r7,r8⟩:=zu6 HWN.out
  have lgw:=za3 HWN.out
  obtain ⟨q0,q1,q2,q3,q4,q5,q6,q7,q8⟩:=zu6 HHN.out
  have lgh:=za3 HHN.out
  go_wp2_with fail
  refine (yl9 _ _ _ _ _ _ _ _ _ _ _ _ _ _ XT YT NT MR MT (elF NT) wN (by have:=HPN.out.prog HNO.out;obtain ⟨e0,e1,e2,e3,e4,e5⟩:=HUE.out;rw [e0,e1,e2,e3,e4,e5] at this;exact this) (HPT.out.prog HNO.out) HSL.out (ym2 HEN.out) (ym2 HFN.out) (yj0 HGD.out)).mono ?_
  rintro e wZ ⟨rfl,hkZ⟩
  have HKZ2:=hid (HRC.out.2.2.step (HCN.out.step hkZ))
  clear hkZ
  go_wp2_with fail
  go_ret
  exact ⟨rfl,HKZ2.out⟩
end Go.Proofs.YtgobgdljckamkaaGreatDoor
