import Derived.Lib.SmallJoins
import Derived.Deep.DeepWitnessRowRef
import Derived.Test.YtihdgmiicfbbkaaGreatDoorKJl
import Derived.Test.YtihdgmiicfbbkaaGreatDoorKJz
import Derived.Test.YtihdgmiicfbbkaaGreatDoorKNh
import Derived.Test.YtihdgmiicfbbkaaGreatDoorKTh
set_option linter.all false
set_option maxRecDepth 100000
namespace Go.Proofs.YtihdgmiicfbbkaaGreatDoor
variable{w:World}
section
open Go.RowKit
set_option maxHeartbeats 8000000 in
theorem zO1 (v0 v1 v2 v3 v4 v5:Value) (ns:List Nd) (l:Ls) (w:World) (h:ProgIs w v0 v1 v2 v3 v4 v5 ns l) (hg:goodD ns l=true) :
  Calls Tryz.prog 17 #[.agg #[v0,v1,v2,v3,v4,v5]] w fun e w'=>∃ ev:Value,e=.returned (.tuple #[.agg #[v0,v1,v2,v3,v4,v5,nI ((ptF ns ns.length+1:Nat):Int),nI (ptF ns ns.length:Nat),ev],nI 0])/\w'.ownsRow w.heap.size 103 6 ev (elF ns).length (edL (elF ns))/\Ok w w':=by
 have h0:=zv7 hg;have HT:Hi (TreeOK ns):=zN8 (zq4 h0);have HLN:Hi (ns.length<=300):=(zj1 ns h0).2;have HG:=hid hg;have HP:=hid h;obtain ⟨_,x0,y0,rfl,_⟩:=h.nodes;obtain ⟨_,_,x1,y1,rfl,_⟩:=h.lists.sc.sl;obtain ⟨_,_,x2,y2,rfl,_⟩:=h.lists.ar.sl;obtain ⟨_,_,x3,y3,rfl,_⟩:=h.lists.sy.sl;obtain ⟨_,_,x4,y4,rfl,_⟩:=h.lists.si.sl;obtain ⟨_,_,x5,y5,rfl,_⟩:=h.lists.so.sl;clear h0 hg h;obtain ⟨pn,hpn⟩:=qq (ptF ns ns.length);have HPN:Hi (pn=ptF ns ns.length/\pn<=300):=⟨hpn,by rw [hpn];exact Nat.le_trans (zq9 _ _) HLN.o⟩;have hpw:IntKind.i64.wrap ((pn:Int)+1)=((pn+1:Nat):Int):=zb3 (by have:=HPN.o;omega);rw [<-hpn];clear hpn;go_enter Tryz.func17,Tryz.ntmps17;go_wp2_with fail;obtain ⟨w0,hw0⟩:=qq ((w.alloc (Obj.cells #[.slice x0 ns.length y0,.slice x1 l.sc.length y1,.slice x2 l.ar.length y2,.slice x3 l.sy.length y3,.slice x4 l.si.length y4,.slice x5 l.so.length y5] 30)).alloc (Obj.cells #[sZ,sZ,sZ,sZ,sZ,sZ,nI 0,nI 0,sZ] 62));obtain ⟨b1,hb1⟩:=qq (w.heap.size+1);obtain ⟨b0,hb0⟩:=qq (w.heap.size);rw [<-hw0,<-hb1,<-hb0];have HK0:Hi (Ok w w0):=by rw [hw0];exact ((Ok.refl w).alloc _).alloc _
 have HX0:Hi (Six w0 b0 (.slice x0 ns.length y0) (.slice x1 l.sc.length y1) (.slice x2 l.ar.length y2) (.slice x3 l.sy.length y3) (.slice x4 l.si.length y4) (.slice x5 l.so.length y5)):=by rw [hw0,hb0];exact (Six.new w _ _ _ _ _ _).below ((Ok.refl _).alloc _)
 have HG0:Hi (w0.heap[b1]?=some (.cells #[sZ,sZ,sZ,sZ,sZ,sZ,nI 0,nI 0,sZ] 62 (0,0))):=by rw [hw0,hb1];exact heap_at _ _ _ (by simp)
 have HB:Hi (b0=w.heap.size/\b1=w.heap.size+1):=⟨hb0,hb1⟩;clear hw0 hb1 hb0;refine (yj7 _ _ _ _ _ _ ns l w0 (HP.o.below HK0.o)).mono ?_;rintro e w1 ⟨rfl,hk1⟩;rw [HG.o];have HK1:Hi (Ok w w1):=HK0.o.step hk1;have HX1:Hi (Six w1 b0 (.slice x0 ns.length y0) (.slice x1 l.sc.length y1) (.slice x2 l.ar.length y2) (.slice x3 l.sy.length y3) (.slice x4 l.si.length y4) (.slice x5 l.so.length y5)):=HX0.o.below hk1;have HG1:Hi (w1.heap[b1]?=some (.cells #[sZ,sZ,sZ,sZ,sZ,sZ,nI 0,nI 0,sZ] 62 (0,0))):=Ok.row' hk1 HG0.o;clear hk1 HG0 HX0;obtain ⟨z1,c0,c1,c2,c3,c4,c5⟩:=HX1.o.pc;go_wp2_with fail;refine (zd2 _ ns ns.length _ ((HP.o.below HK1.o).nodes) (by have:=HLN.o;omega)).mono ?_;rintro e w2 ⟨rfl,hk2⟩;rw [<-HPN.o.1];have HK2:Hi (Ok w w2):=HK1.o.step hk2;have HX2:Hi (Six w2 b0 (.slice x0 ns.length y0) (.slice x1 l.sc.length y1) (.slice x2 l.ar.length y2) (.slice x3 l.sy.length y3) (.slice x4 l.si.length y4) (.slice x5 l.so.length y5)):=HX1.o.below hk2;have HG2:Hi (w2.heap[b1]?=some (.cells #[sZ,sZ,sZ,sZ,sZ,sZ,nI 0,nI 0,sZ] 62 (0,0))):=Ok.row' hk2 HG1.o;clear hk2 HG1 HX1 z1 c0 c1 c2 c3 c4 c5;obtain ⟨z1,c0,c1,c2,c3,c4,c5⟩:=HX2.o.pc;go_wp2_with fail;obtain ⟨bg,hbg⟩:=qq (w2.heap.size);obtain ⟨W,hW⟩:=qq (w2.alloc (Obj.cells #[.slice x0 ns.length y0,.slice x1 l.sc.length y1,.slice x2 l.ar.length y2,.slice x3 l.sy.length y3,.slice x4 l.si.length y4,.slice x5 l.so.length y5,nI ((pn:Int)+1),nI (pn:Nat),sZ] 62));rw [<-hW,<-hbg];have HBG:Hi (bg=w2.heap.size/\b1<bg/\b0<bg):=⟨hbg,by rw [hbg];exact za2 HG2.o,by have h1:=za2 HG2.o;have h2:=HB.o;omega⟩;have HWK:Hi (Ok w2 W):=by rw [hW];exact (Ok.refl _).alloc _
 have HWG:Hi (W.heap[bg]?=some (.cells #[Value.slice x0 ns.length y0,Value.slice x1 l.sc.length y1,Value.slice x2 l.ar.length y2,Value.slice x3 l.sy.length y3,Value.slice x4 l.si.length y4,Value.slice x5 l.so.length y5,nI ((pn:Int)+1),nI (pn:Nat),sZ] 62 (0,0))):=by rw [hW,hbg];exact za3 _ _
 clear hW hbg z1 c0 c1 c2 c3 c4 c5 hpw;go_loopw [6] (fun i wr=>∃ (k:Nat) (ev:Value),i=nI (k:Nat)/\k<=ns.length/\Hi (wr.heap[bg]?=some (.cells #[Value.slice x0 ns.length y0,Value.slice x1 l.sc.length y1,Value.slice x2 l.ar.length y2,Value.slice x3 l.sy.length y3,Value.slice x4 l.si.length y4,Value.slice x5 l.so.length y5,nI ((pn:Int)+1),nI (pn:Nat),ev] 62 (0,0)))/\Hi (wr.ownsRow (bg+1) 103 6 ev (rgE ns 0 k).length (edL (rgE ns 0 k)))/\Hi ((rgE ns 0 k).length<=2*k)/\Hi (Ok w2 wr)) (fun i _=>ns.length-(intOf i).toNat)
 case atStart=>exact ⟨0,_,rfl,zL_ _,HWG.o,World.ownsRow_nil _ _ _ _,zL_ _,HWK.o⟩
 obtain ⟨k,ev,rfl,hk,HGB,HOW,HLE,HKR⟩:=hrel;obtain ⟨es,hes⟩:=qq (rgE ns 0 k);have HES:Hi (es=rgE ns 0 k):=hes;rw [<-hes] at HOW HLE;clear hes;obtain ⟨eo,ec,rfl⟩:=za0 HOW.o;obtain ⟨m,hm⟩:=qq (es.length);have HM:Hi (m=es.length):=hm;rw [<-hm] at HGB HOW HLE;clear hm;obtain ⟨z1,c0,c1,c2,c3,c4,c5⟩:=(HX2.o.below HKR.o).pc;by_cases hkl:k<ns.length
 ·have hkl':(k:Int)<(ns.length:Int):=za5 hkl
  have hkw:IntKind.i64.wrap ((k:Int)+1)=((k+1:Nat):Int):=zb3 (by have:=HLN.o;omega);obtain ⟨n,hn⟩:∃ n,ns[k]?=some n:=⟨_,gG_ hkl⟩;obtain ⟨_,ao',cap',e1,_,_,hN⟩:=((HP.o.below HK2.o).below HKR.o).nodes
  injection e1 with e1 e2 e3;clear e2
  subst e1 e3;obtain ⟨b,o,rfl,M1⟩:=hN.resolve_left (fun e=>by rw [e] at hkl;simp at hkl);obtain ⟨n0,n1,n2,n3,n4,n5⟩:=M1.get hn;have lb:=M1.lt;have HKDN:Hi (kdA ns k=n.kind):=ze1 hn;obtain ⟨nd,nk,nm,nu,no,nps⟩:=n;simp only at n0 n1 n2 n3 n4 n5 HKDN;have HKL:Hi (k<ns.length):=hkl;clear hn M1 hN;by_cases hs:2<=nk/\nk<=8
  ·have HS:Hi ((decide (2<=nk)&&decide (nk<=8))=true):=by unfold Hi;rw [decide_eq_true hs.1,decide_eq_true hs.2];rfl
   have HKK:Hi (2<=kdA ns k/\kdA ns k<=8):=by rw [HKDN.o];exact hs
   have HSUC:Hi (rgE ns 0 (k+1)=es++elR ns k):=by unfold Hi;rw [HES.o,zg5 (x:=k) (by omega) (by omega),zO0 HKK.o]
   clear hs
   go_wp2_with (first
    | (go_at_call 33;refine (zp3 _ _ _ _ _ _ _).mono ?_;rintro e w3 ⟨rfl,hk3⟩;have HK3:Hi (Ok wr w3):=hk3;rw [HS.o];clear hk3)
    | fail)
   have HR3:Hi (Ok w2 w3):=HKR.o.step HK3.o;have HG3:Hi _:=Ok.row' HK3.o HGB.o;have HO3:Hi (w3.ownsRow (bg+1) 103 6 (.slice eo m ec) m (edL es)):=za1 HOW.o HK3.o;obtain ⟨q1,d0,d1,d2,d3,d4,d5⟩:=(HX2.o.below HR3.o).pc;have HSS:Hi (∀ X,Ok w3 X->X.cell? (aD bg 8)=some (.slice eo m ec)/\X.cell? (aD b0 0)=some (.slice (sA b o) ns.length y0)):=fun X hX=>⟨(cell_of_row _ _ 8 _ _ _ (Ok.row' hX HG3.o)).trans sI,(HX2.o.below (HR3.o.step hX)).pc.c0⟩;clear z1 c0 c1 c2 c3 c4 c5 n0 n1 n2 n3 n4 n5 lb;have S0:=HSS.o w3.drew (Below.drew (Ok.refl _));refine zd5 (fun w'=>w'.cell? (aD bg 8)=some (.slice eo m ec)/\w'.cell? (aD b0 0)=some (.slice (sA b o) ns.length y0)) 8 kR ?_;refine tL 0 (pA bg 8) S0 ?_ ?_
   ·intro w' hSw;obtain ⟨s0,s1⟩:=hSw;go_simp;try with_reducible rfl
   simp only [pu];refine tL 1 (.slice eo m ec) S0 ?_ ?_
   ·intro w' hSw;obtain ⟨s0,s1⟩:=hSw;go_simp;try with_reducible rfl
   simp only [pu];refine tL 2 (pA b0 0) S0 ?_ ?_
   ·intro w' hSw;obtain ⟨s0,s1⟩:=hSw;go_simp;try with_reducible rfl
   simp only [pu];refine tL 3 (.slice (sA b o) ns.length y0) S0 ?_ ?_
   ·intro w' hSw;obtain ⟨s0,s1⟩:=hSw;go_simp;try with_reducible rfl
   simp only [pu];refine tL 4 (nI (k:Nat)) S0 ?_ ?_
   ·intro w' hSw;obtain ⟨s0,s1⟩:=hSw;go_simp;try with_reducible rfl
   simp only [pu];refine zb0 (i:=5) kR rfl (fun K hK=>?_);go_simp;refine (zX4 _ ns HT.o (by have:=HLN.o;omega) k _ (((HP.o.below HK2.o).below (HR3.o.step (Below.drew (Ok.refl _)))).nodes) HKL.o HKK.o).mono ?_;rintro e w4 ⟨lv,rfl,hsl,hk4'⟩;have hk4:Ok w3 w4:=Ok.step (Below.drew (Ok.refl _)) hk4';obtain ⟨hl1,hl2,lo,lc,rfl,hl3⟩:=hsl
   have hne:0<(elR ns k).length:=by unfold elR;split<;>simp
   have hne2:(elR ns k).length<=2:=by unfold elR;split<;>simp
   obtain ⟨gb,go,rfl,hgl,hcs⟩:=hl3.resolve_left oM;go_wp2_with fail;refine hK.out _ _ (fun _=>HSS.o w4 hk4) ?_;clear hK K;obtain ⟨i0,hi0,hy0,hy1,hy2⟩:=zg6 infEd;have HK4:Hi (Ok w3 w4):=hk4;have HO4:Hi (w4.ownsRow (bg+1) 103 6 (.slice eo m ec) m (edL es)):=za1 HO3.o hk4;have HG4:Hi _:=Ok.row' hk4 HG3.o;have HML:Hi (m<=2*300):=by have h1:=HLE.o;have h2:=HLN.o;unfold Hi;omega
   obtain ⟨nn,hnn⟩:=qq ((elR ns k).length);have HNN:Hi (nn=(elR ns k).length/\0<nn/\nn<=2):=⟨hnn,by omega,by omega⟩;have HNL:Hi ((edL (elR ns k)).length=nn*6):=by rw [hnn];exact hl1
   have HN1:Hi (∀ u∈edL (elR ns k),u.oneCell'=true):=hl2;have HCS:Hi (∀ j u,(edL (elR ns k))[j]?=some u->w4.cell? ((⟨gb,go,none⟩:Addr).add j)=some u):=fun j u hj=>by rw [zb7];exact hcs j u hj
   rw [<-hnn];clear hk4 hk4' hl1 hl2 hl3 hcs hne hne2 hnn S0;refine zb0 (i:=6) kR rfl (fun K hK=>?_);refine step_append_lies w4 (by rfl) _ _ _ (by rfl) (bg+1) 103 i0 _ 6 40 Tryz.underlying60 hi0 hy0 hy1 hy2 rfl dC (.slice eo m ec) m (edL es) (by rfl) HO4.o ⟨gb,go,none⟩ nn lc (edL (elR ns k)) (by rfl) HNL.o HCS.o HN1.o HNN.o.2.1 (by have h1:=HML.o;have h2:=HNN.o;unfold maxLen;omega) (by have h1:=HML.o;have h2:=HNN.o;omega) (by have:=za2 HG4.o;omega) w4.heap.size rfl ?_;intro gg capg w5 hown hgrow hat hlt;have HG5:Hi _:=(show w5.heap[bg]?=_ from (hgrow.block bg (za2 HG4.o) (fun e=>by have:=(HO4.o.lt bg e.symm).1;omega)).trans HG4.o);have HR5:Hi (Ok w2 w5):=(HR3.o.step HK4.o).grown hgrow (fun b e=>by have h1:=(HO4.o.lt b e).1;have h2:=HBG.o;omega);have HO5:Hi (w5.ownsRow (bg+1) 103 6 (.slice (sA gg 0) (m+nn) capg) (m+nn) (edL es++edL (elR ns k))):=hown;have S5:w5.cell? (aD bg 8)=some (.slice eo m ec)/\w5.cell? (aD b0 0)=some (.slice (sA b o) ns.length y0):=⟨(cell_of_row _ _ 8 _ _ _ HG5.o).trans sI,(HX2.o.below HR5.o).pc.c0⟩;refine hK.out _ _ (fun _=>S5) ?_;clear hK K hown hgrow hat hlt;simp only [pu];refine tL 7 (pA bg 8) S5 ?_ ?_
   ·intro w' hSw;obtain ⟨s0,s1⟩:=hSw;go_simp;try with_reducible rfl
   simp only [pu];have f5:w5.frozen? (aD bg 8)=false:=frozen_of_row _ _ _ _ _ HG5.o;have l5:=za2 HG5.o;have e5:=S5.1;refine zb0 (i:=8) kR rfl (fun K hK=>?_);go_simp;refine hK.out _ _ (fun h=>absurd rfl h) ?_;clear hK K;refine zd4 kR ?_ _;go_wp2_with fail;go_roundw
   case rel=>exact ⟨k+1,_,rfl,hkl,by have:=heap_setCell_same w5 bg 8 _ 62 (.slice (sA gg 0) (m+nn) capg) HG5.o;unfold Hi;simpa using this,by have:=HO5.o;unfold Hi;rw [HSUC.o,List.length_append,<-HM.o,<-HNN.o.1,yk2];exact zn8 this (by omega) _,by unfold Hi;rw [HSUC.o,List.length_append,<-HM.o,<-HNN.o.1];have h1:=HLE.o;have h2:=HNN.o;omega,Below.setCell (p:=⟨bg,8,none⟩) HR5.o (by have:=HBG.o;show w2.heap.size<=bg;omega) _⟩
   case measure=>simp only [intOf,Int.toNat_natCast];omega
  have HS:Hi ((decide (2<=nk)&&decide (nk<=8))=false):=by
   unfold Hi;by_cases h2:2<=nk
   ·rw [decide_eq_false (show ¬nk<=8 from fun h8=>hs ⟨h2,h8⟩),Bool.and_false]
   rw [decide_eq_false h2];rfl
  have HSUC:Hi (rgE ns 0 (k+1)=es):=by unfold Hi;rw [HES.o,zg5 (x:=k) (by omega) (by omega),zl0 (p:=k) (fun r r1 r2=>by rw [show r=k by omega,HKDN.o];exact hs),List.append_nil]
  clear hs
  go_wp2_with (first
   | (go_at_call 33;refine (zp3 _ _ _ _ _ _ _).mono ?_;rintro e w3 ⟨rfl,hk3⟩;have HK3:Hi (Ok wr w3):=hk3;rw [HS.o];clear hk3)
   | fail)
  go_roundw
  case rel=>exact ⟨k+1,_,rfl,hkl,Ok.row' HK3.o HGB.o,by rw [HSUC.o,<-HM.o];exact za1 HOW.o HK3.o,by unfold Hi;rw [HSUC.o,<-HM.o];have:=HLE.o;omega,HKR.o.step HK3.o⟩
  case measure=>simp only [intOf,Int.toNat_natCast];omega
 have hkl':¬(k:Int)<(ns.length:Int):=zb2 hkl;have G1:=Ok.row' HKR.o HG2.o;have r0:wr.cell? (aD bg 0)=some (.slice x0 ns.length y0):=(cell_of_row _ _ 0 _ _ _ HGB.o).trans sI;have r1:wr.cell? (aD bg 1)=some (.slice x1 l.sc.length y1):=(cell_of_row _ _ 1 _ _ _ HGB.o).trans sI;have r2:wr.cell? (aD bg 2)=some (.slice x2 l.ar.length y2):=(cell_of_row _ _ 2 _ _ _ HGB.o).trans sI;have r3:wr.cell? (aD bg 3)=some (.slice x3 l.sy.length y3):=(cell_of_row _ _ 3 _ _ _ HGB.o).trans sI;have r4:wr.cell? (aD bg 4)=some (.slice x4 l.si.length y4):=(cell_of_row _ _ 4 _ _ _ HGB.o).trans sI;have r5:wr.cell? (aD bg 5)=some (.slice x5 l.so.length y5):=(cell_of_row _ _ 5 _ _ _ HGB.o).trans sI;have r6:wr.cell? (aD bg 6)=some (nI ((pn:Int)+1)):=(cell_of_row _ _ 6 _ _ _ HGB.o).trans sI;have r7:wr.cell? (aD bg 7)=some (nI (pn:Nat)):=(cell_of_row _ _ 7 _ _ _ HGB.o).trans sI;have r8:wr.cell? (aD bg 8)=some (.slice eo m ec):=(cell_of_row _ _ 8 _ _ _ HGB.o).trans sI;have t0:wr.cell? (aD b1 0)=some (sZ):=(cell_of_row _ _ 0 _ _ _ G1).trans sI;have t1:wr.cell? (aD b1 1)=some (sZ):=(cell_of_row _ _ 1 _ _ _ G1).trans sI;have t2:wr.cell? (aD b1 2)=some (sZ):=(cell_of_row _ _ 2 _ _ _ G1).trans sI;have t3:wr.cell? (aD b1 3)=some (sZ):=(cell_of_row _ _ 3 _ _ _ G1).trans sI;have t4:wr.cell? (aD b1 4)=some (sZ):=(cell_of_row _ _ 4 _ _ _ G1).trans sI;have t5:wr.cell? (aD b1 5)=some (sZ):=(cell_of_row _ _ 5 _ _ _ G1).trans sI;have t6:wr.cell? (aD b1 6)=some (nI 0):=(cell_of_row _ _ 6 _ _ _ G1).trans sI;have t7:wr.cell? (aD b1 7)=some (nI 0):=(cell_of_row _ _ 7 _ _ _ G1).trans sI;have t8:wr.cell? (aD b1 8)=some (sZ):=(cell_of_row _ _ 8 _ _ _ G1).trans sI;have wf:∀ i,wr.frozen? (aD b1 i)=false:=fun i=>frozen_of_row _ _ _ _ _ G1;have lg1:=za2 G1;have lg2:=za2 HGB.o;have HG9:Hi _:=G1;have HEL:Hi (elF ns=es):=by unfold Hi;rw [yC7 HT.o,HES.o,show k=ns.length by omega]
 go_wp2_with fail
 try simp only [Exit.inBlock,Exit.then]
 refine bodyPost_ret (zc0 rfl _ _ b1 62 _ (0,0) _ rfl (zC4 HG9.o _ _ _ _ _ _ _ _ _) Tryz.underlying62 rfl Tryz.infoG) rfl ?_;refine ⟨.slice eo m ec,rfl,?_,?_⟩
 ·rw [HEL.o,<-HM.o]
  have hb:=HB.o;have hg:=HBG.o;exact za7 (zC5 HOW.o (fun b hbb=>by have:=(HOW.o.lt b hbb).1;omega) _ _ _ _ _ _ _ _ _) oM
 exact zq5 (HK2.o.step HKR.o) (by have:=HB.o;omega) _ _ _ _ _ _ _ _ _
end
section
open Go.RowKit Go.Deep Go.WideShapes Go.ChangeShapes
theorem yB7 {P:Program} {H:Type} {enc:TypeId×Value->H} {t e:TypeId} (ht:P.underlying t=some (.slice e)) (hi:P.underlying e=some (.int .i64)) (hc:P.cellsOf e=1) {fuel:Nat} {c:Value} {x:DataW H×List MemPlace} (h:DataW.trod enc P w 0 (fun _=>true) true fuel t [c]=some x) :
  ∃ (l:List Int) (ao:Option Addr) (cap:Nat),c=.slice ao l.length cap/\SL w 1 c l.length (ilL l)/\∀ y∈l,(Lit.int .i64 y).wf=true:=by
 rcases open_slice ht h with ⟨h0,_⟩ | ⟨a,len,cap,m,n,D,Pl,hcs,_,hl,hm,hme,hx,hel⟩
 ·have e0:c=sZ:=by simpa using h0
  exact ⟨[],none,0,e0,⟨rfl,fun u hu=>(by cases hu),none,0,e0,.inl rfl⟩,fun y hy=>(by cases hy)⟩
 simp only [if_true] at hme;subst hme;rw [hc] at hel
 have hex:∀ i,∃ y:Int,i<len->w.cells? 0 (a.add (i*1)) 1=some [.int .i64 y]/\(Lit.int .i64 y).wf=true:=by
  intro i;by_cases hi':i<len
  ·obtain ⟨cs',h1,h2⟩:=hel i oM
   obtain ⟨y,e1,_,e3⟩:=DataW.trod_int hi h2;subst e1;exact ⟨y,fun _=>⟨h1,e3⟩⟩
  exact ⟨0,fun hh=>absurd hh hi'⟩
 obtain ⟨f,hf⟩:=Classical.axiomOfChoice hex;have hc':c=.slice (some a) len m:=by simpa using hcs
 have hlen:((List.range len).map f).length=len:=by simp
 have hwf:∀ y∈(List.range len).map f,(Lit.int .i64 y).wf=true:=fun y hy=>by obtain ⟨i,hi',rfl⟩:=List.mem_map.1 hy;exact (hf i (List.mem_range.1 hi')).2
 refine ⟨(List.range len).map f,some a,m,by rw [hlen];exact hc',⟨by simp [ilL],zJ6 _,some a,m,by rw [hlen];exact hc',?_⟩,hwf⟩;rcases Nat.eq_zero_or_pos len with e0 | hpos
 ·exact .inl (by rw [hlen];exact e0)
 right
 have hcell:∀ i,i<len->w.cell? (a.add i)=some (nI (f i)):=fun i hi'=>by have h9:=(World.cells?_some (hf i hi').1).2.2 0 dC;rw [Nat.mul_one] at h9;simpa [Addr.add] using h9
 obtain ⟨b,o,y⟩:=a;have h00:=hcell 0 hpos;have hy:y=none:=by simpa [Addr.add] using World.cell?_spot h00
 subst hy;refine ⟨b,o,rfl,?_,fun j u hj=>?_⟩
 ·rcases Nat.lt_or_ge b w.heap.size with hh | hh
  ·exact hh
  rw [Go.WideShapes.add_plain] at h00;simp [World.cell?,Array.getElem?_eq_none hh] at h00
 have hj':j<len:=by have:=(List.getElem?_eq_some_iff.1 hj).1;simpa [ilL] using this
 have h9:=hcell j hj';rw [Go.WideShapes.add_plain] at h9;rw [h9];unfold ilL at hj;simpa [hj'] using hj
theorem ccells:Tryz.prog.cellsOf 3=1/\Tryz.prog.cellsOf 2=1/\Tryz.prog.cellsOf 22=1/\Tryz.prog.cellsOf 24=9:=by refine ⟨?_,?_,?_,?_⟩<;>kernel_rfl
def cfN (a0 a1 a2 a3 a4 a5 a7 a8:Int):Nat->Int
 | 0=>a0
 | 1=>a1
 | 2=>a2
 | 3=>a3
 | 4=>a4
 | 5=>a5
 | 7=>a7
 | 8=>a8
 | _=>0
theorem yh9 {H:Type} {enc:TypeId×Value->H} {r:Reach} {b0:Nat} {v:Value} {d:DataW H} {ps:List MemPlace} (hval:Value.okWide Tryz.prog w r b0 24 v) (hd:DataW.Trod enc Tryz.prog w 0 (fun _=>true) true 24 v d ps) :
  ∃ (c:Nat->Int) (ts:List Int) (tz:Option Addr) (tc:Nat),v=.agg #[nI (c 0),nI (c 1),nI (c 2),nI (c 3),nI (c 4),nI (c 5),.slice tz ts.length tc,nI (c 7),nI (c 8)]/\SL w 1 (.slice tz ts.length tc) ts.length (ilL ts):=by
 obtain ⟨cs,rfl,hcs⟩:=okWide_struct Tryz.underlying24 hval;obtain ⟨fuel,hf⟩:=hd;obtain ⟨xs,m,_,hxx,hl,hlen,hg⟩:=DataW.trod_struct Tryz.underlying24 hf;obtain ⟨u3,u6,us,uc⟩:=ccells;have hl2:cs.toList.length=9:=by rw [uc] at hcs;simpa using hcs
 have hcc:(Value.agg cs).cells.toList=cs.toList:=by simp [Value.cells]
 obtain ⟨L,hL⟩:=qq (cs.toList);have hca:cs=L.toArray:=by rw [hL]
 rw [<-hL] at hl2 hcc
 match xs,hlen,L,hl2 with
 | [y0,y1,y2,y3,y4,y5,y6,y7,y8],_,[c0,c1,c2,c3,c4,c5,c6,c7,c8],_ =>
  have key:∀ (k:Nat) (t:TypeId) (c:Value) (y:DataW H×List MemPlace),DataW.trod enc Tryz.prog w 0 (fun _=>true) true m t (((Value.agg cs).cells.toList.drop k).take (Tryz.prog.cellsOf t))=some y->Tryz.prog.cellsOf t=1->([c0,c1,c2,c3,c4,c5,c6,c7,c8].drop k).take 1=[c]->DataW.trod enc Tryz.prog w 0 (fun _=>true) true m t [c]=some y:=fun k t c y h h1 h2=>by rw [hcc,h1,h2] at h;exact h
  obtain ⟨a0,e0,_,_⟩:=DataW.trod_int Tryz.underlying3 (key 0 3 c0 y0 (hg 0 _ rfl) u3 rfl);obtain ⟨a1,e1,_,_⟩:=DataW.trod_int Tryz.underlying3 (key 1 3 c1 y1 (hg 1 _ rfl) u3 rfl);obtain ⟨a2,e2,_,_⟩:=DataW.trod_int Tryz.underlying3 (key 2 3 c2 y2 (hg 2 _ rfl) u3 rfl);obtain ⟨a3,e3,_,_⟩:=DataW.trod_int Tryz.underlying3 (key 3 3 c3 y3 (hg 3 _ rfl) u3 rfl);obtain ⟨a4,e4,_,_⟩:=DataW.trod_int Tryz.underlying3 (key 4 3 c4 y4 (hg 4 _ rfl) u3 rfl);obtain ⟨a5,e5,_,_⟩:=DataW.trod_int Tryz.underlying3 (key 5 3 c5 y5 (hg 5 _ rfl) u3 rfl);obtain ⟨ts,tz,tc,e6,h6,_⟩:=yB7 Tryz.underlying22 Tryz.underlying2 u6 (key 6 22 c6 y6 (hg 6 _ rfl) us rfl);obtain ⟨a7,e7,_,_⟩:=DataW.trod_int Tryz.underlying3 (key 7 3 c7 y7 (hg 7 _ rfl) u3 rfl);obtain ⟨a8,e8,_,_⟩:=DataW.trod_int Tryz.underlying3 (key 8 3 c8 y8 (hg 8 _ rfl) u3 rfl);simp only [List.cons.injEq,and_true] at e0 e1 e2 e3 e4 e5 e7 e8;subst e0 e1 e2 e3 e4 e5 e7 e8;subst e6;exact ⟨cfN a0 a1 a2 a3 a4 a5 a7 a8,ts,tz,tc,by rw [hca];rfl,h6⟩
end
section
open Go.RowKit Go.Maps
theorem yH7 (v:Nat->Value) (c:Nat->Int) (ts:List Int) (tz:Option Addr) (tc:Nat) (ns:List Nd) (l:Ls) (w:World) (h:ProgIs w (v 0) (v 1) (v 2) (v 3) (v 4) (v 5) ns l) (hv6:∀ i,i<6->∃ ao n c,v i=.slice ao n c) (hts:SL w 1 (.slice tz ts.length tc) ts.length (ilL ts)) :
  Calls Tryz.prog 16 #[.agg #[v 0,v 1,v 2,v 3,v 4,v 5],.agg #[nI (c 0),nI (c 1),nI (c 2),nI (c 3),nI (c 4),nI (c 5),.slice tz ts.length tc,nI (c 7),nI (c 8)]] w fun e w'=>e=.returned (nI (badP ns l c ts))/\Ok w w' :=
 yF9 v c ts tz tc (goodD ns l) w hv6 hts (fun Y hY=>yj7 _ _ _ _ _ _ ns l Y (h.below hY))
theorem yG7 (v:Nat->Value) (c:Nat->Int) (ts:List Int) (tz:Option Addr) (tc:Nat) (ns:List Nd) (l:Ls) (w:World) (hE:PEnv w) (h:ProgIs w (v 0) (v 1) (v 2) (v 3) (v 4) (v 5) ns l) (hv6:∀ i,i<6->∃ ao n c,v i=.slice ao n c) (hts:SL w 1 (.slice tz ts.length tc) ts.length (ilL ts)) :
  Calls Tryz.prog 10 #[.agg #[v 0,v 1,v 2,v 3,v 4,v 5],.agg #[nI (c 0),nI (c 1),nI (c 2),nI (c 3),nI (c 4),nI (c 5),.slice tz ts.length tc,nI (c 7),nI (c 8)]] w fun e w'=>SpG w (badP ns l c ts) (ptN ns) (spR ns c) e w':=by
 have hR:∀ Y,Ok w Y->_:=fun Y hY=>yH7 v c ts tz tc ns l Y (h.below hY) hv6 (hts.below hY);by_cases hb:badP ns l c ts=0
 ·obtain ⟨hg,hr⟩:=zm1 hb
  have hc:=zp8 hr;have hG:=gr_ok hg;rw [hb] at hR;refine (yG3 v c tz ts.length tc (ptN ns) (ptF ns ns.length) (c 2).toNat (ptN ns*(c 2).toNat+1) (ptN ns+1) (elF ns) (spR ns c) w hv6 hR (fun Y hY=>(zO1 _ _ _ _ _ _ ns l Y (h.below hY) hg).mono fun e w2 h=>h) ⟨hG.wit,hG.frm,⟨by have:=hG.pts;omega,by show (c 2).toNat<=10;omega,by show (elF ns).length<=5000;have:=hG.els;omega⟩,by show 0<(c 2).toNat;omega,⟨hc.2.2.1,by show c 1<=1000;omega⟩⟩ oM (Nat.lt_succ_self _) (by have:=hG.pts;omega) (zK9 hb) hE.tab).mono fun e w' hp=>.inr ⟨hb,hp⟩
 exact (yG5 v c tz ts.length tc (badP ns l c ts) hb w hv6 hR).mono fun e w' hp=>.inl ⟨hb,hp.1,hp.2⟩
theorem yI5 (v:Nat->Value) (c:Nat->Int) (ts:List Int) (tz:Option Addr) (tc:Nat) (ns:List Nd) (l:Ls) (pv:Value) (path:List Int) (w:World) (hE:PEnv w) (h:ProgIs w (v 0) (v 1) (v 2) (v 3) (v 4) (v 5) ns l) (hv6:∀ i,i<6->∃ ao n c,v i=.slice ao n c) (hts:SL w 1 (.slice tz ts.length tc) ts.length (ilL ts)) (hp:SL w 1 pv path.length (ilL path)) (hpl:path.length<=4000000000000000000) :
  Calls Tryz.prog 5 #[.agg #[v 0,v 1,v 2,v 3,v 4,v 5],.agg #[nI (c 0),nI (c 1),nI (c 2),nI (c 3),nI (c 4),nI (c 5),.slice tz ts.length tc,nI (c 7),nI (c 8)],pv] w fun e w'=>e=.returned (.tuple #[nI (flV (badP ns l c ts) (spR ns c).2.2 path).1,nI (flV (badP ns l c ts) (spR ns c).2.2 path).2])/\Ok w w':=by
 have hS:∀ Y,Ok w Y->_:=fun Y hY=>yG7 v c ts tz tc ns l Y (hE.ok hY) (h.below hY) hv6 (hts.below hY);by_cases hb:badP ns l c ts=0
 ·exact yF5 v c tz ts.length tc (badP ns l c ts) (ptN ns) (spR ns c) pv path w hv6 (Nat.le_trans (lk_ok hb).1.1 oM) hp hpl hS
 have e1:∀ ls:List Lk,flV (badP ns l c ts) ls path=(0,badP ns l c ts):=fun ls=>by unfold flV;rw [if_neg hb]
 have h1:=yF5 v c tz ts.length tc (badP ns l c ts) (ptN ns) ([],[],[]) pv path w hv6 (by show 0<=_;omega) hp hpl (fun Y hY=>(hS Y hY).mono fun e w' h=>h.elim (fun h=>.inl h) (fun h=>absurd h.1 hb));rw [e1] at h1 ⊢;exact h1
end
section
open Go.ChangeShapes Go.WideShapes Go.ChangeAt Go.RowKit Go.Deep
open Go.ChangeMaps (open_string shut_string)
theorem yK1 (s:ByteArray) (Y:World):Calls Tryz.prog 9 #[.string s] Y fun e w'=>TxJ Y e w'/\Ok Y w':=by
 refine (yt7 s Y).mono ?_;rintro e w1 ⟨ht,hok⟩;refine ⟨?_,hok⟩;unfold TextIs at ht
 cases hl:lexS s.toList with
 | inl p =>
  rw [hl] at ht;obtain ⟨er,at0⟩:=p;exact .inr ⟨_,_,ht.2⟩
 | inr ts =>
  rw [hl] at ht;obtain ⟨P,h1,h2,h3⟩:=ht;subst h1;rcases h3 with ⟨k1,k2,u,k3,k4,k5⟩ | ⟨k1,er,at0,k2,k3⟩
  ·have hf:∀ n∈(parE P).2.2,n.Ok:=fun n hn=>yj1 (k5.1 n hn)
   have hp:=zw4 (parE P).2.2 hf;have hz:(readD (parE P).2.2 rd0).1=0:=by rw [hp] at k2;exact k2
   have hL:=yI4 hz hf;rw [show lsOf (readD (parE P).2.2 rd0).2.2=(programR (parE P).2.2).2.2 by rw [hp]] at hL;exact .inl ⟨_,_,u,k3,k4,k5.2,hf,hL.2.1,hL.2.2.1,hL.2.2.2.2.2,hL.1⟩
  exact .inr ⟨er,at0,k3⟩
theorem yI6 (s:ByteArray) (odd:Int) (c:Nat->Int) (ts:List Int) (tz:Option Addr) (tc:Nat) (pv:Value) (path:List Int) (w:World) (hE:PEnv w) (hts:SL w 1 (.slice tz ts.length tc) ts.length (ilL ts)) (hp:SL w 1 pv path.length (ilL path)) (hpw:∀ y∈path,(Lit.int .i64 y).wf=true) (hpb:(path.length+1)*8<=140737488355328) :
  Calls Tryz.prog 3 #[.string s,nI odd,.agg #[nI (c 0),nI (c 1),nI (c 2),nI (c 3),nI (c 4),nI (c 5),.slice tz ts.length tc,nI (c 7),nI (c 8)],pv] w fun e w'=>e=.returned (.bool true)/\Ok w w':=by
 refine yI9 s odd c tz ts.length tc pv path w (fun Y hY=>(yJ4 s odd Y (fun Z _=>yK1 s Z)).mono fun e w' h=>?_) hp hpw hpb;obtain ⟨ns,m,v,B,he,hu,hf,hk⟩:=h;have hW:Ok w w':=hY.step hk;have hpr:=PrIs.prog hu hf;have hsl:∀ i,i<6->∃ ao n c,v i=.slice ao n c:=fun i hi=>by obtain ⟨o,c,e⟩:=za0 (hu i hi);exact ⟨_,_,_,e⟩
 exact ⟨v,flV (badP ns m c ts) (spR ns c).2.2,he,hsl,hk,⟨fun Z pv path hZ hs hl hw=>yB1 v c ts tz tc ns m pv path Z (hE.ok (hW.step hZ)) (hpr.below hZ) (hts.below (hW.step hZ)) hs hl hw,fun Z pv path hZ hs hl=>yI5 v c ts tz tc ns m pv path Z (hE.ok (hW.step hZ)) (hpr.below hZ) hsl (hts.below (hW.step hZ)) hs hl,fun Z a b l hZ h1 h2 hl=>zM0 a b l Z h1 h2 hl,fun Z hZ=>yh6 Z (hE.ok (hW.step hZ))⟩⟩
end
section
open Go.ChangeShapes Go.WideShapes Go.ChangeAt Go.RowKit Go.Deep
open Go.ChangeMaps (open_string shut_string)
theorem pown:ownKnob Tryz.prog.godebug=none:=by kernel_rfl
theorem pdoor (os:Os) (args:Array Value):laidMetH Tryz.prog Rows.partFollowsRow.laid ((World.doorLaid Tryz.prog 4000 os).forCall (fun _ _=>0) ⟨#[],args,[]⟩).memory :=
 laidMetH_of_parts3 (fuel:=12) (laidMet_of_run' 12 kR kR) kR kR
theorem yK2 {P:Program} {H:Type} {enc:TypeId×Value->H} {t e bts:TypeId} (ht:P.underlying t=some (.slice e)) (hby:P.bytesOf e=bts) {fuel:Nat} {c:Value} {x:DataW H×List MemPlace} (h:DataW.trod enc P w 0 (fun _=>true) true fuel t [c]=some x) (hk:(DataW.weights P t x.1).all (·<=reachBytes)=true) :
  ∀ ao n cap,c=.slice ao n cap->n*bts<=140737488351232:=by
 intro ao n0 cap e0;rcases open_slice ht h with ⟨h0,_⟩ | ⟨a,len,cap',m,n,D,Pl,hcs,_,hl,hm,hme,hx,hel⟩
 ·have e1:c=sZ:=by simpa using h0
  rw [e1] at e0
  injection e0 with _ e2 _
  subst e2;simp
 simp only [if_true] at hme;subst hme;have e1:c=.slice (some a) len m:=by simpa using hcs
 rw [e1] at e0
 injection e0 with _ e2 _
 subst e2;rw [hx] at hk;simp only [DataW.weights,ht,hby,List.all_cons,Bool.and_eq_true,List.length_map,List.length_range] at hk;have h1:=of_decide_eq_true hk.1;have h2:len*bts<=(len+(m-len))*bts:=Nat.mul_le_mul_right _ (Nat.le_add_right _ _);exact Nat.le_trans h2 h1
theorem yJ7 {H:Type} {P:Program} {t0 t1 t2 t3:TypeId} {ts:List TypeId} {d0 d1 d2 d3:DataW H} {gs:List (DataW H)} (h:(DataW.weightsEach P (t0::t1::t2::t3::ts) (d0::d1::d2::d3::gs)).all (·<=reachBytes)=true):(DataW.weights P t3 d3).all (·<=reachBytes)=true:=by simp only [DataW.weightsEach,List.all_append,Bool.and_eq_true] at h;exact h.2.2.2.1
theorem zW5:laidOutB Tryz.prog=true:=by kernel_rfl
theorem zM4 (H:Type) (enc:TypeId×Value->H) (W:World) (base:Nat) (args:Array Value) (ds gs:List (DataW H)) (before:List MemPlace)
  (hval:∀ (j:Nat) t v,Tryz.f3.params[j]?=some t->args[j]?=some v->Value.okWide Tryz.prog W .any base t v)
  (hW:DataW.Whole enc Tryz.prog Tryz.f3.params.toList Rows.partFollowsSpec.vars false W args.toList ds gs before) (hk:(DataW.weightsEach Tryz.prog (Tryz.f3.params.toList++(OpenSpec.ofChange Rows.partFollowsSpec).bare.plain.varTypes Tryz.prog) (ds++gs)).all (·<=reachBytes)=true) (hL:laidMetH Tryz.prog Rows.partFollowsRow.laid W) :
  Calls Tryz.prog 3 args W fun e W'=>∃ v,e=.returned v/\Rows.partFollowsSpec.post enc Tryz.prog Tryz.f3 false true false false W args v W':=by
 have hW':=hW;obtain ⟨p,q,hA0,hV,rfl,hfz,hnd⟩:=hW;have hA:DataW.TrodAll enc Tryz.prog W 0 (fun _=>true) true Tryz.f3.params.toList args.toList ds p:=hA0;rw [Tryz.params3] at hA hval hk;obtain ⟨v0,vs0,d0,ds0,p0,q0,hargs,rfl,rfl,h0,r0⟩:=trodAll_cons hA;obtain ⟨v1,vs1,d1,ds1,p1,q1,rfl,rfl,rfl,h1,r1⟩:=trodAll_cons r0;obtain ⟨v2,vs2,d2,ds2,p2,q2,rfl,rfl,rfl,h2,r2⟩:=trodAll_cons r1;obtain ⟨v3,vs3,d3,ds3,p3,q3,rfl,rfl,rfl,h3,r3⟩:=trodAll_cons r2;obtain ⟨rfl,rfl,rfl⟩:=trodAll_nil r3;obtain rfl:args=#[v0,v1,v2,v3]:=by cases args;simp_all
 obtain ⟨rfl,rfl⟩:=trodVars_none hV;obtain ⟨ao,n,cp,rfl⟩:=okWide_slice Tryz.underlying25 (hval 3 25 v3 rfl rfl);obtain ⟨a0,rfl,rfl,rfl,w0⟩:=open_string Tryz.underlying9 (hval 0 9 v0 rfl rfl) h0;obtain ⟨x1,rfl,rfl,rfl,w1⟩:=open_int Tryz.underlying3 (hval 1 3 v1 rfl rfl) h1;have h2k:=h2;have h3k:=h3;obtain ⟨c,ts,tz,tc,rfl,hts⟩:=yh9 (hval 2 24 v2 rfl rfl) h2;obtain ⟨f3,h3f⟩:=h3;obtain ⟨l,ao2,cp2,e2,hl,hlw⟩:=yB7 (c:=.slice ao n cp) (x:=(d3,p3)) Tryz.underlying25 Tryz.underlying3 ccells.1 h3f;have hbt:=yK2 Tryz.underlying25 (show Tryz.prog.bytesOf 3=8 by kernel_rfl) h3f (yJ7 hk) _ _ _ e2;clear hA0;simp only [List.append_nil] at hW';have hlt2:∀ y∈p2,y.block<W.heap.size:=fun y hy=>hW'.lt y (by simp [hy]);have hlt3:∀ y∈p3,y.block<W.heap.size:=fun y hy=>hW'.lt y (by simp [hy]);refine (yI6 a0 x1 c ts tz tc _ l W (zM3 hL) hts hl hlw oM).mono fun e W' ⟨he,hg⟩=>?_;subst he;have bel:Below W.heap.size W W':=hg;refine ⟨_,rfl,_,_,_,[],[]++([]++(p2++(p3++[]))),[],hW',?_,?_,rfl,bel.frame _,fun h=>by cases h⟩
 ·exact trodAll_cons_mk (shut_bool Tryz.underlying4 _) trodAll_mk0
 exact trodAll_cons_mk (shut_string Tryz.underlying9 w0) (trodAll_cons_mk (shut_int Tryz.underlying3 w1) (trodAll_cons_mk (Below.trod zW5 kR (of_decide_eq_true kR) h2k bel hlt2) (trodAll_cons_mk (Below.trod zW5 kR (of_decide_eq_true kR) h3k bel hlt3) trodAll_mk0)))
theorem ys7 (os:Os) {H:Type} (enc:TypeId×Value->H):∃ places,DataW.whole enc Tryz.prog ((World.doorLaid Tryz.prog 4000 os).forCall (fun _ _=>0) ⟨#[],#[.string ⟨#[]⟩,.int .i64 0,.agg #[.int .i64 0,.int .i64 0,.int .i64 0,.int .i64 0,.int .i64 0,.int .i64 0,.slice none 0 0,.int .i64 0,.int .i64 0],.slice none 0 0],[]⟩).memory Tryz.f3.params.toList Rows.partFollowsSpec.vars false (#[Value.string ⟨#[]⟩,.int .i64 0,.agg #[.int .i64 0,.int .i64 0,.int .i64 0,.int .i64 0,.int .i64 0,.int .i64 0,.slice none 0 0,.int .i64 0,.int .i64 0],.slice none 0 0]).toList 12=some ([.lit (.string []),.lit (.int .i64 0),.agg [.lit (.int .i64 0),.lit (.int .i64 0),.lit (.int .i64 0),.lit (.int .i64 0),.lit (.int .i64 0),.lit (.int .i64 0),.nil,.lit (.int .i64 0),.lit (.int .i64 0)],.nil],[],places) :=
 ⟨[],by kernel_rfl⟩
theorem yi0 (os:Os) (started:os.Started) (H:Type) (enc:TypeId×Value->H) (F:Stop.Interp) :
  ReturnsInHanded {} Tryz.checked os 3 .any ((OpenSpec.ofChange Rows.partFollowsSpec).preRow enc Tryz.prog Tryz.f3 Rows.partFollowsRow.domain false Rows.partFollowsRow.laid) (((OpenSpec.ofChange Rows.partFollowsSpec).at F).post enc Tryz.prog Tryz.f3 false true false false):=by
 obtain ⟨places,hx⟩:=ys7 os enc
 refine returnsInHanded_of_row (C:=Tryz.checked) (s:=OpenSpec.ofChange Rows.partFollowsSpec) pown started kR Tryz.func3
  (witness_row_atRef (enc:=enc) (C:=Tryz.checked) false (World.doorLaid Tryz.prog 4000 os) #[.string ⟨#[]⟩,nI 0,.agg #[nI 0,nI 0,nI 0,nI 0,nI 0,nI 0,sZ,nI 0,nI 0],sZ] rfl kR kR kR
   (OpenSpec.preRow_of_cond 12 hx kR (fun k hk=>by cases hk) kR (pdoor os _))) ?_
 intro W base args ds gs before hval hW _ _ hk hL _ _;exact zM4 H enc W base args ds gs before hval hW hk hL
theorem yB8:Rows.PartFollowsSaid :=
 OpenClaim.holds_of_cond 3 Tryz.f3 rfl rfl rfl rfl rfl rfl rfl ⟨rfl,rfl,rfl,rfl,rfl⟩ rfl rfl rfl rfl rfl kR Tryz.func3 kR
  (of_decide_eq_true (by kernel_rfl)) (by unfold Func.isWrapper;first | (rw [if_pos (by decide +kernel)];kernel_rfl) | (rw [if_neg (by decide +kernel)];exact ⟨rfl,rfl⟩))
  (fun os started H enc _ F=>by rw [OpenClaim.pre_eq_preRow];exact yi0 os started H enc F)
theorem ys8 (f:FuncId) (fn:Func) (hf:Tryz.pinned.checked.prog.funcNamed "winnow/winnowlaw20.PartFollows" = some f) (hfn:Tryz.pinned.checked.prog.funcs[f]?=some fn) :
  true=Tryz.pinned.checked.prog.looks []/\∀ (j:Nat) t,fn.params[j]?=some t->Tryz.pinned.checked.prog.wantsStandIn t=false:=by
 obtain rfl:f=3:=Option.some.inj ((show Tryz.prog.funcNamed "winnow/winnowlaw20.PartFollows" = some 3 by kernel_rfl).symm.trans hf) |>.symm;obtain rfl:fn=Tryz.f3:=(Option.some.inj (Tryz.func3.symm.trans hfn)).symm;refine ⟨by kernel_rfl,fun j t ht=>?_⟩;rw [Tryz.params3] at ht;have hm:t∈[9,3,24,25]:=by simpa using Array.mem_of_getElem? ht
 have hall:([9,3,24,25].all fun u => !Tryz.prog.wantsStandIn u)=true:=by kernel_rfl
 exact (show Tryz.prog.wantsStandIn t=false by simpa using List.all_eq_true.1 hall t hm)
theorem yJ1:Rows.PartFollowsCardSaid :=
 Claim7.holds_tied_plain_at .later [] _ _ _ _ yB8 (fun _ h=>by cases h) kR (fun _ h=>by cases h) partFollows_row_tie rfl ⟨rfl,rfl⟩ kR rfl ys8 kR
end
end Go.Proofs.YtihdgmiicfbbkaaGreatDoor
