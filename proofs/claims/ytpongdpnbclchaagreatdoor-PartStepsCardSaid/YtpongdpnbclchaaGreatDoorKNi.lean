import Derived.Test.YtpongdpnbclchaaGreatDoorKNg
import Derived.Test.YtpongdpnbclchaaGreatDoorKTh
set_option maxHeartbeats 8000000
set_option linter.all false
set_option maxRecDepth 100000
namespace Go.Proofs.YtpongdpnbclchaaGreatDoor
section
open Go.RowKit
theorem zO1(v0 v1 v2 v3 v4 v5:Value)(ns:List Nd)(l:Ls)(w:World)(h:BO w v0 v1 v2 v3 v4 v5 ns l)(hg:CY ns l=true) :
  Calls Tryz.prog 14 #[.agg #[v0,v1,v2,v3,v4,v5]] w λe w'=>∃ev:Value,e=.returned (.tuple #[.agg #[v0,v1,v2,v3,v4,v5,nI ((ptF ns ns.length+1:Nat):Int),nI (ptF ns ns.length:Nat),ev],nI 0])/\w'.ownsRow w.heap.size 59 6 ev (elF ns).length (edL (elF ns))/\Ok w w':=by
 have h0:=zv7 hg;have HT:=hid (zN8 (zq4 h0));have HLN:=hid ((zj1 ns h0).2);have HG:=hid hg;have HP:=hid h;obtain⟨_,x0,y0,rfl,_⟩:=h.nodes;obtain⟨_,_,x1,y1,rfl,_⟩:=h.lists.sc.sl;obtain⟨_,_,x2,y2,rfl,_⟩:=h.lists.ar.sl;obtain⟨_,_,x3,y3,rfl,_⟩:=h.lists.sy.sl;obtain⟨_,_,x4,y4,rfl,_⟩:=h.lists.si.sl;obtain⟨_,_,x5,y5,rfl,_⟩:=h.lists.so.sl;clear h0 hg h;obtain⟨pn,hpn⟩:=qq (ptF ns ns.length);have HPN:Hi (pn=ptF ns ns.length/\pn<=300):=⟨hpn,by rw[hpn];exact Nat.le_trans (zq9 _ _) HLN.o⟩;have hpw:IntKind.i64.wrap ((pn:Int)+1)=((pn+1:Nat):Int):=zb3 (by have:=HPN.o;omega);rw[<-hpn];clear hpn;go_enter Tryz.func14,Tryz.ntmps14;go_wp2_with fail;obtain⟨w0,hw0⟩:=qq ((w.alloc (Obj.cells #[.slice x0 ns.length y0,.slice x1 l.sc.length y1,.slice x2 l.ar.length y2,.slice x3 l.sy.length y3,.slice x4 l.si.length y4,.slice x5 l.so.length y5] 33)).alloc (Obj.cells #[sZ,sZ,sZ,sZ,sZ,sZ,nI 0,nI 0,sZ] 53));obtain⟨b1,hb1⟩:=qq (w.heap.size+1);obtain⟨b0,hb0⟩:=qq (w.heap.size);rw[<-hw0,<-hb1,<-hb0];have HK0:Hi (Ok w w0):=by rw[hw0];exact((Ok.refl w).alloc _).alloc _
 have HX0:Hi (Six w0 b0 (.slice x0 ns.length y0) (.slice x1 l.sc.length y1) (.slice x2 l.ar.length y2) (.slice x3 l.sy.length y3) (.slice x4 l.si.length y4) (.slice x5 l.so.length y5)):=by rw[hw0,hb0];exact(Six.new w _ _ _ _ _ _).below ((Ok.refl _).alloc _)
 have HG0:Hi (w0.heap[b1]?=some (.cells #[sZ,sZ,sZ,sZ,sZ,sZ,nI 0,nI 0,sZ] 53 (0,0))):=by rw[hw0,hb1];exact heap_at _ _ _ (by simp)
 have HB:Hi (b0=w.heap.size/\b1=w.heap.size+1):=⟨hb0,hb1⟩;clear hw0 hb1 hb0;refine mq (yj7 _ _ _ _ _ _ ns l w0 (HP.o.below HK0.o)) λw1 hk1=>?_;rw[HG.o];have HK1:=hid (HK0.o.step hk1);have HX1:=hid (HX0.o.below hk1);have HG1:=hid (Ok.row' hk1 HG0.o);clear hk1 HG0 HX0;obtain⟨z1,c0,c1,c2,c3,c4,c5⟩:=HX1.o.pc;go_wp2_with fail;refine mq (zd2 _ ns ns.length _ ((HP.o.below HK1.o).nodes) (by have:=HLN.o;omega)) λw2 hk2=>?_;rw[<-HPN.o.1];have HK2:=hid (HK1.o.step hk2);have HX2:=hid (HX1.o.below hk2);have HG2:=hid (Ok.row' hk2 HG1.o);clear hk2 HG1 HX1 z1 c0 c1 c2 c3 c4 c5;obtain⟨z1,c0,c1,c2,c3,c4,c5⟩:=HX2.o.pc;go_wp2_with fail;obtain⟨bg,hbg⟩:=qq (w2.heap.size);obtain⟨W,hW⟩:=qq (w2.alloc (Obj.cells #[.slice x0 ns.length y0,.slice x1 l.sc.length y1,.slice x2 l.ar.length y2,.slice x3 l.sy.length y3,.slice x4 l.si.length y4,.slice x5 l.so.length y5,nI ((pn:Int)+1),nI (pn:Nat),sZ] 53));rw[<-hW,<-hbg];have HBG:Hi (bg=w2.heap.size/\b1<bg/\b0<bg):=⟨hbg,by rw[hbg];exact za2 HG2.o,by have h1:=za2 HG2.o;have h2:=HB.o;omega⟩;have HWK:Hi (Ok w2 W):=by rw[hW];exact(Ok.refl _).alloc _
 have HWG:Hi (W.heap[bg]?=some (.cells #[Value.slice x0 ns.length y0,Value.slice x1 l.sc.length y1,Value.slice x2 l.ar.length y2,Value.slice x3 l.sy.length y3,Value.slice x4 l.si.length y4,Value.slice x5 l.so.length y5,nI ((pn:Int)+1),nI (pn:Nat),sZ] 53 (0,0))):=by rw[hW,hbg];exact za3 _ _
 clear hW hbg z1 c0 c1 c2 c3 c4 c5 hpw;go_loopw [6] (λi wr=>∃(k:Nat) (ev:Value),i=nI (k:Nat)/\k<=ns.length/\Hi (wr.heap[bg]?=some (.cells #[Value.slice x0 ns.length y0,Value.slice x1 l.sc.length y1,Value.slice x2 l.ar.length y2,Value.slice x3 l.sy.length y3,Value.slice x4 l.si.length y4,Value.slice x5 l.so.length y5,nI ((pn:Int)+1),nI (pn:Nat),ev] 53 (0,0)))/\Hi (wr.ownsRow (bg+1) 59 6 ev (rgE ns 0 k).length (edL (rgE ns 0 k)))/\Hi ((rgE ns 0 k).length<=2*k)/\Hi (Ok w2 wr)) (λi _=>ns.length-(intOf i).toNat)
 case atStart=>exact⟨0,_,rfl,zL_ _,HWG.o,World.ownsRow_nil _ _ _ _,zL_ _,HWK.o⟩
 obtain⟨k,ev,rfl,hk,HGB,HOW,HLE,HKR⟩:=hrel;obtain⟨es,hes⟩:=qq (rgE ns 0 k);have HES:Hi (es=rgE ns 0 k):=hes;rw[<-hes]at HOW HLE;clear hes;obtain⟨eo,ec,rfl⟩:=za0 HOW.o;obtain⟨m,hm⟩:=qq (es.length);have HM:Hi (m=es.length):=hm;rw[<-hm]at HGB HOW HLE;clear hm;obtain⟨z1,c0,c1,c2,c3,c4,c5⟩:=(HX2.o.below HKR.o).pc;by_cases hkl:k<ns.length
 ·have hkl':(k:Int)<(ns.length:Int):=za5 hkl
  have hkw:IntKind.i64.wrap ((k:Int)+1)=((k+1:Nat):Int):=zb3 (by have:=HLN.o;omega);obtain⟨n,hn⟩:∃n,ns[k]?=some n:=⟨_,gG_ hkl⟩;obtain⟨_,ao',cap',e1,_,_,hN⟩:=((HP.o.below HK2.o).below HKR.o).nodes
  injection e1 with e1 e2 e3;clear e2
  subst e1 e3;obtain⟨b,o,rfl,M1⟩:=hN.resolve_left (λe=>by rw[e]at hkl;simp at hkl);obtain⟨n0,n1,n2,n3,n4,n5⟩:=M1.get hn;have lb:=M1.lt;have HKDN:=hid (ze1 hn);obtain⟨nd,nk,nm,nu,no,nps⟩:=n;simp only at n0 n1 n2 n3 n4 n5 HKDN;have HKL:=hid hkl;clear hn M1 hN;by_cases hs:2<=nk/\nk<=8
  ·have HS:Hi ((decide (2<=nk)&&decide (nk<=8))=true):=by unfold Hi;rw[decide_eq_true hs.1,decide_eq_true hs.2];rfl
   have HKK:Hi (2<=kdA ns k/\kdA ns k<=8):=by rw[HKDN.o];exact hs
   have HSUC:Hi (rgE ns 0 (k+1)=es++elR ns k):=by unfold Hi;rw[HES.o,zg5 (x:=k) (by omega) (by omega),zO0 HKK.o]
   clear hs
   go_wp2_with (first
    |(go_at_call 26;refine mq (zp3 _ _ _ _ _ _ _) λw3 hk3=>?_;have HK3:=hid hk3;rw[HS.o];clear hk3)
    | fail)
   have HR3:=hid (HKR.o.step HK3.o);have HG3:Hi _:=Ok.row' HK3.o HGB.o;have HO3:=hid (za1 HOW.o HK3.o);obtain⟨q1,d0,d1,d2,d3,d4,d5⟩:=(HX2.o.below HR3.o).pc;have HSS:Hi (∀X,Ok w3 X->X.cell? (aD bg 8)=some (.slice eo m ec)/\X.cell? (aD b0 0)=some (.slice (sA b o) ns.length y0)):=λX hX=>⟨(cell_of_row _ _ 8 _ _ _ (Ok.row' hX HG3.o)).trans sI,(HX2.o.below (HR3.o.step hX)).pc.c0⟩;clear z1 c0 c1 c2 c3 c4 c5 n0 n1 n2 n3 n4 n5 lb;have S0:=HSS.o w3.drew (Below.drew (Ok.refl _));refine zd5 (λw'=>w'.cell? (aD bg 8)=some (.slice eo m ec)/\w'.cell? (aD b0 0)=some (.slice (sA b o) ns.length y0)) 8 kR ?_;refine tL 0 (pA bg 8) S0 ?_ ?_
   ·intro w' hSw;obtain⟨s0,s1⟩:=hSw;go_simp;try with_reducible rfl
   simp only[pu];refine tL 1 (.slice eo m ec) S0 ?_ ?_
   ·intro w' hSw;obtain⟨s0,s1⟩:=hSw;go_simp;try with_reducible rfl
   simp only[pu];refine tL 2 (pA b0 0) S0 ?_ ?_
   ·intro w' hSw;obtain⟨s0,s1⟩:=hSw;go_simp;try with_reducible rfl
   simp only[pu];refine tL 3 (.slice (sA b o) ns.length y0) S0 ?_ ?_
   ·intro w' hSw;obtain⟨s0,s1⟩:=hSw;go_simp;try with_reducible rfl
   simp only[pu];refine tL 4 (nI (k:Nat)) S0 ?_ ?_
   ·intro w' hSw;obtain⟨s0,s1⟩:=hSw;go_simp;try with_reducible rfl
   simp only[pu];refine zb0 (i:=5) kR rfl (λK hK=>?_);go_simp;refine(zX4 _ ns HT.o (by have:=HLN.o;omega) k _ (((HP.o.below HK2.o).below (HR3.o.step (Below.drew (Ok.refl _)))).nodes) HKL.o HKK.o).mono ?_;rintro e w4 ⟨lv,rfl,hsl,hk4'⟩;have hk4:Ok w3 w4:=Ok.step (Below.drew (Ok.refl _)) hk4';obtain⟨hl1,hl2,lo,lc,rfl,hl3⟩:=hsl
   have hne:0<(elR ns k).length:=by unfold elR;split<;>simp
   have hne2:(elR ns k).length<=2:=by unfold elR;split<;>simp
   obtain⟨gb,go,rfl,hgl,hcs⟩:=hl3.resolve_left oM;go_wp2_with fail;refine hK.out _ _ (λ_=>HSS.o w4 hk4) ?_;clear hK K;obtain⟨i0,hi0,hy0,hy1,hy2⟩:=zg6 wn1;have HK4:=hid hk4;have HO4:=hid (za1 HO3.o hk4);have HG4:Hi _:=Ok.row' hk4 HG3.o;have HML:Hi (m<=2*300):=by have h1:=HLE.o;have h2:=HLN.o;unfold Hi;omega
   obtain⟨nn,hnn⟩:=qq ((elR ns k).length);have HNN:Hi (nn=(elR ns k).length/\0<nn/\nn<=2):=⟨hnn,by omega,by omega⟩;have HNL:Hi ((edL (elR ns k)).length=nn*6):=by rw[hnn];exact hl1
   have HN1:=hid hl2;have HCS:Hi (∀j u,(edL (elR ns k))[j]?=some u->w4.cell? ((⟨gb,go,none⟩:Addr).add j)=some u):=λj u hj=>by rw[zb7];exact hcs j u hj
   rw[<-hnn];clear hk4 hk4' hl1 hl2 hl3 hcs hne hne2 hnn S0;refine zb0 (i:=6) kR rfl (λK hK=>?_);refine step_append_lies w4 (by rfl) _ _ _ (by rfl) (bg+1) 59 i0 _ 6 40 Tryz.underlying51 hi0 hy0 hy1 hy2 rfl dC (.slice eo m ec) m (edL es) (by rfl) HO4.o ⟨gb,go,none⟩ nn lc (edL (elR ns k)) (by rfl) HNL.o HCS.o HN1.o HNN.o.2.1 (by have h1:=HML.o;have h2:=HNN.o;unfold maxLen;omega) (by have h1:=HML.o;have h2:=HNN.o;omega) (by have:=za2 HG4.o;omega) w4.heap.size rfl ?_;intro gg capg w5 hown hgrow hat hlt;have HG5:Hi _:=(show w5.heap[bg]?=_ from(hgrow.block bg (za2 HG4.o) (λe=>by have:=(HO4.o.lt bg e.symm).1;omega)).trans HG4.o);have HR5:Hi (Ok w2 w5):=(HR3.o.step HK4.o).grown hgrow (λb e=>by have h1:=(HO4.o.lt b e).1;have h2:=HBG.o;omega);have HO5:=hid hown;have S5:w5.cell? (aD bg 8)=some (.slice eo m ec)/\w5.cell? (aD b0 0)=some (.slice (sA b o) ns.length y0):=⟨(cell_of_row _ _ 8 _ _ _ HG5.o).trans sI,(HX2.o.below HR5.o).pc.c0⟩;refine hK.out _ _ (λ_=>S5) ?_;clear hK K hown hgrow hat hlt;simp only[pu];refine tL 7 (pA bg 8) S5 ?_ ?_
   ·intro w' hSw;obtain⟨s0,s1⟩:=hSw;go_simp;try with_reducible rfl
   simp only[pu];have f5:w5.frozen? (aD bg 8)=false:=frozen_of_row _ _ _ _ _ HG5.o;have l5:=za2 HG5.o;have e5:=S5.1;refine zb0 (i:=8) kR rfl (λK hK=>?_);go_simp;refine hK.out _ _ (λh=>absurd rfl h) ?_;clear hK K;refine zd4 kR ?_ _;go_wp2_with fail;go_roundw
   case rel=>exact⟨k+1,_,rfl,hkl,by have:=heap_setCell_same w5 bg 8 _ 53 (.slice (sA gg 0) (m+nn) capg) HG5.o;unfold Hi;simpa using this,by have:=HO5.o;unfold Hi;rw[HSUC.o,List.length_append,<-HM.o,<-HNN.o.1,yk2];exact zn8 this (by omega) _,by unfold Hi;rw[HSUC.o,List.length_append,<-HM.o,<-HNN.o.1];have h1:=HLE.o;have h2:=HNN.o;omega,Below.setCell (p:=⟨bg,8,none⟩) HR5.o (by have:=HBG.o;show w2.heap.size<=bg;omega) _⟩
   case measure=>simp only[intOf,Int.toNat_natCast];omega
  have HS:Hi ((decide (2<=nk)&&decide (nk<=8))=false):=by
   unfold Hi;by_cases h2:2<=nk
   ·rw[decide_eq_false (show ¬nk<=8 from λh8=>hs ⟨h2,h8⟩),Bool.and_false]
   rw[decide_eq_false h2];rfl
  have HSUC:Hi (rgE ns 0 (k+1)=es):=by unfold Hi;rw[HES.o,zg5 (x:=k) (by omega) (by omega),zl0 (p:=k) (λr r1 r2=>by rw[show r=k by omega,HKDN.o];exact hs),List.append_nil]
  clear hs
  go_wp2_with (first
   |(go_at_call 26;refine mq (zp3 _ _ _ _ _ _ _) λw3 hk3=>?_;have HK3:=hid hk3;rw[HS.o];clear hk3)
   | fail)
  go_roundw
  case rel=>exact⟨k+1,_,rfl,hkl,Ok.row' HK3.o HGB.o,by rw[HSUC.o,<-HM.o];exact za1 HOW.o HK3.o,by unfold Hi;rw[HSUC.o,<-HM.o];have:=HLE.o;omega,HKR.o.step HK3.o⟩
  case measure=>simp only[intOf,Int.toNat_natCast];omega
 have hkl':¬(k:Int)<(ns.length:Int):=zb2 hkl;have G1:=Ok.row' HKR.o HG2.o;have r0:wr.cell? (aD bg 0)=some (.slice x0 ns.length y0):=(cell_of_row _ _ 0 _ _ _ HGB.o).trans sI;have r1:wr.cell? (aD bg 1)=some (.slice x1 l.sc.length y1):=(cell_of_row _ _ 1 _ _ _ HGB.o).trans sI;have r2:wr.cell? (aD bg 2)=some (.slice x2 l.ar.length y2):=(cell_of_row _ _ 2 _ _ _ HGB.o).trans sI;have r3:wr.cell? (aD bg 3)=some (.slice x3 l.sy.length y3):=(cell_of_row _ _ 3 _ _ _ HGB.o).trans sI;have r4:wr.cell? (aD bg 4)=some (.slice x4 l.si.length y4):=(cell_of_row _ _ 4 _ _ _ HGB.o).trans sI;have r5:wr.cell? (aD bg 5)=some (.slice x5 l.so.length y5):=(cell_of_row _ _ 5 _ _ _ HGB.o).trans sI;have r6:wr.cell? (aD bg 6)=some (nI ((pn:Int)+1)):=(cell_of_row _ _ 6 _ _ _ HGB.o).trans sI;have r7:wr.cell? (aD bg 7)=some (nI (pn:Nat)):=(cell_of_row _ _ 7 _ _ _ HGB.o).trans sI;have r8:wr.cell? (aD bg 8)=some (.slice eo m ec):=(cell_of_row _ _ 8 _ _ _ HGB.o).trans sI;have t0:wr.cell? (aD b1 0)=some (sZ):=(cell_of_row _ _ 0 _ _ _ G1).trans sI;have t1:wr.cell? (aD b1 1)=some (sZ):=(cell_of_row _ _ 1 _ _ _ G1).trans sI;have t2:wr.cell? (aD b1 2)=some (sZ):=(cell_of_row _ _ 2 _ _ _ G1).trans sI;have t3:wr.cell? (aD b1 3)=some (sZ):=(cell_of_row _ _ 3 _ _ _ G1).trans sI;have t4:wr.cell? (aD b1 4)=some (sZ):=(cell_of_row _ _ 4 _ _ _ G1).trans sI;have t5:wr.cell? (aD b1 5)=some (sZ):=(cell_of_row _ _ 5 _ _ _ G1).trans sI;have t6:wr.cell? (aD b1 6)=some (nI 0):=(cell_of_row _ _ 6 _ _ _ G1).trans sI;have t7:wr.cell? (aD b1 7)=some (nI 0):=(cell_of_row _ _ 7 _ _ _ G1).trans sI;have t8:wr.cell? (aD b1 8)=some (sZ):=(cell_of_row _ _ 8 _ _ _ G1).trans sI;have wf:∀i,wr.frozen? (aD b1 i)=false:=λi=>frozen_of_row _ _ _ _ _ G1;have lg1:=za2 G1;have lg2:=za2 HGB.o;have HG9:Hi _:=G1;have HEL:Hi (elF ns=es):=by unfold Hi;rw[yC7 HT.o,HES.o,show k=ns.length by omega]
 go_wp2_with fail
 try simp only[Exit.inBlock,Exit.then]
 refine bodyPost_ret (zc0 rfl _ _ b1 53 _ (0,0) _ rfl (zC4 HG9.o _ _ _ _ _ _ _ _ _) Tryz.underlying53 rfl Tryz.infoG) rfl ?_;refine⟨.slice eo m ec,rfl,?_,?_⟩
 ·rw[HEL.o,<-HM.o]
  have hb:=HB.o;have hg:=HBG.o;exact za7 (zC5 HOW.o (λb hbb=>by have:=(HOW.o.lt b hbb).1;omega) _ _ _ _ _ _ _ _ _) oM
 exact zq5 (HK2.o.step HKR.o) (by have:=HB.o;omega) _ _ _ _ _ _ _ _ _
end
section
open Go.RowKit
def LPr(w:World)(l:List UInt8)(e:Ending)(w':World):Prop :=
 (∃(ns:List Nd) (u:Nat->Value),wo0 l ns/\e=.returned (.agg #[u 0,u 1,u 2,u 3,u 4,u 5])/\BZ w' w.heap.size u ns (AC ns).2.2/\∀n∈ns,n.Fit)
 \/ (wo1 l/\e=.returned (.agg #[sZ,sZ,sZ,sZ,sZ,sZ]))
theorem zx9(s:ByteArray)(w:World) :
  Calls Tryz.prog 4 #[.string s,nI 0] w λe w'=>LPr w s.toList e w'/\Ok w w':=by
 go_enter Tryz.func4,Tryz.ntmps4;go_wp2_with fail;refine(yt7 s _).mono ?_;rintro e w1 ⟨ht,hok⟩;have HX:Hi (Six w1 w.heap.size (sZ) (sZ) (sZ) (sZ) (sZ) (sZ)):=(Six.new w _ _ _ _ _ _).below hok;have HK:Hi (Ok w w1):=((Ok.refl w).alloc _).step hok;obtain⟨z1,c0,c1,c2,c3,c4,c5⟩:=HX.o.pc;have wf:=HX.o.warm
 have hT:(∃(ns:List Nd) (u:Nat->Value),wo0 s.toList ns/\e=.returned (.tuple #[.agg #[u 0,u 1,u 2,u 3,u 4,u 5],nI 0,nI 0])/\BZ w1 (w.heap.size+1) u ns (AC ns).2.2/\∀n∈ns,n.Fit)\/(wo1 s.toList/\∃er at0:Int,er≠0/\e=.returned (.tuple #[.agg #[sZ,sZ,sZ,sZ,sZ,sZ],nI er,nI at0])):=by
  unfold wb4 at ht
  cases hl:DS s.toList with
  | inl p =>
   rw[hl]at ht;obtain⟨er,at0⟩:=p;exact .inr ⟨.inl ⟨_,hl⟩,_,_,by have:=ht.1;omega,ht.2⟩
  | inr ts =>
   rw[hl]at ht;obtain⟨P,h1,h2,h3⟩:=ht;subst h1;rcases h3 with ⟨k1,k2,u,k3,k4,k5⟩ | ⟨k1,er,at0,k2,k3⟩
   ·exact .inl ⟨_,u,⟨P,hl,h2,k1,rfl,k2⟩,k3,by simpa using k4,k5.1⟩
   exact .inr ⟨.inr ⟨P,hl,h2,k1⟩,er,at0,k2,k3⟩
 clear ht hok;rcases hT with ⟨ns,u,hP,rfl,hu,hf⟩ | ⟨hn,er,at0,he,rfl⟩
 ·have HP:Hi (wo0 s.toList ns/\BZ w1 (w.heap.size+1) u ns (AC ns).2.2/\∀n∈ns,n.Fit):=⟨hP,hu,hf⟩
  clear hP hu hf;obtain⟨o0,p0,e0⟩:=za0 (HP.o.2.1 0 dC);obtain⟨o1,p1,e1⟩:=za0 (HP.o.2.1 1 dC);obtain⟨o2,p2,e2⟩:=za0 (HP.o.2.1 2 dC);obtain⟨o3,p3,e3⟩:=za0 (HP.o.2.1 3 dC);obtain⟨o4,p4,e4⟩:=za0 (HP.o.2.1 4 dC);obtain⟨o5,p5,e5⟩:=za0 (HP.o.2.1 5 dC);have HEE:Hi (u 0=_/\u 1=_/\u 2=_/\u 3=_/\u 4=_/\u 5=_):=⟨e0,e1,e2,e3,e4,e5⟩;rw[e0,e1,e2,e3,e4,e5];clear e0 e1 e2 e3 e4 e5;go_wp2_with fail
  try simp only[Exit.inBlock,Exit.then]
  refine bodyPost_ret (results_cell_row rfl _ _ w.heap.size 33 #[_,_,_,_,_,_] (0,0) _ rfl (heap_past _ _ _ (za2 (zc9 HX.o.heap _ _ _ _ _ _)) (zc9 HX.o.heap _ _ _ _ _ _)) Tryz.underlying33 rfl Tryz.info33) rfl ?_;refine⟨.inl ⟨ns,u,HP.o.1,?_,?_,HP.o.2.2⟩,(show Ok w _ from zc8 HK.o (nR_ _) _ _ _ _ _ _).alloc _⟩
  ·obtain⟨e0,e1,e2,e3,e4,e5⟩:=HEE.o
   rw[e0,e1,e2,e3,e4,e5]
  intro k hk;exact za7 (World.ownsRow.alloc (zI9 (HP.o.2.1 k hk) oM _ _ _ _ _ _) _) oM
 have HC:=hid hn;clear hn he;go_wp2_with fail
 try simp only[Exit.inBlock,Exit.then]
 refine bodyPost_ret (results_cell_row rfl _ _ w.heap.size 33 #[_,_,_,_,_,_] (0,0) _ rfl (heap_past _ _ _ (za2 (zc9 HX.o.heap _ _ _ _ _ _)) (zc9 HX.o.heap _ _ _ _ _ _)) Tryz.underlying33 rfl Tryz.info33) rfl ?_;exact⟨.inr ⟨HC.o,rfl⟩,(show Ok w _ from zc8 HK.o (nR_ _) _ _ _ _ _ _).alloc _⟩
end
section
open Go.RowKit Go.Maps
theorem ws0{ns:List Nd}{l:Ls}{c:Nat->Int}{ts:List Int}(h:DJ ns l c ts=0):LkB (spR ns c).2.2/\(spR ns c).2.1.length<=1806/\0<(spR ns c).2.1.length:=by
 obtain⟨hg,hr⟩:=zm1 h;have hc:=zp8 hr;have hG:=wi2 hg;have hF:=ye8 h;obtain⟨R,hR⟩:=qq (spR ns c);rw[<-hR]at hF ⊢
 have hv:R.2.1.length<=1806:=by have h1:=hF.vi.len (N:=ptN ns) hG.wit;have h2:(DU (c 2).toNat (c 0) (c 1) (elF ns) R.1).cap=(c 2).toNat:=rfl;rw[h2]at h1;have h3:=Nat.mul_le_mul hG.pts (show(c 2).toNat<=6 by omega);omega
 have he:(DU (c 2).toNat (c 0) (c 1) (elF ns) R.1).es=elF ns:=rfl;refine⟨⟨?_,λx hx=>?_⟩,hv,?_⟩
 ·obtain⟨LL,k1,k2,k3⟩:=hF.rows
  rw[k2];refine Nat.le_trans (zt5 (M:=600) LL λrow hrow=>?_) (by rw[k1];omega);obtain⟨i,hi⟩:=List.mem_iff_getElem?.1 hrow;obtain⟨v,_,h2⟩:=k3 i row hi;rw[h2.1];exact Nat.le_trans (zr0 _ _) (by rw[he];exact hG.els)
 ·obtain⟨v,e,a1,a2,a3,a4⟩:=hF.link hx
  have b1:=(List.getElem?_eq_some_iff.1 a1).1;have b2:=(List.getElem?_eq_some_iff.1 a2).1;have b3:=(List.getElem?_eq_some_iff.1 a4).1;rw[he]at b2;have:=hG.els;omega
 exact(List.getElem?_eq_some_iff.1 hF.first).1
theorem yB1(v:Nat->Value)(c:Nat->Int)(ts:List Int)(tz:Option Addr)(tc:Nat)(ns:List Nd)(l:Ls)(pv:Value)(path:List Int)(w:World)(hE:wg9 w)(h:BO w (v 0) (v 1) (v 2) (v 3) (v 4) (v 5) ns l)(hts:SL w 1 (.slice tz ts.length tc) ts.length (ilL ts))(hp:SL w 1 pv path.length (ilL path))(hpl:path.length<=4000000000000000000)(hpw:∀y∈path,(Lit.int .i64 y).wf=true) :
  Calls Tryz.prog 20 #[.agg #[v 0,v 1,v 2,v 3,v 4,v 5],.agg #[nI (c 0),nI (c 1),nI (c 2),nI (c 3),nI (c 4),nI (c 5),.slice tz ts.length tc,nI (c 7),nI (c 8)],pv] w λe w'=>e=.returned (.tuple #[nI (flV (DJ ns l c ts) (spR ns c).2.2 path).1,nI (flV (DJ ns l c ts) (spR ns c).2.2 path).2])/\Ok w w':=by
 have hS:∀Y,Ok w Y->Calls Tryz.prog 19 #[.agg #[v 0,v 1,v 2,v 3,v 4,v 5],.agg #[nI (c 0),nI (c 1),nI (c 2),nI (c 3),nI (c 4),nI (c 5),.slice tz ts.length tc,nI (c 7),nI (c 8)]] Y λe w'=>SpG Y (DJ ns l c ts) (ptN ns) (spR ns c) e w':=λY hY=>zu0 v c ts tz tc ns l Y (hE.ok hY) (h.below hY) (hts.below hY);by_cases hb:DJ ns l c ts=0
 ·rw[hb]at hS ⊢
  exact ye6 v c tz ts.length tc pv path (ptN ns) (spR ns c) _ w (ye8 hb) (ws0 hb).1 hp hpl hpw hS
 refine mq (zV3 v c tz ts.length tc pv (DJ ns l c ts) (ptN ns) (spR ns c) w hb hS) λw' hk=>?_;refine⟨?_,hk⟩;unfold flV;rw[if_neg hb]
def ws1(w:World)(e:Ending)(w':World)(ns:List Nd)(l:Ls)(v:Nat->Value):Prop:=e=.returned (.agg #[v 0,v 1,v 2,v 3,v 4,v 5])/\(∀i,i<6->∃ao n c,v i=.slice ao n c)/\BO w' (v 0) (v 1) (v 2) (v 3) (v 4) (v 5) ns l/\Ok w w'
theorem ws1.of{w:World}{l:List UInt8}{e:Ending}{w':World}(h:LPr w l e w')(hk:Ok w w'):∃ns m v,ws1 w e w' ns m v:=by
 rcases h with ⟨ns,u,hP,he,hu,hf⟩ | ⟨hn,he⟩
 ·exact⟨ns,_,u,he,λi hi=>by obtain⟨o,c,e⟩:=za0 (hu i hi);exact⟨_,_,_,e⟩,hu.prog λn hn=>yj1 (hf n hn),hk⟩
 exact⟨[],ls0,λ_=>sZ,he,λi hi=>⟨_,_,_,rfl⟩,⟨⟨λn hn=>(by cases hn),none,0,rfl,zL_ _,by decide,.inl rfl⟩,⟨⟨by decide,none,0,rfl,.inl rfl⟩,⟨by decide,none,0,rfl,.inl rfl⟩,⟨by decide,none,0,rfl,.inl rfl⟩,⟨by decide,none,0,rfl,.inl rfl⟩,⟨by decide,none,0,rfl,.inl rfl⟩⟩⟩,hk⟩
end
section
open Go.RowKit Go.Maps
theorem yH7(v:Nat->Value)(c:Nat->Int)(ts:List Int)(tz:Option Addr)(tc:Nat)(ns:List Nd)(l:Ls)(w:World)(h:BO w (v 0) (v 1) (v 2) (v 3) (v 4) (v 5) ns l)(hv6:∀i,i<6->∃ao n c,v i=.slice ao n c)(hts:SL w 1 (.slice tz ts.length tc) ts.length (ilL ts)) :
  Calls Tryz.prog 13 #[.agg #[v 0,v 1,v 2,v 3,v 4,v 5],.agg #[nI (c 0),nI (c 1),nI (c 2),nI (c 3),nI (c 4),nI (c 5),.slice tz ts.length tc,nI (c 7),nI (c 8)]] w λe w'=>e=.returned (nI (DJ ns l c ts))/\Ok w w' :=
 yF9 v c ts tz tc (CY ns l) w hv6 hts (λY hY=>yj7 _ _ _ _ _ _ ns l Y (h.below hY))
end
end Go.Proofs.YtpongdpnbclchaaGreatDoor
