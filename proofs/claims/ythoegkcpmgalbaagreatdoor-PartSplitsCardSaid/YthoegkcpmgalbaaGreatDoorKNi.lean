import Derived.Test.YthoegkcpmgalbaaGreatDoorKJg
import Derived.Test.YthoegkcpmgalbaaGreatDoorKNg
import Derived.Test.YthoegkcpmgalbaaGreatDoorKTh
set_option linter.all false
set_option maxRecDepth 100000
namespace Go.Proofs.YthoegkcpmgalbaaGreatDoor
open Go.RowKit Go.Maps
set_option maxHeartbeats 8000000 in
def zO1(v0 v1 v2 v3 v4 v5:Value)(ns:List Nd)(l:Ls)(w:World)(h:BV w v0 v1 v2 v3 v4 v5 ns l)(hg:DG ns l=true) :
  Calls Tryz.prog 16 #[.agg #[v0,v1,v2,v3,v4,v5]] w λe w'=>∃ev:Value,e=.returned (.tuple #[.agg #[v0,v1,v2,v3,v4,v5,nI ((ptF ns ns.length+1:Nat):Int),nI (ptF ns ns.length:Nat),ev],nI 0])/\w'.ownsRow w.heap.size 98 6 ev (elF ns).length (edL (elF ns))/\Ok w w':=by
 have d:=zv7 hg;have HT:=hid (zN8 (zq4 d));have a6:=hid ((zj1 ns d).2);have HG:=hid hg;have HP:=hid h;obtain⟨_,x0,y0,rfl,_⟩:=h.nodes;obtain⟨_,_,x1,y1,rfl,_⟩:=h.lists.sc.sl;obtain⟨_,_,x2,y2,rfl,_⟩:=h.lists.ar.sl;obtain⟨_,_,x3,y3,rfl,_⟩:=h.lists.sy.sl;obtain⟨_,_,x4,y4,rfl,_⟩:=h.lists.si.sl;obtain⟨_,_,x5,y5,rfl,_⟩:=h.lists.so.sl;clear d hg h;obtain⟨pn,d⟩:=qq (ptF ns ns.length);have f3:Hi (pn=ptF ns ns.length/\pn<=300):=⟨d,by rw[d];exact aH (zq9 _ _) a6.o⟩;have J:IntKind.i64.wrap ((pn:Int)+1)=((pn+1:Nat):Int):=zb3 (oH f3.o);rw[<-d];clear d;go_enter Tryz.func16,Tryz.ntmps16;go_wp2_with fail;obtain⟨w0,d⟩:=qq ((w.alloc (Obj.cells #[.slice x0 ns.length y0,.slice x1 l.sc.length y1,.slice x2 l.ar.length y2,.slice x3 l.sy.length y3,.slice x4 l.si.length y4,.slice x5 l.so.length y5] 30)).alloc (Obj.cells #[sZ,sZ,sZ,sZ,sZ,sZ,nI 0,nI 0,sZ] 59));obtain⟨Y,o⟩:=qq (w.heap.size+1);obtain⟨b0,D⟩:=qq (w.heap.size);rw[<-d,<-o,<-D];have c9:Hi (Ok w w0):=by rw[d];exact((Ok.refl w).alloc _).alloc _
 have I:Hi (Six w0 b0 (.slice x0 ns.length y0) (.slice x1 l.sc.length y1) (.slice x2 l.ar.length y2) (.slice x3 l.sy.length y3) (.slice x4 l.si.length y4) (.slice x5 l.so.length y5)):=by rw[d,D];exact(Six.new w _ _ _ _ _ _).below ((Ok.refl _).alloc _)
 have G:Hi (w0.heap[Y]?=some (.cells #[sZ,sZ,sZ,sZ,sZ,sZ,nI 0,nI 0,sZ] 59 (0,0))):=by rw[d,o];exact heap_at _ _ _ (by simp)
 have HB:Hi (b0=w.heap.size/\Y=w.heap.size+1):=⟨D,o⟩;clear d o D;refine mq (yj7 _ _ _ _ _ _ ns l w0 (HP.o.below c9.o)) λw1 d=>?_;rw[HG.o];have c7:=hid (c9.o.step d);have o:=hid (I.o.below d);have D:=hid (Ok.row' d G.o);clear d G I;obtain⟨z1,c0,c1,c2,c3,c4,c5⟩:=o.o.pc;go_wp2_with fail;refine mq (zd2 _ ns ns.length _ ((HP.o.below c7.o).nodes) (oH a6.o)) λw2 d=>?_;rw[<-f3.o.1];have b7:=hid (c7.o.step d);have a4:=hid (o.o.below d);have b6:=hid (Ok.row' d D.o);clear d D o z1 c0 c1 c2 c3 c4 c5;obtain⟨z1,c0,c1,c2,c3,c4,c5⟩:=a4.o.pc;go_wp2_with fail;obtain⟨d,o⟩:=qq (w2.heap.size);obtain⟨W,D⟩:=qq (w2.alloc (Obj.cells #[.slice x0 ns.length y0,.slice x1 l.sc.length y1,.slice x2 l.ar.length y2,.slice x3 l.sy.length y3,.slice x4 l.si.length y4,.slice x5 l.so.length y5,nI ((pn:Int)+1),nI (pn:Nat),sZ] 59));rw[<-D,<-o];have b9:Hi (d=w2.heap.size/\Y<d/\b0<d):=⟨o,by rw[o];exact za2 b6.o,by have h1:=za2 b6.o;have h2:=HB.o;omega⟩;have g8:Hi (Ok w2 W):=by rw[D];exact(Ok.refl _).alloc _
 have g5:Hi (W.heap[d]?=some (.cells #[Value.slice x0 ns.length y0,Value.slice x1 l.sc.length y1,Value.slice x2 l.ar.length y2,Value.slice x3 l.sy.length y3,Value.slice x4 l.si.length y4,Value.slice x5 l.so.length y5,nI ((pn:Int)+1),nI (pn:Nat),sZ] 59 (0,0))):=by rw[D,o];exact za3 _ _
 clear D o z1 c0 c1 c2 c3 c4 c5 J;go_loopw [6] (λi wr=>∃(k:Nat) (ev:Value),i=nI (k:Nat)/\k<=ns.length/\Hi (wr.heap[d]?=some (.cells #[Value.slice x0 ns.length y0,Value.slice x1 l.sc.length y1,Value.slice x2 l.ar.length y2,Value.slice x3 l.sy.length y3,Value.slice x4 l.si.length y4,Value.slice x5 l.so.length y5,nI ((pn:Int)+1),nI (pn:Nat),ev] 59 (0,0)))/\Hi (wr.ownsRow (d+1) 98 6 ev (rgE ns 0 k).length (edL (rgE ns 0 k)))/\Hi ((rgE ns 0 k).length<=2*k)/\Hi (Ok w2 wr)) (λi _=>ns.length-(intOf i).toNat)
 case atStart=>exact⟨0,_,rfl,zL_ _,g5.o,World.ownsRow_nil _ _ _ _,zL_ _,g8.o⟩
 obtain⟨k,ev,rfl,hk,D,O,a5,Z⟩:=hrel;obtain⟨es,o⟩:=qq (rgE ns 0 k);have b4:Hi (es=rgE ns 0 k):=o;rw[<-o]at O a5;clear o;obtain⟨eo,ec,rfl⟩:=za0 O.o;obtain⟨m,o⟩:=qq (es.length);have HM:Hi (m=es.length):=o;rw[<-o]at D O a5;clear o;obtain⟨z1,c0,c1,c2,c3,c4,c5⟩:=(a4.o.below Z.o).pc;by_cases J:k<ns.length
 ·have d9:(k:Int)<(ns.length:Int):=za5 J
  have i3:IntKind.i64.wrap ((k:Int)+1)=((k+1:Nat):Int):=zb3 (oH a6.o);obtain⟨n,G⟩:∃n,ns[k]?=some n:=⟨_,gG_ J⟩;obtain⟨_,i4,h9,e1,_,_,K⟩:=((HP.o.below b7.o).below Z.o).nodes
  injection e1 with e1 e2 e3;clear e2
  subst e1 e3;obtain⟨b,o,rfl,I⟩:=K.resolve_left (λe=>by rw[e]at J;simp at J);obtain⟨n0,n1,n2,n3,n4,n5⟩:=I.get G;have lb:=I.lt;have a3:=hid (ze1 G);obtain⟨nd,nk,nm,nu,no,i2⟩:=n;simp only at n0 n1 n2 n3 n4 n5 a3;have f8:=hid J;clear G I K;by_cases hs:2<=nk/\nk<=8
  ·have HS:Hi ((decide (2<=nk)&&decide (nk<=8))=true):=by unfold Hi;rw[aV hs.1,aV hs.2];rfl
   have c8:Hi (2<=kdA ns k/\kdA ns k<=8):=by rw[a3.o];exact hs
   have I:Hi (rgE ns 0 (k+1)=es++elR ns k):=by unfold Hi;rw[b4.o,zg5 (x:=k) oM oM,zO0 c8.o]
   clear hs
   go_wp2_with (first
    |(go_at_call 32;refine mq (zp3 _ _ _ _ _ _ _) λw3 a2=>?_;have L:=hid a2;rw[HS.o];clear a2)
    | fail)
   have a9:=hid (Z.o.step L.o);have d7:Hi _:=Ok.row' L.o D.o;have h7:=hid (za1 O.o L.o);obtain⟨q1,d0,d1,d2,d3,d4,d5⟩:=(a4.o.below a9.o).pc;have c6:Hi (∀X,Ok w3 X->X.cell? (aD d 8)=some (.slice eo m ec)/\X.cell? (aD b0 0)=some (.slice (sA b o) ns.length y0)):=λX hX=>⟨(cell_of_row _ _ 8 _ _ _ (Ok.row' hX d7.o)).trans sI,(a4.o.below (a9.o.step hX)).pc.c0⟩;clear z1 c0 c1 c2 c3 c4 c5 n0 n1 n2 n3 n4 n5 lb;have S0:=c6.o w3.drew (Below.drew (Ok.refl _));refine zd5 (λw'=>w'.cell? (aD d 8)=some (.slice eo m ec)/\w'.cell? (aD b0 0)=some (.slice (sA b o) ns.length y0)) 8 kR ?_;refine tL 0 (pA d 8) S0 ?_ ?_
   ·intro w' G;obtain⟨s0,s1⟩:=G;go_simp;try with_reducible rfl
   simp only[pu];refine tL 1 (.slice eo m ec) S0 ?_ ?_
   ·intro w' G;obtain⟨s0,s1⟩:=G;go_simp;try with_reducible rfl
   simp only[pu];refine tL 2 (pA b0 0) S0 ?_ ?_
   ·intro w' G;obtain⟨s0,s1⟩:=G;go_simp;try with_reducible rfl
   simp only[pu];refine tL 3 (.slice (sA b o) ns.length y0) S0 ?_ ?_
   ·intro w' G;obtain⟨s0,s1⟩:=G;go_simp;try with_reducible rfl
   simp only[pu];refine tL 4 (nI (k:Nat)) S0 ?_ ?_
   ·intro w' G;obtain⟨s0,s1⟩:=G;go_simp;try with_reducible rfl
   simp only[pu];refine zb0 (i:=5) kR rfl (λK hK=>?_);go_simp;refine(zX4 _ ns HT.o (oH a6.o) k _ (((HP.o.below b7.o).below (a9.o.step (Below.drew (Ok.refl _)))).nodes) f8.o c8.o).mono ?_;rintro e w4 ⟨lv,rfl,h6,b3⟩;have R:Ok w3 w4:=Ok.step (Below.drew (Ok.refl _)) b3;obtain⟨d6,f0,lo,lc,rfl,f4⟩:=h6
   have g0:0<(elR ns k).length:=by unfold elR;split<;>simp
   have f7:(elR ns k).length<=2:=by unfold elR;split<;>simp
   obtain⟨gb,go,rfl,i1,f6⟩:=f4.resolve_left oM;go_wp2_with fail;refine hK.out _ _ (λ_=>c6.o w4 R) ?_;clear hK K;obtain⟨i0,h5,h4,f9,g4⟩:=zg6 wo3;have g6:=hid R;have b8:=hid (za1 h7.o R);have b5:Hi _:=Ok.row' R d7.o;have d8:Hi (m<=2*300):=by have h1:=a5.o;have h2:=a6.o;unfold Hi;omega
   obtain⟨nn,a7⟩:=qq ((elR ns k).length);have a1:Hi (nn=(elR ns k).length/\0<nn/\nn<=2):=⟨a7,oM,oM⟩;have g3:Hi ((edL (elR ns k)).length=nn*6):=by rw[a7];exact d6
   have g7:=hid f0;have g9:Hi (∀j u,(edL (elR ns k))[j]?=some u->w4.cell? ((⟨gb,go,none⟩:Addr).add j)=some u):=λj u hj=>by rw[zb7];exact f6 j u hj
   rw[<-a7];clear R b3 d6 f0 f4 f6 g0 f7 a7 S0;refine zb0 (i:=6) kR rfl (λK hK=>?_);refine step_append_lies w4 (by rfl) _ _ _ (by rfl) (d+1) 98 i0 _ 6 40 Tryz.underlying57 h5 h4 f9 g4 rfl dC (.slice eo m ec) m (edL es) (by rfl) b8.o ⟨gb,go,none⟩ nn lc (edL (elR ns k)) (by rfl) g3.o g9.o g7.o a1.o.2.1 (by have h1:=d8.o;have h2:=a1.o;unfold maxLen;omega) (by have h1:=d8.o;have h2:=a1.o;omega) (oH (za2 b5.o)) w4.heap.size rfl ?_;intro gg f2 w5 b2 R h3 g1;have a8:Hi _:=(show w5.heap[d]?=_ from(R.block d (za2 b5.o) (λe=>by have:=(b8.o.lt d e.symm).1;omega)).trans b5.o);have f1:Hi (Ok w2 w5):=(a9.o.step g6.o).grown R (λb e=>by have h1:=(b8.o.lt b e).1;have h2:=b9.o;omega);have g2:=hid b2;have S5:w5.cell? (aD d 8)=some (.slice eo m ec)/\w5.cell? (aD b0 0)=some (.slice (sA b o) ns.length y0):=⟨(cell_of_row _ _ 8 _ _ _ a8.o).trans sI,(a4.o.below f1.o).pc.c0⟩;refine hK.out _ _ (λ_=>S5) ?_;clear hK K b2 R h3 g1;simp only[pu];refine tL 7 (pA d 8) S5 ?_ ?_
   ·intro w' G;obtain⟨s0,s1⟩:=G;go_simp;try with_reducible rfl
   simp only[pu];have f5:w5.frozen? (aD d 8)=false:=frozen_of_row _ _ _ _ _ a8.o;have l5:=za2 a8.o;have R:=S5.1;refine zb0 (i:=8) kR rfl (λK hK=>?_);go_simp;refine hK.out _ _ (λh=>absurd rfl h) ?_;clear hK K;refine zd4 kR ?_ _;go_wp2_with fail;go_roundw
   case rel=>exact⟨k+1,_,rfl,J,by have:=heap_setCell_same w5 d 8 _ 59 (.slice (sA gg 0) (m+nn) f2) a8.o;unfold Hi;simpa using this,by have:=g2.o;unfold Hi;rw[I.o,aA,<-HM.o,<-a1.o.1,yk2];exact zn8 this oM _,by unfold Hi;rw[I.o,aA,<-HM.o,<-a1.o.1];have h1:=a5.o;have h2:=a1.o;omega,Below.setCell (p:=⟨d,8,none⟩) f1.o (by have:=b9.o;show w2.heap.size<=d;omega) _⟩
   case measure=>simp only[intOf,aO];omega
  have HS:Hi ((decide (2<=nk)&&decide (nk<=8))=false):=by
   unfold Hi;by_cases h2:2<=nk
   ·rw[aN (show ¬nk<=8 from λG=>hs ⟨h2,G⟩),cL]
   rw[aN h2];rfl
  have I:Hi (rgE ns 0 (k+1)=es):=by unfold Hi;rw[b4.o,zg5 (x:=k) oM oM,zl0 (p:=k) (λr X r2=>by rw[show r=k by omega,a3.o];exact hs),bD]
  clear hs
  go_wp2_with (first
   |(go_at_call 32;refine mq (zp3 _ _ _ _ _ _ _) λw3 a2=>?_;have L:=hid a2;rw[HS.o];clear a2)
   | fail)
  go_roundw
  case rel=>exact⟨k+1,_,rfl,J,Ok.row' L.o D.o,by rw[I.o,<-HM.o];exact za1 O.o L.o,by unfold Hi;rw[I.o,<-HM.o];have:=a5.o;omega,Z.o.step L.o⟩
  case measure=>simp only[intOf,aO];omega
 have d9:¬(k:Int)<(ns.length:Int):=zb2 J;have o:=Ok.row' Z.o b6.o;have r0:wr.cell? (aD d 0)=some (.slice x0 ns.length y0):=(cell_of_row _ _ 0 _ _ _ D.o).trans sI;have X:wr.cell? (aD d 1)=some (.slice x1 l.sc.length y1):=(cell_of_row _ _ 1 _ _ _ D.o).trans sI;have r2:wr.cell? (aD d 2)=some (.slice x2 l.ar.length y2):=(cell_of_row _ _ 2 _ _ _ D.o).trans sI;have r3:wr.cell? (aD d 3)=some (.slice x3 l.sy.length y3):=(cell_of_row _ _ 3 _ _ _ D.o).trans sI;have r4:wr.cell? (aD d 4)=some (.slice x4 l.si.length y4):=(cell_of_row _ _ 4 _ _ _ D.o).trans sI;have r5:wr.cell? (aD d 5)=some (.slice x5 l.so.length y5):=(cell_of_row _ _ 5 _ _ _ D.o).trans sI;have r6:wr.cell? (aD d 6)=some (nI ((pn:Int)+1)):=(cell_of_row _ _ 6 _ _ _ D.o).trans sI;have r7:wr.cell? (aD d 7)=some (nI (pn:Nat)):=(cell_of_row _ _ 7 _ _ _ D.o).trans sI;have r8:wr.cell? (aD d 8)=some (.slice eo m ec):=(cell_of_row _ _ 8 _ _ _ D.o).trans sI;have t0:wr.cell? (aD Y 0)=some (sZ):=(cell_of_row _ _ 0 _ _ _ o).trans sI;have t1:wr.cell? (aD Y 1)=some (sZ):=(cell_of_row _ _ 1 _ _ _ o).trans sI;have t2:wr.cell? (aD Y 2)=some (sZ):=(cell_of_row _ _ 2 _ _ _ o).trans sI;have t3:wr.cell? (aD Y 3)=some (sZ):=(cell_of_row _ _ 3 _ _ _ o).trans sI;have t4:wr.cell? (aD Y 4)=some (sZ):=(cell_of_row _ _ 4 _ _ _ o).trans sI;have t5:wr.cell? (aD Y 5)=some (sZ):=(cell_of_row _ _ 5 _ _ _ o).trans sI;have t6:wr.cell? (aD Y 6)=some (nI 0):=(cell_of_row _ _ 6 _ _ _ o).trans sI;have t7:wr.cell? (aD Y 7)=some (nI 0):=(cell_of_row _ _ 7 _ _ _ o).trans sI;have t8:wr.cell? (aD Y 8)=some (sZ):=(cell_of_row _ _ 8 _ _ _ o).trans sI;have wf:∀i,wr.frozen? (aD Y i)=false:=λi=>frozen_of_row _ _ _ _ _ o;have L:=za2 o;have R:=za2 D.o;have G:Hi _:=o;have I:Hi (elF ns=es):=by unfold Hi;rw[yC7 HT.o,b4.o,show k=ns.length by omega]
 go_wp2_with fail
 try simp only[Exit.inBlock,Exit.then]
 refine bodyPost_ret (zc0 rfl _ _ Y 59 _ (0,0) _ rfl (zC4 G.o _ _ _ _ _ _ _ _ _) Tryz.underlying59 rfl Tryz.infoG) rfl ?_;refine⟨.slice eo m ec,rfl,?_,?_⟩
 ·rw[I.o,<-HM.o]
  have hb:=HB.o;have hg:=b9.o;exact za7 (zC5 O.o (λb K=>by have:=(O.o.lt b K).1;omega) _ _ _ _ _ _ _ _ _) oM
 exact zq5 (b7.o.step Z.o) (oH HB.o) _ _ _ _ _ _ _ _ _
def yH7(v:Nat->Value)(c:Nat->Int)(ts:List Int)(tz:Option Addr)(tc:Nat)(ns:List Nd)(l:Ls)(w:World)(h:BV w (v 0) (v 1) (v 2) (v 3) (v 4) (v 5) ns l)(d:∀i,i<6->∃D n c,v i=.slice D n c)(o:SL w 1 (.slice tz ts.length tc) ts.length (ilL ts)) :
  Calls Tryz.prog 15 #[.agg #[v 0,v 1,v 2,v 3,v 4,v 5],.agg #[nI (c 0),nI (c 1),nI (c 2),nI (c 3),nI (c 4),nI (c 5),.slice tz ts.length tc,nI (c 7),nI (c 8)]] w λe w'=>e=.returned (nI (CM ns l c ts))/\Ok w w' :=
 yF9 v c ts tz tc (DG ns l) w d o (λY G=>yj7 _ _ _ _ _ _ ns l Y (h.below G))
def yG7(v:Nat->Value)(c:Nat->Int)(ts:List Int)(tz:Option Addr)(tc:Nat)(ns:List Nd)(l:Ls)(w:World)(O:we9 w)(h:BV w (v 0) (v 1) (v 2) (v 3) (v 4) (v 5) ns l)(d:∀i,i<6->∃R n c,v i=.slice R n c)(K:SL w 1 (.slice tz ts.length tc) ts.length (ilL ts)) :
  Calls Tryz.prog 7 #[.agg #[v 0,v 1,v 2,v 3,v 4,v 5],.agg #[nI (c 0),nI (c 1),nI (c 2),nI (c 3),nI (c 4),nI (c 5),.slice tz ts.length tc,nI (c 7),nI (c 8)]] w λe w'=>SpG w (CM ns l c ts) (ptN ns) (spR ns c) e w':=by
 have J:∀Y,Ok w Y->_:=λY I=>yH7 v c ts tz tc ns l Y (h.below I) d (K.below I);by_cases o:CM ns l c ts=0
 ·obtain⟨L,X⟩:=zm1 o
  have W:=zp8 X;have D:=wi1 L;rw[o]at J;refine(yG3 v c tz ts.length tc (ptN ns) (ptF ns ns.length) (c 2).toNat (ptN ns*(c 2).toNat+1) (ptN ns+1) (elF ns) (spR ns c) w d J (λY I=>(zO1 _ _ _ _ _ _ ns l Y (h.below I) L).mono λe G h=>h) ⟨D.wit,D.frm,⟨oH D.pts,by show(c 2).toNat<=10;omega,by show(elF ns).length<=5000;have:=D.els;omega⟩,by show 0<(c 2).toNat;omega,⟨W.2.2.1,by show c 1<=1000;omega⟩⟩ oM (hO _) (oH D.pts) (zK9 o) O.tab).mono λe w' G=>.inr ⟨o,G⟩
 exact(yG5 v c tz ts.length tc (CM ns l c ts) o w d J).mono λe w' G=>.inl ⟨o,G.1,G.2⟩
end Go.Proofs.YthoegkcpmgalbaaGreatDoor
