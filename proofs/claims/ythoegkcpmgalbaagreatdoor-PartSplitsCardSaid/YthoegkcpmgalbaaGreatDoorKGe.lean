import Derived.Deep.CutRange
import Derived.Test.YthoegkcpmgalbaaGreatDoorKGm
set_option maxHeartbeats 8000000
set_option linter.all false
set_option maxRecDepth 100000
namespace Go.Proofs.YthoegkcpmgalbaaGreatDoor
open Go.RowKit
variable{B g n s:Nat}{e:TypeId}{v:Value}{w:World}{xs:List Value}
def wg3(H i:Int)(t:Tok):Tok:=if t.1=true then EG else if (t.2.1.length:Int)<H then (false,t.2.1++[i],t.2.2) else (false,t.2.1,t.2.2)
def AD.set3{hv lv:Value}{t:Tok}(h:AD w B hv lv t)(d:g<B)(a b c:Value):AD (((w.setCell (aD g 0) a).setCell (aD g 1) b).setCell (aD g 2) c) B hv lv t:=⟨zf6 h.hist d a b c,zf6 h.loops d a b c⟩
def zj4(w:World){k:Nat}(d:k≠g)(a b c:Value):(((w.setCell (aD g 0) a).setCell (aD g 1) b).setCell (aD g 2) c).heap[k]?=w.heap[k]?:=by rw[Below.heap_setCell _ _ _ _ d,Below.heap_setCell _ _ _ _ d,Below.heap_setCell _ _ _ _ d]
def Ok.set3{w0:World}(h:Ok w0 w)(d:w0.heap.size<=g)(a b c:Value):Ok w0 (((w.setCell (aD g 0) a).setCell (aD g 1) b).setCell (aD g 2) c):=((h.set d _).set d _).set d _
def zf9{size:Nat}(h:w.ownsRow B e size v n xs):∀g,v.ownBlock=some g->∃c J,w.heap[g]?=some (.cells c e J):=by
 intro g o;rcases h.2 with ⟨rfl,_⟩ | ⟨D,cap,G,rfl,_,d,_⟩
 ·cases o
 have I:D=g:=aI o;subst I;exact⟨_,_,d⟩
def zF3(w:World)(g:Nat)(a b c:Value):w.heap.size<=(((w.setCell (aD g 0) a).setCell (aD g 1) b).setCell (aD g 2) c).heap.size :=
 Below.size (Below.setCell (Below.setCell (Below.setCell (Below.refl 0 w) (zL_ _) a) (zL_ _) b) (zL_ _) c)
def zd6{w':World}{W:Nat}{G:TypeId}{R K:Nat}{I:Value}{o:List Value}(h:w.ownsRow B e s v n xs)(J:w.ownsRow W G R I K o)(L:e≠G)(O:w.grownBy w' I.ownBlock):w'.ownsRow B e s v n xs :=
 zb4 h λb D=>O.block b (h.lt b D).2 λY=>by
  obtain⟨c1,f1,X⟩:=zf9 h b D;obtain⟨c2,Z,d⟩:=zf9 J b Y.symm;rw[X]at d
  injection d with d
  injection d with _ k3
  exact L k3
def zo6{o:Nat}(h:w.ownsRow B e s v n xs)(G:g<B)(a:Value):(w.setCell (aD g o) a).ownsRow B e s v n xs :=
 zb4 h λk D=>by
  have d:k≠g:=by have:=(h.lt k D).1;omega
  rw[Below.heap_setCell _ _ _ _ d]
def zJ7(l:List Int)(i:Int):ilL (l++[i])=ilL l++[nI i]:=by simp[ilL]
def zA0(hv lv:Value)(t:Tok)(gm ge:Nat)(H i:Int)(w:World)(o:EA w hv lv t)(R:t.2.1.length*8+8<=140737488355328/\t.2.2.length*16<=140737488355328)(X:w.cell? (aD gm 0)=some (nI H))(W:w.cell? (aD ge 0)=some (nI i))(J:gm<w.heap.size)(I:ge<w.heap.size) :
  Calls Tryz.prog 142 #[.agg #[.bool t.1,hv,lv],pA gm 0,pA ge 0] w λe w'=>∃O L,e=.returned (.agg #[.bool t.1,O,L])/\AD w' w.heap.size O L (wg3 H i t)/\Ok w w':=by
 have K:=hid o;have HB:=hid R;have HC:Hi (∀Y,Ok w Y->Y.cell? (aD gm 0)=some (nI H)/\Y.cell? (aD ge 0)=some (nI i)/\gm<Y.heap.size/\ge<Y.heap.size):=λY hY=>⟨hY.cell (p:=⟨gm,0,none⟩) J X,hY.cell (p:=⟨ge,0,none⟩) I W,lL_ J hY.le,lL_ I hY.le⟩;obtain⟨_,_,ho,hc,rfl,_⟩:=o.hist;obtain⟨_,_,lo,lc,rfl,_⟩:=o.loops;obtain⟨m,d⟩:=qq (t.1);obtain⟨q,G⟩:=qq (t.2.1.length);obtain⟨n,D⟩:=qq (t.2.2.length);have HQ:Hi (m=t.1/\q=t.2.1.length/\n=t.2.2.length):=⟨d,G,D⟩;rw[<-d,<-G,<-D]
 have c7:Hi (∀Y,Ok w Y->Calls Tryz.prog 102 #[.agg #[.bool m,.slice ho q hc,.slice lo n lc]] Y λe w'=>∃O L,e=.returned (.agg #[.bool m,O,L])/\AD w' Y.heap.size O L (cpT t)/\Ok Y w'):=λY hY=>by have:=zi2 _ _ t Y (K.o.below hY) (oH HB.o);rw[<-d,<-G,<-D]at this;exact this
 clear o R X W J I d G D K;go_enter Tryz.func142,Tryz.ntmps142;go_wp2_with fail;obtain⟨W,D⟩:=qq ((w.alloc (Obj.cells #[.bool m,.slice ho q hc,.slice lo n lc] 74)).alloc (Obj.cells #[.bool false,sZ,sZ] 74));obtain⟨I,o⟩:=qq (w.heap.size+1);obtain⟨G,d⟩:=qq (w.heap.size);rw[<-D,<-o,<-d];have HK:Hi (Ok w W):=by rw[D];exact((Ok.refl w).alloc _).alloc _
 have HP:Hi (W.heap[G]?=some (.cells #[Value.bool m,Value.slice ho q hc,Value.slice lo n lc] 74 (0,0))):=by rw[D,d];exact jj
 have HR:Hi (W.heap[I]?=some (.cells #[Value.bool false,sZ,sZ] 74 (0,0))):=by rw[D,o];exact jj
 have HG:Hi (w.heap.size<=G/\G<I):=by unfold Hi;omega
 clear D o d;refine(c7.o W HK.o).mono ?_;rintro e w1 ⟨v1,v2,rfl,h1,h2⟩;have a6:=hid h1;have b5:=hid (HK.o.step h2);have D:Hi _:=Ok.row' h2 HP.o;have b7:Hi _:=Ok.row' h2 HR.o;have d:Hi (W.heap.size<=w1.heap.size/\G<W.heap.size/\I<W.heap.size):=⟨Ok.le h2,za2 HP.o,za2 HR.o⟩;obtain⟨a1,b1,rfl⟩:=za0 h1.hist;obtain⟨a2,b2,rfl⟩:=za0 h1.loops;obtain⟨c0,c1,c2,c3,c4,c5⟩:=za9 D.o;have X:=za2 D.o;clear h1 h2;obtain⟨J,o⟩:=qq ((cpT t).2.1.length);obtain⟨Z,K⟩:=qq ((cpT t).2.2.length);have b8:Hi (J=(cpT t).2.1.length/\Z=(cpT t).2.2.length):=⟨o,K⟩;rw[<-o,<-K];rw[<-o,<-K]at a6;clear o K
 go_upto_region 2 with (fail)
 obtain⟨R,o⟩:=qq (((w1.setCell ⟨G,0,none⟩ (.bool m)).setCell ⟨G,1,none⟩ (.slice a1 J b1)).setCell ⟨G,2,none⟩ (.slice a2 Z b2));rw[<-o];have a4:Hi (AD R W.heap.size (.slice a1 J b1) (.slice a2 Z b2) (cpT t)):=by rw[o];exact a6.o.set3 d.o.2.1 _ _ _
 have a3:Hi (Ok w R):=by rw[o];exact b5.o.set3 HG.o.1 _ _ _
 have a8:Hi (R.heap[G]?=some (.cells #[Value.bool m,Value.slice a1 J b1,Value.slice a2 Z b2] 74 (0,0))):=by rw[o];exact zd9 D.o _ _ _
 have K:Hi (R.heap[I]?=some (.cells #[Value.bool false,sZ,sZ] 74 (0,0))):=by rw[o,zj4 _ (oH HG.o)];exact b7.o
 have c9:Hi (W.heap.size<=R.heap.size):=by rw[o];exact aH d.o.1 (zF3 _ _ _ _ _)
 clear o c0 c1 c2 c3 c4 c5 X D b7 a6 b5;obtain⟨c0,c1,c2,c3,c4,c5⟩:=za9 a8.o;obtain⟨d0,d1,d2,d3,d4,d5⟩:=za9 K.o;have X:=za2 a8.o;have b3:=za2 K.o;obtain⟨x0,x1,x2,x3⟩:=HC.o R a3.o;have d7:¬G=I:=oH HG.o
 cases m with
 | true =>
  have HE:Hi (cpT t=wg3 H i t):=by unfold Hi cpT wg3;rw[aG HQ.o.1.symm,aG HQ.o.1.symm]
  go_wp2_with fail;(try simp only[Exit.inBlock,Exit.then]);refine bodyPost_ret (results_cell_row rfl _ _ I 74 #[_,_,_] (0,0) _ rfl (zd9 K.o _ _ _) Tryz.underlying74 rfl EV) rfl ?_;exact⟨_,_,rfl,by rw[<-HE.o];exact(a4.o.set3 d.o.2.2 _ _ _).base HK.o.le,a3.o.set3 (oH HG.o) _ _ _⟩
 | false =>
  have hf:¬t.1=true:=by rw[<-HQ.o.1];decide
  have HE:Hi (cpT t=t):=by unfold Hi cpT;rw[aC hf]
  have D:Hi (J=t.2.1.length/\Z=t.2.2.length):=by have h:=b8.o;rw[HE.o]at h;exact h
  have HF:Hi (t=(false,t.2.1,t.2.2)):=by
   obtain⟨b,x,y⟩:=t;cases b
   ·rfl
   exact absurd rfl hf
  by_cases b4:(J:Int)<H
  ·have a9:Hi (wg3 H i t=(false,t.2.1++[i],t.2.2)):=by unfold Hi wg3;rw[aC hf,aG (by rw[<-D.o.1];exact b4)]
   have a5:Hi (R.ownsRow W.heap.size 3 1 (.slice a1 J b1) J (ilL t.2.1)):=by have h:=a4.o.hist;rw[HE.o,<-D.o.1]at h;exact h
   have c8:Hi (R.ownsRow W.heap.size 117 2 (.slice a2 Z b2) Z (lpL t.2.2)):=by have h:=a4.o.loops;rw[HE.o,<-D.o.2]at h;exact h
   clear hf
   go_wp2_with (first|(at_builtin;refine ze4 rfl _ _ 28 3 1 8 _ rfl Tryz.underlying28 wb7 (by rfl) (by decide) (by decide) W.heap.size (.slice a1 J b1) J (ilL t.2.1) (by rfl) (World.ownsRow.alloc a5.o _) (.slice (sA R.heap.size 0) 1 1) 1 [nI i] (by rfl) (SL.one R 3 [nI i] rfl (by simp[Value.oneCell'])) (by have h1:=HB.o.1;have h2:=D.o.1;omega) (by have h1:=c9.o;simp;omega) ?_;intro v9 w9 k1 k2;have d6:=hid k1;have c6:Hi (w9.ownsRow W.heap.size 117 2 (.slice a2 Z b2) Z (lpL t.2.2)):=zd6 (World.ownsRow.alloc c8.o _) (World.ownsRow.alloc a5.o _) (by decide) k2;have b9:Hi (Ok w w9):=Ok.grown (a3.o.alloc _) k2 (λb e=>by have h1:=((World.ownsRow.alloc a5.o (Obj.cells #[nI i] 3)).lt b e).1;have h2:=HK.o.le;omega);have b0:Hi (∀g o,g<W.heap.size->R.heap[g]?=some o->w9.heap[g]?=some o):=(λg o hg ho=>(k2.block g (by have:=za2 ho;simp;omega) (λe=>by have h1:=((World.ownsRow.alloc a5.o (Obj.cells #[nI i] 3)).lt g e.symm).1;omega)).trans (heap_past _ _ _ (za2 ho) ho));obtain⟨vo,vc,rfl⟩:=za0 k1;have b6:Hi _:=b0.o G _ d.o.2.1 a8.o;have a7:Hi _:=b0.o I _ d.o.2.2 K.o;clear k1 k2 c0 c1 c2 c3 c4 c5 d0 d1 d2 d3 d4 d5 X b3 x0 x1 x2 x3;obtain⟨c0,c1,c2,c3,c4,c5⟩:=za9 b6.o;obtain⟨d0,d1,d2,d3,d4,d5⟩:=za9 a7.o;have X:=za2 b6.o;have b3:=za2 a7.o)|fail)
   have hR:(w9.setCell (aD G 1) (.slice vo (J+1) vc)).heap[I]?=_:=(Below.heap_setCell _ _ _ _ (by have h1:=HG.o;show I≠G;omega)).trans a7.o;(try simp only[Exit.inBlock,Exit.then]);refine bodyPost_ret (results_cell_row rfl _ _ I 74 #[_,_,_] (0,0) _ rfl (zd9 hR _ _ _) Tryz.underlying74 rfl EV) rfl ?_;refine⟨_,_,rfl,?_,(b9.o.set HG.o.1 _).set3 (oH HG.o) _ _ _⟩;rw[a9.o];refine⟨?_,?_⟩
   ·show World.ownsRow _ _ _ _ _ (t.2.1++[i]).length (ilL (t.2.1++[i]))
    rw[zJ7,aA,aZ,<-D.o.1];exact za7 (zf6 (zo6 d6.o d.o.2.1 _) d.o.2.2 _ _ _) HK.o.le
   show World.ownsRow _ _ _ _ _ t.2.2.length (lpL t.2.2);rw[<-D.o.2];exact za7 (zf6 (zo6 c6.o d.o.2.1 _) d.o.2.2 _ _ _) HK.o.le
  have a9:Hi (wg3 H i t=t):=by unfold Hi wg3;rw[aC hf,aC (by rw[<-D.o.1];exact b4)];exact HF.o.symm
  clear hf;go_wp2_with fail;(try simp only[Exit.inBlock,Exit.then]);refine bodyPost_ret (results_cell_row rfl _ _ I 74 #[_,_,_] (0,0) _ rfl (zd9 K.o _ _ _) Tryz.underlying74 rfl EV) rfl ?_;exact⟨_,_,rfl,by rw[a9.o,<-HE.o];exact(a4.o.set3 d.o.2.2 _ _ _).base HK.o.le,a3.o.set3 (oH HG.o) _ _ _⟩
def wh2(h:Int)(t:Tok):Tok:=cpT (if ET t h=true then (t.1,t.2.1,t.2.2.dropLast) else t)
def yc0(l:List (Int×Int)):∀(j:Nat) (u:Value),(lpL l.dropLast)[j]?=some u->(lpL l)[j]?=some u:=by
 intro j u d;by_cases c:l=[]
 ·subst c;exact d
 have e:lpL l=lpL l.dropLast++lpL [l.getLast c]:=by
  conv=>lhs;rw[<-eN c]
  unfold lpL;rw[fC]
 obtain⟨o,_⟩:=aE.1 d;rw[e,aQ o];exact d
def yy3{u x:Value}{t:TypeId}(d:w.heap[g]?=some (.cells #[u,v,x] t (0,0)))(c:Value):(w.setCell (aD g 2) c).heap[g]?=some (.cells #[u,v,c] t (0,0)):=by have o:=heap_setCell_same w g 2 _ t c d;simpa using o
def zU1(hv lv:Value)(t:Tok)(gh:Nat)(h:Int)(w:World)(L:EA w hv lv t)(hb:t.2.1.length*8<=140737488355328/\t.2.2.length*16<=140737488355328)(hm:w.cell? (aD gh 0)=some (nI h))(lm:gh<w.heap.size) :
  Calls Tryz.prog 143 #[.agg #[.bool t.1,hv,lv],pA gh 0] w λe w'=>∃D d,e=.returned (.agg #[.bool t.1,D,d])/\AD w' w.heap.size D d (wh2 h t)/\Ok w w':=by
 have HT:=hid L;have HB:=hid hb;obtain⟨_,_,ho,hc,rfl,_⟩:=L.hist;obtain⟨_,_,R,G,rfl,b8⟩:=L.loops;have O:t.2.2.length<=G:=L.cap _ _ _ rfl;obtain⟨m,I⟩:=qq (t.1);obtain⟨q,K⟩:=qq (t.2.1.length);obtain⟨n,hn⟩:=qq (t.2.2.length);have HQ:Hi (m=t.1/\q=t.2.1.length/\n=t.2.2.length):=⟨I,K,hn⟩;have a3:Hi (n<=G):=by unfold Hi;omega
 rw[<-I,<-K,<-hn]
 have HW:Hi (∀Y,Ok w Y->Calls Tryz.prog 144 #[.agg #[.bool m,.slice ho q hc,.slice R n G],nI h] Y λe w'=>e=.returned (.bool (ET t h))/\Ok Y w'):=λY Z=>by have:=zx2 m _ _ t h Y (HT.o.below Z) (oH HB.o.2);rw[<-K,<-hn]at this;exact this
 have b6:Hi (∀Y,Ok w Y->Calls Tryz.prog 102 #[.agg #[.bool m,.slice ho q hc,.slice R n G]] Y λe w'=>∃D d,e=.returned (.agg #[.bool m,D,d])/\AD w' Y.heap.size D d (cpT t)/\Ok Y w'):=λY Z=>by have:=zi2 _ _ t Y (HT.o.below Z) HB.o;rw[<-I,<-K,<-hn]at this;exact this
 have b7:Hi (∀Y k,Ok w Y->n=k+1->Calls Tryz.prog 102 #[.agg #[.bool m,.slice ho q hc,.slice R k G]] Y λe w'=>∃D d,e=.returned (.agg #[.bool m,D,d])/\AD w' Y.heap.size D d (cpT (t.1,t.2.1,t.2.2.dropLast))/\Ok Y w'):=λY k Z hk=>by
  have W:t.2.2.dropLast.length=k:=by rw[eB];omega
  have J:SL Y 2 (.slice R k G) t.2.2.dropLast.length (lpL t.2.2.dropLast):=by
   obtain⟨_,_,ao,cc,e,X⟩:=(HT.o.below Z).loops
   injection e with e1 _ e3
   subst e1 e3;refine⟨zz8 _,yb8 _,_,_,by rw[W],?_⟩;obtain⟨b,o,e5,e6,e7⟩:=X.resolve_left oM;exact .inr ⟨b,o,e5,e6,λj u hj=>e7 j u (yc0 _ j u hj)⟩
  rw[I];exact zi2 (.slice ho q hc) (.slice R k G) (t.1,t.2.1,t.2.2.dropLast) Y ⟨by rw[K];exact(HT.o.below Z).hist,J,λao o c e=>by injection e with _ e2 e3;have:=a3.o;omega⟩ ⟨HB.o.1,by show t.2.2.dropLast.length*16<=_;rw[W];have:=HB.o.2;omega⟩
 have HC:Hi (∀Y,Ok w Y->Y.cell? (aD gh 0)=some (nI h)/\gh<Y.heap.size):=λY Z=>⟨Z.cell (p:=⟨gh,0,none⟩) lm hm,lL_ lm Z.le⟩;clear L hb hm lm I K hn b8 O;go_enter Tryz.func143,Tryz.ntmps143;obtain⟨L,O⟩:=HC.o w (Ok.refl w);go_wp2_with fail;obtain⟨W,K⟩:=qq ((w.alloc (Obj.cells #[.bool m,.slice ho q hc,.slice R n G] 74)).alloc (Obj.cells #[.bool false,sZ,sZ] 74));obtain⟨gr,I⟩:=qq (w.heap.size+1);obtain⟨gp,o⟩:=qq (w.heap.size);rw[<-K,<-I,<-o];have HK:Hi (Ok w W):=by rw[K];exact((Ok.refl w).alloc _).alloc _
 have HP:Hi (W.heap[gp]?=some (.cells #[Value.bool m,Value.slice ho q hc,Value.slice R n G] 74 (0,0))):=by rw[K,o];exact jj
 have HR:Hi (W.heap[gr]?=some (.cells #[Value.bool false,sZ,sZ] 74 (0,0))):=by rw[K,I];exact jj
 have HG:Hi (w.heap.size<=gp/\gp<gr):=by unfold Hi;omega
 clear K I o L O;refine mq (HW.o W HK.o) λw1 h2=>?_;have O:=hid (HK.o.step h2);have a4:Hi _:=Ok.row' h2 HP.o;have a7:Hi _:=Ok.row' h2 HR.o;have b5:Hi (W.heap.size<=w1.heap.size/\gp<W.heap.size/\gr<W.heap.size):=⟨Ok.le h2,za2 HP.o,za2 HR.o⟩;clear h2;obtain⟨b,o⟩:=qq (ET t h);have a5:Hi (b=ET t h):=o;rw[<-o];clear o;obtain⟨c0,c1,c2,c3,c4,c5⟩:=za9 a4.o;have L:=za2 a4.o
 cases b with
 | false =>
  have HE:Hi (wh2 h t=cpT t):=by unfold Hi wh2;rw[aC (by rw[<-a5.o];decide)]
  go_wp2_with fail;refine(b6.o w1 O.o).mono ?_;rintro e w2 ⟨v1,v2,rfl,J,X⟩;have K:=hid J;have I:=hid (O.o.step X);have o:Hi _:=Ok.row' X a7.o;obtain⟨a1,b1,rfl⟩:=za0 J.hist;obtain⟨a2,b2,rfl⟩:=za0 J.loops;obtain⟨d0,d1,d2,d3,d4,d5⟩:=za9 o.o;have a9:=za2 o.o;clear J X c0 c1 c2 c3 c4 c5 L;go_wp2_with fail;(try simp only[Exit.inBlock,Exit.then]);refine bodyPost_ret (results_cell_row rfl _ _ gr 74 #[_,_,_] (0,0) _ rfl (zd9 o.o _ _ _) Tryz.underlying74 rfl EV) rfl ?_;exact⟨_,_,rfl,by rw[HE.o];exact(K.o.set3 (oH b5.o) _ _ _).base O.o.le,I.o.set3 (oH HG.o) _ _ _⟩
 | true =>
  have HE:Hi (wh2 h t=cpT (t.1,t.2.1,t.2.2.dropLast)):=by unfold Hi wh2;rw[aG a5.o.symm]
  obtain⟨k,hk⟩:∃k,n=k+1:=by
   cases hn:n with
   | zero =>
    have h1:=zz9 (t:=t) (h:=h) (aW (by rw[<-HQ.o.2.2,hn]));rw[<-a5.o]at h1;cases h1
   | succ k=>exact⟨k,rfl⟩
  have c7:Hi (n=k+1):=hk;subst hk;have b0:k<=G:=oH a3.o
  have b9:(k:Int)<=(G:Int):=oM;have K:k<1000000000000000:=by have h1:=HB.o.2;have h2:=HQ.o.2.2;omega
  have kw:IntKind.i64.wrap (((k+1:Nat):Int)-1)=(k:Int):=by rw[IntKind.wrap_i64];omega
  have c6:wrap64 (k:Int)=(k:Int):=by unfold wrap64;omega
  clear K
  go_upto_region 3 with (fail)
  obtain⟨W2,K⟩:=qq (w1.setCell ⟨gp,2,none⟩ (.slice R k G));rw[<-K];have I:Hi (Ok w W2):=by rw[K];exact O.o.set HG.o.1 _
  have a6:Hi (W2.heap[gp]?=some (.cells #[Value.bool m,Value.slice ho q hc,Value.slice R k G] 74 (0,0))):=by rw[K];exact yy3 a4.o _
  have o:Hi (W2.heap[gr]?=some (.cells #[Value.bool false,sZ,sZ] 74 (0,0))):=by rw[K];exact(Below.heap_setCell _ _ _ _ (by have h1:=HG.o;show gr≠gp;omega)).trans a7.o
  clear K c0 c1 c2 c3 c4 c5 L;obtain⟨c0,c1,c2,c3,c4,c5⟩:=za9 a6.o;have L:=za2 a6.o;go_wp2_with fail;refine(b7.o W2 k I.o rfl).mono ?_;rintro e w3 ⟨v1,v2,rfl,J,X⟩;have b4:=hid J;have a8:=hid (I.o.step X);have K:Hi _:=Ok.row' X o.o;have b3:=hid (za2 o.o);obtain⟨a1,b1,rfl⟩:=za0 J.hist;obtain⟨a2,b2,rfl⟩:=za0 J.loops;obtain⟨d0,d1,d2,d3,d4,d5⟩:=za9 K.o;have a9:=za2 K.o;clear J X c0 c1 c2 c3 c4 c5 L;go_wp2_with fail;(try simp only[Exit.inBlock,Exit.then]);refine bodyPost_ret (results_cell_row rfl _ _ gr 74 #[_,_,_] (0,0) _ rfl (zd9 K.o _ _ _) Tryz.underlying74 rfl EV) rfl ?_;exact⟨_,_,rfl,by rw[HE.o];exact(b4.o.set3 b3.o _ _ _).base I.o.le,a8.o.set3 (oH HG.o) _ _ _⟩
def wg4(h U:Int)(t:Tok):Tok:=if t.1=true then EG else if ET t h=true then (false,t.2.1,wb0 U t.2.2) else (false,t.2.1,t.2.2++[(h,1)])
def zJ8(l:List (Int×Int))(x:Int×Int):lpL (l++[x])=lpL l++[nI x.1,nI x.2]:=by simp[lpL]
def yD2{l:List (Int×Int)}{k:Nat}{x:Int×Int}(G:l.length=k+1)(J:l[k]?=some x)(U:Int):lpL (wb0 U l)=(lpL l).set (k*2+1) (nI (if x.2<U then x.2+1 else U))/\(wb0 U l).length=k+1:=by
 have o:l≠[]:=λe=>by rw[e]at G;cases G
 have d:l.getLast?=some x:=by rw[fA,G];exact J
 have I:l=l.dropLast++[x]:=by
  have D:=eN o;rw[List.getLast?_eq_some_getLast o]at d
  injection d with d
  rw[d]at D;exact D.symm
 have D:l.dropLast.length=k:=by rw[eB];omega
 unfold wb0;rw[d];simp only;refine⟨?_,by rw[aA,D];rfl⟩;rw[zJ8]
 conv=>rhs;rw[I,zJ8]
 rw[fP _ _ (by rw[zz8,D];omega),zz8,D,show k*2+1-k*2=1 by omega];rfl
def zA1{cap:Nat}(h:w.ownsRow B e s (.slice (sA g 0) n cap) n xs){j:Nat}(u:Value)(W:j<n*s):(w.setCell (aD g j) u).ownsRow B e s (.slice (sA g 0) n cap) n (xs.set j u):=by
 rcases h.2 with ⟨d,_⟩ | ⟨R,o,D,d,J,I,O,G,K,L⟩
 ·cases d
 injection d with e2 _ e3
 injection e2 with e2
 injection e2 with e2
 subst e2 e3;refine⟨by rw[dN];exact h.1,.inr ⟨g,cap,_,rfl,J,heap_setCell_same _ _ _ _ _ _ I,O,G,by simpa using K,?_⟩⟩;rw[<-L];simp[List.take_set]
def zc7(h:w.ownsRow B e s v n xs){p:Addr}(d:v.ownBlock≠some p.block)(u:Value):(w.setCell p u).ownsRow B e s v n xs :=
 zb4 h λb o=>Below.heap_setCell _ _ _ _ λD=>d (by rw[o,D])
def zF4(hv lv:Value)(t:Tok)(gm ge:Nat)(U h:Int)(w:World)(o:EA w hv lv t)(K:t.2.1.length*8<=140737488355328/\t.2.2.length*16+16<=140737488355328)(O:w.cell? (aD gm 0)=some (nI h))(L:w.cell? (aD ge 0)=some (nI U))(I:gm<w.heap.size)(G:ge<w.heap.size)(D:0<U/\U<=1000)(d:∀x∈t.2.2,-9223372036854775808<=x.2) :
  Calls Tryz.prog 145 #[.agg #[.bool t.1,hv,lv],pA gm 0,pA ge 0] w λe w'=>∃a8 a6,e=.returned (.agg #[.bool t.1,a8,a6])/\AD w' w.heap.size a8 a6 (wg4 h U t)/\Ok w w':=by
 have J:=hid o;have HU:=hid D;have g7:=hid d;clear D d;have HB:=hid K;have HC:Hi (∀Y,Ok w Y->Y.cell? (aD gm 0)=some (nI h)/\Y.cell? (aD ge 0)=some (nI U)/\gm<Y.heap.size/\ge<Y.heap.size):=λY hY=>⟨hY.cell (p:=⟨gm,0,none⟩) I O,hY.cell (p:=⟨ge,0,none⟩) G L,lL_ I hY.le,lL_ G hY.le⟩;obtain⟨_,_,ho,hc,rfl,_⟩:=o.hist;obtain⟨_,_,lo,lc,rfl,_⟩:=o.loops;obtain⟨m,d⟩:=qq (t.1);obtain⟨q,D⟩:=qq (t.2.1.length);obtain⟨n,hn⟩:=qq (t.2.2.length);have HQ:Hi (m=t.1/\q=t.2.1.length/\n=t.2.2.length):=⟨d,D,hn⟩;rw[<-d,<-D,<-hn]
 have g5:Hi (∀Y,Ok w Y->Calls Tryz.prog 102 #[.agg #[.bool m,.slice ho q hc,.slice lo n lc]] Y λe w'=>∃a8 a6,e=.returned (.agg #[.bool m,a8,a6])/\AD w' Y.heap.size a8 a6 (cpT t)/\Ok Y w'):=λY hY=>by have:=zi2 _ _ t Y (J.o.below hY) (oH HB.o);rw[<-d,<-D,<-hn]at this;exact this
 clear o K O L I G d D hn J;go_enter Tryz.func145,Tryz.ntmps145;go_wp2_with fail;obtain⟨W,D⟩:=qq ((w.alloc (Obj.cells #[.bool m,.slice ho q hc,.slice lo n lc] 74)).alloc (Obj.cells #[.bool false,sZ,sZ] 74));obtain⟨gr,o⟩:=qq (w.heap.size+1);obtain⟨L,d⟩:=qq (w.heap.size);rw[<-D,<-o,<-d];have HK:Hi (Ok w W):=by rw[D];exact((Ok.refl w).alloc _).alloc _
 have HP:Hi (W.heap[L]?=some (.cells #[Value.bool m,Value.slice ho q hc,Value.slice lo n lc] 74 (0,0))):=by rw[D,d];exact jj
 have HR:Hi (W.heap[gr]?=some (.cells #[Value.bool false,sZ,sZ] 74 (0,0))):=by rw[D,o];exact jj
 have HG:Hi (w.heap.size<=L/\L<gr):=by unfold Hi;omega
 clear D o d;refine(g5.o W HK.o).mono ?_;rintro e w1 ⟨v1,v2,rfl,D,h2⟩;have K:=hid D;have O:=hid (HK.o.step h2);have G:Hi _:=Ok.row' h2 HP.o;have b5:Hi _:=Ok.row' h2 HR.o;have d:Hi (W.heap.size<=w1.heap.size/\L<W.heap.size/\gr<W.heap.size):=⟨Ok.le h2,za2 HP.o,za2 HR.o⟩;obtain⟨a1,b1,rfl⟩:=za0 D.hist;obtain⟨a2,b2,rfl⟩:=za0 D.loops;obtain⟨c0,c1,c2,c3,c4,c5⟩:=za9 G.o;have I:=za2 G.o;clear D h2;obtain⟨q1,o⟩:=qq ((cpT t).2.1.length);obtain⟨X,J⟩:=qq ((cpT t).2.2.length);have f6:Hi (q1=(cpT t).2.1.length/\X=(cpT t).2.2.length):=⟨o,J⟩;rw[<-o,<-J];rw[<-o,<-J]at K;clear o J
 go_upto_region 2 with (fail)
 obtain⟨W2,o⟩:=qq (((w1.setCell ⟨L,0,none⟩ (.bool m)).setCell ⟨L,1,none⟩ (.slice a1 q1 b1)).setCell ⟨L,2,none⟩ (.slice a2 X b2));rw[<-o];have a7:Hi (AD W2 W.heap.size (.slice a1 q1 b1) (.slice a2 X b2) (cpT t)):=by rw[o];exact K.o.set3 d.o.2.1 _ _ _
 have b9:Hi (Ok w W2):=by rw[o];exact O.o.set3 HG.o.1 _ _ _
 have b3:Hi (W2.heap[L]?=some (.cells #[Value.bool m,Value.slice a1 q1 b1,Value.slice a2 X b2] 74 (0,0))):=by rw[o];exact zd9 G.o _ _ _
 have a5:Hi (W2.heap[gr]?=some (.cells #[Value.bool false,sZ,sZ] 74 (0,0))):=by rw[o,zj4 _ (oH HG.o)];exact b5.o
 have g8:Hi (W.heap.size<=W2.heap.size):=by rw[o];exact aH d.o.1 (zF3 _ _ _ _ _)
 clear o c0 c1 c2 c3 c4 c5 I G b5 K O;obtain⟨c0,c1,c2,c3,c4,c5⟩:=za9 b3.o;obtain⟨d0,d1,d2,d3,d4,d5⟩:=za9 a5.o;have I:=za2 b3.o;have Z:=za2 a5.o;obtain⟨x0,x1,x2,x3⟩:=HC.o W2 b9.o;have h5:¬L=gr:=oH HG.o
 cases m with
 | true =>
  have HE:Hi (cpT t=wg4 h U t):=by unfold Hi cpT wg4;rw[aG HQ.o.1.symm,aG HQ.o.1.symm]
  go_wp2_with fail;(try simp only[Exit.inBlock,Exit.then]);refine bodyPost_ret (results_cell_row rfl _ _ gr 74 #[_,_,_] (0,0) _ rfl (zd9 a5.o _ _ _) Tryz.underlying74 rfl EV) rfl ?_;exact⟨_,_,rfl,by rw[<-HE.o];exact(a7.o.set3 d.o.2.2 _ _ _).base HK.o.le,b9.o.set3 (oH HG.o) _ _ _⟩
 | false =>
  have o:¬t.1=true:=by rw[<-HQ.o.1];decide
  have HE:Hi (cpT t=t):=by unfold Hi cpT;rw[aC o]
  have O:Hi (q1=t.2.1.length/\X=t.2.2.length):=by have h:=f6.o;rw[HE.o]at h;exact h
  have K:Hi (W2.ownsRow W.heap.size 3 1 (.slice a1 q1 b1) q1 (ilL t.2.1)):=by have h:=a7.o.hist;rw[HE.o,<-O.o.1]at h;exact h
  have J:Hi (W2.ownsRow W.heap.size 117 2 (.slice a2 X b2) X (lpL t.2.2)):=by have h:=a7.o.loops;rw[HE.o,<-O.o.2]at h;exact h
  have HF:Hi (wg4 h U t=if ET t h=true then (false,t.2.1,wb0 U t.2.2) else (false,t.2.1,t.2.2++[(h,1)])):=by unfold Hi wg4;rw[aC o]
  have G:Hi (Calls Tryz.prog 144 #[.agg #[.bool false,.slice a1 q1 b1,.slice a2 X b2],nI h] W2 λe w'=>e=.returned (.bool (ET t h))/\Ok W2 w'):=zx2 false _ _ t h W2 (by have D:=a7.o.is;rw[HE.o]at D;exact D) (oH HB.o.2);clear o;go_wp2_with fail;refine G.o.mono ?_;rintro e w3 ⟨rfl,o⟩;have b7:=hid (b9.o.step o);have a9:Hi _:=Ok.row' o b3.o;have b4:Hi _:=Ok.row' o a5.o;have d8:=hid (za1 K.o o);have R:=hid (za1 J.o o);have f8:=hid (aH g8.o (Ok.le o));clear o c0 c1 c2 c3 c4 c5 d0 d1 d2 d3 d4 d5 I Z x0 x1 x2 x3 G K J b3 a5 a7;obtain⟨b,o⟩:=qq (ET t h);have c6:Hi (b=ET t h):=o;rw[<-o];clear o;obtain⟨c0,c1,c2,c3,c4,c5⟩:=za9 a9.o;obtain⟨d0,d1,d2,d3,d4,d5⟩:=za9 b4.o;have I:=za2 a9.o;have Z:=za2 b4.o;obtain⟨x0,x1,x2,x3⟩:=HC.o w3 b7.o
  cases b with
  | false =>
   have c8:Hi (wg4 h U t=(false,t.2.1,t.2.2++[(h,1)])):=by unfold Hi;rw[HF.o,aC (by rw[<-c6.o];decide)]
   go_wp2_with (first|(at_builtin;refine ze4 rfl _ _ 72 117 2 16 _ rfl Tryz.underlying72 wj4 (by rfl) (by decide) (by decide) W.heap.size (.slice a2 X b2) X (lpL t.2.2) (by rfl) (World.ownsRow.alloc R.o _) (.slice (sA w3.heap.size 0) 1 1) 1 [nI h,nI 1] (by rfl) (SL.one w3 117 [nI h,nI 1] rfl (by simp[Value.oneCell'])) (by have D:=HB.o.2;have h2:=O.o.2;omega) (by have D:=f8.o;simp;omega) ?_;intro v9 w9 k1 k2;have g0:=hid k1;have h0:Hi (w9.ownsRow W.heap.size 3 1 (.slice a1 q1 b1) q1 (ilL t.2.1)):=zd6 (World.ownsRow.alloc d8.o _) (World.ownsRow.alloc R.o _) (by decide) k2;have f9:Hi (Ok w w9):=Ok.grown (b7.o.alloc _) k2 (λb e=>by have D:=((World.ownsRow.alloc R.o (Obj.cells #[nI h,nI 1] 117)).lt b e).1;have h2:=HK.o.le;omega);have J:Hi (∀g o,g<W.heap.size->w3.heap[g]?=some o->w9.heap[g]?=some o):=(λg o hg ho=>(k2.block g (by have:=za2 ho;simp;omega) (λe=>by have D:=((World.ownsRow.alloc R.o (Obj.cells #[nI h,nI 1] 117)).lt g e.symm).1;omega)).trans (heap_past _ _ _ (za2 ho) ho));obtain⟨vo,vc,rfl⟩:=za0 k1;have K:Hi _:=J.o L _ d.o.2.1 a9.o;have G:Hi _:=J.o gr _ d.o.2.2 b4.o;clear k1 k2 c0 c1 c2 c3 c4 c5 d0 d1 d2 d3 d4 d5 I Z x0 x1 x2 x3;obtain⟨c0,c1,c2,c3,c4,c5⟩:=za9 K.o;obtain⟨d0,d1,d2,d3,d4,d5⟩:=za9 G.o;have I:=za2 K.o;have Z:=za2 G.o)|fail)
   have hR:(w9.setCell (aD L 2) (.slice vo (X+1) vc)).heap[gr]?=_:=(Below.heap_setCell _ _ _ _ (by have D:=HG.o;show gr≠L;omega)).trans G.o;(try simp only[Exit.inBlock,Exit.then]);refine bodyPost_ret (results_cell_row rfl _ _ gr 74 #[_,_,_] (0,0) _ rfl (zd9 hR _ _ _) Tryz.underlying74 rfl EV) rfl ?_;refine⟨_,_,rfl,?_,(f9.o.set HG.o.1 _).set3 (oH HG.o) _ _ _⟩;rw[c8.o];refine⟨?_,?_⟩
   ·show World.ownsRow _ _ _ _ _ t.2.1.length (ilL t.2.1)
    rw[<-O.o.1];exact za7 (zf6 (zo6 h0.o d.o.2.1 _) d.o.2.2 _ _ _) HK.o.le
   show World.ownsRow _ _ _ _ _ (t.2.2++[(h,1)]).length (lpL (t.2.2++[(h,1)]));rw[zJ8,aA,aZ,<-O.o.2];exact za7 (zf6 (zo6 g0.o d.o.2.1 _) d.o.2.2 _ _ _) HK.o.le
  | true =>
   have c8:Hi (wg4 h U t=(false,t.2.1,wb0 U t.2.2)):=by unfold Hi;rw[HF.o,aG c6.o.symm]
   obtain⟨k,hk⟩:∃k,X=k+1:=by
    cases hn:X with
    | zero =>
     have D:=zz9 (t:=t) (h:=h) (aW (by rw[<-O.o.2,hn]));rw[<-c6.o]at D;cases D
    | succ k=>exact⟨k,rfl⟩
   have d6:Hi (t.2.2.length=k+1):=by rw[<-O.o.2];exact hk
   have f5:Hi (k<1000000000000000):=by have D:=HB.o.2;have h2:=d6.o;unfold Hi;omega
   go_upto_region 6 with (fail)
   subst hk;obtain⟨o,cc,e2,_⟩:=R.o.form oM
   injection e2 with e3 _ e4
   subst e3 e4;obtain⟨x,K⟩:∃x,t.2.2[k]?=some x:=⟨_,aJ (by rw[d6.o];omega)⟩;have HX:=hid K;have b5:Hi (w3.cell? ⟨o,k*2+1,none⟩=some (nI x.2)):=by have D:=R.o.cells (g:=o) rfl _ _ (zi1 _ _ _ K).2;rw[zb7,aL]at D;exact D
   have b6:Hi (o<w3.heap.size):=(R.o.lt o rfl).2;have J:wrap64 (((k+1:Nat):Int)-1)=(k:Int):=by have:=f5.o;unfold wrap64;omega
   have G:wrap64 (k:Int)=(k:Int):=by have:=f5.o;unfold wrap64;omega
   first | rw[J] | rw[G]
   have a4:Hi (∀Y,Ok w3 Y->Y.cell? (aD L 2)=some (.slice (sA o 0) (k+1) b2)/\L<Y.heap.size/\Y.cell? ⟨o,k*2+1,none⟩=some (nI x.2)/\o<Y.heap.size/\Y.cell? (aD ge 0)=some (nI U)/\ge<Y.heap.size):=λY hY=>⟨hY.cell (p:=⟨L,2,none⟩) I c2,lL_ I hY.le,hY.cell (p:=⟨o,k*2+1,none⟩) b6.o b5.o,lL_ b6.o hY.le,hY.cell (p:=⟨ge,0,none⟩) x3 x1,lL_ x3 hY.le⟩;clear K G J c0 c1 c2 c3 c4 c5 d0 d1 d2 d3 d4 d5 I Z x0 x1 x2 x3;have G:Ok w3 w3.drew:=Below.drew (Ok.refl _);obtain⟨M,J⟩:∃z:Int,z=if U-1<x.2 then U-1 else x.2:=⟨_,rfl⟩;have g4:=hid J.symm
   have HM:Hi (M+1=if x.2<U then x.2+1 else U):=by unfold Hi;rw[J];split<;>split<;>omega
   have f0:Hi (-9223372036854775808<=M/\M<=1000):=by have D:=g7.o x (eC HX.o);have h2:=HU.o;unfold Hi;rw[J];split<;>omega
   clear J;refine zd5 (λY=>Ok w3 Y) 15 kR ?_;refine tK 0 (pA L 2) G ?_;simp only[pu];refine tL 1 (.slice (sA o 0) (k+1) b2) G ?_ ?_
   ·intro w' J;obtain⟨z1,z2,z3,z4,z5,z6⟩:=a4.o w' J;clear J;go_simp;try with_reducible rfl
   simp only[pu];refine tK 2 (nI (k:Int)) G ?_;simp only[pu];refine tK 3 (pA L 2) G ?_;simp only[pu];refine tL 4 (.slice (sA o 0) (k+1) b2) G ?_ ?_
   ·intro w' J;obtain⟨z1,z2,z3,z4,z5,z6⟩:=a4.o w' J;clear J;go_simp;try with_reducible rfl
   simp only[pu];refine tK 5 (nI (k:Int)) G ?_;simp only[pu];refine tL 6 (.pointer (some ⟨o,k*2,none⟩)) G ?_ ?_
   ·intro w' J;clear J;have z7:(k:Int)<((k+1:Nat):Int):=oM;have K:(0:Int)<=(k:Int):=oM;have z9:¬((k:Int)+1<=(k:Int)):=oM;go_simp;try with_reducible rfl
   simp only[pu];refine tK 7 (.pointer (some ⟨o,k*2+1,none⟩)) G ?_;simp only[pu];refine tL 8 (nI x.2) G ?_ ?_
   ·intro w' J;obtain⟨z1,z2,z3,z4,z5,z6⟩:=a4.o w' J;clear J;go_simp;try with_reducible rfl
   simp only[pu];refine tL 9 (nI U) G ?_ ?_
   ·intro w' J;obtain⟨z1,z2,z3,z4,z5,z6⟩:=a4.o w' J;clear J;go_simp;try with_reducible rfl
   simp only[pu];refine tL 10 (nI (U-1)) G ?_ ?_
   ·intro w' J;clear J;have u1:IntKind.i64.wrap (U-1)=U-1:=(by have:=HU.o;rw[IntKind.wrap_i64];omega);have u2:wrap64 (U-1)=U-1:=(by have:=HU.o;unfold wrap64;omega);go_simp;try with_reducible rfl
   simp only[pu];refine tL 11 (nI M) G ?_ ?_
   ·intro w' J;clear J;have K:=g4.o;go_simp;(try (rw[<-K];split<;>omega));try with_reducible rfl
   simp only[pu];refine tL 12 (nI (M+1)) G ?_ ?_
   ·intro w' J;clear J;have u1:IntKind.i64.wrap (M+1)=M+1:=(by have:=f0.o;rw[IntKind.wrap_i64];omega);have u2:wrap64 (M+1)=M+1:=(by have:=f0.o;unfold wrap64;omega);go_simp;try with_reducible rfl
   simp only[pu];refine zb0 (i:=13) kR rfl (λK hK=>?_);go_simp;rw[aG (show(k:Int)<(k:Int)+1 by omega)];go_simp;refine hK.out _ _ (λ_=>G) ?_;clear hK K;refine zb0 (i:=14) kR rfl (λK hK=>?_);go_simp;refine hK.out _ _ (λ_=>G) ?_;clear hK K;have a3:=hid (za1 R.o G);have b8:=hid (za1 d8.o G);have f4:Hi _:=Ok.row' G a9.o;have d7:Hi _:=Ok.row' G b4.o;have d9:=hid (b7.o.step G);obtain⟨W4,b0⟩:=qq (w3.drew);rw[<-b0]at a3 b8 f4 d7 d9;have r1:W4.cell? ⟨o,k*2+1,none⟩=some (nI x.2):=by rw[b0];exact(a4.o _ G).2.2.1
   have fr:W4.frozen? ⟨o,k*2+1,none⟩=false:=by
    rcases a3.o.2 with ⟨e1,_⟩ | ⟨g',cap,h4,e1,_,g3,_⟩
    ·cases e1
    injection e1 with e5 _ _
    injection e5 with e5
    injection e5 with e5
    subst e5;exact frozen_of_row _ _ _ _ _ g3
   have g1:o<W4.heap.size:=(a3.o.lt o rfl).2;rw[<-b0];clear b0;refine zb0 (i:=15) kR rfl (λK hK=>?_);go_simp;refine hK.out _ _ (λh=>absurd rfl h) ?_;clear hK K;refine zd4 kR ?_ _;have c7:Hi (W.heap.size<=o):=(a3.o.lt o rfl).1;obtain⟨W5,K⟩:=qq (W4.setCell ⟨o,k*2+1,none⟩ (nI (M+1)));rw[<-K];have f3:Hi (W5.heap[L]?=some (.cells #[Value.bool false,Value.slice a1 q1 b1,Value.slice (sA o 0) (k+1) b2] 74 (0,0))):=by rw[K];exact(Below.heap_setCell _ _ _ _ (by have D:=c7.o;have h2:=d.o;show L≠o;omega)).trans f4.o
   have c9:Hi (W5.heap[gr]?=some (.cells #[Value.bool false,sZ,sZ] 74 (0,0))):=by rw[K];exact(Below.heap_setCell _ _ _ _ (by have D:=c7.o;have h2:=d.o;show gr≠o;omega)).trans d7.o
   have f7:Hi (W5.ownsRow W.heap.size 117 2 (.slice (sA o 0) (k+1) b2) (k+1) ((lpL t.2.2).set (k*2+1) (nI (M+1)))):=by rw[K];exact zA1 a3.o _ oM
   have g6:Hi (W5.ownsRow W.heap.size 3 1 (.slice a1 q1 b1) q1 (ilL t.2.1)):=by
    unfold Hi;rw[K];refine zc7 b8.o (λe=>?_) _;obtain⟨c1,f1,z1⟩:=zf9 b8.o o e;obtain⟨c2,f2,z2⟩:=zf9 a3.o o rfl;rw[z1]at z2
    injection z2 with z2
    injection z2 with _ z3
    exact absurd z3 dC
   have g9:Hi (Ok w W5):=by rw[K];exact d9.o.set (by have D:=c7.o;have h2:=HK.o.le;show w.heap.size<=o;omega) _
   clear K r1 fr g1;obtain⟨c0,c1,c2,c3,c4,c5⟩:=za9 f3.o;obtain⟨d0,d1,d2,d3,d4,d5⟩:=za9 c9.o;have I:=za2 f3.o;have Z:=za2 c9.o;go_wp2_with fail;(try simp only[Exit.inBlock,Exit.then]);refine bodyPost_ret (results_cell_row rfl _ _ gr 74 #[_,_,_] (0,0) _ rfl (zd9 c9.o _ _ _) Tryz.underlying74 rfl EV) rfl ?_;refine⟨_,_,rfl,?_,g9.o.set3 (oH HG.o) _ _ _⟩;obtain⟨u1,u2⟩:=yD2 d6.o HX.o U;rw[c8.o];refine⟨?_,?_⟩
   ·show World.ownsRow _ _ _ _ _ t.2.1.length (ilL t.2.1)
    rw[<-O.o.1];exact za7 (zf6 g6.o d.o.2.2 _ _ _) HK.o.le
   show World.ownsRow _ _ _ _ _ (wb0 U t.2.2).length (lpL (wb0 U t.2.2));rw[u1,u2,<-HM.o];exact za7 (zf6 f7.o d.o.2.2 _ _ _) HK.o.le
end Go.Proofs.YthoegkcpmgalbaaGreatDoor
