import Derived.Deep.CutBlock
import Derived.Test.YtpongdpnbclchaaGreatDoorKHc
set_option maxHeartbeats 8000000
set_option linter.all false
set_option maxRecDepth 100000
namespace Go.Proofs.YtpongdpnbclchaaGreatDoor
section
open Go.RowKit
theorem yH4(hv lv:Value)(t:Tok)(w:World)(ht:BC w hv lv t)(hb:t.2.1.length*8<=140737488355328/\t.2.2.length*16<=140737488355328) :
  Calls Tryz.prog 28 #[.agg #[.bool t.1,hv,lv]] w λe w'=>∃hv' lv',e=.returned (.agg #[.bool t.1,hv',lv'])/\AA w' w.heap.size hv' lv' (cpT t)/\Ok w w':=by
 have HT:=hid ht;have HB:=hid hb;obtain⟨_,_,ho,hc,rfl,_⟩:=ht.hist;obtain⟨_,_,lo,lc,rfl,_⟩:=ht.loops;obtain⟨m,hm⟩:=qq (t.1);have HM:Hi (m=t.1):=hm;rw[<-hm];clear ht hb hm;obtain⟨q,hq⟩:=qq (t.2.1.length);obtain⟨n,hn⟩:=qq (t.2.2.length);have HQ:Hi (q=t.2.1.length/\n=t.2.2.length):=⟨hq,hn⟩;rw[<-hq,<-hn];have HTH:Hi (SL w 1 (.slice ho q hc) q (ilL t.2.1)):=by rw[hq];exact HT.o.hist
 have HTL:Hi (SL w 2 (.slice lo n lc) n (lpL t.2.2)):=by rw[hn];exact HT.o.loops
 clear hq hn HT;go_enter Tryz.func28,Tryz.ntmps28
 cases m with
 | true =>
  have HE:Hi (cpT t=EX):=by unfold Hi cpT;rw[if_pos HM.o.symm]
  go_wp2_with fail;(try simp only[Exit.inBlock,Exit.then]);refine bodyPost_ret (results_cell_row rfl _ _ (w.heap.size+1) 28 #[_,_,_] (0,0) _ rfl jj Tryz.underlying28 rfl CB) rfl ?_;exact⟨_,_,rfl,by rw[HE.o];exact⟨World.ownsRow_nil _ _ _ _,World.ownsRow_nil _ _ _ _⟩,((Ok.refl w).alloc _).alloc _⟩
 | false =>
  have HE:Hi (cpT t=t):=by unfold Hi cpT;rw[if_neg (by rw[<-HM.o];decide)]
  go_wp2_with fail;obtain⟨W,hW⟩:=qq ((w.alloc (Obj.cells #[.bool false,.slice ho q hc,.slice lo n lc] 28)).alloc (Obj.cells #[.bool false,sZ,sZ] 28));obtain⟨gr,hgr⟩:=qq (w.heap.size+1);obtain⟨gp,hgp⟩:=qq (w.heap.size);rw[<-hW,<-hgr,<-hgp];have HK:Hi (Ok w W):=by rw[hW];exact((Ok.refl w).alloc _).alloc _
  have HP:Hi (W.heap[gp]?=some (.cells #[Value.bool false,Value.slice ho q hc,Value.slice lo n lc] 28 (0,0))):=by rw[hW,hgp];exact jj
  have HR:Hi (W.heap[gr]?=some (.cells #[Value.bool false,sZ,sZ] 28 (0,0))):=by rw[hW,hgr];exact jj
  have HG:Hi (w.heap.size<=gr):=by unfold Hi;omega
  clear hW hgr hgp;replace HTH:Hi (∀Y,Ok W Y->SL Y 1 (.slice ho q hc) q (ilL t.2.1)):=λY hY=>HTH.o.below (HK.o.step hY);replace HTL:Hi (∀Y,Ok W Y->SL Y 2 (.slice lo n lc) n (lpL t.2.2)):=λY hY=>HTL.o.below (HK.o.step hY)
  have HSS:Hi (∀Y,Ok W Y->Y.cell? (aD gp 1)=some (.slice ho q hc)/\Y.cell? (aD gp 2)=some (.slice lo n lc)/\gp<Y.heap.size):=λY hY=>by have h:=Ok.row' hY HP.o;exact⟨(cell_of_row _ _ 1 _ _ _ h).trans sI,(cell_of_row _ _ 2 _ _ _ h).trans sI,za2 h⟩
  have S0:Ok W W.drew:=Below.drew (Ok.refl _);refine zd5 (λY=>Ok W Y) 7 kR ?_;refine tK 0 (pA gp 1) S0 ?_;simp only[pu];refine tL 1 (.slice ho q hc) S0 ?_ ?_
  ·intro w' s0;obtain⟨z1,z2,z3⟩:=HSS.o w' s0;clear s0;go_simp;try with_reducible rfl
  simp only[pu];refine tK 3 (pA gp 2) S0 ?_;simp only[pu];refine tL 4 (.slice lo n lc) S0 ?_ ?_
  ·intro w' s0;obtain⟨z1,z2,z3⟩:=HSS.o w' s0;clear s0;go_simp;try with_reducible rfl
  simp only[pu];refine zb0 (i:=2) kR rfl (λK hK=>?_);refine zj0 rfl _ _ 25 3 1 8 _ rfl Tryz.underlying25 wb1 (by rfl) dC dC W.heap.size (sZ) 0 [] (by rfl) (World.ownsRow_nil _ _ _ _) (.slice ho q hc) q (ilL t.2.1) (by rfl) (HTH.o _ (Below.drew (Ok.refl _))) (by have:=HB.o.1;have:=HQ.o.1;omega) (nR_ _) ?_;intro v1 w1 k1 k2;rw[Nat.zero_add,List.nil_append]at k1;have HK1:Hi (Ok W w1):=Ok.step (Below.drew (Ok.refl _)) (Ok.grown0 k2);have HH1:=hid k1;obtain⟨vo,vc,rfl⟩:=za0 k1;clear k1 k2;refine hK.out _ _ (λ_=>HK1.o) ?_;clear hK K;simp only[pu];refine zb0 (i:=5) kR rfl (λK hK=>?_);refine zj0 rfl _ _ 26 45 2 16 _ rfl Tryz.underlying26 wg7 (by rfl) dC dC W.heap.size (sZ) 0 [] (by rfl) (World.ownsRow_nil _ _ _ _) (.slice lo n lc) n (lpL t.2.2) (by rfl) (HTL.o _ HK1.o) (by have:=HB.o.2;have:=HQ.o.2;omega) HK1.o.le ?_;intro v2 w2 k1 k2;rw[Nat.zero_add,List.nil_append]at k1;have HK2:=hid (HK1.o.step (Ok.grown0 k2));have HH2:=hid (za1 HH1.o (Ok.grown0 k2));have HL2:=hid k1;obtain⟨uo,uc,rfl⟩:=za0 k1;clear k1 k2;refine hK.out _ _ (λ_=>HK2.o) ?_;clear hK K;simp only[pu];refine zb0 (i:=6) kR rfl (λK hK=>?_);go_simp;refine hK.out _ _ (λ_=>HK2.o) ?_;clear hK K;have HR2:Hi _:=Ok.row' HK2.o HR.o;obtain⟨c0,c1,c2,c3,c4,c5⟩:=za9 HR2.o;have lgr:=za2 HR2.o;refine zb0 (i:=7) kR rfl (λK hK=>?_);go_simp;refine hK.out _ _ (λh=>absurd rfl h) ?_;clear hK K;refine zd4 kR ?_ _;go_wp2_with fail;(try simp only[Exit.inBlock,Exit.then]);refine bodyPost_ret (results_cell_row rfl _ _ gr 28 #[_,_,_] (0,0) _ rfl (zd9 HR2.o _ _ _) Tryz.underlying28 rfl CB) rfl ?_;have hlt:gr<W.heap.size:=za2 HR.o;refine⟨_,_,rfl,?_,((((HK.o.step HK2.o).set HG.o _).set HG.o _).set HG.o _)⟩;rw[HE.o];refine⟨?_,?_⟩
  ·rw[<-HQ.o.1];exact za7 (zf6 HH2.o hlt _ _ _) HK.o.le
  rw[<-HQ.o.2];exact za7 (zf6 HL2.o hlt _ _ _) HK.o.le
end
section
open Go.RowKit
theorem yH8(H U:Int)(e:Ed)(i:Nat)(hs:List Int)(ls:List (Int×Int)):(AK H U e i (false,hs,ls)).1=false:=by
 unfold AK;rw[if_neg (by simp)]
 repeat (first | rfl | split)
theorem yH9{w:World}{B s n g cap:Nat}{e:TypeId}{xs:List Value}(h:w.ownsRow B e s (.slice (sA g 0) n cap) n xs)(o:Nat):w.frozen? (aD g o)=false:=by
 rcases h.2 with ⟨e1,_⟩ | ⟨g',cap',cur,e1,_,hgg,_⟩
 ·cases e1
 injection e1 with e5 _ _
 injection e5 with e5
 injection e5 with e5
 rw[<-e5]at hgg;exact frozen_of_row _ _ _ _ _ hgg
theorem yH5(e:Ed)(i:Nat)(c:Nat->Int)(tz:Option Addr)(tn tc:Nat)(hv lv:Value)(t:Tok)(w:World)(ht:BC w hv lv t)(hb:TkW t)(hi:i<=1000000)(hU:c 1<=1000) :
  Calls Tryz.prog 15 #[.agg #[nI e.from',nI e.to',nI e.op,nI e.place,.bool e.sense,.bool e.loop],nI (i:Nat),.agg #[nI (c 0),nI (c 1),nI (c 2),nI (c 3),nI (c 4),nI (c 5),.slice tz tn tc,nI (c 7),nI (c 8)],.agg #[.bool t.1,hv,lv]] w λex w'=>∃hv' lv',ex=.returned (.agg #[.bool (AK (c 0) (c 1) e i t).1,hv',lv'])/\AA w' w.heap.size hv' lv' (AK (c 0) (c 1) e i t)/\Ok w w':=by
 have HB:Hi (TkW t/\i<=1000000/\c 1<=1000):=⟨hb,hi,hU⟩;have HO:Hi (∀Y,Ok w Y->Calls Tryz.prog 28 #[.agg #[.bool t.1,hv,lv]] Y λex w'=>∃hv' lv',ex=.returned (.agg #[.bool t.1,hv',lv'])/\AA w' Y.heap.size hv' lv' (cpT t)/\Ok Y w'):=λY hY=>yH4 hv lv t Y (ht.below hY) ⟨by have:=hb.hz;omega,by have:=hb.lz;omega⟩;obtain⟨_,_,ho,hc,e1,_⟩:=ht.hist;obtain⟨_,_,lo,lc,e2,_⟩:=ht.loops;obtain⟨f0,f1,op,pl,sn,lp⟩:=e;obtain⟨m,hs,ls⟩:=t;obtain⟨q,hq⟩:=qq (hs.length);obtain⟨n,hn⟩:=qq (ls.length);simp only[<-hq,<-hn]at e1 e2;subst e1 e2;clear ht hb hi hU hq hn;go_enter Tryz.func15,Tryz.ntmps15;go_wp2_with fail;obtain⟨W,hW⟩:=qq ((((w.alloc (Obj.cells #[nI f0,nI f1,nI op,nI pl,.bool sn,.bool lp] 59)).alloc (Obj.cells #[nI (c 0),nI (c 1),nI (c 2),nI (c 3),nI (c 4),nI (c 5),.slice tz tn tc,nI (c 7),nI (c 8)] 24)).alloc (Obj.cells #[.bool m,.slice ho q hc,.slice lo n lc] 28)).alloc (Obj.cells #[.bool false,sZ,sZ] 28));obtain⟨gE,hgE⟩:=qq (w.heap.size);obtain⟨gC,hgC⟩:=qq (w.heap.size+1);obtain⟨gT,hgT⟩:=qq (w.heap.size+1+1);obtain⟨gR,hgR⟩:=qq (w.heap.size+1+1+1);rw[<-hW,<-hgR,<-hgT,<-hgC,<-hgE];have HK0:Hi (Ok w W):=by rw[hW];exact((((Ok.refl w).alloc _).alloc _).alloc _).alloc _
 have HRE:Hi (W.heap[gE]?=some (.cells #[nI f0,nI f1,nI op,nI pl,.bool sn,.bool lp] 59 (0,0))):=by rw[hW,hgE];exact jj
 have HRC:Hi (W.heap[gC]?=some (.cells #[nI (c 0),nI (c 1),nI (c 2),nI (c 3),nI (c 4),nI (c 5),.slice tz tn tc,nI (c 7),nI (c 8)] 24 (0,0))):=by rw[hW,hgC];exact jj
 have HRR:Hi (W.heap[gR]?=some (.cells #[.bool false,sZ,sZ] 28 (0,0))):=by rw[hW,hgR];exact jj
 have HG:Hi (w.heap.size<=gR):=by unfold Hi;omega
 clear hW hgE hgC hgT hgR;refine(HO.o W HK0.o).mono ?_;rintro ex w1 ⟨hv1,lv1,rfl,hto,hk1⟩;obtain⟨o1,c1,rfl⟩:=za0 hto.hist;obtain⟨o2,c2,rfl⟩:=za0 hto.loops;obtain⟨q1,hq1⟩:=qq ((cpT (m,hs,ls)).2.1.length);obtain⟨n1,hn1⟩:=qq ((cpT (m,hs,ls)).2.2.length);have HQ:Hi (q1=(cpT (m,hs,ls)).2.1.length/\n1=(cpT (m,hs,ls)).2.2.length):=⟨hq1,hn1⟩;rw[<-hq1,<-hn1]at hto ⊢;have HT1:=hid hto;have HK1:=hid hk1;clear hto hk1 hq1 hn1 HO
 go_upto_region 2 with (fail)
 obtain⟨X,hX⟩:=qq (w1.alloc (Obj.cells #[.bool m,.slice o1 q1 c1,.slice o2 n1 c2] 28));obtain⟨g9,hg9⟩:=qq (w1.heap.size);rw[<-hX,<-hg9];have HKX1:Hi (Ok w1 X):=by rw[hX];exact(Ok.refl _).alloc _
 have HR9:Hi (X.heap[g9]?=some (.cells #[.bool m,.slice o1 q1 c1,.slice o2 n1 c2] 28 (0,0))):=by rw[hX,hg9];exact za3 _ _
 have HG9:Hi (W.heap.size<=g9/\(∀v B n xs,w1.ownsRow B 3 1 v n xs->v.ownBlock≠some g9)/\∀v B n xs,w1.ownsRow B 45 2 v n xs->v.ownBlock≠some g9):=by unfold Hi;rw[hg9];exact⟨HK1.o.le,λv B n xs h e=>by have:=(h.lt _ e).2;omega,λv B n xs h e=>by have:=(h.lt _ e).2;omega⟩
 have HKX:=hid (HK1.o.step HKX1.o);have HTX:=hid (HT1.o.ok HKX1.o);clear hX hg9 HK1 HT1 HKX1;obtain⟨E0,E1,E2,E3,E4,E5,lE⟩:=EZ (Ok.row' HKX.o HRE.o);obtain⟨p0,p1,p2,p3,p4,p5,p6,p7,p8,lgp⟩:=CQ (Ok.row' HKX.o HRC.o);obtain⟨y0,y1,y2,y3,y4,y5⟩:=za9 HR9.o;have ly:=za2 HR9.o;have HRX:Hi (X.heap[gR]?=_):=Ok.row' HKX.o HRR.o;obtain⟨d0,d1,d2,d3,d4,d5⟩:=za9 HRX.o;have ld:=za2 HRX.o
 cases m with
 | true =>
  go_wp2_with fail;(try simp only[Exit.inBlock,Exit.then]);refine bodyPost_ret (results_cell_row rfl _ _ gR 28 #[_,_,_] (0,0) _ rfl (zd9 HRX.o _ _ _) Tryz.underlying28 rfl CB) rfl ?_;have e:AK (c 0) (c 1) ⟨f0,f1,op,pl,sn,lp⟩ i (true,hs,ls)=cpT (true,hs,ls):=by unfold AK cpT;rw[if_pos rfl,if_pos rfl]
  have hlt:gR<W.heap.size:=za2 HRR.o;exact⟨_,_,by rw[e];rfl,by rw[e];exact(HTX.o.set3 hlt _ _ _).base HK0.o.le,(HK0.o.step HKX.o).set3 HG.o _ _ _⟩
 | false =>
  have ecp:cpT (false,hs,ls)=(false,hs,ls):=rfl;rw[ecp]at HTX HQ;by_cases h5:op=5;rotate_left
  ·have h5b:(op != 5)=true:=by rw[bne_iff_ne];exact h5
   go_wp2_with fail;(try simp only[Exit.inBlock,Exit.then]);refine bodyPost_ret (results_cell_row rfl _ _ gR 28 #[_,_,_] (0,0) _ rfl (zd9 HRX.o _ _ _) Tryz.underlying28 rfl CB) rfl ?_;have e:AK (c 0) (c 1) ⟨f0,f1,op,pl,sn,lp⟩ i (false,hs,ls)=(false,hs,ls):=by unfold AK;rw[if_neg (by simp),if_pos h5]
   have hlt:gR<W.heap.size:=za2 HRR.o;exact⟨_,_,by rw[e],by rw[e];exact(HTX.o.set3 hlt _ _ _).base HK0.o.le,(HK0.o.step HKX.o).set3 HG.o _ _ _⟩
  subst h5;obtain⟨la,hla⟩:∃z:Int,IntKind.i64.wrap ((n1:Int)-1)=z:=⟨_,rfl⟩;have HQB:Hi (n1*16+16<=140737488355328/\q1*8+8<=140737488355328):=⟨by rw[HQ.o.2];exact HB.o.1.lz,by rw[HQ.o.1];exact HB.o.1.hz⟩;have HLA:Hi (la=(n1:Int)-1):=by unfold Hi;rw[<-hla,IntKind.wrap_i64];have:=HQB.o;omega
  obtain⟨inn,hinn⟩:=qq (EO (false,hs,ls) f0);have HIN:=hid hinn;clear hinn
  go_upto_region 5 with (fail)
  go_cut [10,11] from 12 to 109 (λs10 s11 wx=>s10=nI la/\s11=.bool inn/\Hi (Ok X wx))
  case first =>
   by_cases hn0:n1=0
   ·have h0:¬(0<=la):=by have:=HLA.o;omega
    have HI0:Hi (inn=false):=by rw[HIN.o];exact zz9 (List.eq_nil_of_length_eq_zero (by have:=HQ.o.2;exact this.symm.trans hn0))
    clear hn0;go_quiet (fail);go_wp2_with fail
    go_meet
    case rel=>exact⟨rfl,by rw[HI0.o],(Ok.refl X).draws _⟩
   obtain⟨k,hk⟩:∃k,n1=k+1:=⟨n1-1,by omega⟩;have hlk:la=(k:Int):=by have:=HLA.o;omega
   obtain⟨x,hx⟩:∃x,ls[k]?=some x:=⟨_,gG_ (by have h:=HQ.o.2;have h':n1=ls.length:=h;omega)⟩;have HI0:Hi (inn=(x.1==f0)):=by rw[HIN.o];exact yb9 (t:=(false,hs,ls)) (by have h:=HQ.o.2;have h':n1=ls.length:=h;show ls[ls.length-1]?=_;rw[show ls.length-1=k by omega];exact hx)
   obtain⟨b2,cap2,e1,_⟩:=HTX.o.loops.form (by have h:=HQ.o.2;show 0<ls.length;have h':n1=ls.length:=h;omega)
   injection e1 with e1 e6 e7
   subst e1 e7;clear e6;have d6:=HTX.o.loops.cells (g:=b2) rfl (k*2) _ (zi1 ls k x hx).1;rw[zb7,Nat.zero_add]at d6;have lb2:=(HTX.o.loops.lt b2 rfl).2;have hk1:(0:Int)<=(k:Int):=oM;have hk2:(k:Int)<(n1:Int):=oM;have hk3:¬((n1:Int)<=(k:Int)):=oM;clear hx hk hn0;go_quiet (fail);go_wp2_with fail
   go_meet
   case rel=>exact⟨by rw[hlk],by rw[HI0.o],(Ok.refl X).draws _⟩
  obtain⟨rfl,rfl,HKC⟩:=hcut;obtain⟨st,hst⟩:=qq (AK (c 0) (c 1) ⟨f0,f1,5,pl,sn,lp⟩ i (false,hs,ls));have HST:=hid hst;clear hst E0 E1 E2 E3 E4 E5 lE p0 p1 p2 p3 p4 p5 p6 p7 p8 lgp y0 y1 y2 y3 y4 y5 ly d0 d1 d2 d3 d4 d5 ld;have HKW:=hid (HKX.o.step HKC.o);have HR9':Hi (wc.heap[g9]?=_):=Ok.row' HKC.o HR9.o;have hQ1:q1=hs.length:=HQ.o.1;have hQ2:n1=ls.length:=HQ.o.2;have HH:Hi (wc.ownsRow W.heap.size 3 1 (.slice o1 q1 c1) q1 (ilL hs)):=by have h:=za1 HTX.o.hist HKC.o;unfold Hi;rw[hQ1]at h ⊢;exact h
  have HLL:Hi (wc.ownsRow W.heap.size 45 2 (.slice o2 n1 c2) n1 (lpL ls)):=by have h:=za1 HTX.o.loops HKC.o;unfold Hi;rw[hQ2]at h ⊢;exact h
  have HQ':Hi (q1=hs.length/\n1=ls.length):=⟨hQ1,hQ2⟩;have HSM:Hi (st=(false,hs,ls)->∃xo xn xc yo yn yc,Hi (Ok W wc/\wc.heap[g9]?=some (.cells #[.bool false,.slice xo xn xc,.slice yo yn yc] 28 (0,0))/\AA wc W.heap.size (.slice xo xn xc) (.slice yo yn yc) st)):=λe=>⟨_,_,_,_,_,_,HKW.o,HR9'.o,by rw[e];exact HTX.o.ok HKC.o⟩;clear hQ1 hQ2 HTX HR9;obtain⟨E0,E1,E2,E3,E4,E5,lE⟩:=EZ (Ok.row' HKW.o HRE.o);obtain⟨p0,p1,p2,p3,p4,p5,p6,p7,p8,lgp⟩:=CQ (Ok.row' HKW.o HRC.o);obtain⟨y0,y1,y2,y3,y4,y5⟩:=za9 HR9'.o;have ly:=za2 HR9'.o
  go_upto_block 0 with (fail)
  go_cut [10] from 12 to 109 (λs10 wx=>∃xo xn xc yo yn yc,Hi (Ok W wx/\wx.heap[g9]?=some (.cells #[.bool false,.slice xo xn xc,.slice yo yn yc] 28 (0,0))/\AA wx W.heap.size (.slice xo xn xc) (.slice yo yn yc) st))
  case first =>
   cases lp with
   | false =>
    by_cases hlt:(q1:Int)<c 0
    ·have HE:Hi (st=(false,hs++[(i:Int)],ls)):=by unfold Hi;rw[HST.o];unfold AK;rw[if_neg (by simp),if_neg (by simp),if_pos rfl,if_pos (by show((hs.length:Nat):Int)<c 0;rw[<-HQ'.o.1];exact hlt)]
     have HHA:Hi ((wc.alloc (Obj.cells #[nI (i:Nat)] 3)).ownsRow W.heap.size 3 1 (.slice o1 q1 c1) q1 (ilL hs)):=World.ownsRow.alloc HH.o _;have HRA:Hi ((wc.alloc (Obj.cells #[nI (i:Nat)] 3)).heap[g9]?=some (.cells #[.bool false,.slice o1 q1 c1,.slice o2 n1 c2] 28 (0,0))):=heap_past _ _ _ (za2 HR9'.o) HR9'.o;have HNA:Hi ((Value.slice o1 q1 c1).ownBlock≠some g9):=zb6 HHA.o HRA.o dC
     go_wp2_with (first|(at_builtin;refine ze4 rfl _ _ 25 3 1 8 _ rfl Tryz.underlying25 wb1 (by rfl) (by decide) (by decide) W.heap.size (.slice o1 q1 c1) q1 (ilL hs) (by rfl) HHA.o (.slice (sA wc.heap.size 0) 1 1) 1 [nI (i:Nat)] (by rfl) (SL.one wc 3 [nI (i:Nat)] rfl (by simp[Value.oneCell'])) (by have:=HQB.o;omega) (by have h1:=HKW.o.le;simp;omega) ?_;intro v9 w9 k1 k2;have HH9:=hid k1;have HG2:=hid k2;obtain⟨vo,vc,rfl⟩:=za0 k1;have HR2:Hi (w9.heap[g9]?=some (.cells #[.bool false,.slice o1 q1 c1,.slice o2 n1 c2] 28 (0,0))):=(k2.block g9 (za2 HRA.o) (λe=>HNA.o e.symm)).trans HRA.o;clear k1 k2 y0 y1 y2 y3 y4 y5 ly;obtain⟨y0,y1,y2,y3,y4,y5⟩:=za9 HR2.o;have ly:=za2 HR2.o)|fail)
     go_meet
     case rel =>
      refine⟨_,_,_,_,_,_,(Ok.grown (HKW.o.alloc _) HG2.o (λb e=>(HHA.o.lt b e).1)).set HG9.o.1 _,by have h3:=heap_setCell_same w9 g9 1 _ 28 (.slice vo (q1+1) vc) HR2.o;simpa using h3,?_⟩;rw[HE.o];refine⟨?_,?_⟩
      ·show World.ownsRow _ _ _ _ _ (hs++[(i:Int)]).length (ilL (hs++[(i:Int)]))
       rw[zJ7,List.length_append,List.length_singleton,<-HQ'.o.1];exact zc7 HH9.o (zb6 HH9.o HR2.o dC) _
      show World.ownsRow _ _ _ _ _ ls.length (lpL ls);rw[<-HQ'.o.2];have h9:=zd6 (World.ownsRow.alloc HLL.o (Obj.cells #[nI (i:Nat)] 3)) HHA.o dC HG2.o;exact zc7 h9 (zb6 h9 HR2.o dC) _
    have HE:Hi (st=(false,hs,ls)):=by unfold Hi;rw[HST.o];unfold AK;rw[if_neg (by simp),if_neg (by simp),if_pos rfl,if_neg (by show ¬((hs.length:Nat):Int)<c 0;rw[<-HQ'.o.1];exact hlt)]
    go_wp2_with fail
    go_meet
    case rel=>exact HSM.o HE.o
   | true =>
    have HKK:Hi (inn=true->∃(k b2:Nat) (x:Int×Int),ls.length=k+1/\la=(k:Int)/\ls[k]?=some x/\o2=some ⟨b2,0,none⟩):=λe=>by
     have h2:=HQ'.o.2
     cases hn:n1 with
     | zero =>
      have h1:=zz9 (t:=(false,hs,ls)) (h:=f0) (List.eq_nil_of_length_eq_zero (by rw[<-h2,hn]));rw[<-HIN.o,e]at h1;cases h1
     | succ k =>
      obtain⟨b2,cap2,e1,_⟩:=HLL.o.form oM
      injection e1 with e1 _ _
      exact⟨k,b2,_,by omega,by have:=HLA.o;omega,gG_ oM,e1⟩
    cases sn with
    | false =>
     cases inn with
     | false =>
      have HE:Hi (st=(false,hs,ls)):=by unfold Hi;rw[HST.o];unfold AK;rw[if_neg (by simp),if_neg (by simp),if_neg (by simp),if_pos rfl,if_neg (by show ¬EO (false,hs,ls) f0=true;rw[<-HIN.o];decide)]
      go_wp2_with fail
      go_meet
      case rel=>exact HSM.o HE.o
     | true =>
      have HE:Hi (st=(false,hs,ls.dropLast)):=by unfold Hi;rw[HST.o];unfold AK;rw[if_neg (by simp),if_neg (by simp),if_neg (by simp),if_pos rfl,if_pos (by show EO (false,hs,ls) f0=true;rw[<-HIN.o])]
      obtain⟨k,b2,x,hk,hlk,hx,rfl⟩:=HKK.o rfl;have hcp:n1<=c2:=yy2 HLL.o _ _ _ rfl;have hc1:k<=c2:=by have:=HQ'.o.2;omega
      have hc2:(k:Int)<=(c2:Int):=oM;have hc3:(0:Int)<=(k:Int):=oM;have HKL:Hi (ls.length=k+1/\ls[k]?=some x):=⟨hk,hx⟩;clear hk hx hcp;go_wp2_with fail
      go_meet
      case rel =>
       refine⟨_,_,_,_,_,_,HKW.o.set HG9.o.1 _,yy3 HR9'.o _,?_⟩;rw[HE.o];refine⟨?_,?_⟩
       ·show World.ownsRow _ _ _ _ _ hs.length (ilL hs)
        rw[<-HQ'.o.1];exact zc7 HH.o (zb6 HH.o HR9'.o dC) _
       have hkl:ls.dropLast.length=k:=by rw[List.length_dropLast,HKL.o.1];omega
       show World.ownsRow _ _ _ _ _ ls.dropLast.length (lpL ls.dropLast);rw[hkl];have hne:ls≠[]:=λe=>by have:=HKL.o.1;rw[e]at this;cases this
       have e:lpL ls=lpL ls.dropLast++lpL [ls.getLast hne]:=by
        conv=>lhs;rw[<-List.dropLast_concat_getLast hne]
        unfold lpL;rw[List.flatMap_append]
       have h9:=HLL.o;rw[e]at h9;have h10:wc.ownsRow W.heap.size 45 2 (.slice (sA b2 0) k c2) k (lpL ls.dropLast):=yj8 h9 (by rw[zz8,hkl]) (by have:=HQ'.o.2;have:=HKL.o.1;omega);exact zc7 h10 (zb6 h10 HR9'.o dC) _
    | true =>
     by_cases hU:0<c 1;rotate_left
     ·have HE:Hi (st=(false,hs,ls)):=by unfold Hi;rw[HST.o];unfold AK;rw[if_neg (by simp),if_neg (by simp),if_neg (by simp),if_neg (by simp),if_neg hU]
      go_wp2_with fail
      go_meet
      case rel=>exact HSM.o HE.o
     cases inn with
     | false =>
      have HE:Hi (st=(false,hs,ls++[(f0,1)])):=by unfold Hi;rw[HST.o];unfold AK;rw[if_neg (by simp),if_neg (by simp),if_neg (by simp),if_neg (by simp),if_pos hU,if_neg (by show ¬EO (false,hs,ls) f0=true;rw[<-HIN.o];decide)]
      have HHA:Hi ((wc.alloc (Obj.cells #[nI f0,nI 1] 45)).ownsRow W.heap.size 45 2 (.slice o2 n1 c2) n1 (lpL ls)):=World.ownsRow.alloc HLL.o _;have HRA:Hi ((wc.alloc (Obj.cells #[nI f0,nI 1] 45)).heap[g9]?=some (.cells #[.bool false,.slice o1 q1 c1,.slice o2 n1 c2] 28 (0,0))):=heap_past _ _ _ (za2 HR9'.o) HR9'.o;have HNA:Hi ((Value.slice o2 n1 c2).ownBlock≠some g9):=zb6 HHA.o HRA.o dC
      go_wp2_with (first|(at_builtin;refine ze4 rfl _ _ 26 45 2 16 _ rfl Tryz.underlying26 wg7 (by rfl) (by decide) (by decide) W.heap.size (.slice o2 n1 c2) n1 (lpL ls) (by rfl) HHA.o (.slice (sA wc.heap.size 0) 1 1) 1 [nI f0,nI 1] (by rfl) (SL.one wc 45 [nI f0,nI 1] rfl (by simp[Value.oneCell'])) (by have:=HQB.o;omega) (by have h1:=HKW.o.le;simp;omega) ?_;intro v9 w9 k1 k2;have HH9:=hid k1;have HG2:=hid k2;obtain⟨vo,vc,rfl⟩:=za0 k1;have HR2:Hi (w9.heap[g9]?=some (.cells #[.bool false,.slice o1 q1 c1,.slice o2 n1 c2] 28 (0,0))):=(k2.block g9 (za2 HRA.o) (λe=>HNA.o e.symm)).trans HRA.o;clear k1 k2 y0 y1 y2 y3 y4 y5 ly;obtain⟨y0,y1,y2,y3,y4,y5⟩:=za9 HR2.o;have ly:=za2 HR2.o)|fail)
      go_meet
      case rel =>
       refine⟨_,_,_,_,_,_,(Ok.grown (HKW.o.alloc _) HG2.o (λb e=>(HHA.o.lt b e).1)).set HG9.o.1 _,yy3 HR2.o _,?_⟩;rw[HE.o];refine⟨?_,?_⟩
       ·show World.ownsRow _ _ _ _ _ hs.length (ilL hs)
        rw[<-HQ'.o.1];have h9:=zd6 (World.ownsRow.alloc HH.o (Obj.cells #[nI f0,nI 1] 45)) HHA.o dC HG2.o;exact zc7 h9 (zb6 h9 HR2.o dC) _
       show World.ownsRow _ _ _ _ _ (ls++[(f0,1)]).length (lpL (ls++[(f0,1)]));rw[zJ8,List.length_append,List.length_singleton,<-HQ'.o.2];exact zc7 HH9.o (zb6 HH9.o HR2.o dC) _
     | true =>
      have HE:Hi (st=(false,hs,wa9 (c 1) ls)):=by unfold Hi;rw[HST.o];unfold AK;rw[if_neg (by simp),if_neg (by simp),if_neg (by simp),if_neg (by simp),if_pos hU,if_pos (by show EO (false,hs,ls) f0=true;rw[<-HIN.o])]
      obtain⟨k,b2,x,hk,hlk,hx,rfl⟩:=HKK.o rfl;have d7:=HLL.o.cells (g:=b2) rfl (k*2+1) _ (zi1 ls k x hx).2;rw[zb7,Nat.zero_add]at d7;have lb2:=(HLL.o.lt b2 rfl).2;have hk1:(0:Int)<=(k:Int):=oM;have hk2:(k:Int)<(n1:Int):=by have:=HQ'.o.2;omega
      have hk3:¬((n1:Int)<=(k:Int)):=oM;have hx1:=(HB.o.1.li x (mG_ hx)).2;have HKL:Hi (ls.length=k+1/\ls[k]?=some x/\n1=k+1):=⟨hk,hx,by have:=HQ'.o.2;omega⟩
      have HEN:Hi (∀wy z wx,Ok wc wy->z=(if x.2<c 1 then x.2+1 else c 1)->wx=wy.setCell ⟨b2,k*2+1,none⟩ (nI z)->∃xo xn xc yo yn yc,Hi (Ok W wx/\wx.heap[g9]?=some (.cells #[.bool false,.slice xo xn xc,.slice yo yn yc] 28 (0,0))/\AA wx W.heap.size (.slice xo xn xc) (.slice yo yn yc) st)):=λwy z wx hy hz hw=>by
       have HLL:=hid (za1 HLL.o hy);have HH:=hid (za1 HH.o hy);have HKW:=hid (HKW.o.step hy);have HR9':=hid (Ok.row' hy HR9'.o);have hbn:(Value.slice (sA b2 0) n1 c2).ownBlock≠some g9:=zb6 HLL.o HR9'.o dC;have hb9:g9≠b2:=λe=>hbn (by rw[e];rfl);subst hw;refine⟨_,_,_,_,_,_,HKW.o.set (HLL.o.lt b2 rfl).1 _,(Below.heap_setCell _ _ _ _ hb9).trans HR9'.o,?_⟩;rw[HE.o];obtain⟨u1,u2⟩:=yD2 HKL.o.1 HKL.o.2.1 (c 1);refine⟨?_,?_⟩
       ·show World.ownsRow _ _ _ _ _ hs.length (ilL hs)
        rw[<-HQ'.o.1];refine zc7 HH.o (λe=>?_) _;obtain⟨c5,f5,k5⟩:=zf9 HH.o b2 e;obtain⟨c6,f6,k6⟩:=zf9 HLL.o b2 rfl;rw[k5]at k6
        injection k6 with k6
        injection k6 with _ k6
        exact absurd k6 dC
       show World.ownsRow _ _ _ _ _ (wa9 (c 1) ls).length (lpL (wa9 (c 1) ls));rw[u1,u2,<-hz,<-HKL.o.2.2];exact zA1 HLL.o _ (by have:=HKL.o.2.2;omega)
      have hfr:=yH9 HLL.o (k*2+1);clear hk hx;by_cases hge:c 1<=x.2
      ·go_upto_region 11 with (fail)
       go_quiet (fail);go_wp2_with fail
       go_meet
       case rel=>exact HEN.o _ _ _ ((Ok.refl wc).draws _) (by rw[if_neg (by omega)]) rfl
      have kwx:IntKind.i64.wrap (x.2+1)=x.2+1:=by rw[IntKind.wrap_i64];have:=HB.o.2.2;have:=hx1.1;omega
      go_upto_region 11 with (fail)
      go_quiet (fail);go_wp2_with fail
      go_meet
      case rel=>exact HEN.o _ _ _ ((Ok.refl wc).draws _) (by rw[if_pos (by omega)]) rfl
  obtain⟨xo,xn,xc,yo,yn,yc,HF⟩:=hcut;clear E0 E1 E2 E3 E4 E5 lE p0 p1 p2 p3 p4 p5 p6 p7 p8 lgp y0 y1 y2 y3 y4 y5 ly;have HRF:Hi (wc.heap[gR]?=_):=Ok.row' HF.o.1 HRR.o;obtain⟨d0,d1,d2,d3,d4,d5⟩:=za9 HRF.o;have ld:=za2 HRF.o;obtain⟨y0,y1,y2,y3,y4,y5⟩:=za9 HF.o.2.1;have ly:=za2 HF.o.2.1;go_wp2_with fail;(try simp only[Exit.inBlock,Exit.then]);refine bodyPost_ret (results_cell_row rfl _ _ gR 28 #[_,_,_] (0,0) _ rfl (zd9 HRF.o _ _ _) Tryz.underlying28 rfl CB) rfl ?_;have hlt:gR<W.heap.size:=za2 HRR.o;exact⟨_,_,by rw[yH8],by rw[<-HST.o];exact(HF.o.2.2.set3 hlt _ _ _).base HK0.o.le,(HK0.o.step HF.o.1).set3 HG.o _ _ _⟩
end
end Go.Proofs.YtpongdpnbclchaaGreatDoor
