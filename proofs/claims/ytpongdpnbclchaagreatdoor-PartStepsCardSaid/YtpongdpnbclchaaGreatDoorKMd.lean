import Derived.Test.YtpongdpnbclchaaGreatDoorKIh
set_option linter.all false
set_option maxRecDepth 100000
namespace Go.Proofs.YtpongdpnbclchaaGreatDoor
open Go.RowKit
def FB(g:Nat)(X Y:World):Prop:=X.heap.size<=Y.heap.size/\∀b,b≠g->b<X.heap.size->Y.heap[b]?=X.heap[b]?
theorem FB.of{g:Nat}{X Y:World}(h:Ok X Y):FB g X Y:=⟨h.le,λb _ hb=>Below.block h b hb⟩
theorem FB.row{g b:Nat}{X Y:World}{o:Obj}(h:FB g X Y)(hb:b≠g)(e:X.heap[b]?=some o):Y.heap[b]?=some o:=(h.2 b hb (za2 e)).trans e
set_option maxHeartbeats 8000000 in
theorem yB0(v:Nat->Value)(c:Nat->Int)(tz:Option Addr)(tn tc:Nat)(NN x:Nat)(es:List Ed)(e:Ed)(k:Nat)(t:Tok)(hv lv:Value)(w:World)
  (h:∀Y,Ok w Y->Calls Tryz.prog 16 #[.agg #[v 0,v 1,v 2,v 3,v 4,v 5],.agg #[nI (c 0),nI (c 1),nI (c 2),nI (c 3),nI (c 4),nI (c 5),.slice tz tn tc,nI (c 7),nI (c 8)]] Y λe w'=>wa2 Y (some (NN,x,es)) e w')
  (hv6:∀i,i<6->∃ao n c,v i=.slice ao n c) (hU:c 1<=1000) (hk:es[k]?=some e) (hl:es.length<=100000) (ht:BC w hv lv t) (hb:TkW t) :
  Calls Tryz.prog 7 #[.agg #[v 0,v 1,v 2,v 3,v 4,v 5],.agg #[nI (c 0),nI (c 1),nI (c 2),nI (c 3),nI (c 4),nI (c 5),.slice tz tn tc,nI (c 7),nI (c 8)],.agg #[.bool t.1,hv,lv],nI (k:Nat)] w λex w'=>∃hv' lv',ex=.returned (.tuple #[.agg #[.bool (AK (c 0) (c 1) e k t).1,hv',lv'],nI 0])/\AA w' w.heap.size hv' lv' (AK (c 0) (c 1) e k t)/\Ok w w':=by
 have HL:=hid h;have HT:Hi (BC w hv lv t/\TkW t):=⟨ht,hb⟩;have HE:Hi (es[k]?=some e/\c 1<=1000/\es.length<=100000):=⟨hk,hU,hl⟩;obtain⟨_,_,ho,hc,e1,_⟩:=ht.hist;obtain⟨_,_,lo,lc,e2,_⟩:=ht.loops;obtain⟨g0,n0,k0,g1,n1,k1,g2,n2,k2,g3,n3,k3,g4,n4,k4,g5,n5,k5,z0,z1,z2,z3,z4,z5⟩:=DX hv6;obtain⟨m,hs,ls⟩:=t;obtain⟨q,hq⟩:=qq (hs.length);obtain⟨n,hn⟩:=qq (ls.length);simp only[<-hq,<-hn]at e1 e2;subst e1 e2;rw[z0,z1,z2,z3,z4,z5]at HL ⊢;clear h hk hU hl ht hb hv6 z0 z1 z2 z3 z4 z5 hq hn;go_enter Tryz.func7,Tryz.ntmps7;go_wp2_with fail;obtain⟨W,hW⟩:=qq ((((w.alloc (Obj.cells #[.slice g0 n0 k0,.slice g1 n1 k1,.slice g2 n2 k2,.slice g3 n3 k3,.slice g4 n4 k4,.slice g5 n5 k5] 33)).alloc (Obj.cells #[nI (c 0),nI (c 1),nI (c 2),nI (c 3),nI (c 4),nI (c 5),.slice tz tn tc,nI (c 7),nI (c 8)] 24)).alloc (Obj.cells #[.bool m,.slice ho q hc,.slice lo n lc] 28)).alloc (Obj.cells #[.bool false,sZ,sZ] 28));obtain⟨gC,hgC⟩:=qq (w.heap.size+1);obtain⟨gT,hgT⟩:=qq (w.heap.size+1+1);obtain⟨gR,hgR⟩:=qq (w.heap.size+1+1+1);rw[<-hW,<-hgR,<-hgT,<-hgC];have HK0:Hi (Ok w W):=by rw[hW];exact((((Ok.refl w).alloc _).alloc _).alloc _).alloc _
 have HRR0:Hi (W.heap[gR]?=some (.cells #[.bool false,sZ,sZ] 28 (0,0))):=by rw[hW,hgR];exact jj
 have HRT0:Hi (W.heap[gT]?=some (.cells #[.bool m,.slice ho q hc,.slice lo n lc] 28 (0,0))):=by rw[hW,hgT];exact jj
 have HRC0:Hi (W.heap[gC]?=some (.cells #[nI (c 0),nI (c 1),nI (c 2),nI (c 3),nI (c 4),nI (c 5),.slice tz tn tc,nI (c 7),nI (c 8)] 24 (0,0))):=by rw[hW,hgC];exact jj
 have HG:Hi (w.heap.size<=gR/\w.heap.size<=gC/\gC<gT/\gT<gR):=by unfold Hi;omega
 clear hW hgR hgC hgT;refine(HL.o W HK0.o).mono ?_;rintro ex w1 hv;unfold wa2 at hv;obtain⟨⟨u,eo,ec,rfl,hu,hes⟩,hk1⟩:=hv;have HES:=hid hes;have HK1:=hid (HK0.o.step hk1);have HRR1:Hi (w1.heap[gR]?=_):=Ok.row' hk1 HRR0.o;have HRT1:Hi (w1.heap[gT]?=_):=Ok.row' hk1 HRT0.o;have HRC1:Hi (w1.heap[gC]?=_):=Ok.row' hk1 HRC0.o
 have HON:Hi ((#[u 0,u 1,u 2,u 3,u 4,u 5,nI (NN:Nat),nI (x:Nat),.slice eo es.length ec]:Array Value).all (·.oneCell')=true):=by obtain⟨g0,n0,k0,g1,n1,k1,g2,n2,k2,g3,n3,k3,g4,n4,k4,g5,n5,k5,e0,e1,e2,e3,e4,e5⟩:=DX hu;unfold Hi;rw[e0,e1,e2,e3,e4,e5];simp[Value.oneCell']
 clear hk1 HL hu hes HRR0 HRT0 HRC0;obtain⟨en,hen⟩:=qq (es.length);have hkn:k<en:=by rw[hen];exact(List.getElem?_eq_some_iff.1 HE.o.1).1
 have hkn':(k:Int)<(en:Int):=za5 hkn;have hkg:¬(en:Int)<=(k:Int):=oM;rw[<-hen]at HES HON ⊢;clear hen
 go_wp2_with (first|(refine za8 rfl 53 _ _ rfl w1.heap.size 53 #[sZ,sZ,sZ,sZ,sZ,sZ,nI 0,nI 0,sZ] #[u 0,u 1,u 2,u 3,u 4,u 5,nI (NN:Nat),nI (x:Nat),.slice eo en ec] (by rfl) (by rfl) (za3 _ _) EK rfl HON.o ?_;obtain⟨X,gL,hX,HKX,HKL⟩:=zl8 w1 #[u 0,u 1,u 2,u 3,u 4,u 5,nI (NN:Nat),nI (x:Nat),.slice eo en ec];rw[hX.1,hX.2];clear hX;obtain⟨q0,q1,q2,q3,q4,q5,q6,q7,q8,lgq⟩:=CQ HKL.o.1)|fail)
 obtain⟨be,hbe⟩:∃b,eo=some ⟨b,0,none⟩:=by
  obtain⟨g,cp,e1,_⟩:=HES.o.form oM
  injection e1 with e1 _ _
  exact⟨g,e1⟩
 subst hbe;have HKX1:=hid (HK1.o.step HKX.o);have HESX:=hid (za1 HES.o HKX.o);have HCX:Hi (X.heap[gC]?=_):=Ok.row' HKX.o HRC1.o;have HTX:Hi (X.heap[gT]?=_):=Ok.row' HKX.o HRT1.o;have HRX:Hi (X.heap[gR]?=_):=Ok.row' HKX.o HRR1.o
 have HBR:Hi (be≠gR):=by
  intro e9;obtain⟨cg,fg,hgg⟩:=zf9 HESX.o be rfl;rw[e9,HRX.o]at hgg
  injection hgg with hgg
  injection hgg with _ hgg
  exact absurd hgg dC
 have HLR:Hi (gL≠gR):=by
  intro e9;have h1:=HKL.o.1;rw[e9,HRX.o]at h1
  injection h1 with h1
  injection h1 with _ h1
  exact absurd h1 dC
 have HSC:Hi (∀Y,FB gR X Y->Y.cell? (aD gL 8)=some (.slice (sA be 0) en ec)/\gL<Y.heap.size/\Y.cell? ⟨be,k*6,none⟩=some (nI e.from')/\Y.cell? ⟨be,k*6+1,none⟩=some (nI e.to')/\Y.cell? ⟨be,k*6+2,none⟩=some (nI e.op)/\Y.cell? ⟨be,k*6+3,none⟩=some (nI e.place)/\Y.cell? ⟨be,k*6+4,none⟩=some (.bool e.sense)/\Y.cell? ⟨be,k*6+5,none⟩=some (.bool e.loop)/\be<Y.heap.size):=λY hY=>by
  have hL:=hY.row HLR.o HKL.o.1;have hlt:=(HESX.o.lt be rfl).2
  have hE:∀(j:Nat) (u:Value),(edV e)[j]?=some u->Y.cell? ⟨be,k*6+j,none⟩=some u:=λj u hj=>by have h1:=HESX.o.cells (g:=be) rfl (k*6+j) u (zp6 HE.o.1 j u hj);rw[zb7,Nat.zero_add]at h1;rw[<-h1];unfold World.cell?;rw[hY.2 be HBR.o hlt]
  exact⟨(cell_of_row _ _ 8 _ _ _ hL).trans rfl,za2 hL,hE 0 _ rfl,hE 1 _ rfl,hE 2 _ rfl,hE 3 _ rfl,hE 4 _ rfl,hE 5 _ rfl,lL_ hlt hY.1⟩
 have S0:FB gR X X.drew:=FB.of (Below.drew (Ok.refl X));clear q0 q1 q2 q3 q4 q5 q6 q7 q8 lgq;refine zd5 (λY=>FB gR X Y) 11 kR ?_;refine tK 0 (pA gL 8) S0 ?_;simp only[pu];refine tL 1 (.slice (sA be 0) en ec) S0 ?_ ?_
 ·intro w' s0;obtain⟨z0,z1,z2,z3,z4,z5,z6,z7,z8⟩:=HSC.o w' s0;clear s0;go_simp;try with_reducible rfl
 simp only[pu];refine tK 2 (nI (k:Nat)) S0 ?_;simp only[pu];refine tL 3 (.pointer (some ⟨be,k*6,none⟩)) S0 ?_ ?_
 ·intro w' s0;have y7:(0:Int)<=(k:Int):=oM;have y8:¬((en:Int)<=(k:Int)):=oM;clear s0;go_simp;try with_reducible rfl
 simp only[pu];refine tL 4 (.agg #[nI e.from',nI e.to',nI e.op,nI e.place,.bool e.sense,.bool e.loop]) S0 ?_ ?_
 ·intro w' s0;obtain⟨z0,z1,z2,z3,z4,z5,z6,z7,z8⟩:=HSC.o w' s0;clear s0;go_simp;try with_reducible rfl
 simp only[pu];refine tK 5 (nI (k:Nat)) S0 ?_;simp only[pu];refine tL 6 (.agg #[nI (c 0),nI (c 1),nI (c 2),nI (c 3),nI (c 4),nI (c 5),.slice tz tn tc,nI (c 7),nI (c 8)]) S0 ?_ ?_
 ·intro w' s0;obtain⟨z0,z1,z2,z3,z4,z5,z6,z7,z8,z9⟩:=CQ (s0.row (by have:=HG.o;omega) HCX.o);clear s0;go_simp;try with_reducible rfl
 simp only[pu];refine tL 8 (.agg #[.bool m,.slice ho q hc,.slice lo n lc]) S0 ?_ ?_
 ·intro w' s0;have z9:=s0.row (by have:=HG.o;omega) HTX.o;obtain⟨z0,z1,z2,z3⟩:=za9 z9;have z8:=za2 z9;clear s0;go_simp;try with_reducible rfl
 simp only[pu];refine zb0 (i:=7) kR rfl (λK hK=>?_);go_simp;refine(zU2 e k (c 0) (c 1) (c 2) (c 3) (c 4) (c 5) (c 7) (c 8) (.slice tz tn tc) _ HE.o.2.1).mono ?_;rintro ex D1 ⟨fv,rfl,hfv,hkd⟩;have HKD:=hid (Ok.step (Below.drew (Ok.refl X)) hkd);refine hK.out _ _ (λ_=>FB.of HKD.o) ?_;clear hK K S0 hkd;have HFV:=hid hfv;obtain⟨fid,caps,rfl,hen,hcl⟩:=hfv;have hcl1:=hcl D1
 try simp only[pu]
 refine zb0 (i:=9) kR rfl (λK hK=>?_);go_simp;refine(hcl1 _ _ (m,hs,ls) (Ok.refl D1) (HT.o.1.below (HKX1.o.step HKD.o)) HT.o.2).mono ?_;rintro ex D2 ⟨hv',lv',rfl,hto,hk2⟩;have HK2:=hid (HKD.o.step hk2);have HTO:=hid (hto.base HKD.o.le);refine hK.out _ _ (λ_=>FB.of HK2.o) ?_;clear hK K hcl1 hcl hen hk2 HFV;obtain⟨sm,hsm⟩:=qq ((AK (c 0) (c 1) e k (m,hs,ls)).1)
 have HO:Hi ((#[.bool sm,hv',lv']:Array Value).all (·.oneCell')=true):=by obtain⟨_,_,rfl⟩:=za0 hto.hist;obtain⟨_,_,rfl⟩:=za0 hto.loops;simp[Hi,Value.oneCell']
 have HR2:Hi (D2.heap[gR]?=_):=Ok.row' HK2.o HRX.o;rw[<-hsm];have HSM:=hid hsm;clear hto hsm
 try simp only[pu]
 refine zb0 (i:=10) kR rfl (λK hK=>?_);refine zg9 rfl 28 _ _ rfl gR 28 _ #[.bool sm,hv',lv'] (by rfl) (by rfl) HR2.o CB rfl HO.o rfl ?_;refine hK.out _ _ (λ_=>⟨by rw[size_setRow];exact HK2.o.le,λb hb hl=>(setRow_other _ _ _ _ hb).trans (Below.block HK2.o b hl)⟩) ?_;clear hK K;refine zb0 (i:=11) kR rfl (λK hK=>?_);go_simp;refine hK.out _ _ (λh=>absurd rfl h) ?_;clear hK K;refine zd4 kR ?_ _;go_wp2_with fail;refine bodyPost_ret (zc0 rfl _ _ gR 28 #[.bool sm,hv',lv'] (0,0) _ rfl (setRow_heap _ _ _ _ _ _ HR2.o) Tryz.underlying28 rfl CB) rfl ?_;have hle:=HKX1.o.le;have hgx:gR<X.heap.size:=za2 HRX.o;have hs2:∀b,X.heap.size<=b->(D2.setRow gR #[.bool sm,hv',lv']).heap[b]?=D2.heap[b]?:=λb hb=>setRow_other _ _ _ _ oM;exact⟨hv',lv',by rw[<-HSM.o];rfl,⟨za7 (zb4 HTO.o.hist λb hb=>hs2 b (HTO.o.hist.lt b hb).1) hle,za7 (zb4 HTO.o.loops λb hb=>hs2 b (HTO.o.loops.lt b hb).1) hle⟩,zd0 (HKX1.o.step HK2.o) HG.o.1 _⟩
end Go.Proofs.YtpongdpnbclchaaGreatDoor
