import Derived.Test.YtpongdpnbclchaaGreatDoorKMd
import Derived.Test.YtpongdpnbclchaaGreatDoorKNi
set_option maxHeartbeats 8000000
set_option linter.all false
set_option maxRecDepth 100000
namespace Go.Proofs.YtpongdpnbclchaaGreatDoor
variable{H U k r:Int}{es:List Ed}{t:Tok}
section
open Go.RowKit Go.Maps
theorem yh7(v:Nat->Value)(c:Nat->Int)(ts:List Int)(tz:Option Addr)(tc:Nat)(ns:List Nd)(l:Ls)(w:World)(hE:wg9 w)(h:BO w (v 0) (v 1) (v 2) (v 3) (v 4) (v 5) ns l)(hts:SL w 1 (.slice tz ts.length tc) ts.length (ilL ts))(hb:DJ ns l c ts=0) :
  Calls Tryz.prog 16 #[.agg #[v 0,v 1,v 2,v 3,v 4,v 5],.agg #[nI (c 0),nI (c 1),nI (c 2),nI (c 3),nI (c 4),nI (c 5),.slice tz ts.length tc,nI (c 7),nI (c 8)]] w λe w'=>wa2 w (some (ptN ns,ptF ns ns.length,elF ns)) e w':=by
 obtain⟨hg,hr⟩:=zm1 hb;refine zG2 v c ts tz tc _ _ _ w (λY hY=>?_) (λY hY=>?_)
 ·have h1:=yv6 v ns l Y (hE.ok hY).rules (hE.ok hY).steps (h.below hY)
  have e1:lwG ns l=some (ptN ns,ptF ns ns.length,elF ns):=by unfold lwG ptN;rw[if_pos hg]
  rw[e1]at h1;exact h1
 obtain⟨et,eu,he⟩:=(hE.ok hY).errC;have h1:=zF8 c ts tz tc Y (hts.below hY) et eu he;rw[hr]at h1;exact h1
end
section
open Go.RowKit Go.Maps
def sqR(r H U:Int)(es:List Ed)(t:Tok)(k:Int):Tok×Int:=if r≠0 then (wa1,r) else match (if 0<=k then es[k.toNat]? else none) with
 | none=>(wa1,1)
 | some e=>(AK H U e k.toNat t,0)
def we7(Z:World)(R:Tok×Int)(e:Ending)(w':World):Prop:=∃hv lv,e=.returned (.tuple #[.agg #[.bool R.1.1,hv,lv],nI R.2])/\AA w' Z.heap.size hv lv R.1/\Ok Z w'
theorem we7.zero{Z w':World}{e:Ending}(he:e=.returned (.tuple #[.agg #[.bool false,sZ,sZ],nI r]))(hk:Ok Z w'):we7 Z (wa1,r) e w':=⟨_,_,he,⟨World.ownsRow_nil _ _ _ _,World.ownsRow_nil _ _ _ _⟩,hk⟩
theorem yK8(v:Nat->Value)(c:Nat->Int)(tz:Option Addr)(tn tc:Nat)(r:Int)(hr:r≠0)(k:Int)(t:Tok)(hv lv:Value)(w:World)(h:∀Y,Ok w Y->Calls Tryz.prog 16 #[.agg #[v 0,v 1,v 2,v 3,v 4,v 5],.agg #[nI (c 0),nI (c 1),nI (c 2),nI (c 3),nI (c 4),nI (c 5),.slice tz tn tc,nI (c 7),nI (c 8)]] Y λe w'=>e=.returned (.tuple #[.agg #[sZ,sZ,sZ,sZ,sZ,sZ,nI 0,nI 0,sZ],nI r])/\Ok Y w')(ht:BC w hv lv t) :
  Calls Tryz.prog 7 #[.agg #[v 0,v 1,v 2,v 3,v 4,v 5],.agg #[nI (c 0),nI (c 1),nI (c 2),nI (c 3),nI (c 4),nI (c 5),.slice tz tn tc,nI (c 7),nI (c 8)],.agg #[.bool t.1,hv,lv],nI k] w λe w'=>e=.returned (.tuple #[.agg #[.bool false,sZ,sZ],nI r])/\Ok w w':=by
 have HL:=hid h;have hrb:(r != 0)=true:=bne_iff_ne.2 hr;clear h hr;obtain⟨_,_,ho,hc,e1,_⟩:=ht.hist;obtain⟨_,_,lo,lc,e2,_⟩:=ht.loops;obtain⟨m,hs,ls⟩:=t;obtain⟨q,hq⟩:=qq (hs.length);obtain⟨n,hn⟩:=qq (ls.length);simp only[<-hq,<-hn]at e1 e2;subst e1 e2;clear ht hq hn;go_enter Tryz.func7,Tryz.ntmps7;go_wp2_with fail;obtain⟨W,hW⟩:=qq ((((w.alloc (Obj.cells #[v 0,v 1,v 2,v 3,v 4,v 5] 33)).alloc (Obj.cells #[nI (c 0),nI (c 1),nI (c 2),nI (c 3),nI (c 4),nI (c 5),.slice tz tn tc,nI (c 7),nI (c 8)] 24)).alloc (Obj.cells #[.bool m,.slice ho q hc,.slice lo n lc] 28)).alloc (Obj.cells #[.bool false,sZ,sZ] 28));obtain⟨gP,hgP⟩:=qq (w.heap.size);obtain⟨gC,hgC⟩:=qq (w.heap.size+1);obtain⟨gT,hgT⟩:=qq (w.heap.size+1+1);obtain⟨gR,hgR⟩:=qq (w.heap.size+1+1+1);rw[<-hW,<-hgR,<-hgT,<-hgC];have HK0:Hi (Ok w W):=by rw[hW];exact((((Ok.refl w).alloc _).alloc _).alloc _).alloc _
 have HRR0:Hi (W.heap[gR]?=some (.cells #[.bool false,sZ,sZ] 28 (0,0))):=by rw[hW,hgR];exact jj
 have HG:Hi (w.heap.size<=gR/\w.heap.size<=gC):=by unfold Hi;omega
 have HGT:Hi (gT≠gR):=by unfold Hi;omega
 clear hW hgR hgC hgT hgP;refine mq (HL.o W HK0.o) λw1 hk1=>?_;have HK1:=hid (HK0.o.step hk1);have HRR1:Hi _:=Ok.row' hk1 HRR0.o;clear hk1 HL
 go_wp2_with (first|(refine za8 rfl 53 _ _ rfl w1.heap.size 53 #[sZ,sZ,sZ,sZ,sZ,sZ,nI 0,nI 0,sZ] #[sZ,sZ,sZ,sZ,sZ,sZ,nI 0,nI 0,sZ] (by rfl) (by rfl) (za3 _ _) EK rfl ye2 ?_;obtain⟨X,gL,hX,HKX,HKL⟩:=zl8 w1 #[sZ,sZ,sZ,sZ,sZ,sZ,nI 0,nI 0,sZ];rw[hX.1,hX.2];clear hX) | (refine za8 rfl 28 _ _ rfl gR 28 #[.bool false,sZ,sZ] #[.bool false,sZ,sZ] (by rfl) (by rfl) (Ok.row' HKX.o HRR1.o) CB rfl (by simp[Value.oneCell']) ?_)|fail)
 refine bodyPost_ret (zc0 rfl _ _ gR 28 #[.bool false,sZ,sZ] (0,0) _ rfl (setRow_heap _ _ _ _ _ _ (Ok.row' HKX.o HRR1.o)) Tryz.underlying28 rfl CB) rfl ?_;exact⟨rfl,zd0 (HK1.o.step HKX.o) HG.o.1 _⟩
theorem yM4(v:Nat->Value)(c:Nat->Int)(tz:Option Addr)(tn tc:Nat)(NN x:Nat)(es:List Ed)(k:Int)(t:Tok)(hv lv:Value)(w:World)(h:∀Y,Ok w Y->Calls Tryz.prog 16 #[.agg #[v 0,v 1,v 2,v 3,v 4,v 5],.agg #[nI (c 0),nI (c 1),nI (c 2),nI (c 3),nI (c 4),nI (c 5),.slice tz tn tc,nI (c 7),nI (c 8)]] Y λe w'=>wa2 Y (some (NN,x,es)) e w')(hk:k<0\/(es.length:Int)<=k)(ht:BC w hv lv t) :
  Calls Tryz.prog 7 #[.agg #[v 0,v 1,v 2,v 3,v 4,v 5],.agg #[nI (c 0),nI (c 1),nI (c 2),nI (c 3),nI (c 4),nI (c 5),.slice tz tn tc,nI (c 7),nI (c 8)],.agg #[.bool t.1,hv,lv],nI k] w λe w'=>e=.returned (.tuple #[.agg #[.bool false,sZ,sZ],nI 1])/\Ok w w':=by
 have HL:=hid h;have HKK:=hid hk;clear h hk;obtain⟨_,_,ho,hc,e1,_⟩:=ht.hist;obtain⟨_,_,lo,lc,e2,_⟩:=ht.loops;obtain⟨m,hs,ls⟩:=t;obtain⟨q,hq⟩:=qq (hs.length);obtain⟨n,hn⟩:=qq (ls.length);simp only[<-hq,<-hn]at e1 e2;subst e1 e2;clear ht hq hn;go_enter Tryz.func7,Tryz.ntmps7;go_wp2_with fail;obtain⟨W,hW⟩:=qq ((((w.alloc (Obj.cells #[v 0,v 1,v 2,v 3,v 4,v 5] 33)).alloc (Obj.cells #[nI (c 0),nI (c 1),nI (c 2),nI (c 3),nI (c 4),nI (c 5),.slice tz tn tc,nI (c 7),nI (c 8)] 24)).alloc (Obj.cells #[.bool m,.slice ho q hc,.slice lo n lc] 28)).alloc (Obj.cells #[.bool false,sZ,sZ] 28));obtain⟨gP,hgP⟩:=qq (w.heap.size);obtain⟨gC,hgC⟩:=qq (w.heap.size+1);obtain⟨gT,hgT⟩:=qq (w.heap.size+1+1);obtain⟨gR,hgR⟩:=qq (w.heap.size+1+1+1);rw[<-hW,<-hgR,<-hgT,<-hgC];have HK0:Hi (Ok w W):=by rw[hW];exact((((Ok.refl w).alloc _).alloc _).alloc _).alloc _
 have HRR0:Hi (W.heap[gR]?=some (.cells #[.bool false,sZ,sZ] 28 (0,0))):=by rw[hW,hgR];exact jj
 have HG:Hi (w.heap.size<=gR/\w.heap.size<=gC):=by unfold Hi;omega
 have HGT:Hi (gT≠gR):=by unfold Hi;omega
 clear hW hgR hgC hgT hgP;refine(HL.o W HK0.o).mono ?_;rintro e w1 hv;unfold wa2 at hv;obtain⟨⟨u,eo,ec,rfl,hu,hes⟩,hk1⟩:=hv;have HK1:=hid (HK0.o.step hk1);have HRR1:Hi _:=Ok.row' hk1 HRR0.o
 have HON:Hi ((#[u 0,u 1,u 2,u 3,u 4,u 5,nI (NN:Nat),nI (x:Nat),.slice eo es.length ec]:Array Value).all (·.oneCell')=true):=by obtain⟨g0,n0,k0,g1,n1,k1,g2,n2,k2,g3,n3,k3,g4,n4,k4,g5,n5,k5,e0,e1,e2,e3,e4,e5⟩:=DX hu;unfold Hi;rw[e0,e1,e2,e3,e4,e5];simp[Value.oneCell']
 clear hk1 HL hu hes;obtain⟨en,hen⟩:=qq (es.length);rw[<-hen]at HON HKK ⊢;clear hen;have hkk:=HKK.o;by_cases hk0:k<0
 ·clear hkk
  go_wp2_with (first|(refine za8 rfl 53 _ _ rfl w1.heap.size 53 #[sZ,sZ,sZ,sZ,sZ,sZ,nI 0,nI 0,sZ] #[u 0,u 1,u 2,u 3,u 4,u 5,nI (NN:Nat),nI (x:Nat),.slice eo en ec] (by rfl) (by rfl) (za3 _ _) EK rfl HON.o ?_;obtain⟨X,gL,hX,HKX,HKL⟩:=zl8 w1 #[u 0,u 1,u 2,u 3,u 4,u 5,nI (NN:Nat),nI (x:Nat),.slice eo en ec];rw[hX.1,hX.2];clear hX;obtain⟨q0,q1,q2,q3,q4,q5,q6,q7,q8,lgq⟩:=CQ HKL.o.1) | (refine za8 rfl 28 _ _ rfl gR 28 #[.bool false,sZ,sZ] #[.bool false,sZ,sZ] (by rfl) (by rfl) (Ok.row' HKX.o HRR1.o) CB rfl (by simp[Value.oneCell']) ?_)|fail)
  refine bodyPost_ret (zc0 rfl _ _ gR 28 #[.bool false,sZ,sZ] (0,0) _ rfl (setRow_heap _ _ _ _ _ _ (Ok.row' HKX.o HRR1.o)) Tryz.underlying28 rfl CB) rfl ?_;exact⟨rfl,zd0 (HK1.o.step HKX.o) HG.o.1 _⟩
 have hk2:(en:Int)<=k:=oM;have hk3:¬k<0:=hk0;clear hkk
 go_wp2_with (first|(refine za8 rfl 53 _ _ rfl w1.heap.size 53 #[sZ,sZ,sZ,sZ,sZ,sZ,nI 0,nI 0,sZ] #[u 0,u 1,u 2,u 3,u 4,u 5,nI (NN:Nat),nI (x:Nat),.slice eo en ec] (by rfl) (by rfl) (za3 _ _) EK rfl HON.o ?_;obtain⟨X,gL,hX,HKX,HKL⟩:=zl8 w1 #[u 0,u 1,u 2,u 3,u 4,u 5,nI (NN:Nat),nI (x:Nat),.slice eo en ec];rw[hX.1,hX.2];clear hX;obtain⟨q0,q1,q2,q3,q4,q5,q6,q7,q8,lgq⟩:=CQ HKL.o.1) | (refine za8 rfl 28 _ _ rfl gR 28 #[.bool false,sZ,sZ] #[.bool false,sZ,sZ] (by rfl) (by rfl) (Ok.row' HKX.o HRR1.o) CB rfl (by simp[Value.oneCell']) ?_)|fail)
 refine bodyPost_ret (zc0 rfl _ _ gR 28 #[.bool false,sZ,sZ] (0,0) _ rfl (setRow_heap _ _ _ _ _ _ (Ok.row' HKX.o HRR1.o)) Tryz.underlying28 rfl CB) rfl ?_;exact⟨rfl,zd0 (HK1.o.step HKX.o) HG.o.1 _⟩
theorem yM5(v:Nat->Value)(c:Nat->Int)(tz:Option Addr)(tn tc:Nat)(r:Int)(hr:r≠0)(k:Int)(t:Tok)(hv lv:Value)(w:World)(hv6:∀i,i<6->∃ao n c,v i=.slice ao n c)(hR:∀Y,Ok w Y->Calls Tryz.prog 13 #[.agg #[v 0,v 1,v 2,v 3,v 4,v 5],.agg #[nI (c 0),nI (c 1),nI (c 2),nI (c 3),nI (c 4),nI (c 5),.slice tz tn tc,nI (c 7),nI (c 8)]] Y λe w'=>e=.returned (nI r)/\Ok Y w')(ht:BC w hv lv t) :
  Calls Tryz.prog 5 #[.agg #[v 0,v 1,v 2,v 3,v 4,v 5],.agg #[nI (c 0),nI (c 1),nI (c 2),nI (c 3),nI (c 4),nI (c 5),.slice tz tn tc,nI (c 7),nI (c 8)],.agg #[.bool t.1,hv,lv],nI k] w λe w'=>e=.returned (.tuple #[.agg #[.bool false,sZ,sZ],nI r])/\Ok w w':=by
 obtain⟨g0,n0,k0,g1,n1,k1,g2,n2,k2,g3,n3,k3,g4,n4,k4,g5,n5,k5,z0,z1,z2,z3,z4,z5⟩:=DX hv6;rw[z0,z1,z2,z3,z4,z5]at hR ⊢;have HR:=hid hR;have hrb:(r != 0)=true:=bne_iff_ne.2 hr;clear hR hr hv6 z0 z1 z2 z3 z4 z5;obtain⟨_,_,ho,hc,e1,_⟩:=ht.hist;obtain⟨_,_,lo,lc,e2,_⟩:=ht.loops;obtain⟨m,hs,ls⟩:=t;obtain⟨q,hq⟩:=qq (hs.length);obtain⟨n,hn⟩:=qq (ls.length);simp only[<-hq,<-hn]at e1 e2;subst e1 e2;clear ht hq hn;go_enter Tryz.func5,Tryz.ntmps5;go_wp2_with fail;obtain⟨W,hW⟩:=qq ((((w.alloc (Obj.cells #[.slice g0 n0 k0,.slice g1 n1 k1,.slice g2 n2 k2,.slice g3 n3 k3,.slice g4 n4 k4,.slice g5 n5 k5] 33)).alloc (Obj.cells #[nI (c 0),nI (c 1),nI (c 2),nI (c 3),nI (c 4),nI (c 5),.slice tz tn tc,nI (c 7),nI (c 8)] 24)).alloc (Obj.cells #[.bool m,.slice ho q hc,.slice lo n lc] 28)).alloc (Obj.cells #[.bool false,sZ,sZ] 28));obtain⟨gP,hgP⟩:=qq (w.heap.size);obtain⟨gC,hgC⟩:=qq (w.heap.size+1);obtain⟨gT,hgT⟩:=qq (w.heap.size+1+1);obtain⟨gR,hgR⟩:=qq (w.heap.size+1+1+1);rw[<-hW,<-hgR,<-hgT,<-hgC,<-hgP];have HK0:Hi (Ok w W):=by rw[hW];exact((((Ok.refl w).alloc _).alloc _).alloc _).alloc _
 have HRR0:Hi (W.heap[gR]?=some (.cells #[.bool false,sZ,sZ] 28 (0,0))):=by rw[hW,hgR];exact jj
 have HG:Hi (w.heap.size<=gR/\w.heap.size<=gC):=by unfold Hi;omega
 have HGT:Hi (gT≠gR):=by unfold Hi;omega
 clear hW hgR hgC hgT hgP;refine mq (HR.o W HK0.o) λw1 hk1=>?_;have HKX:=hid hk1;have HRR1:=HRR0;clear hk1 HR
 go_wp2_with (first|(refine za8 rfl 28 _ _ rfl gR 28 #[.bool false,sZ,sZ] #[.bool false,sZ,sZ] (by rfl) (by rfl) (Ok.row' HKX.o HRR1.o) CB rfl (by simp[Value.oneCell']) ?_)|fail)
 refine bodyPost_ret (zc0 rfl _ _ gR 28 #[.bool false,sZ,sZ] (0,0) _ rfl (setRow_heap _ _ _ _ _ _ (Ok.row' HKX.o HRR1.o)) Tryz.underlying28 rfl CB) rfl ?_;exact⟨rfl,zd0 (HK0.o.step HKX.o) HG.o.1 _⟩
theorem yM6(v:Nat->Value)(c:Nat->Int)(tz:Option Addr)(tn tc:Nat)(NN x:Nat)(es:List Ed)(k:Int)(t:Tok)(hv lv:Value)(w:World)(hv6:∀i,i<6->∃ao n c,v i=.slice ao n c)(hR:∀Y,Ok w Y->Calls Tryz.prog 13 #[.agg #[v 0,v 1,v 2,v 3,v 4,v 5],.agg #[nI (c 0),nI (c 1),nI (c 2),nI (c 3),nI (c 4),nI (c 5),.slice tz tn tc,nI (c 7),nI (c 8)]] Y λe w'=>e=.returned (nI 0)/\Ok Y w')(hL:∀Y,Ok w Y->Calls Tryz.prog 14 #[.agg #[v 0,v 1,v 2,v 3,v 4,v 5]] Y λe w'=>∃ev:Value,e=.returned (.tuple #[.agg #[v 0,v 1,v 2,v 3,v 4,v 5,nI (NN:Nat),nI (x:Nat),ev],nI 0])/\w'.ownsRow Y.heap.size 59 6 ev es.length (edL es)/\Ok Y w')(hk:k<0\/(es.length:Int)<=k)(ht:BC w hv lv t) :
  Calls Tryz.prog 5 #[.agg #[v 0,v 1,v 2,v 3,v 4,v 5],.agg #[nI (c 0),nI (c 1),nI (c 2),nI (c 3),nI (c 4),nI (c 5),.slice tz tn tc,nI (c 7),nI (c 8)],.agg #[.bool t.1,hv,lv],nI k] w λe w'=>e=.returned (.tuple #[.agg #[.bool false,sZ,sZ],nI 1])/\Ok w w':=by
 have HKK:=hid hk;clear hk;obtain⟨g0,n0,k0,g1,n1,k1,g2,n2,k2,g3,n3,k3,g4,n4,k4,g5,n5,k5,z0,z1,z2,z3,z4,z5⟩:=DX hv6;rw[z0,z1,z2,z3,z4,z5]at hR hL ⊢;have HR:=hid hR;have HL:=hid hL;clear hR hL hv6 z0 z1 z2 z3 z4 z5;obtain⟨_,_,ho,hc,e1,_⟩:=ht.hist;obtain⟨_,_,lo,lc,e2,_⟩:=ht.loops;obtain⟨m,hs,ls⟩:=t;obtain⟨q,hq⟩:=qq (hs.length);obtain⟨n,hn⟩:=qq (ls.length);simp only[<-hq,<-hn]at e1 e2;subst e1 e2;clear ht hq hn;go_enter Tryz.func5,Tryz.ntmps5;go_wp2_with fail;obtain⟨W,hW⟩:=qq ((((w.alloc (Obj.cells #[.slice g0 n0 k0,.slice g1 n1 k1,.slice g2 n2 k2,.slice g3 n3 k3,.slice g4 n4 k4,.slice g5 n5 k5] 33)).alloc (Obj.cells #[nI (c 0),nI (c 1),nI (c 2),nI (c 3),nI (c 4),nI (c 5),.slice tz tn tc,nI (c 7),nI (c 8)] 24)).alloc (Obj.cells #[.bool m,.slice ho q hc,.slice lo n lc] 28)).alloc (Obj.cells #[.bool false,sZ,sZ] 28));obtain⟨gP,hgP⟩:=qq (w.heap.size);obtain⟨gC,hgC⟩:=qq (w.heap.size+1);obtain⟨gT,hgT⟩:=qq (w.heap.size+1+1);obtain⟨gR,hgR⟩:=qq (w.heap.size+1+1+1);rw[<-hW,<-hgR,<-hgT,<-hgC,<-hgP];have HK0:Hi (Ok w W):=by rw[hW];exact((((Ok.refl w).alloc _).alloc _).alloc _).alloc _
 have HRR0:Hi (W.heap[gR]?=some (.cells #[.bool false,sZ,sZ] 28 (0,0))):=by rw[hW,hgR];exact jj
 have HRC0:Hi (W.heap[gC]?=some (.cells #[nI (c 0),nI (c 1),nI (c 2),nI (c 3),nI (c 4),nI (c 5),.slice tz tn tc,nI (c 7),nI (c 8)] 24 (0,0))):=by rw[hW,hgC];exact jj
 have HRT0:Hi (W.heap[gT]?=some (.cells #[.bool m,.slice ho q hc,.slice lo n lc] 28 (0,0))):=by rw[hW,hgT];exact jj
 have HRP0:Hi (W.heap[gP]?=some (.cells #[.slice g0 n0 k0,.slice g1 n1 k1,.slice g2 n2 k2,.slice g3 n3 k3,.slice g4 n4 k4,.slice g5 n5 k5] 33 (0,0))):=by rw[hW,hgP];exact jj
 have HG:Hi (w.heap.size<=gR/\w.heap.size<=gC):=by unfold Hi;omega
 have HGT:Hi (gT≠gR):=by unfold Hi;omega
 clear hW hgR hgC hgT hgP;refine mq (HR.o W HK0.o) λw1 hk1=>?_;have HK1:=hid (HK0.o.step hk1);have HRR2:Hi _:=Ok.row' hk1 HRR0.o;have HRC2:Hi _:=Ok.row' hk1 HRC0.o;have HRT2:Hi _:=Ok.row' hk1 HRT0.o;have HRP2:Hi _:=Ok.row' hk1 HRP0.o;clear hk1 HR HRC0 HRT0 HRP0 HRR0;obtain⟨y0,y1,y2,y3,y4,y5,ly⟩:=EZ HRP2.o;go_wp2_with fail;clear y0 y1 y2 y3 y4 y5 ly HRP2;refine(HL.o w1 HK1.o).mono ?_;rintro e w2 ⟨ev,rfl,hes,hk2⟩;obtain⟨eo,ec,rfl⟩:=za0 hes;have HES:Hi (w2.ownsRow 0 59 6 (.slice eo es.length ec) es.length (edL es)):=za7 hes (zL_ _);have HK2:=hid (HK1.o.step hk2);have HRR1:Hi _:=Ok.row' hk2 HRR2.o;have HRC1:Hi _:=Ok.row' hk2 HRC2.o;have HRT1:Hi _:=Ok.row' hk2 HRT2.o;clear hk2 hes HL HRR2 HRC2 HRT2;obtain⟨en,hen⟩:=qq (es.length);rw[<-hen]at HKK ⊢;clear HES hen HRC1 HRT1;have hkk:=HKK.o;by_cases hk0:k<0
 ·clear hkk
  go_wp2_with (first|(refine za8 rfl 53 _ _ rfl w2.heap.size 53 #[sZ,sZ,sZ,sZ,sZ,sZ,nI 0,nI 0,sZ] #[.slice g0 n0 k0,.slice g1 n1 k1,.slice g2 n2 k2,.slice g3 n3 k3,.slice g4 n4 k4,.slice g5 n5 k5,nI (NN:Nat),nI (x:Nat),.slice eo en ec] (by rfl) (by rfl) (za3 _ _) EK rfl (by simp[Value.oneCell']) ?_;obtain⟨X,gL,hX,HKX,HKL⟩:=zl8 w2 #[.slice g0 n0 k0,.slice g1 n1 k1,.slice g2 n2 k2,.slice g3 n3 k3,.slice g4 n4 k4,.slice g5 n5 k5,nI (NN:Nat),nI (x:Nat),.slice eo en ec];rw[hX.1,hX.2];clear hX;obtain⟨q0,q1,q2,q3,q4,q5,q6,q7,q8,lgq⟩:=CQ HKL.o.1) | (refine za8 rfl 28 _ _ rfl gR 28 #[.bool false,sZ,sZ] #[.bool false,sZ,sZ] (by rfl) (by rfl) (Ok.row' HKX.o HRR1.o) CB rfl (by simp[Value.oneCell']) ?_)|fail)
  refine bodyPost_ret (zc0 rfl _ _ gR 28 #[.bool false,sZ,sZ] (0,0) _ rfl (setRow_heap _ _ _ _ _ _ (Ok.row' HKX.o HRR1.o)) Tryz.underlying28 rfl CB) rfl ?_;exact⟨rfl,zd0 (HK2.o.step HKX.o) HG.o.1 _⟩
 have hk2:(en:Int)<=k:=oM;have hk3:¬k<0:=hk0;clear hkk
 go_wp2_with (first|(refine za8 rfl 53 _ _ rfl w2.heap.size 53 #[sZ,sZ,sZ,sZ,sZ,sZ,nI 0,nI 0,sZ] #[.slice g0 n0 k0,.slice g1 n1 k1,.slice g2 n2 k2,.slice g3 n3 k3,.slice g4 n4 k4,.slice g5 n5 k5,nI (NN:Nat),nI (x:Nat),.slice eo en ec] (by rfl) (by rfl) (za3 _ _) EK rfl (by simp[Value.oneCell']) ?_;obtain⟨X,gL,hX,HKX,HKL⟩:=zl8 w2 #[.slice g0 n0 k0,.slice g1 n1 k1,.slice g2 n2 k2,.slice g3 n3 k3,.slice g4 n4 k4,.slice g5 n5 k5,nI (NN:Nat),nI (x:Nat),.slice eo en ec];rw[hX.1,hX.2];clear hX;obtain⟨q0,q1,q2,q3,q4,q5,q6,q7,q8,lgq⟩:=CQ HKL.o.1) | (refine za8 rfl 28 _ _ rfl gR 28 #[.bool false,sZ,sZ] #[.bool false,sZ,sZ] (by rfl) (by rfl) (Ok.row' HKX.o HRR1.o) CB rfl (by simp[Value.oneCell']) ?_)|fail)
 refine bodyPost_ret (zc0 rfl _ _ gR 28 #[.bool false,sZ,sZ] (0,0) _ rfl (setRow_heap _ _ _ _ _ _ (Ok.row' HKX.o HRR1.o)) Tryz.underlying28 rfl CB) rfl ?_;exact⟨rfl,zd0 (HK2.o.step HKX.o) HG.o.1 _⟩
theorem yN8(v:Nat->Value)(c:Nat->Int)(tz:Option Addr)(tn tc:Nat)(NN x:Nat)(es:List Ed)(e:Ed)(k:Nat)(t:Tok)(hv lv:Value)(w:World)(hv6:∀i,i<6->∃ao n c,v i=.slice ao n c)(hR:∀Y,Ok w Y->Calls Tryz.prog 13 #[.agg #[v 0,v 1,v 2,v 3,v 4,v 5],.agg #[nI (c 0),nI (c 1),nI (c 2),nI (c 3),nI (c 4),nI (c 5),.slice tz tn tc,nI (c 7),nI (c 8)]] Y λe w'=>e=.returned (nI 0)/\Ok Y w')(hL:∀Y,Ok w Y->Calls Tryz.prog 14 #[.agg #[v 0,v 1,v 2,v 3,v 4,v 5]] Y λe w'=>∃ev:Value,e=.returned (.tuple #[.agg #[v 0,v 1,v 2,v 3,v 4,v 5,nI (NN:Nat),nI (x:Nat),ev],nI 0])/\w'.ownsRow Y.heap.size 59 6 ev es.length (edL es)/\Ok Y w')(hU:c 1<=1000)(hk:es[k]?=some e)(hl:es.length<=100000)(ht:BC w hv lv t)(hb:TkW t) :
  Calls Tryz.prog 5 #[.agg #[v 0,v 1,v 2,v 3,v 4,v 5],.agg #[nI (c 0),nI (c 1),nI (c 2),nI (c 3),nI (c 4),nI (c 5),.slice tz tn tc,nI (c 7),nI (c 8)],.agg #[.bool t.1,hv,lv],nI (k:Nat)] w λex w'=>∃hv' lv',ex=.returned (.tuple #[.agg #[.bool (AK (c 0) (c 1) e k t).1,hv',lv'],nI 0])/\AA w' w.heap.size hv' lv' (AK (c 0) (c 1) e k t)/\Ok w w':=by
 have HE:Hi (es[k]?=some e/\c 1<=1000/\es.length<=100000):=⟨hk,hU,hl⟩;have HT:Hi (BC w hv lv t/\TkW t):=⟨ht,hb⟩;clear hk hU hl hb;obtain⟨g0,n0,k0,g1,n1,k1,g2,n2,k2,g3,n3,k3,g4,n4,k4,g5,n5,k5,z0,z1,z2,z3,z4,z5⟩:=DX hv6;rw[z0,z1,z2,z3,z4,z5]at hR hL ⊢;have HR:=hid hR;have HL:=hid hL;clear hR hL hv6 z0 z1 z2 z3 z4 z5;obtain⟨_,_,ho,hc,e1,_⟩:=ht.hist;obtain⟨_,_,lo,lc,e2,_⟩:=ht.loops;obtain⟨m,hs,ls⟩:=t;obtain⟨q,hq⟩:=qq (hs.length);obtain⟨n,hn⟩:=qq (ls.length);simp only[<-hq,<-hn]at e1 e2;subst e1 e2;clear ht hq hn;go_enter Tryz.func5,Tryz.ntmps5;go_wp2_with fail;obtain⟨W,hW⟩:=qq ((((w.alloc (Obj.cells #[.slice g0 n0 k0,.slice g1 n1 k1,.slice g2 n2 k2,.slice g3 n3 k3,.slice g4 n4 k4,.slice g5 n5 k5] 33)).alloc (Obj.cells #[nI (c 0),nI (c 1),nI (c 2),nI (c 3),nI (c 4),nI (c 5),.slice tz tn tc,nI (c 7),nI (c 8)] 24)).alloc (Obj.cells #[.bool m,.slice ho q hc,.slice lo n lc] 28)).alloc (Obj.cells #[.bool false,sZ,sZ] 28));obtain⟨gP,hgP⟩:=qq (w.heap.size);obtain⟨gC,hgC⟩:=qq (w.heap.size+1);obtain⟨gT,hgT⟩:=qq (w.heap.size+1+1);obtain⟨gR,hgR⟩:=qq (w.heap.size+1+1+1);rw[<-hW,<-hgR,<-hgT,<-hgC,<-hgP];have HK0:Hi (Ok w W):=by rw[hW];exact((((Ok.refl w).alloc _).alloc _).alloc _).alloc _
 have HRR0:Hi (W.heap[gR]?=some (.cells #[.bool false,sZ,sZ] 28 (0,0))):=by rw[hW,hgR];exact jj
 have HRC0:Hi (W.heap[gC]?=some (.cells #[nI (c 0),nI (c 1),nI (c 2),nI (c 3),nI (c 4),nI (c 5),.slice tz tn tc,nI (c 7),nI (c 8)] 24 (0,0))):=by rw[hW,hgC];exact jj
 have HRT0:Hi (W.heap[gT]?=some (.cells #[.bool m,.slice ho q hc,.slice lo n lc] 28 (0,0))):=by rw[hW,hgT];exact jj
 have HRP0:Hi (W.heap[gP]?=some (.cells #[.slice g0 n0 k0,.slice g1 n1 k1,.slice g2 n2 k2,.slice g3 n3 k3,.slice g4 n4 k4,.slice g5 n5 k5] 33 (0,0))):=by rw[hW,hgP];exact jj
 have HG:Hi (w.heap.size<=gR/\w.heap.size<=gC):=by unfold Hi;omega
 have HGT:Hi (gT≠gR):=by unfold Hi;omega
 clear hW hgR hgC hgT hgP;refine mq (HR.o W HK0.o) λw1 hk1=>?_;have HK1:=hid (HK0.o.step hk1);have HRR2:Hi _:=Ok.row' hk1 HRR0.o;have HRC2:Hi _:=Ok.row' hk1 HRC0.o;have HRT2:Hi _:=Ok.row' hk1 HRT0.o;have HRP2:Hi _:=Ok.row' hk1 HRP0.o;clear hk1 HR HRC0 HRT0 HRP0 HRR0;obtain⟨y0,y1,y2,y3,y4,y5,ly⟩:=EZ HRP2.o;go_wp2_with fail;clear y0 y1 y2 y3 y4 y5 ly HRP2;refine(HL.o w1 HK1.o).mono ?_;rintro e w2 ⟨ev,rfl,hes,hk2⟩;obtain⟨eo,ec,rfl⟩:=za0 hes;have HES:Hi (w2.ownsRow 0 59 6 (.slice eo es.length ec) es.length (edL es)):=za7 hes (zL_ _);have HK2:=hid (HK1.o.step hk2);have HRR1:Hi _:=Ok.row' hk2 HRR2.o;have HRC1:Hi _:=Ok.row' hk2 HRC2.o;have HRT1:Hi _:=Ok.row' hk2 HRT2.o;clear hk2 hes HL HRR2 HRC2 HRT2;obtain⟨en,hen⟩:=qq (es.length);have hkn:k<en:=by rw[hen];exact(List.getElem?_eq_some_iff.1 HE.o.1).1
 have HEN:Hi (en=es.length/\k<en):=⟨hen,hkn⟩;rw[<-hen]at HES ⊢;have hk0:(0:Int)<=(k:Int):=oM;have hkn':(k:Int)<(en:Int):=za5 hkn;have hkg:¬(en:Int)<=(k:Int):=oM;clear hen
 go_wp2_with (first|(refine za8 rfl 53 _ _ rfl w2.heap.size 53 #[sZ,sZ,sZ,sZ,sZ,sZ,nI 0,nI 0,sZ] #[.slice g0 n0 k0,.slice g1 n1 k1,.slice g2 n2 k2,.slice g3 n3 k3,.slice g4 n4 k4,.slice g5 n5 k5,nI (NN:Nat),nI (x:Nat),.slice eo en ec] (by rfl) (by rfl) (za3 _ _) EK rfl (by simp[Value.oneCell']) ?_;obtain⟨X,gL,hX,HKX,HKL⟩:=zl8 w2 #[.slice g0 n0 k0,.slice g1 n1 k1,.slice g2 n2 k2,.slice g3 n3 k3,.slice g4 n4 k4,.slice g5 n5 k5,nI (NN:Nat),nI (x:Nat),.slice eo en ec];rw[hX.1,hX.2];clear hX;obtain⟨q0,q1,q2,q3,q4,q5,q6,q7,q8,lgq⟩:=CQ HKL.o.1)|fail)
 obtain⟨be,hbe⟩:∃b,eo=some ⟨b,0,none⟩:=by
  obtain⟨g,cp,e1,_⟩:=HES.o.form (by have:=HEN.o;omega)
  injection e1 with e1 _ _
  exact⟨g,e1⟩
 subst hbe;have HKX1:=hid (HK2.o.step HKX.o);have HESX:=hid (za1 HES.o HKX.o);have HCX:Hi (X.heap[gC]?=_):=Ok.row' HKX.o HRC1.o;have HTX:Hi (X.heap[gT]?=_):=Ok.row' HKX.o HRT1.o;have HRX:Hi (X.heap[gR]?=_):=Ok.row' HKX.o HRR1.o
 have HBR:Hi (be≠gR):=by
  intro e9;obtain⟨cg,fg,hgg⟩:=zf9 HESX.o be rfl;rw[e9,HRX.o]at hgg
  injection hgg with hgg
  injection hgg with _ hgg
  exact absurd hgg dC
 have HLR:Hi (gL≠gR):=by
  intro e9;have h1:=HKL.o.1;rw[e9,HRX.o]at h1
  injection h1 with h1
  injection h1 with _ h1
  exact absurd h1 dC
 have HCR:Hi (gC≠gR/\gT≠gR):=by
  constructor
  ·intro e9
   have h1:=HCX.o;rw[e9,HRX.o]at h1
   injection h1 with h1
   injection h1 with _ h1
   exact absurd h1 dC
  exact HGT.o
 have HSC:Hi (∀Y,FB gR X Y->Y.cell? (aD gL 8)=some (.slice (sA be 0) en ec)/\gL<Y.heap.size/\Y.cell? ⟨be,k*6,none⟩=some (nI e.from')/\Y.cell? ⟨be,k*6+1,none⟩=some (nI e.to')/\Y.cell? ⟨be,k*6+2,none⟩=some (nI e.op)/\Y.cell? ⟨be,k*6+3,none⟩=some (nI e.place)/\Y.cell? ⟨be,k*6+4,none⟩=some (.bool e.sense)/\Y.cell? ⟨be,k*6+5,none⟩=some (.bool e.loop)/\be<Y.heap.size):=λY hY=>by
  have hL:=hY.row HLR.o HKL.o.1;have hlt:=(HESX.o.lt be rfl).2
  have hE:∀(j:Nat) (u:Value),(edV e)[j]?=some u->Y.cell? ⟨be,k*6+j,none⟩=some u:=λj u hj=>by have h1:=HESX.o.cells (g:=be) rfl (k*6+j) u (zp6 HE.o.1 j u hj);rw[zb7,Nat.zero_add]at h1;rw[<-h1];unfold World.cell?;rw[hY.2 be HBR.o hlt]
  exact⟨(cell_of_row _ _ 8 _ _ _ hL).trans rfl,za2 hL,hE 0 _ rfl,hE 1 _ rfl,hE 2 _ rfl,hE 3 _ rfl,hE 4 _ rfl,hE 5 _ rfl,lL_ hlt hY.1⟩
 have S0:FB gR X X.drew:=FB.of (Below.drew (Ok.refl X));clear q0 q1 q2 q3 q4 q5 q6 q7 q8 lgq hk0 hkn hkn' hkg;refine zd5 (λY=>FB gR X Y) 10 kR ?_;refine tK 0 (pA gL 8) S0 ?_;simp only[pu];refine tL 1 (.slice (sA be 0) en ec) S0 ?_ ?_
 ·intro w' s0;obtain⟨z0,z1,z2,z3,z4,z5,z6,z7,z8⟩:=HSC.o w' s0;clear s0;go_simp;try with_reducible rfl
 simp only[pu];refine tK 2 (nI (k:Nat)) S0 ?_;simp only[pu];refine tL 3 (.pointer (some ⟨be,k*6,none⟩)) S0 ?_ ?_
 ·intro w' s0;have y6:=HEN.o.2;have y7:(0:Int)<=(k:Int):=oM;have y8:¬((en:Int)<=(k:Int)):=oM;clear s0;go_simp;try with_reducible rfl
 simp only[pu];refine tL 4 ((.agg #[nI e.from',nI e.to',nI e.op,nI e.place,.bool e.sense,.bool e.loop])) S0 ?_ ?_
 ·intro w' s0;obtain⟨z0,z1,z2,z3,z4,z5,z6,z7,z8⟩:=HSC.o w' s0;clear s0;go_simp;try with_reducible rfl
 simp only[pu];refine tK 5 (nI (k:Nat)) S0 ?_;simp only[pu];refine tL 6 (.agg #[nI (c 0),nI (c 1),nI (c 2),nI (c 3),nI (c 4),nI (c 5),.slice tz tn tc,nI (c 7),nI (c 8)]) S0 ?_ ?_
 ·intro w' s0;obtain⟨z0,z1,z2,z3,z4,z5,z6,z7,z8,z9⟩:=CQ (s0.row HCR.o.1 HCX.o);clear s0;go_simp;try with_reducible rfl
 simp only[pu];refine tL 7 (.agg #[.bool m,.slice ho q hc,.slice lo n lc]) S0 ?_ ?_
 ·intro w' s0;have z9:=s0.row HCR.o.2 HTX.o;obtain⟨z0,z1,z2,z3⟩:=za9 z9;have z8:=za2 z9;clear s0;go_simp;try with_reducible rfl
 simp only[pu];refine zb0 (i:=8) kR rfl (λK hK=>?_);go_simp;refine(yH5 e k c tz tn tc _ _ (m,hs,ls) _ (HT.o.1.below (HKX1.o.step (Below.drew (Ok.refl X)))) HT.o.2 (by have h1:=HE.o.2.2;have h2:=HEN.o;omega) HE.o.2.1).mono ?_;rintro ex D2 ⟨hv',lv',rfl,hto,hk2⟩;have HK3:=hid (Ok.step (Below.drew (Ok.refl X)) hk2);have HTO:=hid hto;refine hK.out _ _ (λ_=>FB.of HK3.o) ?_;clear hK K hk2 S0;obtain⟨sm,hsm⟩:=qq ((AK (c 0) (c 1) e k (m,hs,ls)).1)
 have HO:Hi ((#[.bool sm,hv',lv']:Array Value).all (·.oneCell')=true):=by obtain⟨_,_,rfl⟩:=za0 hto.hist;obtain⟨_,_,rfl⟩:=za0 hto.loops;simp[Hi,Value.oneCell']
 have HR2:Hi (D2.heap[gR]?=_):=Ok.row' HK3.o HRX.o;rw[<-hsm];have HSM:=hid hsm;clear hto hsm
 try simp only[pu]
 refine zb0 (i:=9) kR rfl (λK hK=>?_);refine zg9 rfl 28 _ _ rfl gR 28 _ #[.bool sm,hv',lv'] (by rfl) (by rfl) HR2.o CB rfl HO.o rfl ?_;refine hK.out _ _ (λ_=>⟨by rw[size_setRow];exact HK3.o.le,λb hb hl=>(setRow_other _ _ _ _ hb).trans (Below.block HK3.o b hl)⟩) ?_;clear hK K;refine zb0 (i:=10) kR rfl (λK hK=>?_);go_simp;refine hK.out _ _ (λh=>absurd rfl h) ?_;clear hK K;refine zd4 kR ?_ _;go_wp2_with fail;refine bodyPost_ret (zc0 rfl _ _ gR 28 #[.bool sm,hv',lv'] (0,0) _ rfl (setRow_heap _ _ _ _ _ _ HR2.o) Tryz.underlying28 rfl CB) rfl ?_;have hle:=HKX1.o.le;have hgx:gR<X.heap.size:=za2 HRX.o;have hs2:∀b,X.heap.size<=b->(D2.setRow gR #[.bool sm,hv',lv']).heap[b]?=D2.heap[b]?:=λb hb=>setRow_other _ _ _ _ oM;exact⟨hv',lv',by rw[<-HSM.o];rfl,⟨za7 (zb4 HTO.o.hist λb hb=>hs2 b (HTO.o.hist.lt b hb).1) hle,za7 (zb4 HTO.o.loops λb hb=>hs2 b (HTO.o.loops.lt b hb).1) hle⟩,zd0 (HKX1.o.step HK3.o) HG.o.1 _⟩
end
section
open Go.RowKit Go.Maps
theorem yM7(h:r≠0):sqR r H U es t k=(wa1,r):=by unfold sqR;rw[if_pos h]
theorem yM8(h:k<0\/(es.length:Int)<=k):sqR 0 H U es t k=(wa1,1):=by
 unfold sqR;rw[if_neg (by simp)];by_cases hk:0<=k
 ·rw[if_pos hk,List.getElem?_eq_none (by omega)]
 rw[if_neg hk]
theorem yO2{e:Ed}{k:Nat}(h:es[k]?=some e):sqR 0 H U es t (k:Int)=(AK H U e k t,0):=by unfold sqR;rw[if_neg (by simp),if_pos (by omega),Int.toNat_natCast,h]
theorem yO6:(sqR r H U es t k).1.2.1.length<=t.2.1.length+1/\(sqR r H U es t k).1.2.2.length<=t.2.2.length+1:=by
 have h0:∀e i,(AK H U e i t).2.1.length<=t.2.1.length+1/\(AK H U e i t).2.2.length<=t.2.2.length+1:=λe i=>by
  unfold AK
  repeat' split
  all_goals simp[EX,wa9]
  all_goals first | omega | (split<;>simp)
 unfold sqR
 split
 ·simp[wa1]
 split
 ·simp[wa1]
 exact h0 _ _
theorem yM9(v:Nat->Value)(c:Nat->Int)(ts:List Int)(tz:Option Addr)(tc:Nat)(ns:List Nd)(l:Ls)(k:Int)(t:Tok)(hv lv:Value)(w:World)(hE:wg9 w)(h:BO w (v 0) (v 1) (v 2) (v 3) (v 4) (v 5) ns l)(hv6:∀i,i<6->∃ao n c,v i=.slice ao n c)(hts:SL w 1 (.slice tz ts.length tc) ts.length (ilL ts))(ht:BC w hv lv t)(hb:TkW t) :
  Calls Tryz.prog 7 #[.agg #[v 0,v 1,v 2,v 3,v 4,v 5],.agg #[nI (c 0),nI (c 1),nI (c 2),nI (c 3),nI (c 4),nI (c 5),.slice tz ts.length tc,nI (c 7),nI (c 8)],.agg #[.bool t.1,hv,lv],nI k] w λe w'=>we7 w (sqR (DJ ns l c ts) (c 0) (c 1) (elF ns) t k) e w':=by
 have hlw:∀Y,Ok w Y->Calls Tryz.prog 29 #[.agg #[v 0,v 1,v 2,v 3,v 4,v 5]] Y λe w'=>wa2 Y (lwG ns l) e w':=λY hY=>yv6 v ns l Y (hE.ok hY).rules (hE.ok hY).steps (h.below hY)
 have hck:∀Y,Ok w Y->Calls Tryz.prog 31 #[.agg #[nI (c 0),nI (c 1),nI (c 2),nI (c 3),nI (c 4),nI (c 5),.slice tz ts.length tc,nI (c 7),nI (c 8)]] Y λe w'=>wm1 Y (AJ c ts) e w':=λY hY=>by obtain⟨et,eu,he⟩:=(hE.ok hY).errC;exact zF8 c ts tz tc Y (hts.below hY) et eu he
 by_cases hbd:DJ ns l c ts=0
 ·have hlo:=λY (hY:Ok w Y)=>yh7 v c ts tz tc ns l Y (hE.ok hY) (h.below hY) (hts.below hY) hbd
  rw[hbd];have hc:=zp8 (zm1 hbd).2;have hG:=wi2 (zm1 hbd).1;by_cases hk:k<0\/((elF ns).length:Int)<=k
  ·refine(yM4 v c tz ts.length tc _ _ (elF ns) k t hv lv w hlo hk ht).mono λe w' hp=>?_
   rw[yM8 hk];exact we7.zero hp.1 hp.2
  obtain⟨j,rfl⟩:∃j:Nat,k=(j:Int):=⟨k.toNat,by omega⟩;obtain⟨e,he⟩:∃e,(elF ns)[j]?=some e:=⟨_,gG_ oM⟩;refine(yB0 v c tz ts.length tc _ _ (elF ns) e j t hv lv w hlo hv6 oM he (by have:=hG.els;omega) ht hb).mono λex w' hp=>?_;rw[yO2 he];exact hp
 rw[yM7 hbd];by_cases hg:CY ns l=true
 ·have e1:lwG ns l=some (ptN ns,ptF ns ns.length,elF ns):=by unfold lwG ptN;rw[if_pos hg]
  have hb2:DJ ns l c ts=AJ c ts:=by unfold DJ;rw[if_pos hg]
  rw[e1]at hlw;rw[hb2]at hbd ⊢;exact(yK8 v c tz ts.length tc (AJ c ts) hbd k t hv lv w (λY hY=>zV0 v c ts tz tc _ _ _ (AJ c ts) hbd Y (hE.ok hY).errT (λZ hZ=>hlw Z (hY.step hZ)) (λZ hZ=>hck Z (hY.step hZ))) ht).mono λe w' hp=>we7.zero hp.1 hp.2
 have e1:lwG ns l=none:=by unfold lwG;rw[if_neg hg]
 have hb2:DJ ns l c ts=2:=by unfold DJ;rw[if_neg hg]
 rw[e1]at hlw;rw[hb2];exact(yK8 v c tz ts.length tc 2 dC k t hv lv w (λY hY=>(zK6 v c ts tz tc 0 Y (λZ hZ=>hlw Z (hY.step hZ))).mono λe w' hp=>hp) ht).mono λe w' hp=>we7.zero hp.1 hp.2
theorem yN0(v:Nat->Value)(c:Nat->Int)(ts:List Int)(tz:Option Addr)(tc:Nat)(ns:List Nd)(l:Ls)(k:Int)(t:Tok)(hv lv:Value)(w:World)(hE:wg9 w)(h:BO w (v 0) (v 1) (v 2) (v 3) (v 4) (v 5) ns l)(hv6:∀i,i<6->∃ao n c,v i=.slice ao n c)(hts:SL w 1 (.slice tz ts.length tc) ts.length (ilL ts))(ht:BC w hv lv t)(hb:TkW t) :
  Calls Tryz.prog 5 #[.agg #[v 0,v 1,v 2,v 3,v 4,v 5],.agg #[nI (c 0),nI (c 1),nI (c 2),nI (c 3),nI (c 4),nI (c 5),.slice tz ts.length tc,nI (c 7),nI (c 8)],.agg #[.bool t.1,hv,lv],nI k] w λe w'=>we7 w (sqR (DJ ns l c ts) (c 0) (c 1) (elF ns) t k) e w':=by
 have hR:∀Y,Ok w Y->_:=λY hY=>yH7 v c ts tz tc ns l Y (h.below hY) hv6 (hts.below hY);by_cases hbd:DJ ns l c ts=0
 ·obtain⟨hg,hr⟩:=zm1 hbd
  have hc:=zp8 hr;have hG:=wi2 hg;rw[hbd]at hR ⊢;have hL:=λY (hY:Ok w Y)=>zO1 _ _ _ _ _ _ ns l Y (h.below hY) hg;by_cases hk:k<0\/((elF ns).length:Int)<=k
  ·refine(yM6 v c tz ts.length tc _ _ (elF ns) k t hv lv w hv6 hR hL hk ht).mono λe w' hp=>?_
   rw[yM8 hk];exact we7.zero hp.1 hp.2
  obtain⟨j,rfl⟩:∃j:Nat,k=(j:Int):=⟨k.toNat,by omega⟩;obtain⟨e,he⟩:∃e,(elF ns)[j]?=some e:=⟨_,gG_ oM⟩;refine(yN8 v c tz ts.length tc _ _ (elF ns) e j t hv lv w hv6 hR hL oM he (by have:=hG.els;omega) ht hb).mono λex w' hp=>?_;rw[yO2 he];exact hp
 rw[yM7 hbd];exact(yM5 v c tz ts.length tc _ hbd k t hv lv w hv6 hR ht).mono λe w' hp=>we7.zero hp.1 hp.2
end
end Go.Proofs.YtpongdpnbclchaaGreatDoor
