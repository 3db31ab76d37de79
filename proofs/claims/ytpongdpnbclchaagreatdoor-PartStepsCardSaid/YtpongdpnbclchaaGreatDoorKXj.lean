import Derived.Deep.DeepWitnessRowRef
import Derived.Test.YtpongdpnbclchaaGreatDoorKJo
import Derived.Test.YtpongdpnbclchaaGreatDoorKJy
import Derived.Test.YtpongdpnbclchaaGreatDoorKXg
set_option linter.all false
set_option maxRecDepth 100000
namespace Go.Proofs.YtpongdpnbclchaaGreatDoor
variable{c:Value}{fuel:Nat}
section
open Go.RowKit Go.Maps
def we9:List UInt8:=[118,97,114,32,120,59,32,105,110,112,117,116,32,120,59,32,105,102,32,120,32,60,32,48,32,123,32,120,32,58,61,32,49,59,32,125,32,101,108,115,101,32,123,32,115,107,105,112,59,32,125,32,119,104,105,108,101,32,120,32,60,32,57,32,123,32,120,32,58,61,32,120,32,43,32,49,59,32,125]
def wq4:List Tk:=match DS we9 with | .inr t=>t | .inl _=>[]
theorem zR7:DS we9=.inr wq4:=by kernel_rfl
def DO:List Nd:=(BY (⟨.nilFunc,0,[],wq4,79⟩:RP)).2.2
theorem ys1(tv:Value)(B:Nat)(xs:List Value):BY (⟨tv,B,xs,wq4,79⟩:RP)=(0,0,DO):=by kernel_rfl
theorem zH4:(AC DO).1=0:=by kernel_rfl
theorem yh5{P:RP}(h1:DS we9=.inr P.ts)(h2:P.en=we9.length):BY P=(0,0,DO):=by
 obtain⟨tv,B,xs,ts,en⟩:=P;rw[zR7]at h1
 injection h1 with h1
 subst h1;have e:en=79:=h2;subst e;exact ys1 tv B xs
theorem ys2{ns:List Nd}(h:wo0 we9 ns):ns=DO:=by obtain⟨P,h1,h2,_,h3,_⟩:=h;rw[yh5 h1 h2]at h3;exact h3.symm
theorem ys3:¬wo1 we9:=by
 rintro(⟨p,h⟩ | ⟨P,h1,h2,h3⟩)
 ·rw[zR7]at h;cases h
 rw[yh5 h1 h2]at h3;exact h3 rfl zH4
def cf1:Nat->Int
 | 0=>1
 | 2=>6
 | _=>0
def cf2:Nat->Int
 | 2=>1
 | _=>0
theorem yB2:AJ cf1 []=0:=by kernel_rfl
theorem yB3:AJ cf2 []=0:=by kernel_rfl
theorem yE0:(decide (8<=(spR DO cf1).2.1.length)&&(decide ((mgL (ptN DO) (spR DO cf1).1).length=0)&&decide ((spR DO cf1).2.1.length<=(spR DO cf1).2.2.length)))=true:=by kernel_rfl
theorem yE1:goP (spR DO cf2).2.2 0 [0]=some 1:=by kernel_rfl
set_option maxHeartbeats 4000000 in
theorem yh6(w:World)(hE:wg9 w) :
  Calls Tryz.prog 11 #[] w λe w'=>e=.returned (.bool true)/\Ok w w':=by
 have HE:=hid hE;clear hE;go_enter Tryz.func11,Tryz.ntmps11;go_wp2_with fail;refine(zx9 _ w).mono ?_;rintro e w1 ⟨ht,hk1⟩;have htx:∀s:ByteArray,s.data.toList=we9->s.toList=we9:=λs h=>by rw[ByteArray.toList_eq];exact h
 rw[htx _ rfl]at ht;rcases ht with ⟨ns,v,h1,rfl,h2,h3⟩ | ⟨h1,_⟩;rotate_left
 ·exact absurd h1 ys3
 have hns:=ys2 h1;subst hns;obtain⟨m,hm⟩:=qq ((AC DO).2.2);rw[<-hm]at h2;have HK1:=hid hk1;have hok:∀n∈DO,n.Ok:=λn hn=>yj1 (h3 n hn);have hgd:CY DO m=true:=by rw[hm];exact yq0 hok zH4
 have hb1:DJ DO m cf1 []=0:=by unfold DJ;rw[if_pos hgd];exact yB2
 have hb2:DJ DO m cf2 []=0:=by unfold DJ;rw[if_pos hgd];exact yB3
 have hpr:BO w1 (v 0) (v 1) (v 2) (v 3) (v 4) (v 5) DO m:=h2.prog hok;have hnl:∀Y:World,SL Y 1 (.slice none ([]:List Int).length 0) ([]:List Int).length (ilL []):=λY=>⟨rfl,λu hu=>(by cases hu),none,0,rfl,.inl rfl⟩
 have hsp:∀Y,Ok w1 Y->Calls Tryz.prog 19 #[.agg #[v 0,v 1,v 2,v 3,v 4,v 5],.agg #[nI 1,nI 0,nI 6,nI 0,nI 0,nI 0,sZ,nI 0,nI 0]] Y λe w'=>wn9 Y (ptN DO) (spR DO cf1) e w':=λY hY =>
  (zu0 v cf1 [] none 0 DO m Y (HE.o.ok (HK1.o.step hY)) (hpr.below hY) (hnl Y)).mono λe w' h=>h.elim (λh=>absurd hb1 h.1) (λh=>h.2)
 have hfo:∀Y pv,Ok w1 Y->SL Y 1 pv 1 (ilL [0])->Calls Tryz.prog 20 #[.agg #[v 0,v 1,v 2,v 3,v 4,v 5],.agg #[nI 0,nI 0,nI 1,nI 0,nI 0,nI 0,sZ,nI 0,nI 0],pv] Y λe w'=>e=.returned (.tuple #[nI 1,nI 0])/\Ok Y w':=λY pv hY hs=>by
  have h:=yB1 v cf2 [] none 0 DO m pv [0] Y (HE.o.ok (HK1.o.step hY)) (hpr.below hY) (hnl Y) hs (by decide) (λy hy=>by rw[List.mem_singleton.1 hy];rfl);have hf:flV (DJ DO m cf2 []) (spR DO cf2).2.2 [0]=(1,0):=by unfold flV;rw[if_pos hb2,yE1];rfl
  rw[hf]at h;exact h
 obtain⟨o0,p0,e0⟩:=za0 (h2 0 dC);obtain⟨o1,p1,e1⟩:=za0 (h2 1 dC);obtain⟨o2,p2,e2⟩:=za0 (h2 2 dC);obtain⟨o3,p3,e3⟩:=za0 (h2 3 dC);obtain⟨o4,p4,e4⟩:=za0 (h2 4 dC);obtain⟨o5,p5,e5⟩:=za0 (h2 5 dC);rw[e0,e1,e2,e3,e4,e5]at hsp hfo;rw[e0,e1,e2,e3,e4,e5];obtain⟨n0,hn0⟩:=qq (nOf DO.length m 0);obtain⟨n1,hn1⟩:=qq (nOf DO.length m 1);obtain⟨n2,hn2⟩:=qq (nOf DO.length m 2);obtain⟨n3,hn3⟩:=qq (nOf DO.length m 3);obtain⟨n4,hn4⟩:=qq (nOf DO.length m 4);obtain⟨n5,hn5⟩:=qq (nOf DO.length m 5);rw[<-hn0,<-hn1,<-hn2,<-hn3,<-hn4,<-hn5]at hsp hfo ⊢;have HSP:=hid hsp;have HFO:=hid hfo;clear hk1 h1 h2 h3 hm hok hgd hb1 hb2 hpr hnl hsp hfo e0 e1 e2 e3 e4 e5 hn0 hn1 hn2 hn3 hn4 hn5 htx;go_wp2_with fail;obtain⟨W,hW⟩:=qq (w1.alloc (Obj.cells #[.slice o0 n0 p0,.slice o1 n1 p1,.slice o2 n2 p2,.slice o3 n3 p3,.slice o4 n4 p4,.slice o5 n5 p5] 33));obtain⟨gP,hgP⟩:=qq (w1.heap.size);rw[<-hW,<-hgP];have HKW:Hi (Ok w1 W):=by rw[hW];exact(Ok.refl _).alloc _
 have HPW:Hi (W.heap[gP]?=some (.cells #[.slice o0 n0 p0,.slice o1 n1 p1,.slice o2 n2 p2,.slice o3 n3 p3,.slice o4 n4 p4,.slice o5 n5 p5] 33 (0,0))):=by rw[hW,hgP];exact za3 _ _
 clear hW hgP;refine(HSP.o W HKW.o).mono ?_;rintro e w2 ⟨vv,lv,mv,rfl,⟨tl,_,hvv,_⟩,hlv,hmv,hk2⟩;have HK2:=hid hk2;obtain⟨vo,vc,rfl⟩:=za0 hvv;obtain⟨lo,lc,rfl⟩:=za0 hlv;obtain⟨mo,mc,rfl⟩:=za0 hmv;obtain⟨vn,hvn⟩:=qq ((spR DO cf1).2.1.length);obtain⟨ln,hln⟩:=qq ((spR DO cf1).2.2.length);obtain⟨mn,hmn⟩:=qq ((mgL (ptN DO) (spR DO cf1).1).length);have hfx:=yE0;rw[<-hvn,<-hln,<-hmn]at hfx ⊢;simp only[Bool.and_eq_true,decide_eq_true_eq]at hfx;obtain⟨hx1,hx2,hx3⟩:=hfx;have hd1:decide ((vn:Int)<8)=false:=dF_ oM;have hd2:((mn:Int) != 0)=false:=by rw[hx2];rfl
 have hd3:decide ((ln:Int)<(vn:Int))=false:=dF_ oM;have hi1:¬(vn:Int)<8:=oM;have hi3:¬(ln:Int)<(vn:Int):=oM;have hb2:((mn:Int)==0)=true:=by rw[hx2];rfl
 clear hvv hlv hmv hk2 hvn hln hmn hx1 hx2 hx3;obtain⟨q0,q1,q2,q3,q4,q5,lgq⟩:=EZ (Ok.row' HK2.o HPW.o);have hsl:=SL.one (s:=1) (w2.alloc (Obj.cells #[.slice vo vn vc,.slice lo ln lc,.slice mo mn mc] 67)) 3 [nI 0] rfl (by simp[Value.oneCell']);rw[show(w2.alloc (Obj.cells #[.slice vo vn vc,.slice lo ln lc,.slice mo mn mc] 67)).heap.size=w2.heap.size+1 from by simp]at hsl;have HSL:=hid hsl;clear hsl;go_wp2_with fail;refine mq (HFO.o _ _ (((HKW.o.step HK2.o).alloc _).alloc _) HSL.o) λw3 hk3=>?_;have HK3:Hi (Ok w w3):=HK1.o.step ((((HKW.o.step HK2.o).alloc _).alloc _).step hk3);clear hk3;go_wp2_with fail;go_ret;exact⟨rfl,HK3.o⟩
end
section
open Go.RowKit
theorem yO9(s:ByteArray)(Y:World):Calls Tryz.prog 12 #[.string s] Y λe w'=>TxJ Y e w'/\Ok Y w':=by
 refine(yt7 s Y).mono ?_;rintro e w1 ⟨ht,hok⟩;refine⟨?_,hok⟩;unfold wb4 at ht
 cases hl:DS s.toList with
 | inl p =>
  rw[hl]at ht;obtain⟨er,at0⟩:=p;exact .inr ⟨_,_,ht.2⟩
 | inr ts =>
  rw[hl]at ht;obtain⟨P,h1,h2,h3⟩:=ht;subst h1;rcases h3 with ⟨k1,k2,u,k3,k4,k5⟩ | ⟨k1,er,at0,k2,k3⟩
  ·have hf:∀n∈(BY P).2.2,n.Ok:=λn hn=>yj1 (k5.1 n hn)
   have hp:=zw4 (BY P).2.2 hf;have hz:(AR (BY P).2.2 rd0).1=0:=by rw[hp]at k2;exact k2
   have hL:=yI4 hz hf;rw[show BS (AR (BY P).2.2 rd0).2.2=(AC (BY P).2.2).2.2 by rw[hp]]at hL;exact .inl ⟨_,_,u,k3,k4,k5.2,hf,hL.2.1,hL.2.2.1,hL.2.2.2.2.2,hL.1⟩
  exact .inr ⟨er,at0,k3⟩
end
section
open Go.RowKit Go.Deep Go.WideShapes Go.ChangeShapes
theorem yN3{P:Program}{H:Type}{enc:TypeId×Value->H}{w:World}{α:Type}{G:α->Prop}(V:α->List Value)(a0:α){t e sz bts:Nat}(ht:P.underlying t=some (.slice e))(hc:P.cellsOf e=sz)(hby:P.bytesOf e=bts)(hs:0<sz)(hV:∀a,(V a).length=sz)
  (el:∀(m:Nat) (cs:List Value) (x:DataW H×List MemPlace),DataW.trod enc P w 0 (λ_=>true) true m e cs=some x->∃a,cs=V a/\G a)
  {x:DataW H×List MemPlace} (h:DataW.trod enc P w 0 (λ_=>true) true fuel t [c]=some x) (hk:(DataW.weights P t x.1).all (·<=reachBytes)=true) :
  ∃(l:List α) (ao:Option Addr) (cap:Nat),c=.slice ao l.length cap/\l.length<=cap/\cap<=maxLen/\l.length*bts<=140737488351232/\(∀a∈l,G a)/\(l=[]\/∃b o,ao=some ⟨b,o,none⟩/\b<w.heap.size/\∀i (hi:i<l.length) j v,(V l[i])[j]?=some v->w.cell? ⟨b,o+i*sz+j,none⟩=some v):=by
 rcases open_slice ht h with ⟨h0,_⟩ | ⟨a,len,cap,m,n,D,Pl,hcs,_,hl,hm,hme,hx,hel⟩
 ·exact⟨[],none,0,by simpa using h0,Nat.le_refl _,Nat.zero_le _,by simp,by simp,.inl rfl⟩
 simp only[if_true]at hme;subst hme;rw[hc]at hel
 have hb9:len*bts<=140737488351232:=by rw[hx]at hk;simp only[DataW.weights,ht,hby,List.all_cons,Bool.and_eq_true,List.length_map,List.length_range]at hk;have h1:=of_decide_eq_true hk.1;have h2:len*bts<=(len+(m-len))*bts:=Nat.mul_le_mul_right _ (Nat.le_add_right _ _);exact Nat.le_trans h2 h1
 have hex:∀i,∃y:α,i<len->w.cells? 0 (a.add (i*sz)) sz=some (V y)/\G y:=by
  intro i;by_cases hi:i<len
  ·obtain⟨cs',h1,h2⟩:=hel i oM
   obtain⟨y,rfl,h4⟩:=el _ _ _ h2;exact⟨y,λ_=>⟨h1,h4⟩⟩
  exact⟨a0,λhh=>absurd hh hi⟩
 obtain⟨f,hf⟩:=Classical.axiomOfChoice hex;have hc':c=.slice (some a) len m:=by simpa using hcs
 refine⟨(List.range len).map f,some a,m,by simpa using hc',by simpa using hl,hm,by simpa using hb9,?_,?_⟩
 ·intro y hy
  obtain⟨i,hi,rfl⟩:=List.mem_map.1 hy;exact(hf i (List.mem_range.1 hi)).2
 rcases Nat.eq_zero_or_pos len with e0 | hpos
 ·left;subst e0;rfl
 right;have hcell:∀i,i<len->∀j,j<sz->w.cell? ((a.add (i*sz)).add j)=(V (f i))[j]?:=λi hi j hj=>(World.cells?_some (hf i hi).1).2.2 j hj;obtain⟨b,o,y⟩:=a;have h00:=hcell 0 hpos 0 hs;obtain⟨v0,hv0⟩:∃v0,(V (f 0))[0]?=some v0:=⟨_,List.getElem?_eq_getElem (by rw[hV];exact hs)⟩;rw[hv0]at h00;have hy:y=none:=by simpa[Addr.add] using World.cell?_spot h00
 subst hy
 have key:∀i,i<len->∀j,j<sz->w.cell? ⟨b,o+i*sz+j,none⟩=(V (f i))[j]?:=λi hi j hj=>by have h9:=hcell i hi j hj;rw[Go.WideShapes.add_plain,Go.WideShapes.add_plain]at h9;exact h9
 refine⟨b,o,rfl,?_,?_⟩
 ·rcases Nat.lt_or_ge b w.heap.size with hh | hh
  ·exact hh
  have h9:=key 0 hpos 0 hs;rw[hv0]at h9;simp[World.cell?,Array.getElem?_eq_none hh]at h9
 intro i hi j v hv;have hi':i<len:=by simpa using hi
 have e:((List.range len).map f)[i]=f i:=by simp
 rw[e]at hv;have hj:j<sz:=by have:=(List.getElem?_eq_some_iff.1 hv).1;rw[hV]at this;exact this
 rw[key i hi' j hj];exact hv
theorem wi9:Tryz.prog.cellsOf 3=1/\Tryz.prog.cellsOf 4=1/\Tryz.prog.cellsOf 25=1/\Tryz.prog.cellsOf 26=1/\Tryz.prog.cellsOf 45=2/\Tryz.prog.cellsOf 28=3:=by refine⟨?_,?_,?_,?_,?_,?_⟩<;>kernel_rfl
theorem wn4:Tryz.prog.bytesOf 3=8/\Tryz.prog.bytesOf 45=16:=by refine⟨?_,?_⟩<;>kernel_rfl
theorem twf{v:Int}(h:(Lit.int .i64 v).wf=true):I64 v:=by simp only[Lit.wf,IntKind.min,IntKind.max,Bool.and_eq_true,decide_eq_true_eq]at h;exact⟨by simpa[IntKind.signed,IntKind.bits] using h.1,by simpa[IntKind.signed,IntKind.bits] using h.2⟩
section
variable {H:Type} {enc:TypeId×Value->H} {w:World}
theorem yO7{x:DataW H×List MemPlace}(h:DataW.trod enc Tryz.prog w 0 (λ_=>true) true fuel 25 [c]=some x)(hk:(DataW.weights Tryz.prog 25 x.1).all (·<=reachBytes)=true) :
  ∃l:List Int,SL w 1 c l.length (ilL l)/\l.length*8<=140737488351232/\∀y∈l,I64 y:=by
 obtain⟨l,ao,cap,e,h1,h2,h3,h4,h5⟩:=yN3 (G:=λy:Int=>I64 y) (λy=>[Value.int .i64 y]) 0 Tryz.underlying25 wi9.1 wn4.1 dC (λ_=>rfl) (λ_ _ _ h=>by
  obtain⟨s,e0,_,e2⟩:=DataW.trod_int Tryz.underlying3 h
  exact⟨s,e0,twf e2⟩) h hk
 have hs:SL w 1 c l.length (ilL l):=by
  refine⟨yJ3 l,zJ6 l,ao,cap,e,?_⟩;rcases h5 with h5 | ⟨b,o,e1,e2,e3⟩
  ·left;rw[h5];rfl
  right;refine⟨b,o,e1,e2,λj u hj=>?_⟩;have hj':j<l.length:=by have:=(List.getElem?_eq_some_iff.1 hj).1;rw[yJ3]at this;omega
  have h9:=e3 j hj' 0 u (by have:=zk6 (List.getElem?_eq_getElem hj');rw[hj]at this;injection this with this;rw[this];rfl);rw[Nat.mul_one,Nat.add_zero]at h9;exact h9
 refine⟨l,hs,?_,?_⟩
 ·exact h3
 exact h4
theorem yN4{base:Nat}{spare:Nat->Bool}{held:Bool}{cs:List Value}{x:DataW H×List MemPlace}(h:DataW.trod enc Tryz.prog w base spare held fuel 45 cs=some x) :
  ∃y:Int×Int,cs=[nI y.1,nI y.2]/\(I64 y.1/\I64 y.2):=by
 obtain⟨xs,m,_,rfl,hl,hlen,hf⟩:=DataW.trod_struct Tryz.underlying45 h;obtain⟨u3,_,_,_,ul,_⟩:=wi9;rw[ul]at hl
 match xs,hlen,cs,hl with
 | [y0,y1],_,[c0,c1],_ =>
  have h0:DataW.trod enc Tryz.prog w base spare held m 3 (([c0,c1].drop 0).take (Tryz.prog.cellsOf 3))=some y0:=hf 0 _ rfl;rw[u3,show([c0,c1].drop 0).take 1=[c0] from rfl]at h0;have h1:DataW.trod enc Tryz.prog w base spare held m 3 (([c0,c1].drop 1).take (Tryz.prog.cellsOf 3))=some y1:=hf 1 _ rfl;rw[u3,show([c0,c1].drop 1).take 1=[c1] from rfl]at h1;obtain⟨s,e0,r0,w0⟩:=DataW.trod_int Tryz.underlying3 h0;obtain⟨k,e1,r1,w1⟩:=DataW.trod_int Tryz.underlying3 h1;simp only[List.cons.injEq,and_true]at e0 e1;subst e0 e1;exact⟨(s,k),rfl,twf w0,twf w1⟩
theorem yO4:∀(l:List (Int×Int)) (j:Nat) (u:Value),(lpL l)[j]?=some u->∃(i:Nat) (hi:i<l.length) (r:Nat),j=i*2+r/\([Value.int .i64 l[i].1,Value.int .i64 l[i].2])[r]?=some u
 | [],j,u,h=>by simp[lpL]at h
 | z::l,0,u,h=>⟨0,Nat.zero_lt_succ _,0,rfl,by simpa[lpL] using h⟩
 | z::l,1,u,h=>⟨0,Nat.zero_lt_succ _,1,rfl,by simpa[lpL] using h⟩
 | z::l,j+2,u,h=>by
  have h':(lpL l)[j]?=some u:=by simpa[lpL] using h
  obtain⟨i,hi,r,e,h2⟩:=yO4 l j u h';exact⟨i+1,Nat.succ_lt_succ hi,r,by omega,by simpa using h2⟩
theorem yN9{x:DataW H×List MemPlace}(h:DataW.trod enc Tryz.prog w 0 (λ_=>true) true fuel 26 [c]=some x)(hk:(DataW.weights Tryz.prog 26 x.1).all (·<=reachBytes)=true) :
  ∃l:List (Int×Int),SL w 2 c l.length (lpL l)/\(∀ao n k,c=.slice ao n k->n<=k)/\l.length*16<=140737488351232/\∀y∈l,I64 y.1/\I64 y.2:=by
 obtain⟨l,ao,cap,e,h1,h2,h3,h4,h5⟩:=yN3 (G:=λy:Int×Int=>I64 y.1/\I64 y.2) (λy=>[Value.int .i64 y.1,Value.int .i64 y.2]) (0,0) Tryz.underlying26 wi9.2.2.2.2.1 wn4.2 dC (λ_=>rfl) (λ_ _ _ h=>yN4 h) h hk
 have hs:SL w 2 c l.length (lpL l):=by
  refine⟨zz8 l,yb8 l,ao,cap,e,?_⟩;rcases h5 with h5 | ⟨b,o,e1,e2,e3⟩
  ·left;rw[h5];rfl
  right;refine⟨b,o,e1,e2,λj u hj=>?_⟩;obtain⟨i,hi,r,rfl,h9⟩:=yO4 l j u hj;rw[<-Nat.add_assoc];exact e3 i hi r u h9
 refine⟨l,hs,λao' n k e9=>?_,h3,h4⟩;rw[e]at e9
 injection e9 with _ e7 e8
 omega
theorem yO0{r:Reach}{b0:Nat}{v:Value}{d:DataW H}{ps:List MemPlace}(hval:Value.okWide Tryz.prog w r b0 28 v)(hd:DataW.Trod enc Tryz.prog w 0 (λ_=>true) true 28 v d ps)(hk:(DataW.weights Tryz.prog 28 d).all (·<=reachBytes)=true) :
  ∃(hv lv:Value) (t:Tok),v=.agg #[.bool t.1,hv,lv]/\BC w hv lv t/\TkV t:=by
 obtain⟨cs,rfl,hcs⟩:=okWide_struct Tryz.underlying28 hval;obtain⟨fuel,hf⟩:=hd;obtain⟨xs,m,_,hxx,hl,hlen,hg⟩:=DataW.trod_struct Tryz.underlying28 hf;obtain⟨_,ub,ui,ul,_,ut⟩:=wi9;have hl2:cs.toList.length=3:=by rw[ut]at hcs;simpa using hcs
 have hcc:(Value.agg cs).cells.toList=cs.toList:=by simp[Value.cells]
 obtain⟨L,hL⟩:=qq (cs.toList);have hca:cs=L.toArray:=by rw[hL]
 rw[<-hL]at hl2 hcc
 match xs,hlen,L,hl2 with
 | [y0,y1,y2],_,[c0,c1,c2],_ =>
  have h0:DataW.trod enc Tryz.prog w 0 (λ_=>true) true m 4 (((Value.agg cs).cells.toList.drop 0).take (Tryz.prog.cellsOf 4))=some y0:=hg 0 _ rfl;have h1:DataW.trod enc Tryz.prog w 0 (λ_=>true) true m 25 (((Value.agg cs).cells.toList.drop 1).take (Tryz.prog.cellsOf 25))=some y1:=hg 1 _ rfl;have h2:DataW.trod enc Tryz.prog w 0 (λ_=>true) true m 26 (((Value.agg cs).cells.toList.drop 2).take (Tryz.prog.cellsOf 26))=some y2:=hg 2 _ rfl;rw[hcc,ub]at h0;rw[hcc,ui]at h1;rw[hcc,ul]at h2;have hd:d=.agg [y0.1,y1.1,y2.1]:=by injection hxx
  rw[hd]at hk;simp only[DataW.weights,Tryz.underlying28,List.map_cons,List.map_nil]at hk;simp only[DataW.weightsEach,List.all_append,Bool.and_eq_true]at hk;obtain⟨_,k1,k2,_⟩:=hk;obtain⟨b,e0,_⟩:=DataW.trod_bool Tryz.underlying4 (cs:=[c0]) h0;obtain⟨l1,s1,b1,w1⟩:=yO7 (c:=c1) h1 k1;obtain⟨l2,s2,q2,b2,w2⟩:=yN9 (c:=c2) h2 k2;simp only[List.cons.injEq,and_true]at e0;subst e0;exact⟨c1,c2,(b,l1,l2),by rw[hca],⟨s1,s2,q2⟩,⟨b1,b2,w1,w2⟩⟩
end
theorem yN5(s:ByteArray)(odd edge:Int)(c:Nat->Int)(ts:List Int)(tz:Option Addr)(tc:Nat)(hv lv:Value)(t:Tok)(w:World)(hE:wg9 w)(hts:SL w 1 (.slice tz ts.length tc) ts.length (ilL ts))(ht:BC w hv lv t)(hb:TkV t) :
  Calls Tryz.prog 3 #[.string s,nI odd,.agg #[nI (c 0),nI (c 1),nI (c 2),nI (c 3),nI (c 4),nI (c 5),.slice tz ts.length tc,nI (c 7),nI (c 8)],.agg #[.bool t.1,hv,lv],nI edge] w λe w'=>e=.returned (.bool true)/\Ok w w':=by
 refine yN2 s odd edge c tz ts.length tc hv lv t w (λY hY=>(yL9 s odd Y (λZ _=>yO9 s Z)).mono λe w' h=>?_) ht hb;obtain⟨ns,m,v,B,he,hu,hf,hk⟩:=h;have hW:Ok w w':=hY.step hk;have hpr:=BZ.prog hu hf;have hsl:∀i,i<6->∃ao n c,v i=.slice ao n c:=λi hi=>by obtain⟨o,c,e⟩:=za0 (hu i hi);exact⟨_,_,_,e⟩
 exact⟨v,λt k=>sqR (DJ ns m c ts) (c 0) (c 1) (elF ns) t k,he,hsl,hk,⟨λZ hv lv t k hZ h1 h2=>yM9 v c ts tz tc ns m k t hv lv Z (hE.ok (hW.step hZ)) (hpr.below hZ) hsl (hts.below (hW.step hZ)) h1 h2,λZ hv lv t k hZ h1 h2=>yN0 v c ts tz tc ns m k t hv lv Z (hE.ok (hW.step hZ)) (hpr.below hZ) hsl (hts.below (hW.step hZ)) h1 h2,λZ hZ=>yh6 Z (hE.ok (hW.step hZ)),λt k=>yO6⟩⟩
end
section
open Go.ChangeShapes Go.WideShapes Go.ChangeAt Go.RowKit Go.Deep
open Go.ChangeMaps (open_string shut_string)
theorem wu3:ownKnob Tryz.prog.godebug=none:=by kernel_rfl
theorem wt1(os:Os)(args:Array Value):laidMetH Tryz.prog Rows.partStepsRow.laid ((World.doorLaid Tryz.prog 4000 os).forCall (λ_ _=>0) ⟨#[],args,[]⟩).memory :=
 laidMetH_of_parts3 (fuel:=12) (laidMet_of_run' 12 kR kR) kR kR
theorem yO8{H:Type}{P:Program}{t0 t1 t2 t3:TypeId}{ts:List TypeId}{d0 d1 d2 d3:DataW H}{gs:List (DataW H)}(h:(DataW.weightsEach P (t0::t1::t2::t3::ts) (d0::d1::d2::d3::gs)).all (·<=reachBytes)=true):(DataW.weights P t3 d3).all (·<=reachBytes)=true:=by simp only[DataW.weightsEach,List.all_append,Bool.and_eq_true]at h;exact h.2.2.2.1
theorem zW5:laidOutB Tryz.prog=true:=by kernel_rfl
theorem zM4(H:Type)(enc:TypeId×Value->H)(W:World)(base:Nat)(args:Array Value)(ds gs:List (DataW H))(wc4:List MemPlace)
  (hval:∀(j:Nat) t v,Tryz.f3.params[j]?=some t->args[j]?=some v->Value.okWide Tryz.prog W .any base t v)
  (hW:DataW.Whole enc Tryz.prog Tryz.f3.params.toList Rows.partStepsSpec.vars false W args.toList ds gs wc4) (hk:(DataW.weightsEach Tryz.prog (Tryz.f3.params.toList++(OpenSpec.ofChange Rows.partStepsSpec).bare.plain.varTypes Tryz.prog) (ds++gs)).all (·<=reachBytes)=true) (hL:laidMetH Tryz.prog Rows.partStepsRow.laid W) :
  Calls Tryz.prog 3 args W λe W'=>∃v,e=.returned v/\Rows.partStepsSpec.post enc Tryz.prog Tryz.f3 false true false false W args v W':=by
 have hW':=hW;obtain⟨p,q,hA0,hV,rfl,hfz,hnd⟩:=hW;have hA:DataW.TrodAll enc Tryz.prog W 0 (λ_=>true) true Tryz.f3.params.toList args.toList ds p:=hA0;rw[Tryz.params3]at hA hval hk;obtain⟨v0,vs0,d0,ds0,p0,q0,hargs,rfl,rfl,h0,r0⟩:=trodAll_cons hA;obtain⟨v1,vs1,d1,ds1,p1,q1,rfl,rfl,rfl,h1,r1⟩:=trodAll_cons r0;obtain⟨v2,vs2,d2,ds2,p2,q2,rfl,rfl,rfl,h2,r2⟩:=trodAll_cons r1;obtain⟨v3,vs3,d3,ds3,p3,q3,rfl,rfl,rfl,h3,r3⟩:=trodAll_cons r2;obtain⟨v4,vs4,d4,ds4,p4,q4,rfl,rfl,rfl,h4,r4⟩:=trodAll_cons r3;obtain⟨rfl,rfl,rfl⟩:=trodAll_nil r4;obtain rfl:args=#[v0,v1,v2,v3,v4]:=by cases args;simp_all
 obtain⟨rfl,rfl⟩:=trodVars_none hV;obtain⟨a0,rfl,rfl,rfl,w0⟩:=open_string Tryz.underlying9 (hval 0 9 v0 rfl rfl) h0;obtain⟨x1,rfl,rfl,rfl,w1⟩:=open_int Tryz.underlying3 (hval 1 3 v1 rfl rfl) h1;obtain⟨x4,rfl,rfl,rfl,w4⟩:=open_int Tryz.underlying3 (hval 4 3 v4 rfl rfl) h4;have h2k:=h2;have h3k:=h3;obtain⟨c,ts,tz,tc,rfl,hts⟩:=yh9 (hval 2 24 v2 rfl rfl) h2;obtain⟨hv,lv,t,rfl,htk,htv⟩:=yO0 (hval 3 28 v3 rfl rfl) h3 (yO8 hk);clear hA0;simp only[List.append_nil]at hW';have hlt2:∀y∈p2,y.block<W.heap.size:=λy hy=>hW'.lt y (by simp[hy]);have hlt3:∀y∈p3,y.block<W.heap.size:=λy hy=>hW'.lt y (by simp[hy]);refine(yN5 a0 x1 x4 c ts tz tc hv lv t W (zM3 hL) hts htk htv).mono λe W' ⟨he,hg⟩=>?_;subst he;have bel:Below W.heap.size W W':=hg;refine⟨_,rfl,_,_,_,[],[]++([]++(p2++(p3++([]++[])))),[],hW',?_,?_,rfl,bel.frame _,λh=>by cases h⟩
 ·exact trodAll_cons_mk (shut_bool Tryz.underlying4 _) trodAll_mk0
 exact trodAll_cons_mk (shut_string Tryz.underlying9 w0) (trodAll_cons_mk (shut_int Tryz.underlying3 w1) (trodAll_cons_mk (Below.trod zW5 kR (of_decide_eq_true kR) h2k bel hlt2) (trodAll_cons_mk (Below.trod zW5 kR (of_decide_eq_true kR) h3k bel hlt3) (trodAll_cons_mk (shut_int Tryz.underlying3 w4) trodAll_mk0))))
theorem ys7(os:Os){H:Type}(enc:TypeId×Value->H):∃places,DataW.whole enc Tryz.prog ((World.doorLaid Tryz.prog 4000 os).forCall (λ_ _=>0) ⟨#[],#[.string ⟨#[]⟩,.int .i64 0,.agg #[.int .i64 0,.int .i64 0,.int .i64 0,.int .i64 0,.int .i64 0,.int .i64 0,.slice none 0 0,.int .i64 0,.int .i64 0],.agg #[.bool false,.slice none 0 0,.slice none 0 0],.int .i64 0],[]⟩).memory Tryz.f3.params.toList Rows.partStepsSpec.vars false (#[Value.string ⟨#[]⟩,.int .i64 0,.agg #[.int .i64 0,.int .i64 0,.int .i64 0,.int .i64 0,.int .i64 0,.int .i64 0,.slice none 0 0,.int .i64 0,.int .i64 0],.agg #[.bool false,.slice none 0 0,.slice none 0 0],.int .i64 0]).toList 12=some ([.lit (.string []),.lit (.int .i64 0),.agg [.lit (.int .i64 0),.lit (.int .i64 0),.lit (.int .i64 0),.lit (.int .i64 0),.lit (.int .i64 0),.lit (.int .i64 0),.nil,.lit (.int .i64 0),.lit (.int .i64 0)],.agg [.lit (.bool false),.nil,.nil],.lit (.int .i64 0)],[],places) :=
 ⟨[],by kernel_rfl⟩
theorem yi0(os:Os)(started:os.Started)(H:Type)(enc:TypeId×Value->H)(F:Stop.Interp) :
  ReturnsInHanded {} Tryz.checked os 3 .any ((OpenSpec.ofChange Rows.partStepsSpec).preRow enc Tryz.prog Tryz.f3 Rows.partStepsRow.domain false Rows.partStepsRow.laid) (((OpenSpec.ofChange Rows.partStepsSpec).at F).post enc Tryz.prog Tryz.f3 false true false false):=by
 obtain⟨places,hx⟩:=ys7 os enc
 refine returnsInHanded_of_row (C:=Tryz.checked) (s:=OpenSpec.ofChange Rows.partStepsSpec) wu3 started kR Tryz.func3
  (witness_row_atRef (enc:=enc) (C:=Tryz.checked) false (World.doorLaid Tryz.prog 4000 os) #[.string ⟨#[]⟩,nI 0,.agg #[nI 0,nI 0,nI 0,nI 0,nI 0,nI 0,sZ,nI 0,nI 0],.agg #[.bool false,sZ,sZ],nI 0] rfl kR kR kR
   (OpenSpec.preRow_of_cond 12 hx kR (λk hk=>by cases hk) kR (wt1 os _))) ?_
 intro W base args ds gs wc4 hval hW _ _ hk hL _ _;exact zM4 H enc W base args ds gs wc4 hval hW hk hL
theorem yB8:Rows.PartStepsSaid :=
 OpenClaim.holds_of_cond 3 Tryz.f3 rfl rfl rfl rfl rfl rfl rfl ⟨rfl,rfl,rfl,rfl,rfl⟩ rfl rfl rfl rfl rfl kR Tryz.func3 kR
  (of_decide_eq_true (by kernel_rfl)) (by unfold Func.isWrapper;first|(rw[if_pos (by decide +kernel)];kernel_rfl) | (rw[if_neg (by decide +kernel)];exact⟨rfl,rfl⟩))
  (λos started H enc _ F=>by rw[OpenClaim.pre_eq_preRow];exact yi0 os started H enc F)
theorem ys8(f:FuncId)(fn:Func)(hf:Tryz.pinned.checked.prog.funcNamed "winnow/winnowlaw20.PartSteps" = some f)(hfn:Tryz.pinned.checked.prog.funcs[f]?=some fn) :
  true=Tryz.pinned.checked.prog.looks []/\∀(j:Nat) t,fn.params[j]?=some t->Tryz.pinned.checked.prog.wantsStandIn t=false:=by
 obtain rfl:f=3:=Option.some.inj ((show Tryz.prog.funcNamed "winnow/winnowlaw20.PartSteps" = some 3 by kernel_rfl).symm.trans hf) |>.symm;obtain rfl:fn=Tryz.f3:=(Option.some.inj (Tryz.func3.symm.trans hfn)).symm;refine ⟨by kernel_rfl,fun j t ht=>?_⟩;rw [Tryz.params3] at ht;have hm:t∈[9,3,24,28,3]:=by simpa using Array.mem_of_getElem? ht
 have hall:([9,3,24,28,3].all λu => !Tryz.prog.wantsStandIn u)=true:=by kernel_rfl
 exact(show Tryz.prog.wantsStandIn t=false by simpa using List.all_eq_true.1 hall t hm)
theorem yN6:Rows.PartStepsCardSaid :=
 Claim7.holds_tied_plain_at .later [] _ _ _ _ yB8 (λ_ h=>by cases h) kR (λ_ h=>by cases h) partSteps_row_tie rfl ⟨rfl,rfl⟩ kR rfl ys8 kR
end
end Go.Proofs.YtpongdpnbclchaaGreatDoor
