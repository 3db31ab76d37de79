import Derived.Test.YtpongdpnbclchaaGreatDoorKJa
set_option maxHeartbeats 8000000
set_option linter.all false
set_option maxRecDepth 100000
namespace Go.Proofs.YtpongdpnbclchaaGreatDoor
variable{i p:Nat}{ns:List Nd}
section
open Go.RowKit
theorem zp3(d k num op ps:Int)(s:ByteArray)(w:World) :
  Calls Tryz.prog 26 #[.agg #[nI d,nI k,.string s,nI num,nI op,nI ps]] w λe w'=>e=.returned (.bool (decide (2<=k)&&decide (k<=8)))/\Ok w w':=by
 by_cases h1:2<=k
 ·by_cases h2:k<=8
  ·have h1d:decide (2<=k)=true:=dT_ h1
   have h2d:decide (k<=8)=true:=dT_ h2;have HR:Hi ((decide (2<=k)&&decide (k<=8))=true):=by unfold Hi;rw[h1d,h2d];rfl
   rw[HR.o];go_enter Tryz.func26,Tryz.ntmps26;go_wp2_with fail;go_ret;exact⟨rfl,(Ok.refl w).alloc _⟩
  have h1d:decide (2<=k)=true:=dT_ h1;have h2d:decide (k<=8)=false:=dF_ h2;have HR:Hi ((decide (2<=k)&&decide (k<=8))=false):=by unfold Hi;rw[h1d,h2d];rfl
  rw[HR.o];go_enter Tryz.func26,Tryz.ntmps26;go_wp2_with fail;go_ret;exact⟨rfl,(Ok.refl w).alloc _⟩
 have h1d:decide (2<=k)=false:=dF_ h1;have HR:Hi ((decide (2<=k)&&decide (k<=8))=false):=by unfold Hi;rw[h1d];rfl
 rw[HR.o];go_enter Tryz.func26,Tryz.ntmps26;go_wp2_with fail;go_ret;exact⟨rfl,(Ok.refl w).alloc _⟩
theorem zd2(v:Value)(ns:List Nd)(p:Nat)(w:World)(h:DD w v ns)(hl:ns.length<=1000000) :
  Calls Tryz.prog 25 #[v,nI (p:Nat)] w λe w'=>e=.returned (nI (ptF ns p:Nat))/\Ok w w':=by
 have HN:=hid h;obtain⟨_,ao,cap,rfl,_⟩:=h;obtain⟨r,hr⟩:=qq (ptF ns p);have HRR:Hi (r=ptF ns p):=hr;rw[<-hr];clear hr;go_enter Tryz.func25,Tryz.ntmps25;go_wp2_with fail;go_loopw [5,6] (λn i wr=>∃k:Nat,n=nI (ptF ns k:Nat)/\i=nI (k:Nat)/\k<=p/\k<=ns.length/\Hi (Ok w wr)) (λ_ i _=>ns.length-(intOf i).toNat)
 case atStart=>exact⟨0,rfl,rfl,zL_ _,zL_ _,Ok.refl _⟩
 obtain⟨k,rfl,rfl,hkp,hkl,HK⟩:=hrel;by_cases h1:k<p
 ·have h1':(k:Int)<(p:Int):=za5 h1
  have h1d:decide ((k:Int)<(p:Int))=true:=dT_ h1';have h1n:decide (k<p)=true:=dT_ h1;by_cases h2:k<ns.length
  ·have h2':(k:Int)<(ns.length:Int):=za5 h2
   have h2d:decide ((k:Int)<(ns.length:Int))=true:=dT_ h2';have h2n:decide (k<ns.length)=true:=dT_ h2;obtain⟨n,hn⟩:∃n,ns[k]?=some n:=⟨_,gG_ h2⟩;obtain⟨_,ao',cap',e1,_,_,hN⟩:=HN.o
   injection e1 with e1 e2 e3;clear e2
   subst e1 e3;obtain⟨b,o,rfl,N1⟩:=hN.resolve_left (λe=>by rw[e]at h2;simp at h2);have M1:=N1.below HK.o;obtain⟨c0,c1,c2,c3,c4,c5⟩:=M1.get hn;have lb:=M1.lt;have hq:=zC2 hn;have hle:=zq9 ns k;obtain⟨q,hqq⟩:=qq (ptF ns k);rw[<-hqq]at hq hle ⊢;have hqw:IntKind.i64.wrap ((q:Int)+1)=((q+1:Nat):Int):=zb3 oM;have hkw:IntKind.i64.wrap ((k:Int)+1)=((k+1:Nat):Int):=zb3 oM;obtain⟨nd,nk,nm,nu,no,nps⟩:=n;simp only at c0 c1 c2 c3 c4 c5 hq;have hst:wh2 ⟨nd,nk,nm,nu,no,nps⟩=(decide (2<=nk)&&decide (nk<=8)):=rfl;rw[hst]at hq
   cases hs:(decide (2<=nk)&&decide (nk<=8)) with
   | true =>
    have HQ:Hi (ptF ns (k+1)=q+1):=by unfold Hi;rw[hq,hs];rfl
    have HS:=hid hs;clear hq hs hst M1 N1 hN hqq hn
    go_wp2_with (first
     |(go_at_call 26;refine mq (zp3 _ _ _ _ _ _ _) λw1 hk1=>?_;have HK1:=hid (HK.o.step hk1);rw[HS.o];clear hk1)
     | fail)
    go_roundw
    case rel=>exact⟨k+1,by rw[HQ.o];rfl,rfl,h1,h2,HK1.o⟩
    case measure=>simp only[intOf,Int.toNat_natCast];omega
   | false =>
    have HQ:Hi (ptF ns (k+1)=q):=by unfold Hi;rw[hq,hs];rfl
    have HS:=hid hs;clear hq hs hst M1 N1 hN hqq hn
    go_wp2_with (first
     |(go_at_call 26;refine mq (zp3 _ _ _ _ _ _ _) λw1 hk1=>?_;have HK1:=hid (HK.o.step hk1);rw[HS.o];clear hk1)
     | fail)
    go_roundw
    case rel=>exact⟨k+1,by rw[HQ.o],rfl,h1,h2,HK1.o⟩
    case measure=>simp only[intOf,Int.toNat_natCast];omega
  have h2':¬(k:Int)<(ns.length:Int):=zb2 h2;have h2d:decide ((k:Int)<(ns.length:Int))=false:=dF_ h2';have h2n:decide (k<ns.length)=false:=dF_ h2
  have HQ:Hi (ptF ns k=r):=by unfold Hi;rw[HRR.o];unfold ptF;rw[List.take_of_length_le (by omega),List.take_of_length_le (by omega)]
  go_wp2_with fail;go_ret;exact⟨by rw[<-HQ.o];rfl,HK.o⟩
 have h1':¬(k:Int)<(p:Int):=zb2 h1;have h1d:decide ((k:Int)<(p:Int))=false:=dF_ h1';have h1n:decide (k<p)=false:=dF_ h1;have HQ:Hi (ptF ns k=r):=by unfold Hi;rw[HRR.o,show k=p by omega]
 go_wp2_with fail;go_ret;exact⟨by rw[<-HQ.o];rfl,HK.o⟩
theorem zk9(v:Value)(ns:List Nd)(p:Nat)(w:World)(h:DD w v ns)(hp:p<ns.length)(hl:ns.length<=1000000) :
  Calls Tryz.prog 85 #[v,nI (p:Nat)] w λe w'=>e=.returned (nI (AB ns p:Nat))/\Ok w w':=by
 obtain⟨_,ao,cap,rfl,_,_,hN⟩:=h;obtain⟨b,o,rfl,N1⟩:=hN.resolve_left (λe=>by rw[e]at hp;simp at hp);have HN:=hid N1;clear N1 hN;obtain⟨en,hen⟩:=qq (AB ns p);rw[<-hen];have hpw:IntKind.i64.wrap ((p:Int)+1)=((p+1:Nat):Int):=zb3 oM;have hpl:(p:Int)<(ns.length:Int):=za5 hp;have HE:Hi (en=p+1+EV (AE ns p) (ns.drop (p+1))):=hen;obtain⟨np,hnp⟩:∃n,ns[p]?=some n:=⟨_,gG_ hp⟩;have HD:Hi (AE ns p=np.depth):=by unfold Hi AE;rw[hnp];rfl
 have HNP:=hid hnp;clear hnp;have HPL:=hid hp;clear hen;go_enter Tryz.func85,Tryz.ntmps85;go_wp2_with fail;go_loopw [5] (λt wr=>∃k:Nat,k<=ns.length/\t=nI (k:Nat)/\Hi (en=k+EV (AE ns p) (ns.drop k))/\Hi (Ok w wr)) (λt _=>((ns.length:Int)-intOf t).toNat)
 case atStart=>exact⟨p+1,hp,rfl,HE,Ok.refl _⟩
 obtain⟨k,hk,rfl,HR,HV⟩:=hrel;have M1:=HN.o.below HV.o;have lt1:=M1.lt;by_cases hkl:k<ns.length
 ·have hkl':(k:Int)<(ns.length:Int):=za5 hkl
  have hkl2:decide (k<ns.length)=true:=dT_ hkl;have hkw:IntKind.i64.wrap ((k:Int)+1)=((k+1:Nat):Int):=zb3 oM;obtain⟨nk,hnk⟩:∃n,ns[k]?=some n:=⟨_,gG_ hkl⟩;have c0:=(M1.get hnk).1;have d0:=(M1.get HNP.o).1;have hr:=HR.o;rw[zI4 (AE ns p) hnk,HD.o]at hr;have HDP:=hid HD.o;clear hnk;generalize np.depth=dp at *;generalize nk.depth=dk at *;have hr':=hr;clear hr;by_cases hd:dp<dk
  ·have HR2:Hi (en=k+1+EV (AE ns p) (ns.drop (k+1))):=by unfold Hi;rw[hr',if_pos hd,HDP.o];omega
   clear hr' HR M1;have hd2:decide (dp<dk)=true:=dT_ hd;go_wp2_with fail;go_quiet (fail);go_wp2_with fail;go_roundw
   case rel=>exact⟨k+1,hkl,rfl,HR2,HV.o.draws _⟩
   case measure=>exact we3 hkl
  have HR2:Hi (en=k):=by unfold Hi;rw[hr',if_neg hd];rfl
  clear hr' HR M1;have hd2:decide (dp<dk)=false:=dF_ hd;go_wp2_with fail;go_quiet (fail);go_wp2_with fail;go_ret;exact⟨by rw[HR2.o];rfl,HV.o.draws _⟩
 have hkl':¬(k:Int)<(ns.length:Int):=zb2 hkl;have hkl2:decide (k<ns.length)=false:=dF_ hkl
 have HR2:Hi (en=k):=by have hr:=HR.o;rw[List.drop_eq_nil_of_le (by omega)]at hr;exact hr
 clear HR M1;go_wp2_with fail;go_quiet (fail);go_wp2_with fail;go_ret;exact⟨by rw[HR2.o];rfl,HV.o.draws _⟩
end
section
open Go.RowKit
def hdA(d:Int)(ns:List Nd):Nat->Int
 | 0 => -1
 | j+1=>if AE ns j<d then (j:Int) else hdA d ns j
def hdF(ns:List Nd)(i:Nat):Int:=hdA (AE ns i) ns i
theorem ze2(v:Value)(ns:List Nd)(p:Nat)(w:World)(h:DD w v ns)(hp:p<ns.length)(hl:ns.length<=1000000) :
  Calls Tryz.prog 86 #[v,nI (p:Nat)] w λe w'=>e=.returned (nI (hdF ns p))/\Ok w w':=by
 obtain⟨_,ao,cap,rfl,_,_,hN⟩:=h;obtain⟨b,o,rfl,N1⟩:=hN.resolve_left (λe=>by rw[e]at hp;simp at hp);have HN:=hid N1;clear N1 hN;obtain⟨r,hr⟩:=qq (hdF ns p);rw[<-hr];have HE:Hi (r=hdA (AE ns p) ns p):=hr;have hpl:(p:Int)<(ns.length:Int):=za5 hp;obtain⟨np,hnp⟩:∃n,ns[p]?=some n:=⟨_,gG_ hp⟩;have HD:Hi (AE ns p=np.depth):=by unfold Hi AE;rw[hnp];rfl
 have HNP:=hid hnp;have hpw:IntKind.i64.wrap ((p:Int)-1)=(p:Int)-1:=by rw[IntKind.wrap_i64];omega
 have hpw2:wrap64 ((p:Int)-1)=(p:Int)-1:=by unfold wrap64;omega
 clear hnp hr;have HPL:Hi (p<ns.length/\ns.length<=1000000):=⟨hp,hl⟩;go_enter Tryz.func86,Tryz.ntmps86;go_wp2_with fail;clear hpw hpw2;go_loopw [5] (λt wr=>∃k:Nat,t=nI ((k:Int)-1)/\k<=p/\Hi (r=hdA (AE ns p) ns k)/\Hi (Ok w wr)) (λt _=>(intOf t+1).toNat)
 case atStart=>exact⟨p,rfl,nR_ _,HE.o,Ok.refl _⟩
 obtain⟨k,rfl,hk,HR,HK⟩:=hrel;have M1:=HN.o.below HK.o;have lb:=M1.lt
 cases k with
 | zero =>
  have e:((0:Nat):Int)-1 = -1:=oM;rw[e];have HQ:=hid HR.o;clear HR M1;go_wp2_with fail;go_ret;exact⟨by rw[HQ.o];rfl,HK.o⟩
 | succ k =>
  have e:((k+1:Nat):Int)-1=(k:Int):=oM;rw[e];have hkl:k<ns.length:=oM;have hkl':(k:Int)<(ns.length:Int):=za5 hkl;have hk0:(0:Int)<=(k:Int):=oM;obtain⟨nk,hnk⟩:∃n,ns[k]?=some n:=⟨_,gG_ hkl⟩;have c0:=(M1.get hnk).1;have d0:=(M1.get HNP.o).1;have hdk:AE ns k=nk.depth:=by unfold AE;rw[hnk];rfl
  have hr:=HR.o;rw[hdA,hdk,HD.o]at hr;have HDP:=hid HD.o;clear hnk hdk HR;generalize np.depth=dp at *;generalize nk.depth=dk at *;have hkw:IntKind.i64.wrap ((k:Int)-1)=(k:Int)-1:=by rw[IntKind.wrap_i64];omega
  have hkw2:wrap64 ((k:Int)-1)=(k:Int)-1:=by unfold wrap64;omega
  by_cases hd:dk<dp
  ·have HQ:Hi (r=(k:Int)):=by unfold Hi;rw[hr,if_pos hd]
   have hd2:decide (dk<dp)=true:=dT_ hd;clear hr M1;go_wp2_with fail;go_quiet (fail);go_wp2_with fail;go_ret;exact⟨by rw[HQ.o];rfl,HK.o.draws _⟩
  have HQ:Hi (r=hdA (AE ns p) ns k):=by unfold Hi;rw[hr,if_neg hd,HDP.o]
  have hd2:decide (dk<dp)=false:=dF_ hd;clear hr M1;go_wp2_with fail;go_quiet (fail);go_wp2_with fail;go_roundw
  case rel=>exact⟨k,rfl,by omega,HQ.o,HK.o.draws _⟩
  case measure=>simp only[intOf];omega
end
section
open Go.RowKit
def wh3(ns:List Nd)(en:Nat):Nat->Nat->List Nat
 | 0,_=>[]
 | f+1,j=>if j<en then j::wh3 ns en f (AB ns j) else []
def hlF(ns:List Nd)(p:Nat):List Nat:=wh3 ns (AB ns p) (ns.length+2) (p+1)
def inL(l:List Nat):List Value:=l.map λj=>nI (j:Nat)
def wi3(ns:List Nd)(p:Nat)(l:List Nat)(j:Nat):Prop:=∃f,ns.length+1-j<=f/\hlF ns p=l++wh3 ns (AB ns p) f j
theorem wi3.step{j:Nat}{l:List Nat}(h:wi3 ns p l j)(hj:j<AB ns p)(hl:j<ns.length):wi3 ns p (l++[j]) (AB ns j):=by
 obtain⟨f,h1,e⟩:=h;obtain⟨f2,rfl⟩:∃f2,f=f2+1:=⟨f-1,by omega⟩;have hlo:j<AB ns j:=by unfold AB;omega
 refine⟨f2,by omega,?_⟩;rw[e,wh3,if_pos hj,List.append_assoc];rfl
theorem wi3.fin{j:Nat}{l:List Nat}(h:wi3 ns p l j)(hj:¬j<AB ns p):hlF ns p=l:=by
 obtain⟨f,_,e⟩:=h;rw[e]
 cases f with
 | zero=>rw[wh3,List.append_nil]
 | succ f=>rw[wh3,if_neg hj,List.append_nil]
theorem zw0(v:Value)(ns:List Nd)(p:Nat)(w:World)(h:DD w v ns)(hp:p<ns.length)(hl:ns.length<=1000) :
  Calls Tryz.prog 49 #[v,nI (p:Nat)] w λe w'=>∃v',e=.returned v'/\w'.ownsRow w.heap.size 3 1 v' (hlF ns p).length (inL (hlF ns p))/\Ok w w':=by
 have HN:=hid h;have HP:Hi (p<ns.length/\ns.length<=1000):=⟨hp,hl⟩;obtain⟨_,ao,cap,rfl,_⟩:=h;obtain⟨en,hen⟩:=qq (AB ns p);have HEN:Hi (en=AB ns p/\en<=ns.length):=⟨hen,by rw[hen];exact(ze6 hp).2⟩;have hpw:IntKind.i64.wrap ((p:Int)+1)=((p+1:Nat):Int):=zb3 oM;obtain⟨B,hB⟩:=qq (w.heap.size);have HB:Hi (B=w.heap.size):=hB;clear hen hp hl hB;go_enter Tryz.func49,Tryz.ntmps49;go_wp2_with fail;go_loopw [5,6] (λt i wr=>∃(j:Nat) (l:List Nat) (vv:Value),t=vv/\i=nI (j:Nat)/\j<=ns.length+1/\p+1<=j/\Hi (wr.ownsRow B 3 1 vv l.length (inL l))/\Hi (wi3 ns p l j/\l.length+(p+1)<=j)/\Hi (Ok w wr)) (λ_ i _=>ns.length+1-(intOf i).toNat)
 case atStart=>exact⟨p+1,[],sZ,rfl,rfl,by have:=HP.o;omega,Nat.le_refl _,World.ownsRow_nil _ _ _ _,⟨⟨ns.length+2,by omega,rfl⟩,by simp⟩,Ok.refl _⟩
 obtain⟨j,l,vv,rfl,rfl,hj1,hj2,HO,HS,HK⟩:=hrel;obtain⟨vo,vc,hvv⟩:=za0 HO.o;subst hvv;by_cases hje:j<en
 ·have hje':(j:Int)<(en:Int):=za5 hje
  have hjl:j<ns.length:=by have:=HEN.o;omega
  obtain⟨nx,hnx⟩:=qq (AB ns j);have HNX:Hi (nx=AB ns j/\j<nx/\nx<=ns.length):=⟨hnx,by rw[hnx];exact(ze6 hjl).1,by rw[hnx];exact(ze6 hjl).2⟩;have HJL:Hi (j<ns.length/\j<en):=⟨hjl,hje⟩;obtain⟨q,hq⟩:=qq (l.length);have HQ:Hi (q=l.length/\q<=1000):=⟨hq,by rw[hq];have h1:=HS.o.2;have h2:=HP.o;omega⟩;rw[<-hq];have HO2:Hi (wr.ownsRow B 3 1 (.slice vo q vc) q (inL l)):=by rw[hq];exact HO.o
  have HSL:Hi (∀W,Ok w W->DD W (.slice ao ns.length cap) ns):=λW hW=>HN.o.below hW;clear hnx hq HO
  go_wp2_with (first
   |(go_at_call_of 85 ((p:Int));refine mq (zk9 _ ns p _ (HSL.o _ HK.o) HP.o.1 (by have:=HP.o;omega)) λw1 hk1=>?_;have HK1:=hid hk1;rw[<-HEN.o.1];clear hk1)
   |(at_builtin;refine ze4 rfl _ _ 25 3 1 8 _ rfl Tryz.underlying25 wn0 (by rfl) (by decide) (by decide) B (.slice vo q vc) q (inL l) (by rfl) (World.ownsRow.alloc (za1 HO2.o HK1.o) _) (.slice (sA w1.heap.size 0) 1 1) 1 [nI (j:Nat)] (by rfl) (SL.one _ _ _ (by rfl) (by simp[Value.oneCell'])) (by have:=HQ.o;omega) (by have h1:=HB.o;have h2:=HK.o.le;have h3:=HK1.o.le;simp;omega) ?_;intro v' w2 k1 k2;have HK2:Hi (Ok w w2):=((HK.o.step HK1.o).alloc _).grown k2 (λb e=>by have h1:=(HO2.o.lt b e).1;have h2:=HB.o;omega);have HO3:=hid k1;obtain⟨xo,xc,rfl⟩:=za0 k1;clear k1 k2)
   |(go_at_call_of 85 ((j:Int));refine mq (zk9 _ ns j _ (HSL.o _ HK2.o) HJL.o.1 (by have:=HP.o;omega)) λw3 hk3=>?_;have HK3:=hid (HK2.o.step hk3);have HO4:=hid (za1 HO3.o hk3);rw[<-HNX.o.1];clear hk3)
   | fail)
  go_roundw
  case rel=>exact⟨nx,l++[j],_,rfl,rfl,by have:=HNX.o;omega,by have:=HNX.o;omega,by have h1:=HO4.o;rw[HQ.o.1]at h1;unfold Hi inL;rw[List.length_append,List.map_append];rw[HQ.o.1];exact h1,⟨by rw[HNX.o.1];exact HS.o.1.step (by rw[<-HEN.o.1];exact HJL.o.2) HJL.o.1,by have h1:=HS.o.2;have h2:=HNX.o;rw[List.length_append];simp only[List.length_cons,List.length_nil];omega⟩,HK3.o⟩
  case measure=>have h1:=HNX.o;simp only[intOf,Int.toNat_natCast];omega
 have hje':¬(j:Int)<(en:Int):=zb2 hje;have HF:Hi (hlF ns p=l):=HS.o.1.fin (by rw[<-HEN.o.1];exact hje);have HSL:Hi (∀W,Ok w W->DD W (.slice ao ns.length cap) ns):=λW hW=>HN.o.below hW
 go_wp2_with (first
  |(go_at_call 85;refine mq (zk9 _ ns p _ (HSL.o _ HK.o) HP.o.1 (by have:=HP.o;omega)) λw1 hk1=>?_;have HK1:=hid hk1;rw[<-HEN.o.1];clear hk1)
  | fail)
 go_ret;exact⟨_,rfl,by rw[HF.o,<-HB.o];exact za1 HO.o HK1.o,HK.o.step HK1.o⟩
end
section
open Go.RowKit
theorem zr7(d:Int)(ns:List Nd):∀j,(hdA d ns j = -1/\∀x,x<j->d<=AE ns x)\/(∃g:Nat,hdA d ns j=g/\g<j/\AE ns g<d/\∀x,g<x->x<j->d<=AE ns x)
 | 0=>.inl ⟨rfl,λx h=>by omega⟩
 | j+1=>by
  rw[hdA];by_cases c:AE ns j<d
  ·rw[if_pos c]
   exact .inr ⟨j,rfl,by omega,c,λx h1 h2=>by omega⟩
  rw[if_neg c];rcases zr7 d ns j with ⟨e,h⟩ | ⟨g,e,h1,h2,h3⟩
  ·refine .inl ⟨e,λx hx=>?_⟩
   by_cases ex:x=j
   ·rw[ex];omega
   exact h x oM
  refine .inr ⟨g,e,by omega,h2,λx hx1 hx2=>?_⟩;by_cases ex:x=j
  ·rw[ex];omega
  exact h3 x hx1 oM
theorem zD0(h:AM ns)(hi:i<ns.length):(AE ns i=1/\hdF ns i = -1)\/(∃g:Nat,hdF ns i=g/\g<i/\AE ns i=AE ns g+1/\i<AB ns g):=by
 have h0:AE ns 0=1:=by rw[zc4 (List.getElem?_eq_getElem (show 0<ns.length by omega))];exact h.shp.first (by omega)
 have hd1:=h.dep hi;rcases zr7 (AE ns i) ns i with ⟨e,hx⟩ | ⟨g,e,h1,h2,h3⟩
 ·refine .inl ⟨?_,e⟩
  by_cases c:i=0
  ·rw[c];exact h0
  have:=hx 0 oM;omega
 have hgl:g<ns.length:=oM;have hst:=h.step (p:=g) oM
 have hdg:AE ns i=AE ns g+1:=by
  by_cases c:g+1=i
  ·rw[c]at hst;omega
  have:=h3 (g+1) oM oM;omega
 refine .inr ⟨g,e,h1,hdg,?_⟩;rcases Nat.lt_or_ge i (AB ns g) with c | c
 ·exact c
 exfalso;have hlo:=ze8 (ns:=ns) (p:=g);have hn:=zf5 (ns:=ns) (p:=g) oM;by_cases ex:AB ns g=i
 ·rw[ex]at hn;omega
 have:=h3 (AB ns g) hlo oM;omega
theorem wj6(h:AM ns){g:Nat}(h1:g<i)(h2:i<AB ns g)(h3:AE ns i=AE ns g+1):hdF ns i=(g:Int):=by
 have hi:=(zc1 h1 h2).2;have hdg:=h.dep (show g<ns.length by omega);rcases zD0 h hi with ⟨e,_⟩ | ⟨g',e,k1,k2,k3⟩
 ·omega
 rcases Nat.lt_trichotomy g g' with c | c | c
 ·have:=(zc1 (ns:=ns) (p:=g) (q:=g') c oM).1;omega
 ·rw[c];exact e
 have:=(zc1 (ns:=ns) (p:=g') (q:=g) c oM).1;omega
theorem yu9{k c:Nat}(hk:k<16)(h:BQ k c=2):k=9:=by
 by_cases e:k=9
 ·exact e
 exfalso;have:∀j:Fin 16,(j:Nat)≠9->rH0 j≠2/\rH1 j≠2/\rH2 j≠2:=by decide
 have:=this ⟨k,hk⟩ e;unfold BQ at h;rw[if_neg e]at h
 split at h
 ·exact this.1 h
 split at h
 ·exact this.2.1 h
 split at h
 ·exact this.2.2 h
 omega
theorem zX3{k c:Nat}(hk:k<16)(h:BQ k c=3):k=7\/k=8:=by
 have:∀j:Fin 16,(rH0 j=3\/rH1 j=3\/rH2 j=3)->(j:Nat)=7\/(j:Nat)=8:=by decide
 refine this ⟨k,hk⟩ ?_;unfold BQ at h
 split at h
 ·omega
 split at h
 ·exact .inl h
 split at h
 ·exact .inr (.inl h)
 split at h
 ·exact .inr (.inr h)
 omega
theorem yC6(h:AM ns)(hi:i<ns.length)(hk:2<=kdA ns i/\kdA ns i<=8):hdF ns i = -1\/∃a g:Nat,hdF ns i=a/\a<i/\i<AB ns a/\kdA ns a=9/\AE ns i=AE ns a+1/\hdF ns a=g/\g<a/\a<AB ns g/\AE ns a=AE ns g+1/\(kdA ns g=7\/kdA ns g=8):=by
 rcases zD0 h hi with ⟨_,e⟩ | ⟨a,e,a1,a2,a3⟩
 ·exact .inl e
 have hal:a<ns.length:=oM;obtain⟨c,hc⟩:=h.kid a1 a3 a2;have k1:=h.kd hi;have k2:=h.kd hal;have hs:=(zm7 (k:=(kdA ns i).toNat) oM).2.1.2 oM;rw[hs]at hc;have h9:=yu9 oM hc.symm;have ka:kdA ns a=9:=oM;rcases zD0 h hal with ⟨e2,_⟩ | ⟨g,e2,b1,b2,b3⟩
 ·exfalso
  have ht:=h.top ns[a] (List.getElem_mem hal) (by rw[<-zc4 (List.getElem?_eq_getElem hal)];exact e2);rw[<-ze1 (List.getElem?_eq_getElem hal),ka]at ht
  rcases ht with ht | ht<;>exact absurd ht dC
 obtain⟨c2,hc2⟩:=h.kid b1 b3 b2;have k3:=h.kd (show g<ns.length by omega);rw[ka]at hc2;have h7:=zX3 oM (show BQ (kdA ns g).toNat c2=3 from hc2.symm);exact .inr ⟨a,g,e,a1,a3,ka,a2,e2,b1,b3,b2,by omega⟩
def bhF(ns:List Nd):Nat->Nat->Nat
 | 0,_=>0
 | f+1,i =>
  if AB ns i<ns.length/\AE ns (AB ns i)=AE ns i/\kdA ns (AB ns i)≠9 then ptF ns (AB ns i)
  else if hdF ns i<0 then ptF ns ns.length
  else if kdA ns (hdF ns (hdF ns i).toNat).toNat=8 then ptF ns (hdF ns (hdF ns i).toNat).toNat
  else bhF ns f (hdF ns (hdF ns i).toNat).toNat
def bgR(ns:List Nd)(f i:Nat):Nat :=
 if i+1<ns.length/\AE ns (i+1)=AE ns i+1 then ptF ns (i+1)
 else if kdA ns (hdF ns i).toNat=8 then ptF ns (hdF ns i).toNat else bhF ns f (hdF ns i).toNat
end
section
open Go.RowKit
theorem wp3(h:¬hdF ns i<0):(hdF ns (hdF ns i).toNat).toNat<i:=by
 rcases zr7 (AE ns i) ns i with ⟨e,_⟩ | ⟨g,e,h1,_⟩
 ·exfalso;unfold hdF at h;omega
 have e':hdF ns i=g:=e;rw[e',Int.toNat_natCast];rcases zr7 (AE ns g) ns g with ⟨e2,_⟩ | ⟨g2,e2,h2,_⟩
 ·have:hdF ns g = -1:=e2
  rw[this];show 0<i;omega
 have:hdF ns g=g2:=e2;rw[this,Int.toNat_natCast];omega
theorem yv0:∀(i f f':Nat),i<f->i<f'->bhF ns f i=bhF ns f' i:=by
 intro i
 induction i using Nat.strongRecOn with
 | ind i ih =>
  intro f f' h1 h2;obtain⟨f,rfl⟩:∃g,f=g+1:=⟨f-1,by omega⟩;obtain⟨f',rfl⟩:∃g,f'=g+1:=⟨f'-1,by omega⟩;rw[bhF,bhF]
  split
  ·rfl
  split
  ·rfl
  next hn =>
  split
  ·rfl
  have:=wp3 hn;exact ih _ this _ _ oM oM
def BH(ns:List Nd)(i:Nat):Nat:=bhF ns (ns.length+1) i
def BG(ns:List Nd)(i:Nat):Nat:=bgR ns (ns.length+1) i
theorem wl2(hi:i<ns.length):BH ns i=if AB ns i<ns.length/\AE ns (AB ns i)=AE ns i/\kdA ns (AB ns i)≠9 then ptF ns (AB ns i) else if hdF ns i<0 then ptF ns ns.length else if kdA ns (hdF ns (hdF ns i).toNat).toNat=8 then ptF ns (hdF ns (hdF ns i).toNat).toNat else BH ns (hdF ns (hdF ns i).toNat).toNat:=by
 unfold BH;rw[bhF]
 split
 ·rfl
 split
 ·rfl
 next hn =>
 split
 ·rfl
 have:=wp3 hn;exact yv0 _ _ _ oM oM
def elR(ns:List Nd)(i:Nat):List Ed :=
 if kdA ns i=7\/kdA ns i=8 then
  [⟨ptF ns i,BG ns ((hlF ns i).getD 1 0),5,((hlF ns i).getD 0 0:Nat),true,decide (kdA ns i=8)⟩,
  ⟨ptF ns i,(if (hlF ns i).length=3 then BG ns ((hlF ns i).getD 2 0) else BH ns i:Nat),5,((hlF ns i).getD 0 0:Nat),false,decide (kdA ns i=8)⟩]
 else [⟨ptF ns i,BH ns i,kdA ns i-2,i,false,false⟩]
def stR(ns:List Nd)(i:Nat):List Ed:=if 2<=kdA ns i/\kdA ns i<=8 then elR ns i else []
def rng(ns:List Nd)(p:Nat):Nat->List Ed
 | 0=>[]
 | k+1=>rng ns p k++stR ns (p+k)
theorem yl0(ns:List Nd)(p x:Nat):∀y,rng ns p (x+y)=rng ns p x++rng ns (p+x) y
 | 0=>by rw[Nat.add_zero,rng,List.append_nil]
 | y+1=>by show rng ns p (x+y)++stR ns (p+(x+y))=_;rw[yl0 ns p x y,rng,List.append_assoc,Nat.add_assoc]
def rgE(ns:List Nd)(p en:Nat):List Ed:=rng ns p (en-p)
theorem zg5{x en:Nat}(h1:p<=x)(h2:x<=en):rgE ns p en=rgE ns p x++rgE ns x en:=by unfold rgE;rw[show en-p=(x-p)+(en-x) by omega,yl0,show p+(x-p)=x by omega]
theorem zS2:∀k,(∀r,p<=r->r<p+k->¬(2<=kdA ns r/\kdA ns r<=8))->rng ns p k=[]
 | 0,_=>rfl
 | k+1,h=>by rw[rng,zS2 k (λr h1 h2=>h r h1 (by omega)),stR,if_neg (h (p+k) (by omega) (by omega))];rfl
theorem zl0{en:Nat}(h:∀r,p<=r->r<en->¬(2<=kdA ns r/\kdA ns r<=8)):rgE ns p en=[]:=zS2 _ (λr h1 h2=>h r h1 oM)
theorem zO0(h:2<=kdA ns p/\kdA ns p<=8):rgE ns p (p+1)=elR ns p:=by unfold rgE;rw[Nat.add_sub_cancel_left,rng,rng,List.nil_append,Nat.add_zero,stR,if_pos h]
theorem yw1(h:AM ns)(hp:p<ns.length)(hk:kdA ns p=7\/kdA ns p=8) :
  (AB ns (AB ns (p+1))=AB ns p/\hlF ns p=[p+1,AB ns (p+1)])\/(AB ns (AB ns (p+1))<AB ns p/\hlF ns p=[p+1,AB ns (p+1),AB ns (AB ns (p+1))]):=by
 obtain⟨t1,t2,t3,t4,t5,t6⟩:=h.two hp hk;have hlo:=ze8 (ns:=ns) (p:=p+1);have hle:=(ze6 hp).2;unfold hlF;obtain⟨f,hf⟩:∃f,ns.length+2=f+1+1+1+1:=⟨ns.length-2,by omega⟩;rw[hf,wh3,if_pos (by omega),wh3,if_pos t2];rcases t6 with e | ⟨_,e1,_,_,e4⟩
 ·left
  refine⟨e,?_⟩;rw[wh3,if_neg (by omega)]
 right;refine⟨e1,?_⟩;rw[wh3,if_pos e1,wh3,if_neg (by omega)]
theorem wp4(h:AM ns){a:Nat}(hk:kdA ns p=7\/kdA ns p=8)(h1:p<a)(h2:a<AB ns p)(h3:AE ns a=AE ns p+1):BG ns a=bgF ns (a+1) (AB ns a) (if kdA ns p=8 then ptF ns p else BH ns p):=by
 have hal:=(zc1 h1 h2).2;unfold BG bgR;rw[wj6 h h1 h2 h3,Int.toNat_natCast];by_cases c:a+1<AB ns a
 ·have hd:=zc1 (ns:=ns) (p:=a) (q:=a+1) oM c
  have hs:=h.step hd.2;rw[if_pos ⟨hd.2,by omega⟩,zv9 c]
 have hlo:=ze8 (ns:=ns) (p:=a);rw[if_neg,zy2 c]
 ·rfl
 rintro⟨k1,k2⟩;have e:AB ns a=a+1:=oM;have:=zf5 (ns:=ns) (p:=a) oM;rw[e]at this;omega
theorem yl1(h:AM ns){a q:Nat}(hk:kdA ns p=7\/kdA ns p=8)(h1:p<a)(h2:a<AB ns p)(h3:AE ns a=AE ns p+1)(k1:a<q)(k2:q<AB ns a)(k3:AE ns q=AE ns a+1)(k4:AB ns q=AB ns a):BH ns q=if kdA ns p=8 then ptF ns p else BH ns p:=by have hql:=(zc1 k1 k2).2;rw[wl2 hql,if_neg,wj6 h k1 k2 k3,if_neg (by omega),Int.toNat_natCast,wj6 h h1 h2 h3,Int.toNat_natCast];rintro⟨c1,c2,_⟩;rw[k4]at c1 c2;have:=zf5 (ns:=ns) (p:=a) c1;omega
theorem zD1(h:AM ns):∀(f p en fol:Nat) (D:Int),wa5 ns D p en->ns.length+2-p<=f->p<=en->(∀q,p<=q->q<en->AB ns q=en->AE ns q=D->BH ns q=fol)->stE ns f p en fol=rgE ns p en
 | 0,p,en,fol,D,hS,hf,hpe,_=>by
  by_cases hp:p<en
  ·have:=(hS hp).1;omega
  have e:p=en:=oM;subst e;rw[zk8 hp,zl0 (λr h1 h2=>by omega)]
 | f+1,p,en,fol,D,hS,hf,hpe,hF=>by
  by_cases hp:p<en;rotate_left
  ·have e:p=en:=oM
   subst e;rw[zk8 hp,zl0 (λr h1 h2=>by omega)]
  obtain⟨h1,h2,h3,h4,h5⟩:=hS hp;obtain⟨hle,hS'⟩:=hS.next hp;have hpl:p<ns.length:=oM;have hlo:=ze8 (ns:=ns) (p:=p);have k8:=h4 p (nR_ _) hp h2;have kd0:=h.kd hpl;have IH:=zD1 h f (AB ns p) en fol D hS' oM hle (λq a b=>hF q oM b);obtain⟨nx,hnx⟩:=qq (bgF ns (AB ns p) en fol)
  have hbx:nx=BH ns p:=by
   rw[hnx];by_cases c:AB ns p<en
   ·have hd:=hS' c
    have hx:=hd.2.2.2.1 (AB ns p) (nR_ _) c hd.2.1;rw[zv9 c,wl2 hpl];rw[if_pos];refine⟨by omega,by rw[hd.2.1,h2],?_⟩;omega
   rw[zy2 c];exact(hF p (nR_ _) hp oM h2).symm
  rw[stE,if_pos hp,<-hnx,zg5 (x:=AB ns p) (by omega) hle,IH]
  congr 1
  by_cases hc:kdA ns p=7\/kdA ns p=8
  ·rw[if_pos hc]
   obtain⟨t1,t2,t3,t4,t5,t6⟩:=h.two hpl hc;have hH:=yw1 h hpl hc;obtain⟨a,ha⟩:=qq (AB ns (p+1));rw[<-ha]at t2 t3 t5 t6 hH ⊢;obtain⟨s,hs⟩:=qq (AB ns a);rw[<-hs]at t6 hH ⊢;have lpa:p+1<a:=by rw[ha];exact ze8
   have las:a<s:=by rw[hs];exact ze8
   have hel:AB ns p<=ns.length:=(ze6 hpl).2;have hal:a<ns.length:=oM;have hsl:s<=ns.length:=by rw[hs];exact(ze6 hal).2
   have hse:s<=AB ns p:=by rcases t6 with e | ⟨_,e,_⟩<;>omega
   obtain⟨bS,bK⟩:=h.block hal t5;rw[<-hs]at bS bK;obtain⟨bh,hbh⟩:=qq ((if kdA ns p=8 then ptF ns p else nx))
   have F1:=zD1 h f (a+1) s bh (AE ns a+1) bS oM oM (λq q1 q2 q3 q4=>by
    rw[hbh,hbx]
    exact yl1 h hc (by omega) t2 t3 (by omega) (by rw[<-hs];exact q2) q4 (by rw[<-hs];exact q3))
   have hch:chE ns p nx=[⟨ptF ns p,bgF ns (a+1) s bh,5,p+1,true,decide (kdA ns p=8)⟩,⟨ptF ns p,bgF ns (s+1) (AB ns p) nx,5,p+1,false,decide (kdA ns p=8)⟩]:=by unfold chE;rw[<-ha,<-hs,<-hbh]
   have hBG:BG ns a=bgF ns (a+1) s bh:=by rw[wp4 h hc (by omega) t2 t3,<-hs,hbh,hbx]
   rw[<-hbh,F1]
   have hpr:rgE ns p (a+1)=elR ns p:=by
    rw[zg5 (x:=p+1) (by omega) (by omega),zO0 (by omega),zl0 (p:=p+1),List.append_nil];intro r r1 r2;by_cases e:r=p+1
    ·rw[e];omega
    by_cases e2:r=a
    ·rw[e2,t5];omega
    have:=h.plain (p:=p+1) t1 (.inr t4) r (by omega) (by rw[<-ha];omega);omega
   rcases hH with ⟨e1,e2⟩ | ⟨e1,e2⟩
   ·have hE:elR ns p=chE ns p nx:=by
     unfold elR;rw[if_pos hc,hch,e2,zy2 (show ¬s+1<AB ns p by omega),hbx];simp[hBG,hbx]
    rw[zk8 (show ¬s+1<AB ns p by omega),List.append_nil,<-hE,<-hpr,<-e1];exact(zg5 oM oM).symm
   have hsl':s<ns.length:=oM
   obtain⟨k7,u2,u3,u4⟩:kdA ns p=7/\kdA ns s=9/\AE ns s=AE ns p+1/\AB ns s=AB ns p:=by
    rcases t6 with e | ⟨q1,q2,q3,q4,q5⟩
    ·omega
    exact⟨q1,q3,q4,q5⟩
   obtain⟨cS,cK⟩:=h.block hsl' u2;rw[u4]at cS cK
   have F2:=zD1 h f (s+1) (AB ns p) nx (AE ns s+1) cS oM oM (λq q1 q2 q3 q4=>by
    rw[hbx];have:=yl1 h hc (a:=s) (by omega) e1 u3 (by omega) (by rw[u4];exact q2) q4 (by rw[u4];exact q3);rw[if_neg (by omega)]at this
    exact this)
   have hBG2:BG ns s=bgF ns (s+1) (AB ns p) nx:=by have:=wp4 h hc (a:=s) oM e1 u3;rw[u4,if_neg (by omega),<-hbx]at this;exact this
   have hE:elR ns p=chE ns p nx:=by unfold elR;rw[if_pos hc,hch,e2];simp[hBG,hBG2]
   have hss:rgE ns s (s+1)=[]:=zl0 (λr r1 r2=>by rw[show r=s by omega,u2];omega);rw[F2,<-hE,<-hpr,zg5 (p:=p) (x:=a+1) (en:=AB ns p) (by omega) (by omega),zg5 (p:=a+1) (x:=s) (en:=AB ns p) (by omega) (by omega),zg5 (p:=s) (x:=s+1) (en:=AB ns p) (by omega) (by omega),hss];rfl
  rw[if_neg hc];have hin:∀q,p<q->q<AB ns p->10<=kdA ns q:=h.plain hpl (.inl oM);have hrest:rgE ns (p+1) (AB ns p)=[]:=zl0 (λr r1 r2=>by have:=hin r oM r2;omega);rw[zg5 (x:=p+1) (by omega) (by omega),hrest,List.append_nil];by_cases hk:2<=kdA ns p/\kdA ns p<=6
  ·rw[if_pos hk,zO0 ⟨hk.1,by omega⟩]
   unfold elR;rw[if_neg hc,hbx]
  rw[if_neg hk];exact(zl0 (λr r1 r2=>by rw[show r=p by omega];omega)).symm
theorem yC7(h:AM ns):elF ns=rgE ns 0 ns.length:=by
 refine zD1 h _ _ _ _ 1 h.whole oM (zL_ _) (λq _ q2 q3 q4=>?_);rw[wl2 q2,if_neg (by omega)];rcases zD0 h q2 with ⟨_,e⟩ | ⟨g,e,g1,g2,g3⟩
 ·rw[e,if_pos (by omega)]
 have:=h.dep (show g<ns.length by omega);omega
end
end Go.Proofs.YtpongdpnbclchaaGreatDoor
