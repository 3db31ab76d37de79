import Derived.Test.YthoegkcpmgalbaaGreatDoorKSf0
set_option maxHeartbeats 8000000
set_option linter.all false
set_option maxRecDepth 100000
namespace Go.Proofs.YthoegkcpmgalbaaGreatDoor
open Go.RowKit
variable{i p:Nat}{ns:List Nd}
def zp3(d k num op ps:Int)(s:ByteArray)(w:World) :
  Calls Tryz.prog 32 #[.agg #[nI d,nI k,.string s,nI num,nI op,nI ps]] w λe w'=>e=.returned (.bool (decide (2<=k)&&decide (k<=8)))/\Ok w w':=by
 by_cases J:2<=k
 ·by_cases K:k<=8
  ·have D:decide (2<=k)=true:=dT_ J
   have G:decide (k<=8)=true:=dT_ K;have I:Hi ((decide (2<=k)&&decide (k<=8))=true):=by unfold Hi;rw[D,G];rfl
   rw[I.o];go_enter Tryz.func32,Tryz.ntmps32;go_wp2_with fail;go_ret;exact⟨rfl,(Ok.refl w).alloc _⟩
  have D:decide (2<=k)=true:=dT_ J;have G:decide (k<=8)=false:=dF_ K;have I:Hi ((decide (2<=k)&&decide (k<=8))=false):=by unfold Hi;rw[D,G];rfl
  rw[I.o];go_enter Tryz.func32,Tryz.ntmps32;go_wp2_with fail;go_ret;exact⟨rfl,(Ok.refl w).alloc _⟩
 have D:decide (2<=k)=false:=dF_ J;have I:Hi ((decide (2<=k)&&decide (k<=8))=false):=by unfold Hi;rw[D];rfl
 rw[I.o];go_enter Tryz.func32,Tryz.ntmps32;go_wp2_with fail;go_ret;exact⟨rfl,(Ok.refl w).alloc _⟩
def zd2(v:Value)(ns:List Nd)(p:Nat)(w:World)(h:DF w v ns)(hl:ns.length<=1000000) :
  Calls Tryz.prog 31 #[v,nI (p:Nat)] w λe w'=>e=.returned (nI (ptF ns p:Nat))/\Ok w w':=by
 have HN:=hid h;obtain⟨_,ao,cap,rfl,_⟩:=h;obtain⟨r,d⟩:=qq (ptF ns p);have Y:Hi (r=ptF ns p):=d;rw[<-d];clear d;go_enter Tryz.func31,Tryz.ntmps31;go_wp2_with fail;go_loopw [5,6] (λn i wr=>∃k:Nat,n=nI (ptF ns k:Nat)/\i=nI (k:Nat)/\k<=p/\k<=ns.length/\Hi (Ok w wr)) (λ_ i _=>ns.length-(intOf i).toNat)
 case atStart=>exact⟨0,rfl,rfl,zL_ _,zL_ _,Ok.refl _⟩
 obtain⟨k,rfl,rfl,b0,b2,HK⟩:=hrel;by_cases W:k<p
 ·have G:(k:Int)<(p:Int):=za5 W
  have a1:decide ((k:Int)<(p:Int))=true:=dT_ G;have a5:decide (k<p)=true:=dT_ W;by_cases D:k<ns.length
  ·have R:(k:Int)<(ns.length:Int):=za5 D
   have a2:decide ((k:Int)<(ns.length:Int))=true:=dT_ R;have a4:decide (k<ns.length)=true:=dT_ D;obtain⟨n,hn⟩:∃n,ns[k]?=some n:=⟨_,gG_ D⟩;obtain⟨_,b1,a7,e1,_,_,hN⟩:=HN.o
   injection e1 with e1 e2 e3;clear e2
   subst e1 e3;obtain⟨b,o,rfl,N1⟩:=hN.resolve_left (λe=>by rw[e]at D;simp at D);have M1:=N1.below HK.o;obtain⟨c0,c1,c2,c3,c4,c5⟩:=M1.get hn;have lb:=M1.lt;have O:=zC2 hn;have a6:=zq9 ns k;obtain⟨q,L⟩:=qq (ptF ns k);rw[<-L]at O a6 ⊢;have a8:IntKind.i64.wrap ((q:Int)+1)=((q+1:Nat):Int):=zb3 oM;have a9:IntKind.i64.wrap ((k:Int)+1)=((k+1:Nat):Int):=zb3 oM;obtain⟨nd,Z,nm,nu,no,a3⟩:=n;simp only at c0 c1 c2 c3 c4 c5 O;have I:wg9 ⟨nd,Z,nm,nu,no,a3⟩=(decide (2<=Z)&&decide (Z<=8)):=rfl;rw[I]at O
   cases X:(decide (2<=Z)&&decide (Z<=8)) with
   | true =>
    have J:Hi (ptF ns (k+1)=q+1):=by unfold Hi;rw[O,X];rfl
    have HS:=hid X;clear O X I M1 N1 hN L hn
    go_wp2_with (first
     |(go_at_call 32;refine mq (zp3 _ _ _ _ _ _ _) λw1 d=>?_;have K:=hid (HK.o.step d);rw[HS.o];clear d)
     | fail)
    go_roundw
    case rel=>exact⟨k+1,by rw[J.o];rfl,rfl,W,D,K.o⟩
    case measure=>simp only[intOf,aO];omega
   | false =>
    have J:Hi (ptF ns (k+1)=q):=by unfold Hi;rw[O,X];rfl
    have HS:=hid X;clear O X I M1 N1 hN L hn
    go_wp2_with (first
     |(go_at_call 32;refine mq (zp3 _ _ _ _ _ _ _) λw1 d=>?_;have K:=hid (HK.o.step d);rw[HS.o];clear d)
     | fail)
    go_roundw
    case rel=>exact⟨k+1,by rw[J.o],rfl,W,D,K.o⟩
    case measure=>simp only[intOf,aO];omega
  have R:¬(k:Int)<(ns.length:Int):=zb2 D;have a2:decide ((k:Int)<(ns.length:Int))=false:=dF_ R;have a4:decide (k<ns.length)=false:=dF_ D
  have J:Hi (ptF ns k=r):=by unfold Hi;rw[Y.o];unfold ptF;rw[bE oM,bE oM]
  go_wp2_with fail;go_ret;exact⟨by rw[<-J.o];rfl,HK.o⟩
 have G:¬(k:Int)<(p:Int):=zb2 W;have a1:decide ((k:Int)<(p:Int))=false:=dF_ G;have a5:decide (k<p)=false:=dF_ W;have J:Hi (ptF ns k=r):=by unfold Hi;rw[Y.o,show k=p by omega]
 go_wp2_with fail;go_ret;exact⟨by rw[<-J.o];rfl,HK.o⟩
def zk9(v:Value)(ns:List Nd)(p:Nat)(w:World)(h:DF w v ns)(K:p<ns.length)(hl:ns.length<=1000000) :
  Calls Tryz.prog 87 #[v,nI (p:Nat)] w λe w'=>e=.returned (nI (AC ns p:Nat))/\Ok w w':=by
 obtain⟨_,ao,cap,rfl,_,_,D⟩:=h;obtain⟨b,o,rfl,d⟩:=D.resolve_left (λe=>by rw[e]at K;simp at K);have HN:=hid d;clear d D;obtain⟨en,d⟩:=qq (AC ns p);rw[<-d];have a2:IntKind.i64.wrap ((p:Int)+1)=((p+1:Nat):Int):=zb3 oM;have a4:(p:Int)<(ns.length:Int):=za5 K;have HE:Hi (en=p+1+FJ (AT ns p) (ns.drop (p+1))):=d;obtain⟨np,D⟩:∃n,ns[p]?=some n:=⟨_,gG_ K⟩;have HD:Hi (AT ns p=np.depth):=by unfold Hi AT;rw[D];rfl
 have a1:=hid D;clear D;have a5:=hid K;clear d;go_enter Tryz.func87,Tryz.ntmps87;go_wp2_with fail;go_loopw [5] (λt wr=>∃k:Nat,k<=ns.length/\t=nI (k:Nat)/\Hi (en=k+FJ (AT ns p) (ns.drop k))/\Hi (Ok w wr)) (λt _=>((ns.length:Int)-intOf t).toNat)
 case atStart=>exact⟨p+1,K,rfl,HE,Ok.refl _⟩
 obtain⟨k,hk,rfl,L,X⟩:=hrel;have I:=HN.o.below X.o;have a3:=I.lt;by_cases d:k<ns.length
 ·have O:(k:Int)<(ns.length:Int):=za5 d
  have R:decide (k<ns.length)=true:=dT_ d;have a6:IntKind.i64.wrap ((k:Int)+1)=((k+1:Nat):Int):=zb3 oM;obtain⟨nk,D⟩:∃n,ns[k]?=some n:=⟨_,gG_ d⟩;have c0:=(I.get D).1;have d0:=(I.get a1.o).1;have J:=L.o;rw[zI4 (AT ns p) D,HD.o]at J;have Z:=hid HD.o;clear D;generalize np.depth=dp at *;generalize nk.depth=dk at *;have G:=J;clear J;by_cases W:dp<dk
  ·have D:Hi (en=k+1+FJ (AT ns p) (ns.drop (k+1))):=by unfold Hi;rw[G,aG W,Z.o];omega
   clear G L I;have Y:decide (dp<dk)=true:=dT_ W;go_wp2_with fail;go_quiet (fail);go_wp2_with fail;go_roundw
   case rel=>exact⟨k+1,d,rfl,D,X.o.draws _⟩
   case measure=>exact we3 d
  have D:Hi (en=k):=by unfold Hi;rw[G,aC W];rfl
  clear G L I;have Y:decide (dp<dk)=false:=dF_ W;go_wp2_with fail;go_quiet (fail);go_wp2_with fail;go_ret;exact⟨by rw[D.o];rfl,X.o.draws _⟩
 have O:¬(k:Int)<(ns.length:Int):=zb2 d;have R:decide (k<ns.length)=false:=dF_ d
 have D:Hi (en=k):=by have J:=L.o;rw[cP oM]at J;exact J
 clear L I;go_wp2_with fail;go_quiet (fail);go_wp2_with fail;go_ret;exact⟨by rw[D.o];rfl,X.o.draws _⟩
def hdA(d:Int)(ns:List Nd):Nat->Int
 | 0 => -1
 | j+1=>if AT ns j<d then (j:Int) else hdA d ns j
def hdF(ns:List Nd)(i:Nat):Int:=hdA (AT ns i) ns i
def ze2(v:Value)(ns:List Nd)(p:Nat)(w:World)(h:DF w v ns)(J:p<ns.length)(hl:ns.length<=1000000) :
  Calls Tryz.prog 88 #[v,nI (p:Nat)] w λe w'=>e=.returned (nI (hdF ns p))/\Ok w w':=by
 obtain⟨_,ao,cap,rfl,_,_,D⟩:=h;obtain⟨b,o,rfl,d⟩:=D.resolve_left (λe=>by rw[e]at J;simp at J);have HN:=hid d;clear d D;obtain⟨r,d⟩:=qq (hdF ns p);rw[<-d];have HE:Hi (r=hdA (AT ns p) ns p):=d;have a2:(p:Int)<(ns.length:Int):=za5 J;obtain⟨np,D⟩:∃n,ns[p]?=some n:=⟨_,gG_ J⟩;have HD:Hi (AT ns p=np.depth):=by unfold Hi AT;rw[D];rfl
 have X:=hid D;have I:IntKind.i64.wrap ((p:Int)-1)=(p:Int)-1:=by rw[IntKind.wrap_i64];omega
 have G:wrap64 ((p:Int)-1)=(p:Int)-1:=by unfold wrap64;omega
 clear D d;have a3:Hi (p<ns.length/\ns.length<=1000000):=⟨J,hl⟩;go_enter Tryz.func88,Tryz.ntmps88;go_wp2_with fail;clear I G;go_loopw [5] (λt wr=>∃k:Nat,t=nI ((k:Int)-1)/\k<=p/\Hi (r=hdA (AT ns p) ns k)/\Hi (Ok w wr)) (λt _=>(intOf t+1).toNat)
 case atStart=>exact⟨p,rfl,nR_ _,HE.o,Ok.refl _⟩
 obtain⟨k,rfl,hk,O,R⟩:=hrel;have G:=HN.o.below R.o;have lb:=G.lt
 cases k with
 | zero =>
  have e:((0:Nat):Int)-1 = -1:=oM;rw[e];have I:=hid O.o;clear O G;go_wp2_with fail;go_ret;exact⟨by rw[I.o];rfl,R.o⟩
 | succ k =>
  have e:((k+1:Nat):Int)-1=(k:Int):=oM;rw[e];have L:k<ns.length:=oM;have a1:(k:Int)<(ns.length:Int):=za5 L;have a4:(0:Int)<=(k:Int):=oM;obtain⟨Y,D⟩:∃n,ns[k]?=some n:=⟨_,gG_ L⟩;have c0:=(G.get D).1;have d0:=(G.get X.o).1;have K:AT ns k=Y.depth:=by unfold AT;rw[D];rfl
  have d:=O.o;rw[hdA,K,HD.o]at d;have W:=hid HD.o;clear D K O;generalize np.depth=dp at *;generalize Y.depth=dk at *;have a5:IntKind.i64.wrap ((k:Int)-1)=(k:Int)-1:=by rw[IntKind.wrap_i64];omega
  have Z:wrap64 ((k:Int)-1)=(k:Int)-1:=by unfold wrap64;omega
  by_cases D:dk<dp
  ·have I:Hi (r=(k:Int)):=by unfold Hi;rw[d,aG D]
   have K:decide (dk<dp)=true:=dT_ D;clear d G;go_wp2_with fail;go_quiet (fail);go_wp2_with fail;go_ret;exact⟨by rw[I.o];rfl,R.o.draws _⟩
  have I:Hi (r=hdA (AT ns p) ns k):=by unfold Hi;rw[d,aC D,W.o]
  have K:decide (dk<dp)=false:=dF_ D;clear d G;go_wp2_with fail;go_quiet (fail);go_wp2_with fail;go_roundw
  case rel=>exact⟨k,rfl,oM,I.o,R.o.draws _⟩
  case measure=>simp only[intOf];omega
def wh0(ns:List Nd)(en:Nat):Nat->Nat->List Nat
 | 0,_=>[]
 | f+1,j=>if j<en then j::wh0 ns en f (AC ns j) else []
def hlF(ns:List Nd)(p:Nat):List Nat:=wh0 ns (AC ns p) (ns.length+2) (p+1)
def inL(l:List Nat):List Value:=l.map λj=>nI (j:Nat)
def wi2(ns:List Nd)(p:Nat)(l:List Nat)(j:Nat):Prop:=∃f,ns.length+1-j<=f/\hlF ns p=l++wh0 ns (AC ns p) f j
def wi2.step{j:Nat}{l:List Nat}(h:wi2 ns p l j)(D:j<AC ns p)(G:j<ns.length):wi2 ns p (l++[j]) (AC ns j):=by
 obtain⟨f,I,e⟩:=h;obtain⟨d,rfl⟩:∃d,f=d+1:=⟨f-1,oM⟩;have o:j<AC ns j:=by unfold AC;omega
 refine⟨d,oM,?_⟩;rw[e,wh0,aG D,bN];rfl
def wi2.fin{j:Nat}{l:List Nat}(h:wi2 ns p l j)(d:¬j<AC ns p):hlF ns p=l:=by
 obtain⟨f,_,e⟩:=h;rw[e]
 cases f with
 | zero=>rw[wh0,bD]
 | succ f=>rw[wh0,aC d,bD]
def zw0(v:Value)(ns:List Nd)(p:Nat)(w:World)(h:DF w v ns)(D:p<ns.length)(J:ns.length<=1000) :
  Calls Tryz.prog 53 #[v,nI (p:Nat)] w λe w'=>∃v',e=.returned v'/\w'.ownsRow w.heap.size 3 1 v' (hlF ns p).length (inL (hlF ns p))/\Ok w w':=by
 have HN:=hid h;have L:Hi (p<ns.length/\ns.length<=1000):=⟨D,J⟩;obtain⟨_,ao,cap,rfl,_⟩:=h;obtain⟨en,d⟩:=qq (AC ns p);have G:Hi (en=AC ns p/\en<=ns.length):=⟨d,by rw[d];exact(ze6 D).2⟩;have a7:IntKind.i64.wrap ((p:Int)+1)=((p+1:Nat):Int):=zb3 oM;obtain⟨B,I⟩:=qq (w.heap.size);have HB:Hi (B=w.heap.size):=I;clear d D J I;go_enter Tryz.func53,Tryz.ntmps53;go_wp2_with fail;go_loopw [5,6] (λt i wr=>∃(j:Nat) (l:List Nat) (vv:Value),t=vv/\i=nI (j:Nat)/\j<=ns.length+1/\p+1<=j/\Hi (wr.ownsRow B 3 1 vv l.length (inL l))/\Hi (wi2 ns p l j/\l.length+(p+1)<=j)/\Hi (Ok w wr)) (λ_ i _=>ns.length+1-(intOf i).toNat)
 case atStart=>exact⟨p+1,[],sZ,rfl,rfl,oH L.o,aK _,World.ownsRow_nil _ _ _ _,⟨⟨ns.length+2,oM,rfl⟩,by simp⟩,Ok.refl _⟩
 obtain⟨j,l,vv,rfl,rfl,a9,a8,HO,HS,HK⟩:=hrel;obtain⟨vo,vc,a6⟩:=za0 HO.o;subst a6;by_cases K:j<en
 ·have a2:(j:Int)<(en:Int):=za5 K
  have Y:j<ns.length:=oH G.o
  obtain⟨nx,D⟩:=qq (AC ns j);have d:Hi (nx=AC ns j/\j<nx/\nx<=ns.length):=⟨D,by rw[D];exact(ze6 Y).1,by rw[D];exact(ze6 Y).2⟩;have R:Hi (j<ns.length/\j<en):=⟨Y,K⟩;obtain⟨q,I⟩:=qq (l.length);have HQ:Hi (q=l.length/\q<=1000):=⟨I,by rw[I];have X:=HS.o.2;have h2:=L.o;omega⟩;rw[<-I];have Z:Hi (wr.ownsRow B 3 1 (.slice vo q vc) q (inL l)):=by rw[I];exact HO.o
  have J:Hi (∀W,Ok w W->DF W (.slice ao ns.length cap) ns):=λW hW=>HN.o.below hW;clear D I HO
  go_wp2_with (first
   |(go_at_call_of 87 ((p:Int));refine mq (zk9 _ ns p _ (J.o _ HK.o) L.o.1 (oH L.o)) λw1 I=>?_;have D:=hid I;rw[<-G.o.1];clear I)
   |(at_builtin;refine ze4 rfl _ _ 28 3 1 8 _ rfl Tryz.underlying28 wo2 (by rfl) (by decide) (by decide) B (.slice vo q vc) q (inL l) (by rfl) (World.ownsRow.alloc (za1 Z.o D.o) _) (.slice (sA w1.heap.size 0) 1 1) 1 [nI (j:Nat)] (by rfl) (SL.one _ _ _ (by rfl) (by simp[Value.oneCell'])) (oH HQ.o) (by have X:=HB.o;have h2:=HK.o.le;have h3:=D.o.le;simp;omega) ?_;intro v' w2 k1 k2;have a1:Hi (Ok w w2):=((HK.o.step D.o).alloc _).grown k2 (λb e=>by have X:=(Z.o.lt b e).1;have h2:=HB.o;omega);have a5:=hid k1;obtain⟨xo,xc,rfl⟩:=za0 k1;clear k1 k2)
   |(go_at_call_of 87 ((j:Int));refine mq (zk9 _ ns j _ (J.o _ a1.o) R.o.1 (oH L.o)) λw3 O=>?_;have a4:=hid (a1.o.step O);have a3:=hid (za1 a5.o O);rw[<-d.o.1];clear O)
   | fail)
  go_roundw
  case rel=>exact⟨nx,l++[j],_,rfl,rfl,oH d.o,oH d.o,by have X:=a3.o;rw[HQ.o.1]at X;unfold Hi inL;rw[aA,dB];rw[HQ.o.1];exact X,⟨by rw[d.o.1];exact HS.o.1.step (by rw[<-G.o.1];exact R.o.2) R.o.1,by have X:=HS.o.2;have h2:=d.o;rw[aA];simp only[aR,cM];omega⟩,a4.o⟩
  case measure=>have X:=d.o;simp only[intOf,aO];omega
 have a2:¬(j:Int)<(en:Int):=zb2 K;have d:Hi (hlF ns p=l):=HS.o.1.fin (by rw[<-G.o.1];exact K);have J:Hi (∀W,Ok w W->DF W (.slice ao ns.length cap) ns):=λW hW=>HN.o.below hW
 go_wp2_with (first
  |(go_at_call 87;refine mq (zk9 _ ns p _ (J.o _ HK.o) L.o.1 (oH L.o)) λw1 I=>?_;have D:=hid I;rw[<-G.o.1];clear I)
  | fail)
 go_ret;exact⟨_,rfl,by rw[d.o,<-HB.o];exact za1 HO.o D.o,HK.o.step D.o⟩
def zr7(d:Int)(ns:List Nd):∀j,(hdA d ns j = -1/\∀x,x<j->d<=AT ns x)\/(∃g:Nat,hdA d ns j=g/\g<j/\AT ns g<d/\∀x,g<x->x<j->d<=AT ns x)
 | 0=>.inl ⟨rfl,λx h=>oM⟩
 | j+1=>by
  rw[hdA];by_cases c:AT ns j<d
  ·rw[aG c]
   exact .inr ⟨j,rfl,oM,c,λx J G=>oM⟩
  rw[aC c];rcases zr7 d ns j with ⟨e,h⟩ | ⟨g,e,J,G,K⟩
  ·refine .inl ⟨e,λx D=>?_⟩
   by_cases o:x=j
   ·rw[o];omega
   exact h x oM
  refine .inr ⟨g,e,oM,G,λx D I=>?_⟩;by_cases o:x=j
  ·rw[o];omega
  exact K x D oM
def zD0(h:FX ns)(O:i<ns.length):(AT ns i=1/\hdF ns i = -1)\/(∃g:Nat,hdF ns i=g/\g<i/\AT ns i=AT ns g+1/\i<AC ns g):=by
 have I:AT ns 0=1:=by rw[zc4 (aJ (show 0<ns.length by omega))];exact h.shp.first oM
 have W:=h.dep O;rcases zr7 (AT ns i) ns i with ⟨e,K⟩ | ⟨g,e,L,Y,G⟩
 ·refine .inl ⟨?_,e⟩
  by_cases c:i=0
  ·rw[c];exact I
  have:=K 0 oM;omega
 have X:g<ns.length:=oM;have o:=h.step (p:=g) oM
 have D:AT ns i=AT ns g+1:=by
  by_cases c:g+1=i
  ·rw[c]at o;omega
  have:=G (g+1) oM oM;omega
 refine .inr ⟨g,e,L,D,?_⟩;rcases cC i (AC ns g) with c | c
 ·exact c
 exfalso;have d:=ze8 (ns:=ns) (p:=g);have J:=zf5 (ns:=ns) (p:=g) oM;by_cases R:AC ns g=i
 ·rw[R]at J;omega
 have:=G (AC ns g) d oM;omega
def wj8(h:FX ns){g:Nat}(D:g<i)(o:i<AC ns g)(O:AT ns i=AT ns g+1):hdF ns i=(g:Int):=by
 have G:=(zc1 D o).2;have I:=h.dep (show g<ns.length by omega);rcases zD0 h G with ⟨e,_⟩ | ⟨d,e,L,J,K⟩
 ·omega
 rcases eU g d with c | c | c
 ·have:=(zc1 (ns:=ns) (p:=g) (q:=d) c oM).1;omega
 ·rw[c];exact e
 have:=(zc1 (ns:=ns) (p:=d) (q:=g) c oM).1;omega
def yu9{k c:Nat}(d:k<16)(h:DB k c=2):k=9:=by
 by_cases e:k=9
 ·exact e
 exfalso;have:∀j:Fin 16,(j:Nat)≠9->rH0 j≠2/\rH1 j≠2/\rH2 j≠2:=by decide
 have:=this ⟨k,d⟩ e;unfold DB at h;rw[aC e]at h
 split at h
 ·exact this.1 h
 split at h
 ·exact this.2.1 h
 split at h
 ·exact this.2.2 h
 omega
def zX3{k c:Nat}(d:k<16)(h:DB k c=3):k=7\/k=8:=by
 have:∀j:Fin 16,(rH0 j=3\/rH1 j=3\/rH2 j=3)->(j:Nat)=7\/(j:Nat)=8:=by decide
 refine this ⟨k,d⟩ ?_;unfold DB at h
 split at h
 ·omega
 split at h
 ·exact .inl h
 split at h
 ·exact .inr (.inl h)
 split at h
 ·exact .inr (.inr h)
 omega
def yC6(h:FX ns)(J:i<ns.length)(hk:2<=kdA ns i/\kdA ns i<=8):hdF ns i = -1\/∃a g:Nat,hdF ns i=a/\a<i/\i<AC ns a/\kdA ns a=9/\AT ns i=AT ns a+1/\hdF ns a=g/\g<a/\a<AC ns g/\AT ns a=AT ns g+1/\(kdA ns g=7\/kdA ns g=8):=by
 rcases zD0 h J with ⟨_,e⟩ | ⟨a,e,O,L,X⟩
 ·exact .inl e
 have d:a<ns.length:=oM;obtain⟨c,I⟩:=h.kid O X L;have k1:=h.kd J;have k2:=h.kd d;have Z:=(zm7 (k:=(kdA ns i).toNat) oM).2.1.2 oM;rw[Z]at I;have h9:=yu9 oM I.symm;have G:kdA ns a=9:=oM;rcases zD0 h d with ⟨D,_⟩ | ⟨g,D,W,K,R⟩
 ·exfalso
  have ht:=h.top ns[a] (cB d) (by rw[<-zc4 (aJ d)];exact D);rw[<-ze1 (aJ d),G]at ht
  rcases ht with ht | ht<;>exact absurd ht dC
 obtain⟨Y,o⟩:=h.kid W R K;have k3:=h.kd (show g<ns.length by omega);rw[G]at o;have h7:=zX3 oM (show DB (kdA ns g).toNat Y=3 from o.symm);exact .inr ⟨a,g,e,O,X,G,L,D,W,R,K,oM⟩
def bhF(ns:List Nd):Nat->Nat->Nat
 | 0,_=>0
 | f+1,i =>
  if AC ns i<ns.length/\AT ns (AC ns i)=AT ns i/\kdA ns (AC ns i)≠9 then ptF ns (AC ns i)
  else if hdF ns i<0 then ptF ns ns.length
  else if kdA ns (hdF ns (hdF ns i).toNat).toNat=8 then ptF ns (hdF ns (hdF ns i).toNat).toNat
  else bhF ns f (hdF ns (hdF ns i).toNat).toNat
def bgR(ns:List Nd)(f i:Nat):Nat :=
 if i+1<ns.length/\AT ns (i+1)=AT ns i+1 then ptF ns (i+1)
 else if kdA ns (hdF ns i).toNat=8 then ptF ns (hdF ns i).toNat else bhF ns f (hdF ns i).toNat
def wq7(h:¬hdF ns i<0):(hdF ns (hdF ns i).toNat).toNat<i:=by
 rcases zr7 (AT ns i) ns i with ⟨e,_⟩ | ⟨g,e,I,_⟩
 ·exfalso;unfold hdF at h;omega
 have o:hdF ns i=g:=e;rw[o,aO];rcases zr7 (AT ns g) ns g with ⟨d,_⟩ | ⟨D,d,G,_⟩
 ·have:hdF ns g = -1:=d
  rw[this];show 0<i;omega
 have:hdF ns g=D:=d;rw[this,aO];omega
def yv0:∀(i f f':Nat),i<f->i<f'->bhF ns f i=bhF ns f' i:=by
 intro i
 induction i using Nat.strongRecOn with
 | ind i ih =>
  intro f f' d o;obtain⟨f,rfl⟩:∃g,f=g+1:=⟨f-1,oM⟩;obtain⟨f',rfl⟩:∃g,f'=g+1:=⟨f'-1,oM⟩;rw[bhF,bhF]
  split
  ·rfl
  split
  ·rfl
  next hn =>
  split
  ·rfl
  have:=wq7 hn;exact ih _ this _ _ oM oM
def BH(ns:List Nd)(i:Nat):Nat:=bhF ns (ns.length+1) i
def BG(ns:List Nd)(i:Nat):Nat:=bgR ns (ns.length+1) i
def wl8(hi:i<ns.length):BH ns i=if AC ns i<ns.length/\AT ns (AC ns i)=AT ns i/\kdA ns (AC ns i)≠9 then ptF ns (AC ns i) else if hdF ns i<0 then ptF ns ns.length else if kdA ns (hdF ns (hdF ns i).toNat).toNat=8 then ptF ns (hdF ns (hdF ns i).toNat).toNat else BH ns (hdF ns (hdF ns i).toNat).toNat:=by
 unfold BH;rw[bhF]
 split
 ·rfl
 split
 ·rfl
 next hn =>
 split
 ·rfl
 have:=wq7 hn;exact yv0 _ _ _ oM oM
def elR(ns:List Nd)(i:Nat):List Ed :=
 if kdA ns i=7\/kdA ns i=8 then
  [⟨ptF ns i,BG ns ((hlF ns i).getD 1 0),5,((hlF ns i).getD 0 0:Nat),true,decide (kdA ns i=8)⟩,
  ⟨ptF ns i,(if (hlF ns i).length=3 then BG ns ((hlF ns i).getD 2 0) else BH ns i:Nat),5,((hlF ns i).getD 0 0:Nat),false,decide (kdA ns i=8)⟩]
 else [⟨ptF ns i,BH ns i,kdA ns i-2,i,false,false⟩]
def stR(ns:List Nd)(i:Nat):List Ed:=if 2<=kdA ns i/\kdA ns i<=8 then elR ns i else []
def rng(ns:List Nd)(p:Nat):Nat->List Ed
 | 0=>[]
 | k+1=>rng ns p k++stR ns (p+k)
def yl0(ns:List Nd)(p x:Nat):∀y,rng ns p (x+y)=rng ns p x++rng ns (p+x) y
 | 0=>by rw[iT,rng,bD]
 | y+1=>by show rng ns p (x+y)++stR ns (p+(x+y))=_;rw[yl0 ns p x y,rng,bN,dP]
def rgE(ns:List Nd)(p en:Nat):List Ed:=rng ns p (en-p)
def zg5{x en:Nat}(d:p<=x)(o:x<=en):rgE ns p en=rgE ns p x++rgE ns x en:=by unfold rgE;rw[show en-p=(x-p)+(en-x) by omega,yl0,show p+(x-p)=x by omega]
def zS2:∀k,(∀r,p<=r->r<p+k->¬(2<=kdA ns r/\kdA ns r<=8))->rng ns p k=[]
 | 0,_=>rfl
 | k+1,h=>by rw[rng,zS2 k (λr d o=>h r d oM),stR,aC (h (p+k) oM oM)];rfl
def zl0{en:Nat}(h:∀r,p<=r->r<en->¬(2<=kdA ns r/\kdA ns r<=8)):rgE ns p en=[]:=zS2 _ (λr d o=>h r d oM)
def zO0(h:2<=kdA ns p/\kdA ns p<=8):rgE ns p (p+1)=elR ns p:=by unfold rgE;rw[iD,rng,rng,cV,iT,stR,aG h]
def yw1(h:FX ns)(d:p<ns.length)(I:kdA ns p=7\/kdA ns p=8) :
  (AC ns (AC ns (p+1))=AC ns p/\hlF ns p=[p+1,AC ns (p+1)])\/(AC ns (AC ns (p+1))<AC ns p/\hlF ns p=[p+1,AC ns (p+1),AC ns (AC ns (p+1))]):=by
 obtain⟨R,K,W,L,O,G⟩:=h.two d I;have o:=ze8 (ns:=ns) (p:=p+1);have D:=(ze6 d).2;unfold hlF;obtain⟨f,J⟩:∃f,ns.length+2=f+1+1+1+1:=⟨ns.length-2,oM⟩;rw[J,wh0,aG oM,wh0,aG K];rcases G with e | ⟨_,e1,_,_,e4⟩
 ·left
  refine⟨e,?_⟩;rw[wh0,aC oM]
 right;refine⟨e1,?_⟩;rw[wh0,aG e1,wh0,aC oM]
def wq8(h:FX ns){a:Nat}(L:kdA ns p=7\/kdA ns p=8)(o:p<a)(d:a<AC ns p)(I:AT ns a=AT ns p+1):BG ns a=bgF ns (a+1) (AC ns a) (if kdA ns p=8 then ptF ns p else BH ns p):=by
 have G:=(zc1 o d).2;unfold BG bgR;rw[wj8 h o d I,aO];by_cases c:a+1<AC ns a
 ·have D:=zc1 (ns:=ns) (p:=a) (q:=a+1) oM c
  have J:=h.step D.2;rw[aG ⟨D.2,oM⟩,zv9 c]
 have D:=ze8 (ns:=ns) (p:=a);rw[aC,zy2 c]
 ·rfl
 rintro⟨K,J⟩;have e:AC ns a=a+1:=oM;have:=zf5 (ns:=ns) (p:=a) oM;rw[e]at this;omega
def yl1(h:FX ns){a q:Nat}(W:kdA ns p=7\/kdA ns p=8)(K:p<a)(J:a<AC ns p)(R:AT ns a=AT ns p+1)(D:a<q)(o:q<AC ns a)(O:AT ns q=AT ns a+1)(I:AC ns q=AC ns a):BH ns q=if kdA ns p=8 then ptF ns p else BH ns p:=by have d:=(zc1 D o).2;rw[wl8 d,aC,wj8 h D o O,aC oM,aO,wj8 h K J R,aO];rintro⟨G,L,_⟩;rw[I]at G L;have:=zf5 (ns:=ns) (p:=a) G;omega
def zD1(h:FX ns):∀(f p en o:Nat) (D:Int),wa5 ns D p en->ns.length+2-p<=f->p<=en->(∀q,p<=q->q<en->AC ns q=en->AT ns q=D->BH ns q=o)->stE ns f p en o=rgE ns p en
 | 0,p,en,o,D,hS,hf,hpe,_=>by
  by_cases J:p<en
  ·have:=(hS J).1;omega
  have e:p=en:=oM;subst e;rw[zk8 J,zl0 (λr h1 X=>oM)]
 | f+1,p,en,o,D,hS,hf,hpe,hF=>by
  by_cases J:p<en;rotate_left
  ·have e:p=en:=oM
   subst e;rw[zk8 J,zl0 (λr h1 X=>oM)]
  obtain⟨h1,X,h3,h4,h5⟩:=hS J;obtain⟨a6,R⟩:=hS.next J;have G:p<ns.length:=oM;have a9:=ze8 (ns:=ns) (p:=p);have k8:=h4 p (nR_ _) J X;have b3:=h.kd G;have IH:=zD1 h f (AC ns p) en o D R oM a6 (λq a b=>hF q oM b);obtain⟨L,a2⟩:=qq (bgF ns (AC ns p) en o)
  have d:L=BH ns p:=by
   rw[a2];by_cases c:AC ns p<en
   ·have I:=R c
    have K:=I.2.2.2.1 (AC ns p) (nR_ _) c I.2.1;rw[zv9 c,wl8 G];rw[aG];refine⟨oM,by rw[I.2.1,X],?_⟩;omega
   rw[zy2 c];exact(hF p (nR_ _) J oM X).symm
  rw[stE,aG J,<-a2,zg5 (x:=AC ns p) oM a6,IH]
  congr 1
  by_cases I:kdA ns p=7\/kdA ns p=8
  ·rw[aG I]
   obtain⟨t1,t2,t3,t4,t5,t6⟩:=h.two G I;have hH:=yw1 h G I;obtain⟨a,ha⟩:=qq (AC ns (p+1));rw[<-ha]at t2 t3 t5 t6 hH ⊢;obtain⟨s,O⟩:=qq (AC ns a);rw[<-O]at t6 hH ⊢;have b0:p+1<a:=by rw[ha];exact ze8
   have b4:a<s:=by rw[O];exact ze8
   have b1:AC ns p<=ns.length:=(ze6 G).2;have a4:a<ns.length:=oM;have b2:s<=ns.length:=by rw[O];exact(ze6 a4).2
   have a8:s<=AC ns p:=by rcases t6 with e | ⟨_,e,_⟩<;>omega
   obtain⟨bS,bK⟩:=h.block a4 t5;rw[<-O]at bS bK;obtain⟨bh,K⟩:=qq ((if kdA ns p=8 then ptF ns p else L))
   have F1:=zD1 h f (a+1) s bh (AT ns a+1) bS oM oM (λq q1 q2 q3 q4=>by
    rw[K,d]
    exact yl1 h I oM t2 t3 oM (by rw[<-O];exact q2) q4 (by rw[<-O];exact q3))
   have a1:chE ns p L=[⟨ptF ns p,bgF ns (a+1) s bh,5,p+1,true,decide (kdA ns p=8)⟩,⟨ptF ns p,bgF ns (s+1) (AC ns p) L,5,p+1,false,decide (kdA ns p=8)⟩]:=by unfold chE;rw[<-ha,<-O,<-K]
   have W:BG ns a=bgF ns (a+1) s bh:=by rw[wq8 h I oM t2 t3,<-O,K,d]
   rw[<-K,F1]
   have a5:rgE ns p (a+1)=elR ns p:=by
    rw[zg5 (x:=p+1) oM oM,zO0 oM,zl0 (p:=p+1),bD];intro r r1 r2;by_cases e:r=p+1
    ·rw[e];omega
    by_cases Z:r=a
    ·rw[Z,t5];omega
    have:=h.plain (p:=p+1) t1 (.inr t4) r oM (by rw[<-ha];omega);omega
   rcases hH with ⟨e1,Z⟩ | ⟨e1,Z⟩
   ·have hE:elR ns p=chE ns p L:=by
     unfold elR;rw[aG I,a1,Z,zy2 (show ¬s+1<AC ns p by omega),d];simp[W,d]
    rw[zk8 (show ¬s+1<AC ns p by omega),bD,<-hE,<-a5,<-e1];exact(zg5 oM oM).symm
   have a3:s<ns.length:=oM
   obtain⟨k7,u2,u3,u4⟩:kdA ns p=7/\kdA ns s=9/\AT ns s=AT ns p+1/\AC ns s=AC ns p:=by
    rcases t6 with e | ⟨q1,q2,q3,q4,q5⟩
    ·omega
    exact⟨q1,q3,q4,q5⟩
   obtain⟨cS,cK⟩:=h.block a3 u2;rw[u4]at cS cK
   have F2:=zD1 h f (s+1) (AC ns p) L (AT ns s+1) cS oM oM (λq q1 q2 q3 q4=>by
    rw[d];have:=yl1 h I (a:=s) oM e1 u3 oM (by rw[u4];exact q2) q4 (by rw[u4];exact q3);rw[aC oM]at this
    exact this)
   have Y:BG ns s=bgF ns (s+1) (AC ns p) L:=by have:=wq8 h I (a:=s) oM e1 u3;rw[u4,aC oM,<-d]at this;exact this
   have hE:elR ns p=chE ns p L:=by unfold elR;rw[aG I,a1,Z];simp[W,Y]
   have a7:rgE ns s (s+1)=[]:=zl0 (λr r1 r2=>by rw[show r=s by omega,u2];omega);rw[F2,<-hE,<-a5,zg5 (p:=p) (x:=a+1) (en:=AC ns p) oM oM,zg5 (p:=a+1) (x:=s) (en:=AC ns p) oM oM,zg5 (p:=s) (x:=s+1) (en:=AC ns p) oM oM,a7];rfl
  rw[aC I];have W:∀q,p<q->q<AC ns p->10<=kdA ns q:=h.plain G (.inl oM);have K:rgE ns (p+1) (AC ns p)=[]:=zl0 (λr r1 r2=>by have:=W r oM r2;omega);rw[zg5 (x:=p+1) oM oM,K,bD];by_cases O:2<=kdA ns p/\kdA ns p<=6
  ·rw[aG O,zO0 ⟨O.1,oM⟩]
   unfold elR;rw[aC I,d]
  rw[aC O];exact(zl0 (λr r1 r2=>by rw[show r=p by omega];omega)).symm
def yC7(h:FX ns):elF ns=rgE ns 0 ns.length:=by
 refine zD1 h _ _ _ _ 1 h.whole oM (zL_ _) (λq _ d D G=>?_);rw[wl8 d,aC oM];rcases zD0 h d with ⟨_,e⟩ | ⟨g,e,o,J,I⟩
 ·rw[e,aG oM]
 have:=h.dep (show g<ns.length by omega);omega
end Go.Proofs.YthoegkcpmgalbaaGreatDoor
