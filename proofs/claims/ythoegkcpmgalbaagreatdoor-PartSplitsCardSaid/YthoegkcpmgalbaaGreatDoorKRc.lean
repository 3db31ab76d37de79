import Derived.Test.YthoegkcpmgalbaaGreatDoorKQe
set_option linter.all false
namespace Go.Proofs.YthoegkcpmgalbaaGreatDoor
open Go.RowKit
variable{A k p q x y z:Nat}{d:Int}{ns:List Nd}
def FY(k:Nat)(d:Int):Nat->List Nd->Prop
 | c,[]=>FB k<=c
 | c,n::r=>if n.depth<=d then FB k<=c else if n.depth=d+1 then BK n.kind.toNat=DB k c/\FY k d (c+1) r else FY k d c r
def yk9:∀(l:List Nd) (i:Nat) (o:List AW) (g:Bool),(FD l i o g).1=0 ->
  (∀(j:Nat) (h:j<o.length),FY o[j].1 ((j:Int)+1) o[j].2 l)/\(∀(p:Nat) (n:Nd),l[p]?=some n->FY n.kind.toNat n.depth 0 (l.drop (p+1)))/\(∀n∈l,n.depth=1->BK n.kind.toNat=1\/BK n.kind.toNat=2)
 | [],i,o,g,h=>by
  rw[FD]at h
  have D:CS o=false:=by
   cases e:CS o with
   | false=>rfl
   | true=>rw[e]at h;simp at h
  refine⟨λj R=>?_,λp n G=>by simp at G,λn I=>by cases I⟩;unfold CS at D;rw[List.any_eq_false]at D;have:=D o[j] (cB R);simp only[bV]at this;show FB _<=_;omega
 | n::l,i,o,g,h=>by
  rw[FD]at h;by_cases Y:ES n=false
  ·rw[aG Y]at h;simp at h
  rw[aC Y]at h;by_cases O:DZ o g n.depth n.kind.toNat=false
  ·rw[aG O]at h;simp at h
  rw[aC O]at h;by_cases h3:24<n.depth
  ·rw[aG h3]at h;simp at h
  rw[aC h3]at h;obtain⟨K,a2,a3⟩:=yk9 l (i+1) _ _ h;obtain⟨⟨b1,b2⟩,L,D⟩:=zj2.1 (by simpa using O);obtain⟨m,X⟩:∃m:Nat,n.depth=(m:Int)+1:=⟨(n.depth-1).toNat,oM⟩;have e1:(n.depth-1).toNat=m:=oM;rw[e1]at K L D;have a4:m<=o.length:=oM
  have J:FY n.kind.toNat n.depth 0 l:=by
   cases m with
   | zero =>
    have:=K 0 (by unfold AO;simp);simp only[AO,dD,List.getElem_cons_zero]at this;rw[X];simpa using this
   | succ m =>
    have hl:=ya2 o m n.kind.toNat oM;have:=K (m+1) oM;rw[ya4 o m n.kind.toNat oM oM]at this;rw[X];simpa using this
  refine⟨λj R=>?_,λp x G=>?_,λx hx=>?_⟩
  ·show FY _ _ _ (n::l)
   rw[FY];by_cases Z:n.depth<=(j:Int)+1
   ·rw[aG Z]
    unfold CS at L;rw[List.any_eq_false]at L
    have:=L o[j] (by
     rw[eY];refine⟨j-m,by rw[cW];omega,?_⟩;rw[List.getElem_drop]
     congr 1
     omega)
    simp only[bV]at this;omega
   rw[aC Z];obtain⟨I,rfl⟩:∃I,m=I+1:=⟨m-1,oM⟩;have hl:=ya2 o I n.kind.toNat oM;by_cases W:n.depth=(j:Int)+1+1
   ·rw[aG W]
    have ej:j=I:=oM;subst ej;have:=K j oM;rw[ya3 o j n.kind.toNat oM oM]at this;refine⟨?_,this⟩;unfold DA at D;rw[aC oM]at D
    have e:o.getD (j+1-1) (0,0)=o[j]:=by rw[bT,dA,aJ R];rfl
    rw[e]at D;exact(by simpa using D:DB o[j].1 o[j].2=BK n.kind.toNat).symm
   rw[aC W];have:=K j oM;rw[wp9 o I n.kind.toNat j oM oM oM]at this;exact this
  ·cases p with
   | zero=>simp at G;subst G;exact J
   | succ p=>rw[bF]at G;rw[bI];exact a2 p x G
  rcases bJ.1 hx with rfl | hx
  ·intro I
   have:m=0:=oM;subst this;unfold DA at D;rw[aG rfl]at D;simp only[cR,bZ,bM]at D;rcases D with h | h
   ·exact .inr h
   exact .inl h.1
  exact a3 x hx
def zN7:∀{l:List Nd} {c i:Nat} {n:Nd},FY k d c l->l[i]?=some n->(∀(j:Nat) (m:Nd),j<i->l[j]?=some m->d<m.depth)->n.depth=d+1->∃D,c<=D/\BK n.kind.toNat=DB k D
 | [],c,i,n,h,hi,_,_=>by simp at hi
 | x::r,c,0,n,h,hi,_,hd=>by simp at hi;subst hi;rw[FY,aC oM,aG hd]at h;exact⟨c,nR_ _,h.1⟩
 | x::r,c,i+1,n,h,hi,hj,hd=>by
  have J:=hj 0 x oM rfl;rw[FY,aC oM]at h;rw[bF]at hi;have o:∀(j:Nat) (m:Nd),j<i->r[j]?=some m->d<m.depth:=λj m I G=>hj (j+1) m oM (by rw[bF];exact G)
  split at h
  ·obtain⟨D,I,G⟩:=zN7 h.2 hi o hd
   exact⟨D,oM,G⟩
  exact zN7 h hi o hd
def zI6:∀{l:List Nd} {c m:Nat},FY k d c l->(∀(j:Nat) (x:Nd),j<m->l[j]?=some x->d+1<x.depth)->FY k d c (l.drop m)
 | l,c,0,h,_=>h
 | [],c,m+1,h,_=>by rw[List.drop_nil];exact h
 | x::r,c,m+1,h,hj=>by have G:=hj 0 x oM rfl;rw[FY,aC oM,aC oM]at h;rw[bI];exact zI6 h λj y D o=>hj (j+1) y oM (by rw[bF];exact o)
structure FX(ns:List Nd):Prop where
 shp:Shp ns
 kids:∀(p:Nat) (n:Nd),ns[p]?=some n->FY n.kind.toNat n.depth 0 (ns.drop (p+1))
 top:∀n∈ns,n.depth=1->BK n.kind.toNat=1\/BK n.kind.toNat=2
def zN8(h:(BL ns).1=0):FX ns:=by
 have o:=zP0 h;unfold BL at h
 split at h
 ·simp at h
 have:=yk9 ns 0 [] false h;exact⟨o,this.2.1,this.2.2⟩
def zc4{n:Nd}(h:ns[p]?=some n):AT ns p=n.depth:=by unfold AT;rw[h];rfl
def ze1{n:Nd}(h:ns[p]?=some n):kdA ns p=n.kind:=by unfold kdA;rw[h];rfl
def zp2(h:p<ns.length):∃n,ns[p]?=some n:=⟨_,gG_ h⟩
def zc1(h1:p<q)(G:q<AC ns p):AT ns p<AT ns q/\q<ns.length:=by
 have o:q-(p+1)<FJ (AT ns p) (ns.drop (p+1)):=by unfold AC at G;omega
 obtain⟨n,e,D⟩:=zv4 _ _ _ o;rw[cQ,show p+1+(q-(p+1))=q by omega]at e;exact⟨by rw[zc4 e];exact D,(aE.1 e).1⟩
def zf5(h:AC ns p<ns.length):AT ns (AC ns p)<=AT ns p:=by obtain⟨n,e⟩:=zp2 h;rw[zc4 e];refine zv6 (AT ns p) (ns.drop (p+1)) n ?_;rw[cQ];exact e
def yC5{s:Nat}(K:p<s)(J:∀q,p<q->q<s->AT ns p<AT ns q)(D:s=ns.length\/(s<ns.length/\AT ns s<=AT ns p)):AC ns p=s:=by
 have o:p<ns.length:=by rcases D with h | h<;>omega
 have I:AC ns p<=s:=by
  rcases D with h | ⟨h,hd⟩
  ·rw[h];exact(ze6 o).2
  obtain⟨n,e⟩:=zp2 h;have:=zv5 (AT ns p) (ns.drop (p+1)) (s-(p+1)) n (by rw[cQ,show p+1+(s-(p+1))=s by omega];exact e) (by rw[<-zc4 e];exact hd);unfold AC;omega
 rcases cC (AC ns p) s with h | h
 ·exfalso
  have G:s<=ns.length:=by rcases D with h | h<;>omega
  have:=J (AC ns p) (ze6 o).1 h;have:=zf5 (ns:=ns) (p:=p) oM;omega
 omega
def ze8:p<AC ns p:=by unfold AC;omega
def FX.step(h:FX ns)(o:p+1<ns.length):AT ns (p+1)<=AT ns p+1:=by have:=h.shp.step p o;rw[zc4 (aJ o),zc4 (aJ (show p<ns.length by omega))];exact this
def FX.dep(h:FX ns)(o:p<ns.length):1<=AT ns p:=by rw[zc4 (aJ o)];exact(h.shp.dep p o).1
def FX.kd(h:FX ns)(o:p<ns.length):0<=kdA ns p/\kdA ns p<=15:=by rw[ze1 (aJ o)];exact zi0 (h.shp.fit p o)
def FX.kid(h:FX ns)(L:p<q)(K:q<AC ns p)(I:AT ns q=AT ns p+1):∃c,BK (kdA ns q).toNat=DB (kdA ns p).toNat c:=by
 have o:=(zc1 L K).2;obtain⟨n,en⟩:=zp2 (show p<ns.length by omega);obtain⟨m,D⟩:=zp2 o;have O:=h.kids p n en;rw[ze1 en,ze1 D];rw[zc4 en,zc4 D]at I
 obtain⟨c,_,J⟩:=zN7 O (i:=q-(p+1)) (n:=m) (by rw[cQ,show p+1+(q-(p+1))=q by omega];exact D) (λj x R G=>by
  rw[cQ]at G;have:=(zc1 (ns:=ns) (p:=p) (q:=p+1+j) oM oM).1;rw[zc4 en,zc4 G]at this
  exact this) I
 exact⟨c,J⟩
def FX.holder(h:FX ns):∀(m p q:Nat),q-p<=m->p<q->q<AC ns p->∃g,p<=g/\g<q/\AT ns q=AT ns g+1/\q<AC ns g
 | 0,p,q,hm,h1,_=>oM
 | m+1,p,q,hm,h1,h2=>by
  by_cases J:AT ns q=AT ns p+1
  ·exact⟨p,nR_ _,h1,J,h2⟩
  have G:=(zc1 h1 h2).2
  have K:p+1<q:=by
   rcases cC (p+1) q with h' | h'
   ·exact h'
   exfalso;have e:q=p+1:=oM;subst e;have:=h.step G;have:=(zc1 h1 h2).1;omega
  have D:∀a,p<a->a<=q->AT ns a=AT ns p+1->∃g,p<=g/\g<q/\AT ns q=AT ns g+1/\q<AC ns g:=by
   intro a
   induction hn:q-a using Nat.strongRecOn generalizing a with
   | ind n ih =>
    intro L X o;have R:a≠q:=λe=>J (by rw[<-e];exact o);by_cases I:q<AC ns a
    ·obtain⟨g,Z,Y,O,W⟩:=FX.holder h m a q oM oM I
     exact⟨g,oM,Y,O,W⟩
    have O:=ze8 (ns:=ns) (p:=a);refine ih (q-AC ns a) oM (AC ns a) rfl oM oM ?_;have W:=zf5 (ns:=ns) (p:=a) oM;have Y:=(zc1 (ns:=ns) (p:=p) (q:=AC ns a) oM oM).1;omega
  have o:p+1<ns.length:=oM;refine D (p+1) oM oM ?_;have:=h.step o;have:=(zc1 (ns:=ns) (p:=p) (q:=p+1) oM oM).1;omega
def zm7(h:k<16):(BK k=1↔k<=1)/\(BK k=2↔2<=k/\k<=8)/\(BK k=3↔k=9)/\(BK k=4↔10<=k)/\1<=BK k:=by
 have:∀j:Fin 16,(BK j=1↔(j:Nat)<=1)/\(BK j=2↔2<=(j:Nat)/\(j:Nat)<=8)/\(BK j=3↔(j:Nat)=9)/\(BK j=4↔10<=(j:Nat))/\1<=BK j:=by decide
 exact this ⟨k,h⟩
def zX2(h:k<16)(o:k<=6\/10<=k)(c:Nat):DB k c=0\/DB k c=4:=by
 have:∀j:Fin 16,((j:Nat)<=6\/10<=(j:Nat))->(rH0 j=0\/rH0 j=4)/\(rH1 j=0\/rH1 j=4)/\(rH2 j=0\/rH2 j=4):=by decide
 have:=this ⟨k,h⟩ o;unfold DB;rw[aC oM]
 repeat' split
 all_goals first | exact this.1 | exact this.2.1 | exact this.2.2 | exact .inl rfl
def FX.plain(h:FX ns)(Z:p<ns.length)(K:kdA ns p<=6\/10<=kdA ns p):∀q,p<q->q<AC ns p->10<=kdA ns q:=by
 intro q
 induction q using Nat.strongRecOn with
 | ind q ih =>
  intro G D;obtain⟨g,g1,J,W,X⟩:=h.holder (q-p) p q (nR_ _) G D;have o:=(zc1 G D).2;obtain⟨c,R⟩:=h.kid J X W
  have L:kdA ns g<=6\/10<=kdA ns g:=by
   by_cases e:g=p
   ·rw[e];exact K
   exact .inr (ih g J oM oM)
  have k1:=h.kd (show g<ns.length by omega);have Y:=h.kd o;have O:=zX2 (k:=(kdA ns g).toNat) oM oM c;have I:=zm7 (k:=(kdA ns q).toNat) oM;rcases O with e | e
  ·have:=I.2.2.2.2;omega
  have:=I.2.2.2.1.1 (by rw[R,e]);omega
structure wx5(ns:List Nd)(p:Nat):Prop where
 len:p+1<ns.length
 a:AC ns (p+1)<AC ns p
 da:AT ns (AC ns (p+1))=AT ns p+1
 kc:10<=kdA ns (p+1)
 ka:kdA ns (AC ns (p+1))=9
 s:AC ns (AC ns (p+1))=AC ns p\/(kdA ns p=7/\AC ns (AC ns (p+1))<AC ns p/\kdA ns (AC ns (AC ns (p+1)))=9/\AT ns (AC ns (AC ns (p+1)))=AT ns p+1/\AC ns (AC ns (AC ns (p+1)))=AC ns p)
def FX.next(h:FX ns){c:Nat}(K:q<ns.length)(I:AT ns q=d+1)(o:FY k d c (ns.drop q)):BK (kdA ns q).toNat=DB k c/\FY k d (c+1) (ns.drop (AC ns q)):=by
 obtain⟨n,en⟩:=zp2 K;obtain⟨D,J⟩:=aE.1 en;rw[aP D,J,FY]at o;rw[zc4 en]at I;rw[aC oM,aG I]at o;refine⟨by rw[ze1 en];exact o.1,?_⟩
 have:=zI6 (m:=AC ns q-(q+1)) o.2 (λj x L G=>by
  rw[cQ]at G;have:=(zc1 (ns:=ns) (p:=q) (q:=q+1+j) oM oM).1;rw[zc4 en,zc4 G]at this
  omega)
 rw[eW]at this;have G:=ze8 (ns:=ns) (p:=q);rw[show q+1+(AC ns q-(q+1))=AC ns q by omega]at this;exact this
def zr5{c:Nat}(o:FY k d c (ns.drop q)):(∃hq:q<ns.length,d<AT ns q)\/(ns.length<=q\/(q<ns.length/\AT ns q<=d))/\FB k<=c:=by
 rcases cC q ns.length with hq | hq
 ·obtain⟨n,en⟩:=zp2 hq
  obtain⟨D,I⟩:=aE.1 en;rw[aP D,I,FY]at o;rw[zc4 en];by_cases G:n.depth<=d
  ·rw[aG G]at o
   exact .inr ⟨.inr ⟨hq,G⟩,o⟩
  exact .inl ⟨hq,oM⟩
 rw[cP hq]at o;exact .inr ⟨.inl hq,o⟩
def FX.two(h:FX ns)(hp:p<ns.length)(hk:kdA ns p=7\/kdA ns p=8):wx5 ns p:=by
 obtain⟨n,en⟩:=zp2 hp;have hK:=h.kids p n en;have K:n.kind=7\/n.kind=8:=by rw[ze1 en]at hk;exact hk
 have dn:=zc4 en;rw[<-dn]at hK
 have hw:FB n.kind.toNat=2:=by rcases K with e | e<;>(rw[e];rfl)
 have n0:DB n.kind.toNat 0=4:=by rcases K with e | e<;>(rw[e];rfl)
 have n1:DB n.kind.toNat 1=3:=by rcases K with e | e<;>(rw[e];rfl)
 have n2:DB n.kind.toNat 2=if kdA ns p=7 then 3 else 0:=by rw[ze1 en];rcases K with e | e<;>(rw[e];rfl)
 have n3:DB n.kind.toNat 3=0:=by rcases K with e | e<;>(rw[e];rfl)
 generalize n.kind.toNat=k at *;rcases zr5 hK with ⟨G,d1⟩ | ⟨_,Z⟩;rotate_left
 ·omega
 have e1:AT ns (p+1)=AT ns p+1:=oH (h.step G)
 obtain⟨s1,K1⟩:=h.next G e1 hK
 have kc:10<=kdA ns (p+1):=by have k1:=h.kd G;have:=(zm7 (k:=(kdA ns (p+1)).toNat) oM).2.2.2.1.1 (by rw[s1,n0]);omega
 have la:=ze8 (ns:=ns) (p:=p+1);have a3:=(ze6 G).2
 have O:∀q,p<q->q<AC ns (p+1)->AT ns p<AT ns q:=λq I D=>by
  by_cases e:q=p+1
  ·rw[e];omega
  have:=(zc1 (ns:=ns) (p:=p+1) (q:=q) oM D).1;omega
 rcases zr5 K1 with ⟨Y,d2⟩ | ⟨_,Z⟩;rotate_left
 ·rw[hw]at Z;exact absurd Z (by decide)
 have e2:AT ns (AC ns (p+1))=AT ns p+1:=oH (zf5 Y)
 obtain⟨s2,K2⟩:=h.next Y e2 K1
 have ka:kdA ns (AC ns (p+1))=9:=by have k1:=h.kd Y;have:=(zm7 (k:=(kdA ns (AC ns (p+1))).toNat) oM).2.2.1.1 (by rw[s2];exact n1);omega
 have ls:=ze8 (ns:=ns) (p:=AC ns (p+1));have a1:=(ze6 Y).2
 have o:∀q,p<q->q<AC ns (AC ns (p+1))->AT ns p<AT ns q:=λq I D=>by
  rcases cC q (AC ns (p+1)) with c | c
  ·exact O q I c
  by_cases e:q=AC ns (p+1)
  ·rw[e];omega
  have:=(zc1 (ns:=ns) (p:=AC ns (p+1)) (q:=q) oM D).1;omega
 have L:∀s,p<s->s<=ns.length->(∀q,p<q->q<s->AT ns p<AT ns q)->(ns.length<=s\/(s<ns.length/\AT ns s<=AT ns p))->AC ns p=s:=λs I D h3 W =>
  yC5 I h3 (W.imp (λh=>oM) id)
 rcases zr5 K2 with ⟨X,d3⟩ | ⟨W,_⟩
 ·have e3:AT ns (AC ns (AC ns (p+1)))=AT ns p+1:=oH (zf5 X)
  obtain⟨s3,K3⟩:=h.next X e3 K2;have k1:=h.kd X;have R:=zm7 (k:=(kdA ns (AC ns (AC ns (p+1)))).toNat) oM;rw[s3,n2]at R
  have k7:kdA ns p=7:=by
   by_cases c:kdA ns p=7
   ·exact c
   rw[aC c]at R;have:=R.2.2.2.2;omega
  rw[aG k7]at R;have ks:kdA ns (AC ns (AC ns (p+1)))=9:=oH (R.2.2.1.1 rfl)
  have a4:=ze8 (ns:=ns) (p:=AC ns (AC ns (p+1)));have a2:=(ze6 X).2
  have J:∀q,p<q->q<AC ns (AC ns (AC ns (p+1)))->AT ns p<AT ns q:=λq I D=>by
   rcases cC q (AC ns (AC ns (p+1))) with c | c
   ·exact o q I c
   by_cases e:q=AC ns (AC ns (p+1))
   ·rw[e];omega
   have:=(zc1 (ns:=ns) (p:=AC ns (AC ns (p+1))) (q:=q) oM D).1;omega
  rcases zr5 K3 with ⟨q4,d4⟩ | ⟨W,_⟩
  ·exfalso
   have e4:AT ns (AC ns (AC ns (AC ns (p+1))))=AT ns p+1:=oH (zf5 q4)
   obtain⟨s4,_⟩:=h.next q4 e4 K3;have k1:=h.kd q4;have:=(zm7 (k:=(kdA ns (AC ns (AC ns (AC ns (p+1))))).toNat) oM).2.2.2.2;rw[s4]at this;have e:DB k (0+1+1+1)=0:=n3;omega
  have ee:=L _ oM a2 J W;exact⟨G,oM,e2,kc,ka,.inr ⟨k7,oM,ks,e3,ee.symm⟩⟩
 have ee:=L _ oM a1 o W;exact⟨G,oM,e2,kc,ka,.inl ee.symm⟩
def FX.twoIn(h:FX ns):wo4 ns:=λp o D=>(h.two o D).a
def zi7(h:p<ns.length):ptF ns (p+1)=ptF ns p+if 2<=kdA ns p/\kdA ns p<=8 then 1 else 0:=by
 obtain⟨n,e⟩:=zp2 h;rw[zC2 e,ze1 e];unfold wg9
 by_cases o:2<=n.kind<;>by_cases D:n.kind<=8<;>simp[o,D]
def zS0(h:¬p<ns.length):ptF ns (p+1)=ptF ns p:=by unfold ptF;rw[bE oM,bE oM]
def zS1{ns:List Nd}{p:Nat}:∀(k:Nat),ptF ns p<=ptF ns (p+k)
 | 0=>nR_ _
 | k+1=>by
  have o:=zS1 (ns:=ns) (p:=p) k
  rw[<-dP]
  by_cases h:p+k<ns.length
  ·rw[zi7 h];omega
  rw[zS0 h];exact o
def zv8(h:p<=q):ptF ns p<=ptF ns q:=by
 have:=zS1 (ns:=ns) (p:=p) (q-p)
 rwa [show p+(q-p)=q by omega]at this
def zC6:∀(k:Nat),(∀q,p<=q->q<p+k->¬(2<=kdA ns q/\kdA ns q<=8))->ptF ns (p+k)=ptF ns p
 | 0,_=>rfl
 | k+1,h=>by
  rw[<-dP];by_cases D:p+k<ns.length
  ·rw[zi7 D,aC (h (p+k) oM oM),zC6 k (λq o G=>h q o oM),iT]
  rw[zS0 D,zC6 k (λq o G=>h q o oM)]
def zC7(hpq:p<=q)(h:∀r,p<=r->r<q->¬(2<=kdA ns r/\kdA ns r<=8)):ptF ns q=ptF ns p:=by
 have:=zC6 (ns:=ns) (p:=p) (q-p) (λr o D=>h r o oM)
 rwa [show p+(q-p)=q by omega]at this
def zC8(ns:List Nd)(p:Nat):ptF ns p<=ptF ns ns.length:=by
 rcases Nat.le_total p ns.length with h | h
 ·exact zv8 h
 unfold ptF;rw[bE h,bE (aK _)];exact aK _
def Blk(v:Nat)(b:List Ed):Prop :=
 (∃e,b=[e]/\e.from'=v/\e.op≠5/\e.sense=false/\e.loop=false) \/
 (∃e1 e2,b=[e1,e2]/\e1.from'=v/\e2.from'=v/\e1.op=5/\e2.op=5/\e2.place=e1.place/\e1.sense=true/\e2.sense=false/\e2.loop=e1.loop)
def wd6(L:List Ed)(A Z:Nat):Prop:=∃bs:List (List Ed),L=bs.flatten/\A+bs.length=Z/\∀(i:Nat) (b:List Ed),bs[i]?=some b->Blk (A+i) b
def wd6.nil(A:Nat):wd6 [] A A:=⟨[],rfl,rfl,λi b h=>by simp at h⟩
def wd6.one{b:List Ed}(h:Blk A b):wd6 b A (A+1):=⟨[b],by simp,rfl,λi c o=>by
 cases i with
 | zero=>simp at o;subst o;exact h
 | succ i=>simp at o⟩
def wd6.app{L1 L2:List Ed}{B C:Nat}(K:wd6 L1 A B)(I:wd6 L2 B C):wd6 (L1++L2) A C:=by
 obtain⟨D,L,X,O⟩:=K;obtain⟨R,J,W,G⟩:=I;refine⟨D++R,by rw[L,J,dG],by rw[aA];omega,λi b o=>?_⟩;rcases cC i D.length with h | h
 ·rw[aQ h]at o;exact O i b o
 rw[bC h]at o;have:=G _ _ o
 rwa [show B+(i-D.length)=A+i by omega]at this
def wu3(ns:List Nd)(e:Ed):Prop :=
 (e.op=5/\∃p:Nat,e.place=(p:Int)+1/\p+1<ns.length/\(kdA ns p=7\/kdA ns p=8)/\e.loop=decide (kdA ns p=8)/\e.from'=ptF ns p) \/
 (∃p:Nat,e.place=p/\p<ns.length/\2<=kdA ns p/\kdA ns p<=6/\e.op=kdA ns p-2/\e.from'=ptF ns p)
structure wd7(ns:List Nd)(L:List Ed)(A Z fol:Nat):Prop where
 seg:wd6 L A Z
 to:∀e∈L,∃t:Nat,e.to'=t/\t<=ptF ns ns.length
 pl:∀e∈L,wu3 ns e
 mid:∀v,A<v->v<Z->∃e∈L,∃u:Nat,e.to'=v/\e.from'=u/\u<v
 o:A<Z->∃e∈L,∃u:Nat,e.to'=fol/\e.from'=u/\u<Z
def wa5(ns:List Nd)(D:Int)(p en:Nat):Prop:=p<en->en<=ns.length/\AT ns p=D/\(∀q,p<=q->q<en->D<=AT ns q)/\(∀q,p<=q->q<en->AT ns q=D->kdA ns q<=8)/\(en=ns.length\/(en<ns.length/\AT ns en<D))
def wa5.next{D:Int}{en:Nat}(h:wa5 ns D p en)(G:p<en):AC ns p<=en/\wa5 ns D (AC ns p) en:=by
 obtain⟨L,R,I,J,h5⟩:=h G;have K:=ze8 (ns:=ns) (p:=p)
 have o:AC ns p<=en:=by
  rcases cC en (AC ns p) with c | c
  ·exfalso
   have:=zc1 (ns:=ns) G c
   rcases h5 with h5 | h5<;>omega
  exact c
 refine⟨o,λO=>⟨L,?_,λq a b=>I q oM b,λq a b=>J q oM b,h5⟩⟩;have:=zf5 (ns:=ns) (p:=p) oM;have:=I (AC ns p) oM O;omega
def FX.block(h:FX ns){a:Nat}(J:a<ns.length)(O:kdA ns a=9):wa5 ns (AT ns a+1) (a+1) (AC ns a)/\(∀q,a+1<=q->q<AC ns a->AT ns q=AT ns a+1->2<=kdA ns q/\kdA ns q<=8):=by
 have I:∀q,a+1<=q->q<AC ns a->AT ns q=AT ns a+1->2<=kdA ns q/\kdA ns q<=8:=by
  intro q D o G;obtain⟨c,K⟩:=h.kid oM o G;have R:=h.kd (zc1 (ns:=ns) (p:=a) (q:=q) oM o).2;have L:=zm7 (k:=(kdA ns q).toNat) oM;have e:DB (kdA ns a).toNat c=2:=by rw[O];rfl
  have:=L.2.1.1 (by rw[K,e]);omega
 refine⟨λK=>⟨(ze6 J).2,?_,λq D o=>?_,λq D o G=>(I q D o G).2,?_⟩,I⟩
 ·have D:=zc1 (ns:=ns) (p:=a) (q:=a+1) oM K
  have:=h.step D.2;omega
 ·have:=(zc1 (ns:=ns) (p:=a) (q:=q) oM o).1
  omega
 rcases cC (AC ns a) ns.length with c | c
 ·have:=zf5 (ns:=ns) (p:=a) c
  exact .inr ⟨c,oM⟩
 have:=(ze6 J).2;exact .inl oM
def FX.whole(h:FX ns):wa5 ns 1 0 ns.length:=λD=>by
 refine⟨nR_ _,?_,λq _ o=>h.dep o,λq _ o I=>?_,.inl rfl⟩
 ·rw[zc4 (aJ D)];exact h.shp.first D
 obtain⟨n,e⟩:=zp2 o;have J:=h.kd o;rw[ze1 e]at J ⊢;rw[zc4 e]at I;have G:=zm7 (k:=n.kind.toNat) oM;rcases h.top n (mG_ e) I with c | c
 ·have:=G.1.1 c;omega
 have:=G.2.1.1 c;omega
def FX.decl(h:FX ns)(o:p<q)(D:q<ns.length)(G:2<=kdA ns p):2<=kdA ns q:=by
 rcases iQ (kdA ns q) 2 with c | c
 ·exfalso
  have:=h.shp.decl p q D o (by rw[<-ze1 (aJ D)];omega);rw[<-ze1 (aJ (show p<ns.length by omega))]at this;omega
 exact c
def zv9(h:x<y):bgF ns x y z=ptF ns x:=by unfold bgF;rw[aG h]
def zy2(h:¬x<y):bgF ns x y z=z:=by unfold bgF;rw[aC h]
def zN9(h:z<=ptF ns ns.length):bgF ns x y z<=ptF ns ns.length:=by
 unfold bgF;split
 ·exact zC8 ns x
 exact h
def wd7.nil(ns:List Nd)(A o:Nat):wd7 ns [] A A o:=⟨wd6.nil A,λe h=>(by cases h),λe h=>(by cases h),λv D G=>oM,λh=>oM⟩
def wd7.app{L1 L2:List Ed}{B Z D:Nat}(G:wd7 ns L1 A B x)(I:wd7 ns L2 B Z D)(X:A<B->B<Z->x=B)(Y:A<Z->B=Z->A<B->x=D):wd7 ns (L1++L2) A Z D:=by
 obtain⟨b1,_,n1,_⟩:=G.seg;obtain⟨b2,_,n2,_⟩:=I.seg;refine⟨G.seg.app I.seg,λe he=>?_,λe he=>?_,λv J W=>?_,λL=>?_⟩
 ·rcases bA.1 he with he | he
  ·exact G.to e he
  exact I.to e he
 ·rcases bA.1 he with he | he
  ·exact G.pl e he
  exact I.pl e he
 ·rcases eU v B with c | c | c
  ·obtain⟨e,he,r⟩:=G.mid v J c
   exact⟨e,cG _ he,r⟩
  ·subst c
   obtain⟨e,he,u,K,O,R⟩:=G.o J;exact⟨e,cG _ he,u,by rw[K,X J W],O,R⟩
  obtain⟨e,he,r⟩:=I.mid v c W;exact⟨e,cI _ he,r⟩
 rcases cC B Z with c | c
 ·obtain⟨e,he,r⟩:=I.o c
  exact⟨e,cI _ he,r⟩
 have eB:B=Z:=oM;obtain⟨e,he,u,K,O,R⟩:=G.o oM;exact⟨e,cG _ he,u,by rw[K,Y L eB oM],O,oM⟩
def zr6(h:FX ns):∀(f p en G:Nat) (D:Int),wa5 ns D p en->ns.length+2-p<=f->p<=en->G<=ptF ns ns.length->wd7 ns (stE ns f p en G) (ptF ns p) (ptF ns en) G
 | 0,p,en,G,D,hS,hf,hpe,_=>by
  by_cases O:p<en
  ·have:=(hS O).1;omega
  have e:p=en:=oM;subst e;rw[zk8 O];exact wd7.nil _ _ _
 | f+1,p,en,G,D,hS,hf,hpe,hfol=>by
  by_cases O:p<en;rotate_left
  ·have e:p=en:=oM
   subst e;rw[zk8 O];exact wd7.nil _ _ _
  obtain⟨h1,h2,h3,h4,h5⟩:=hS O;obtain⟨b1,a1⟩:=hS.next O;have I:p<ns.length:=oM;have a6:=ze8 (ns:=ns) (p:=p);have k8:=h4 p (nR_ _) O h2;have b5:=h.kd I;have IH:=zr6 h f (AC ns p) en G D a1 oM b1 hfol;obtain⟨K,L⟩:=qq (bgF ns (AC ns p) en G);have J:K<=ptF ns ns.length:=by rw[L];exact zN9 hfol
  have a9:∀(_:ptF ns p<ptF ns (AC ns p)) (_:ptF ns (AC ns p)<ptF ns en),K=ptF ns (AC ns p):=λ_ c=>by
   rw[L];refine zv9 ?_;rcases cC (AC ns p) en with d | d
   ·exact d
   exfalso;have:AC ns p=en:=oM;rw[this]at c;omega
  have b0:∀(_:ptF ns p<ptF ns en) (_:ptF ns (AC ns p)=ptF ns en) (_:ptF ns p<ptF ns (AC ns p)),K=G:=λ_ c d=>by
   rw[L];refine zy2 λR=>?_
   have W:2<=kdA ns p:=by
    rcases iQ (kdA ns p) 2 with c' | c'
    ·exfalso
     have a2:ptF ns (AC ns p)=ptF ns p:=zC7 oM λr r1 r2=>by
      by_cases e:r=p
      ·rw[e];omega
      have:=h.plain I (.inl oM) r oM r2;omega
     omega
    exact c'
   have hd:=a1 R;have Y:=h.decl (p:=p) (q:=AC ns p) a6 oM W;have Z:=hd.2.2.2.1 (AC ns p) (nR_ _) R hd.2.1;have X:=zi7 (ns:=ns) (p:=AC ns p) oM;rw[aG ⟨Y,Z⟩]at X;have:=zv8 (ns:=ns) (p:=AC ns p+1) (q:=en) oM;omega
  rw[stE,aG O,<-L];refine wd7.app (B:=ptF ns (AC ns p)) (x:=K) ?_ IH a9 b0;by_cases hc:kdA ns p=7\/kdA ns p=8
  ·rw[aG hc]
   obtain⟨t1,t2,t3,t4,t5,t6⟩:=h.two I hc;obtain⟨a,ha⟩:=qq (AC ns (p+1));rw[<-ha]at t2 t3 t5 t6 ⊢;obtain⟨s,hs⟩:=qq (AC ns a);rw[<-hs]at t6 ⊢;have b2:p+1<a:=by rw[ha];exact ze8
   have b6:a<s:=by rw[hs];exact ze8
   have b3:AC ns p<=ns.length:=(ze6 I).2;have Y:a<ns.length:=oM;have b4:s<=ns.length:=by rw[hs];exact(ze6 Y).2
   obtain⟨bS,bK⟩:=h.block Y t5;rw[<-hs]at bS bK;obtain⟨bh,Z⟩:=qq ((if kdA ns p=8 then ptF ns p else K))
   have a3:bh<=ptF ns ns.length:=by
    rw[Z];split
    ·exact zC8 ns p
    exact J
   have pa:ptF ns (a+1)=ptF ns p+1:=by
    rw[zi7 Y,t5,aC oM]
    have:=zC7 (ns:=ns) (p:=p+1) (q:=a) oM (λr r1 r2=>by
     by_cases e:r=p+1
     ·rw[e];omega
     have:=h.plain (p:=p+1) t1 (.inr t4) r oM (by rw[<-ha];exact r2);omega)
    rw[this,zi7 I,aG oM]
   have F1:=zr6 h f (a+1) s bh (AT ns a+1) bS oM oM a3;have a4:ptF ns (a+1)<=ptF ns s:=zv8 oM
   have a8:chE ns p K=[⟨ptF ns p,bgF ns (a+1) s bh,5,p+1,true,decide (kdA ns p=8)⟩,⟨ptF ns p,bgF ns (s+1) (AC ns p) K,5,p+1,false,decide (kdA ns p=8)⟩]:=by unfold chE;rw[<-ha,<-hs,<-Z]
   rw[<-Z,a8];have a5:∀(tt:Nat) (sn:Bool),wu3 ns ⟨ptF ns p,tt,5,p+1,sn,decide (kdA ns p=8)⟩:=λtt sn=>.inl ⟨rfl,p,rfl,oM,hc,rfl,rfl⟩;have a7:wd6 [⟨ptF ns p,bgF ns (a+1) s bh,5,p+1,true,decide (kdA ns p=8)⟩,⟨ptF ns p,bgF ns (s+1) (AC ns p) K,5,p+1,false,decide (kdA ns p=8)⟩] (ptF ns p) (ptF ns p+1):=wd6.one (.inr ⟨_,_,rfl,rfl,rfl,rfl,rfl,rfl,rfl,rfl,rfl⟩)
   -- the edges of what stands behind the first block
   obtain⟨L2,X⟩:=qq (stE ns f (s+1) (AC ns p) K)
   have W:wd7 ns L2 (ptF ns s) (ptF ns (AC ns p)) K/\(ptF ns s<ptF ns (AC ns p)->bgF ns (s+1) (AC ns p) K=ptF ns s)/\(¬ptF ns s<ptF ns (AC ns p)->bgF ns (s+1) (AC ns p) K=K):=by
    rcases t6 with e | ⟨k7,u1,u2,u3,u4⟩
    ·rw[X,e,zk8 oM]
     exact⟨wd7.nil _ _ _,λc=>oM,λ_=>zy2 oM⟩
    have R:s<ns.length:=oM;obtain⟨cS,cK⟩:=h.block R u2;rw[u4]at cS cK;have ps:ptF ns (s+1)=ptF ns s:=by rw[zi7 R,u2,aC oM];rfl
    have F:=zr6 h f (s+1) (AC ns p) K (AT ns s+1) cS oM oM J;rw[ps]at F;refine⟨by rw[X];exact F,λc=>?_,λc=>?_⟩
    ·rw[zv9,ps]
     rcases cC (s+1) (AC ns p) with d | d
     ·exact d
     exfalso;have e:s+1=AC ns p:=oM;rw[<-e,ps]at c;omega
    refine zy2 λd=>c ?_;have hd:=cS d;have k:=cK (s+1) (nR_ _) d hd.2.1;have st:=zi7 (ns:=ns) (p:=s+1) oM;rw[aG k,ps]at st;have:=zv8 (ns:=ns) (p:=s+1+1) (q:=AC ns p) oM;omega
   rw[<-X];obtain⟨W,G1,G2⟩:=W;have R:ptF ns s<=ptF ns (AC ns p):=zv8 (by rcases t6 with e | ⟨_,e,_⟩<;>omega)
   have hy:ptF ns (a+1)<ptF ns s->bgF ns (a+1) s bh=ptF ns (a+1):=λc=>zv9 (by
    rcases cC (a+1) s with d | d
    ·exact d
    exfalso;have e:a+1=s:=oM
    rw[<-e]at c;omega)
   rw[pa]at F1 a4 hy;refine⟨(a7.app (F1.seg.app W.seg)),λe he=>?_,λe he=>?_,λv v1 v2=>?_,λ_=>?_⟩
   ·rcases bA.1 he with he | he
    ·simp only[bJ,dE,fL]at he
     rcases he with rfl | rfl
     ·exact⟨_,rfl,zN9 a3⟩
     exact⟨_,rfl,zN9 J⟩
    rcases bA.1 he with he | he
    ·exact F1.to e he
    exact W.to e he
   ·rcases bA.1 he with he | he
    ·simp only[bJ,dE,fL]at he
     rcases he with rfl | rfl
     ·exact a5 _ _
     exact a5 _ _
    rcases bA.1 he with he | he
    ·exact F1.pl e he
    exact W.pl e he
   ·by_cases c1:v=ptF ns p+1
    ·rcases cC v (ptF ns s) with d | d
     ·exact⟨_,cG _ (aY),ptF ns p,by rw[c1];exact cA Int.ofNat (hy oM),rfl,oM⟩
     exact⟨_,cG _ (bG _ aY),ptF ns p,by rw[c1];exact cA Int.ofNat ((G1 oM).trans oM),rfl,oM⟩
    rcases eU v (ptF ns s) with d | d | d
    ·obtain⟨e,he,r⟩:=F1.mid v oM d
     exact⟨e,cI _ (cG _ he),r⟩
    ·exact⟨_,cG _ (bG _ aY),ptF ns p,by rw[d];exact cA Int.ofNat (G1 oM),rfl,oM⟩
    obtain⟨e,he,r⟩:=W.mid v d v2;exact⟨e,cI _ (cI _ he),r⟩
   by_cases c:ptF ns s<ptF ns (AC ns p)
   ·obtain⟨e,he,r⟩:=W.o c
    exact⟨e,cI _ (cI _ he),r⟩
   exact⟨_,cG _ (bG _ aY),ptF ns p,cA Int.ofNat (G2 c),rfl,oM⟩
  rw[aC hc];have W:∀q,p<q->q<AC ns p->10<=kdA ns q:=h.plain I (.inl oM);have a2:ptF ns (AC ns p)=ptF ns (p+1):=zC7 oM λr r1 r2=>by have:=W r oM r2;omega
  rw[a2,zi7 I];by_cases R:2<=kdA ns p/\kdA ns p<=6
  ·rw[aG R,aG ⟨R.1,oM⟩]
   refine⟨wd6.one (.inl ⟨_,rfl,rfl,by simp only;omega,rfl,rfl⟩),λe he=>?_,λe he=>?_,λv v1 v2=>oM,λ_=>⟨_,aY,ptF ns p,rfl,rfl,oM⟩⟩
   ·simp only[bJ,dE,fL]at he
    subst he;exact⟨_,rfl,J⟩
   simp only[bJ,dE,fL]at he;subst he;exact .inr ⟨p,rfl,I,R.1,R.2,rfl,rfl⟩
  rw[aC R,aC oM];exact wd7.nil _ _ _
def elF(ns:List Nd):List Ed:=stE ns (ns.length+2) 0 ns.length (ptF ns ns.length)
def zC9(h:FX ns):wd7 ns (elF ns) 0 (ptF ns ns.length) (ptF ns ns.length):=by have:=zr6 h (ns.length+2) 0 ns.length (ptF ns ns.length) 1 h.whole oM (zL_ _) (nR_ _);exact this
end Go.Proofs.YthoegkcpmgalbaaGreatDoor
