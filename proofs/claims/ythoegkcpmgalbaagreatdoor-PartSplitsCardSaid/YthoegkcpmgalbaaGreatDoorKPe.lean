import Derived.Test.YthoegkcpmgalbaaGreatDoorKCdprog
import Derived.Test.YthoegkcpmgalbaaGreatDoorKPc
set_option maxHeartbeats 8000000
set_option linter.all false
set_option maxRecDepth 100000
namespace Go.Proofs.YthoegkcpmgalbaaGreatDoor
open Go.RowKit
variable{P:RP}{a a' a0:Nat}{b bad0:Int}{cs:List (List Nd)}{g:Nat->Int->List Nd×Nat×Int}{n:Nd}
def zu7(v1 v2:Value)(D d:List Int)(w:World)(h1:wd8 w v1 D)(h2:wd8 w v2 d) :
  Calls Tryz.prog 14 #[v1,v2] w λe w'=>e=.returned (.bool (AJ DE D d))/\Below w.heap.size w w':=by
 obtain⟨z1,a3,Z,rfl,W⟩:=h1;obtain⟨K,a6,a1,rfl,X⟩:=h2;unfold maxLen at z1 K;by_cases O:D.length=d.length
 case neg =>
  have G:Hi (AJ DE D d=false):=zh7 _ _ _ O;have I:((D.length:Int)==(d.length:Int))=false:=by rw[aF];omega
  clear W X;go_enter Tryz.func14,Tryz.ntmps14;go_wp2_with fail;go_ret;exact⟨za4 G.o.symm,Below.refl _ _⟩
 have R:Hi _:=W;have Y:Hi _:=X;have L:Hi _:=O;obtain⟨n,I⟩:∃n,d.length=n:=⟨_,rfl⟩;rw[O,I];rw[I]at L;have J:Hi _:=I;have hz:n<=9223372036854775807:=by rw[I]at K;exact K
 clear W X O I z1 K;go_enter Tryz.func14,Tryz.ntmps14;go_wp2_with fail;go_loopw [5] (λt wr=>∃k:Nat,k<=n/\t=nI k/\Hi (AJ DE D d=AJ DE (D.drop k) (d.drop k))/\Hi (Below w.heap.size w wr)) (λt _=>n-(intOf t).toNat)
 case atStart=>exact⟨0,oM,rfl,rfl,Below.refl _ _⟩
 obtain⟨k,hk,rfl,I,K⟩:=hrel;by_cases a5:k<n
 ·obtain⟨b1,o1,rfl,O⟩:=R.o.resolve_left (λe=>by have:=L.o;rw[e]at this;simp at this;omega)
  obtain⟨b2,o2,rfl,W⟩:=Y.o.resolve_left (λe=>by have:=J.o;rw[e]at this;simp at this;omega);have X:k<D.length:=oH L.o
  have i2:k<d.length:=oH J.o
  have c1:=(O.below K.o).c k X;have c2:=(W.below K.o).c k i2;rw[zh4 _ D d k X i2]at I;generalize D[k]=x at *;generalize d[k]=y at *;have a4:=O.lt;have a2:=W.lt;clear O W;cases O:(DE x y)
  ·have G:Hi (AJ DE D d=false):=by unfold Hi;rw[I.o,O];rfl
   clear I;unfold DE at O;go_wp2_with fail;go_quiet (fail);go_wp2_with fail;go_ret;exact⟨za4 G.o.symm,below_drewN K.o _⟩
  have G:Hi (AJ DE D d=AJ DE (D.drop (k+1)) (d.drop (k+1))):=by unfold Hi;rw[I.o,O];rfl
  clear I;unfold DE at O;go_wp2_with fail;go_quiet (fail);go_wp2_with fail;go_roundw
  case rel=>exact⟨k+1,oM,by go_num,G,below_drewN K.o _⟩
  case measure=>simp[intOf];omega
 have G:Hi (AJ DE D d=true):=by unfold Hi;rw[I.o,aU (oH L.o),aU (oH J.o)];rfl
 clear I;go_wp2_with fail;go_ret;exact⟨za4 G.o.symm,K.o⟩
def sh(e:Nat)(n:Nd):Nd:={ n with depth:=n.depth+e }
def InR(r:Int×Int)(i j:Nat):Prop:=r.1≠0/\∃m:Nat,r.2=m/\i<=m/\m<j
def InR.mono{r:Int×Int}{i j d o:Nat}(h:InR r i j)(K:d<=i)(G:j<=o):InR r d o:=by obtain⟨D,m,e,J,I⟩:=h;exact⟨D,m,e,oM,oM⟩
structure TW(l:List Nd):Prop where
 pos:0<l.length
 dep:∀n∈l,1<=n.depth/\n.depth<=l.length
 sub:∀(A:List AW) (k h:Nat) (T:List AW) (i:Nat) (g:Bool) (rest:List Nd),InR (BT (l.map (sh (A.length+1))++rest) i (A++(k,h)::T) g) i (i+l.length)\/∃T' g',AX T'=false/\BT (l.map (sh (A.length+1))++rest) i (A++(k,h)::T) g=BT rest (i+l.length) (A++(k,h+1)::T') g'
 top:∀(S:List AW) (i:Nat) (g:Bool) (rest:List Nd),InR (BT (l.map (sh 0)++rest) i S g) i (i+l.length)\/∃S' g',AX S'=false/\BT (l.map (sh 0)++rest) i S g=BT rest (i+l.length) S' g'
def kids(cs:List (List Nd)):(∀c∈cs,TW c)->∀(A:List AW) (k h:Nat) (T:List AW) (i:Nat) (g:Bool) (d:List Nd),AX T=false->InR (BT (cs.flatten.map (sh (A.length+1))++d) i (A++(k,h)::T) g) i (i+cs.flatten.length)\/∃G J,AX G=false/\BT (cs.flatten.map (sh (A.length+1))++d) i (A++(k,h)::T) g=BT d (i+cs.flatten.length) (A++(k,h+cs.length)::G) J:=by
 induction cs with
 | nil=>intro _ A k h T i g d I;exact .inr ⟨T,g,I,by simp⟩
 | cons c cs ih =>
  intro D A k h T i g d I;have o:=(D c sI).sub A k h T i g (cs.flatten.map (sh (A.length+1))++d);rw[bY,dB,bN,aA];rcases o with o | ⟨T1,g1,hT1,e1⟩
  ·exact .inl (o.mono (nR_ _) oM)
  rw[e1];rcases ih (λx K=>D x (bG _ K)) A k (h+1) T1 (i+c.length) g1 d hT1 with h2 | ⟨T2,g2,hT2,e2⟩
  ·exact .inl (h2.mono oM oM)
  refine .inr ⟨T2,g2,hT2,?_⟩;rw[e2,aR]
  congr 1
  ·omega
  congr 2;congr 1;omega
def zM7(A:List AW)(k h:Nat):CB (A++[(k,h)])=A++[(k,h+1)]:=by unfold CB;simp
def zu8:AX []=false:=rfl
def yi9(h:1<=n.depth/\n.depth<=1000000)(e:Nat):sh e (DK n)=sh (e+1) n:=by
 unfold sh DK;simp only[IntKind.wrap_i64]
 congr 1
 omega
def yt5(h:∀c∈cs,∀n∈c,1<=n.depth/\n.depth<=1000000)(e:Nat):((cs.map λl=>l.map DK).flatten).map (sh e)=cs.flatten.map (sh (e+1)):=by
 induction cs with
 | nil=>rfl
 | cons c cs ih =>
  simp only[dK,bY,dB,List.map_map]
  congr 1
  ·exact eF λn d=>yi9 (h c sI n d) e
  exact ih λx d=>h x (bG _ d)
def zH8(cs:List (List Nd)):((cs.map λl=>l.map DK).flatten).length=cs.flatten.length:=by
 induction cs with
 | nil=>rfl
 | cons c cs ih=>simp only[dK,bY,aA,aM,ih]
def TW.node(hc:∀c∈cs,TW c)(hw:AS (n.kind.toNat:Nat)<=cs.length)(ho:BF n.kind.toNat=true\/cs=[])(hl:cs.flatten.length<=999999):TW (ndS n cs):=by
 have I:∀c∈cs,c.length<=cs.flatten.length:=by intro c o;obtain⟨a,b,rfl⟩:=List.append_of_mem o;simp only[dG,bY,aA];omega
 have X:∀c∈cs,∀m∈c,1<=m.depth/\m.depth<=1000000:=λc o m hm=>by have h1:=(hc c o).dep m hm;have Z:=I c o;omega
 have L:(ndS n cs).length=cs.flatten.length+1:=by unfold ndS;rw[aR,zH8]
 have O:∀(S1:List AW) (i:Nat) (g:Bool) (d:List Nd),InR (BT (((cs.map λl=>l.map DK).flatten).map (sh S1.length)++d) (i+1) (if BF n.kind.toNat then S1++[(n.kind.toNat,0)] else S1) g) i (i+(ndS n cs).length)\/∃G K,AX G=false/\BT (((cs.map λl=>l.map DK).flatten).map (sh S1.length)++d) (i+1) (if BF n.kind.toNat then S1++[(n.kind.toNat,0)] else S1) g=BT d (i+(ndS n cs).length) (S1++G) K:=by
  intro S1 i g d;rw[yt5 X,L]
  cases D:BF n.kind.toNat with
  | true =>
   rw[aG rfl];rcases kids cs hc S1 n.kind.toNat 0 [] (i+1) g d zu8 with h | ⟨G,K,hT',e⟩
   ·exact .inl (h.mono oM oM)
   refine .inr ⟨(n.kind.toNat,0+cs.length)::G,K,?_,?_⟩
   ·unfold AX at hT' ⊢
    rw[bO,hT',fD];exact dF_ (by show ¬((0+cs.length:Nat):Int)<AS (n.kind.toNat:Nat);omega)
   rw[e];congr 1;omega
  | false =>
   rcases ho with ho | ho
   ·rw[D]at ho;cases ho
   subst ho;refine .inr ⟨[],g,zu8,?_⟩;simp
 have R:∀e:Nat,((sh e { n with depth:=1 }).depth-1).toNat=e:=λe=>by unfold sh;simp only;omega
 have J:∀(e:Nat) (d:List Nd),(ndS n cs).map (sh e)++d=sh e { n with depth:=1 }::(((cs.map λl=>l.map DK).flatten).map (sh e)++d):=λe d=>by unfold ndS;rfl
 have bad:∀(x:Int) (i:Nat),x≠0->InR (x,(i:Int)) i (i+(ndS n cs).length):=λx i hx=>⟨hx,i,rfl,aK _,by rw[L];omega⟩;refine⟨by rw[L];omega,?_,?_,?_⟩
 ·intro m hm
  unfold ndS at hm;rw[bJ]at hm;rcases hm with rfl | hm
  ·exact⟨by show(1:Int)<=1;omega,by rw[L];show(1:Int)<=_;omega⟩
  rw[fR]at hm;obtain⟨l,D,hm⟩:=hm;rw[bX]at D;obtain⟨c,o,rfl⟩:=D;rw[bX]at hm;obtain⟨y,Y,rfl⟩:=hm;have h1:=(hc c o).dep y Y;have Z:=I c o
  have h3:(DK y).depth=y.depth+1:=by
   have:=yi9 (X c o y Y) 0;have W:(sh 0 (DK y)).depth=(sh (0+1) y).depth:=by rw[this]
   unfold sh at W;simp only at W;omega
  rw[h3,L];omega
 ·intro A k h T i g d
  rw[J,BT,R];have e1:(A++(k,h)::T).drop (A.length+1)=T:=by simp[List.drop_append]
  have e2:(A++(k,h)::T).take (A.length+1)=A++[(k,h)]:=by rw[List.take_append,bE oM];simp
  rw[e1,e2]
  split
  ·exact .inl (bad _ _ dC)
  simp only
  split
  ·exact .inl (bad _ _ dC)
  rw[aC (by simp)]
  split
  ·exact .inl (bad _ _ dC)
  split
  ·exact .inl (bad _ _ dC)
  have D:=O (CB (A++[(k,h)])) i g d;have W:(sh (A.length+1) { n with depth:=1 }).kind=n.kind:=rfl;rw[W];rw[zM7]at D ⊢;have Y:(A++[(k,h+1)]).length=A.length+1:=by simp
  rw[Y]at D;rcases D with D | ⟨G,K,hT',e⟩
  ·exact .inl D
  exact .inr ⟨G,K,hT',by rw[e];simp⟩
 intro S i g d;rw[J,BT,R];rw[List.take_zero]
 split
 ·exact .inl (bad _ _ dC)
 simp only
 split
 ·exact .inl (bad _ _ dC)
 rw[aG trivial]
 split
 ·exact .inl (bad _ _ dC)
 split
 ·exact .inl (bad _ _ dC)
 have D:=O [] i (g || !wh7 n.kind.toNat) d;rcases D with D | ⟨G,K,hT',e⟩
 ·exact .inl D
 exact .inr ⟨G,K,hT',e⟩
def wv5(cs:List (List Nd)):(∀c∈cs,TW c)->∀(S:List AW) (i:Nat) (g:Bool),AX S=false->InR (BT cs.flatten i S g) i (i+cs.flatten.length)\/BT cs.flatten i S g=(0,0):=by
 induction cs with
 | nil=>intro _ S i g D;right;simp only[dF,BT];rw[D];rfl
 | cons c cs ih =>
  intro o S i g D
  have I:c.map (sh 0)=c:=by
   have:∀n:Nd,sh 0 n=n:=λn=>by unfold sh;simp
   rw[eF (λn _=>this n)];exact List.map_id' c
  have d:=(o c sI).top S i g cs.flatten;rw[I]at d;rw[bY,aA];rcases d with d | ⟨S',g',hS',e⟩
  ·exact .inl (d.mono (nR_ _) oM)
  rw[e];rcases ih (λx G=>o x (bG _ G)) S' (i+c.length) g' hS' with h2 | h2
  ·exact .inl (h2.mono oM oM)
  exact .inr h2
structure RK(P:RP)(a:Nat)(bad:Int)(r:List Nd×Nat×Int):Prop where
 le:a<=r.2.1
 lim:r.2.1<=P.ts.length
 on:r.2.2<0->bad<0
 tw:r.2.2<0->TW r.1
 sz:r.2.2<0->r.1.length<=r.2.1-a
def EF {bad:Int}{t:List UInt8}(h:tkB P a bad t<0):bad<0/\tkA P a bad t=a+1:=by
 unfold tkB at h;unfold tkA
 split at h
 ·next hi=>rw[aG hi];exact⟨h,rfl⟩
 have:=ze7 P a bad;omega
def EY{bad:Int}{t:List UInt8}(d:a<=P.ts.length):a<=tkA P a bad t/\tkA P a bad t<=P.ts.length:=by
 unfold tkA
 split
 ·next hi=>have:=(zb9 hi).2;omega
 omega
def wq5{bad:Int}(h:naB P a bad<0):bad<0/\naA P a bad=a+1:=by
 unfold naB at h;unfold naA
 split at h
 ·next hi=>rw[aG hi];exact⟨h,rfl⟩
 have:=ze7 P a bad;omega
def wo1{bad:Int}(d:a<=P.ts.length):a<=naA P a bad/\naA P a bad<=P.ts.length:=by
 unfold naA
 split
 ·next hi=>have:=(zo9 hi).2;omega
 omega
def RK.bad{bad:Int}{l:List Nd}(d:a<=a')(o:a'<=P.ts.length)(D:0<=b):RK P a bad (l,a',b) :=
 ⟨d,o,λh=>by have h:b<0:=h;omega,λh=>by have h:b<0:=h;omega,λh=>by have h:b<0:=h;omega⟩
def RK.leaf{bad:Int}(I:a<a')(G:a'<=P.ts.length)(d:b<0->bad<0)(D:AS (n.kind.toNat:Nat)<=0):RK P a bad (ndS n [],a',b) :=
 ⟨by show a<=a';omega,G,d,λ_=>TW.node (λc o=>by cases o) D (.inr rfl) (by simp),λ_=>by show(ndS n []).length<=a'-a;simp[ndS];omega⟩
def RK.kids{bad:Int}(L:P.ts.length<=8192)(J:a<=a')(I:a'<=P.ts.length)(o:b<0->bad<0)(D:b<0->∀c∈cs,TW c)(d:b<0->cs.flatten.length+1<=a'-a)(G:AS (n.kind.toNat:Nat)<=cs.length)(K:BF n.kind.toNat=true):RK P a bad (ndS n cs,a',b) :=
 ⟨J,I,o,λh=>TW.node (D h) G (.inl K) (oH (d h)),λh=>by
  have:=d h;show(ndS n cs).length<=a'-a
  unfold ndS;rw[aR,zH8];exact this⟩
def yv7{row:Nat}(O:P.ts.length<=8192)(J:∀a bad,a0<a->a<=P.ts.length->RK P a bad (g a bad)):∀(k:Nat) (l:List Nd) (o:Nat) (d:Int),RK P a0 bad0 (l,o,d)->RK P a0 bad0 (loF P g row k l o d)
 | 0,l,o,d,h=>h
 | k+1,l,o,d,h=>by
  rw[loF]
  split
  ·exact h
  next h0 =>
  have I:=yf8 h0;have X:a0<=o:=h.le;have D:=J (o+1) d oM oM
  have K:RK P a0 bad0 (ndS ⟨0,15,⟨#[]⟩,0,opS P o d row,(plS P o:Nat)⟩ [l,(g (o+1) d).1],(g (o+1) d).2.1,(g (o+1) d).2.2):=by
   have R:=D.le;refine RK.kids O oM D.lim (λ_=>h.on I.1) (λG c L=>?_) (λG=>?_) (show AS 15<=2 by decide) (show BF 15=true by decide)
   ·rw[bJ,aT]at L
    rcases L with rfl | rfl
    ·exact h.tw I.1
    exact D.tw G
   have Y:l.length<=o-a0:=h.sz I.1;have W:=D.sz G;simp only[bY,dF,bD,aA];omega
  split
  ·exact K
  exact yv7 O J k _ _ _ K
def yE5{bad:Int}(L:P.ts.length<=8192)(W:a<=P.ts.length)(J:∀a' o,a<a'->a'<=P.ts.length->RK P a' o (g a' o)):RK P a bad (atF P g a bad):=by
 unfold atF
 split
 ·next hi =>
  have:bad<0/\a<P.ts.length:=by
   unfold CF at hi;rw[bM,bV]at hi;refine⟨hi.1,?_⟩;by_cases h:a<P.ts.length
   ·exact h
   rw[aS oM]at hi;cases hi.2
  exact RK.leaf oM oM (λh=>h) (show AS 10<=0 by decide)
 split
 ·next hi=>have:=zb9 hi;exact RK.leaf oM oM (λh=>h) (show AS 11<=0 by decide)
 split
 ·next hi=>have:=zb9 hi;exact RK.leaf oM oM (λh=>h) (show AS 11<=0 by decide)
 split
 ·next hi =>
  have G:=zb9 hi;have d:=J (a+1) bad oM oM;have I:=EY (bad:=(g (a+1) bad).2.2) (t:=[41]) d.lim;have D:=d.le;refine⟨by show a<=tkA _ _ _ _;omega,I.2,λ_=>G.1,λh=>d.tw (EF h).1,λh=>?_⟩;have R:=d.sz (EF h).1;have O:=(EF h).2;show(g (a+1) bad).1.length<=tkA _ _ _ _-a;omega
 split
 ·next hi =>
  have G:=zo9 hi
  split
  ·next hj =>
   have X:=zb9 hj;have d:=J (a+2) bad oM oM;have I:=EY (bad:=(g (a+2) bad).2.2) (t:=[93]) d.lim;have D:=d.le;refine RK.kids L oM I.2 (λ_=>G.1) (λh c K=>?_) (λh=>?_) (show AS 13<=1 by decide) (show BF 13=true by decide)
   ·rw[aT]at K
    subst K;exact d.tw (EF h).1
   have R:=d.sz (EF h).1;have O:=(EF h).2;simp only[bY,dF,bD];omega
  exact RK.leaf oM oM (λh=>h) (show AS 12<=0 by decide)
 exact RK.bad (nR_ _) W (ze7 P a bad)
def zu9(hG:P.ts.length<=8192):∀(f o a:Nat) (bad:Int),o<=7->a<=P.ts.length->(P.ts.length-a)*10+(9-o)<=f->RK P a bad (exF P f o a bad)
 | 0,o,a,bad,hm,ha,hf=>oM
 | f+1,o,a,bad,hm,ha,hf=>by
  rw[exF]
  split
  ·next h5 =>
   have D:=zu9 hG f (o+1) a bad oM ha oM;exact yv7 hG (λa' d K G=>zu9 hG f (o+1) a' d oM G oM) f _ _ _ D
  split
  ·exact zu9 hG f 6 a bad oM ha oM
  split
  ·have L:∀I,bad<0/\a<P.ts.length->RK P a bad (ndS ⟨0,14,⟨#[]⟩,0,I,(plS P a:Nat)⟩ [(exF P f 6 (a+1) bad).1],(exF P f 6 (a+1) bad).2.1,(exF P f 6 (a+1) bad).2.2):=by
    intro I R;have D:=zu9 hG f 6 (a+1) bad oM oM oM;have O:=D.le;refine RK.kids hG oM D.lim (λ_=>R.1) (λh c J=>?_) (λh=>?_) (show AS 14<=1 by decide) (show BF 14=true by decide)
    ·rw[aT]at J
     subst J;exact D.tw h
    have K:=D.sz h;simp only[bY,dF,bD];omega
   split
   ·next hi=>exact L 1 (zb9 hi)
   split
   ·next hi=>exact L 2 (zb9 hi)
   exact zu9 hG f 7 a bad oM ha oM
  exact yE5 hG ha λa' d K G=>zu9 hG f 0 a' d oM G oM
def zy0(hG:P.ts.length<=8192)(a:Nat)(bad:Int)(d:a<=P.ts.length):RK P a bad (exA P a bad):=zu9 hG _ 0 a bad oM d oM
structure SK(P:RP)(a:Nat)(bad:Int)(r:List Nd×Nat×Int):Prop where
 le:a<=r.2.1
 lim:r.2.1<=P.ts.length
 on:r.2.2<0->bad<0
 tw:r.2.2<0->∃cs:List (List Nd),r.1=cs.flatten/\∀c∈cs,TW c
 sz:r.2.2<0->r.1.length<=r.2.1-a
def SK.nil{bad:Int}(o:a<=P.ts.length):SK P a bad ([],a,bad):=⟨nR_ _,o,λh=>h,λ_=>⟨[],rfl,λc d=>by cases d⟩,λ_=>zL_ _⟩
def SK.more{a1:Nat}{o:Int}{l:List Nd}{r:List Nd×Nat×Int}(h:SK P a0 bad0 (l,a1,o))(G:RK P a1 o r):SK P a0 bad0 (l++r.1,r.2.1,r.2.2):=by
 have K:a0<=a1:=h.le;have J:=G.le;refine⟨by show a0<=r.2.1;omega,G.lim,λD=>h.on (G.on D),λD=>?_,λD=>?_⟩
 ·obtain⟨cs,e,I⟩:=h.tw (G.on D)
  refine⟨cs++[r.1],?_,?_⟩
  ·have d:l=cs.flatten:=e
   rw[dG,d];simp
  intro c d;rw[bA,aT]at d;rcases d with d | rfl
  ·exact I c d
  exact G.tw D
 have I:l.length<=a1-a0:=h.sz (G.on D);have d:=G.sz D;show(l++r.1).length<=r.2.1-a0;rw[aA];omega
def yv8(hg:∀a bad,a0<=a->a<=P.ts.length->RK P a bad (g a bad)):∀(k:Nat) (l:List Nd) (o:Nat) (d:Int),SK P a0 bad0 (l,o,d)->SK P a0 bad0 (blF P g k l o d)
 | 0,l,o,d,h=>h
 | k+1,l,o,d,h=>by
  rw[blF]
  split
  ·exact yv8 hg k _ _ _ (h.more (hg o d h.le h.lim))
  exact h
def yE6{bad:Int}(I:P.ts.length<=8192)(ha:a<=P.ts.length)(hg:∀a' O,a<a'->a'<=P.ts.length->RK P a' O (g a' O)):RK P a bad (smF P g a bad):=by
 unfold smF
 split
 ·next hi =>
  have K:=zb9 hi;have h1:=wo1 (bad:=bad) (show a+1<=P.ts.length by omega);have R:=EY (bad:=naB P (a+1) bad) (t:=[59]) h1.2;exact RK.leaf oM R.2 (λ_=>K.1) (show AS 4<=0 by decide)
 split
 ·next hi =>
  have K:=zb9 hi;have d:=zy0 I (a+1) bad oM;have R:=EY (bad:=(exA P (a+1) bad).2.2) (t:=[59]) d.lim;have W:=d.le;refine RK.kids I oM R.2 (λ_=>K.1) (λh c o=>?_) (λh=>?_) (show AS 5<=1 by decide) (show BF 5=true by decide)
  ·rw[aT]at o
   subst o;exact d.tw (EF h).1
  have e1:=d.sz (EF h).1;have e2:=(EF h).2;simp only[bY,dF,bD];omega
 split
 ·next hi =>
  have K:=zb9 hi;have R:=EY (bad:=bad) (t:=[59]) (show a+1<=P.ts.length by omega);exact RK.leaf oM R.2 (λ_=>K.1) (show AS 6<=0 by decide)
 split
 ·next hi =>
  have K:=zb9 hi;have d:=zy0 I (a+1) bad oM;have W:=d.le;have D:=hg (exA P (a+1) bad).2.1 (exA P (a+1) bad).2.2 oM d.lim;have Z:=D.le;refine RK.kids I oM D.lim (λ_=>K.1) (λh c o=>?_) (λh=>?_) (show AS 8<=2 by decide) (show BF 8=true by decide)
  ·rw[bJ,aT]at o
   rcases o with rfl | rfl
   ·exact d.tw (D.on h)
   exact D.tw h
  have e1:=d.sz (D.on h);have e2:=D.sz h;simp only[bY,dF,bD,aA];omega
 split
 ·next hi =>
  have K:=zb9 hi;have d:=zy0 I (a+1) bad oM;have W:=d.le;have D:=hg (exA P (a+1) bad).2.1 (exA P (a+1) bad).2.2 oM d.lim;have Z:=D.le;simp only
  split
  ·next hj =>
   have X:=zb9 hj;have L:=hg ((g (exA P (a+1) bad).2.1 (exA P (a+1) bad).2.2).2.1+1) (g (exA P (a+1) bad).2.1 (exA P (a+1) bad).2.2).2.2 oM oM;have a1:=L.le;refine RK.kids I oM L.lim (λ_=>K.1) (λh c o=>?_) (λh=>?_) (show AS 7<=3 by decide) (show BF 7=true by decide)
   ·rw[bJ,bJ,aT]at o
    rcases o with rfl | rfl | rfl
    ·exact d.tw (D.on X.1)
    ·exact D.tw X.1
    exact L.tw h
   have e1:=d.sz (D.on X.1);have e2:=D.sz X.1;have e3:=L.sz h;simp only[bY,dF,bD,aA];omega
  refine RK.kids I oM D.lim (λ_=>K.1) (λh c o=>?_) (λh=>?_) (show AS 7<=2 by decide) (show BF 7=true by decide)
  ·rw[bJ,aT]at o
   rcases o with rfl | rfl
   ·exact d.tw (D.on h)
   exact D.tw h
  have e1:=d.sz (D.on h);have e2:=D.sz h;simp only[bY,dF,bD,aA];omega
 have hn:=wo1 (bad:=bad) ha;unfold nsF
 split
 ·next hj =>
  have X:=zb9 hj;have d:=zy0 I (naA P a bad+1) (naB P a bad) oM;have W:=d.le;simp only;have R:=EY (bad:=(exA P (naA P a bad+1) (naB P a bad)).2.2) (t:=[93]) d.lim;have h3:=EY (bad:=tkB P (exA P (naA P a bad+1) (naB P a bad)).2.1 (exA P (naA P a bad+1) (naB P a bad)).2.2 [93]) (t:=[58,61]) R.2;generalize e2:tkA P (exA P (naA P a bad+1) (naB P a bad)).2.1 (exA P (naA P a bad+1) (naB P a bad)).2.2 [93]=a2 at *;generalize f2:tkB P (exA P (naA P a bad+1) (naB P a bad)).2.1 (exA P (naA P a bad+1) (naB P a bad)).2.2 [93]=b2 at *;have J:=zy0 I (tkA P a2 b2 [58,61]) (tkB P a2 b2 [58,61]) h3.2;have Y:=J.le;have h4:=EY (bad:=(exA P (tkA P a2 b2 [58,61]) (tkB P a2 b2 [58,61])).2.2) (t:=[59]) J.lim
  have G:tkB P (exA P (tkA P a2 b2 [58,61]) (tkB P a2 b2 [58,61])).2.1 (exA P (tkA P a2 b2 [58,61]) (tkB P a2 b2 [58,61])).2.2 [59]<0->(exA P (tkA P a2 b2 [58,61]) (tkB P a2 b2 [58,61])).2.2<0/\tkB P a2 b2 [58,61]<0/\b2<0/\(exA P (naA P a bad+1) (naB P a bad)).2.2<0:=λh=>by have q1:=(EF h).1;have q2:=J.on q1;have q3:=(EF q2).1;rw[<-f2]at q3;exact⟨q1,q2,by rw[<-f2];exact q3,(EF q3).1⟩
  refine RK.kids I oM h4.2 (λ_=>(wq5 X.1).1) (λh c o=>?_) (λh=>?_) (show AS 3<=2 by decide) (show BF 3=true by decide)
  ·rw[bJ,aT]at o
   rcases o with rfl | rfl
   ·exact d.tw (G h).2.2.2
   exact J.tw (G h).1
  have e1:=d.sz (G h).2.2.2;have e3:=J.sz (G h).1;simp only[bY,dF,bD,aA];omega
 have h3:=EY (bad:=naB P a bad) (t:=[58,61]) hn.2;simp only;have J:=zy0 I (tkA P (naA P a bad) (naB P a bad) [58,61]) (tkB P (naA P a bad) (naB P a bad) [58,61]) h3.2;have Y:=J.le;have h4:=EY (bad:=(exA P (tkA P (naA P a bad) (naB P a bad) [58,61]) (tkB P (naA P a bad) (naB P a bad) [58,61])).2.2) (t:=[59]) J.lim;refine RK.kids I oM h4.2 (λh=>(wq5 (EF (J.on (EF h).1)).1).1) (λh c o=>?_) (λh=>?_) (show AS 2<=1 by decide) (show BF 2=true by decide)
 ·rw[aT]at o
  subst o;exact J.tw (EF h).1
 have e3:=J.sz (EF h).1;have e4:=(EF h).2;simp only[bY,dF,bD];omega
def yj0(hG:P.ts.length<=8192):∀(f D a:Nat) (bad:Int),D<=1->a<=P.ts.length->(P.ts.length-a)*10+2+3*D<=f->RK P a bad (stF P f D a bad)
 | 0,D,a,bad,hm,ha,hf=>oM
 | f+1,D,a,bad,hm,ha,hf=>by
  rw[stF]
  split
  ·exact yE6 hG ha λa' d K J=>yj0 hG f 1 a' d oM J oM
  have K:=EY (bad:=bad) (t:=[123]) ha;have o:=yv8 (P:=P) (a0:=tkA P a bad [123]) (bad0:=tkB P a bad [123]) (g:=stF P f 0) (λa' d I L=>yj0 hG f 0 a' d oM L oM) f [] _ _ (SK.nil K.2);generalize Y:blF P (stF P f 0) f [] (tkA P a bad [123]) (tkB P a bad [123])=r at o;have O:=o.le;have J:=EY (bad:=r.2.2) (t:=[125]) o.lim;have W:∀cs:List (List Nd),AS 9<=cs.length:=λcs=>Int.le_trans (show AS 9<=0 by decide) (Int.natCast_nonneg _);unfold blE;by_cases G:tkB P r.2.1 r.2.2 [125]<0
  ·have I:=EF G
   obtain⟨cs,e,R⟩:=o.tw I.1;have L:=o.sz I.1;have X:=EF (o.on I.1)
   have en:ndS ⟨0,9,⟨#[]⟩,0,0,(plS P a:Nat)⟩ [r.1]=ndS ⟨0,9,⟨#[]⟩,0,0,(plS P a:Nat)⟩ cs:=by unfold ndS;rw[e];simp[List.map_flatten]
   rw[en];refine RK.kids hG oM J.2 (λ_=>X.1) (λ_=>R) (λ_=>?_) (W cs) (show BF 9=true by decide);rw[<-e];omega
  exact RK.bad oM J.2 oM
def yE7{bad:Int}(d:bad<0)(O:a<P.ts.length):RK P a bad (deF P a bad):=by
 have D:=wo1 (bad:=bad) (show a+1<=P.ts.length by omega);unfold deF;simp only
 split
 ·have o:=EY (bad:=naB P (a+1) bad) (t:=[91]) D.2
  generalize L:tkA P (naA P (a+1) bad) (naB P (a+1) bad) [91]=a2 at *;generalize K:tkB P (naA P (a+1) bad) (naB P (a+1) bad) [91]=b2 at *
  have J:a2<=(if CF P a2 b2 then a2+1 else a2)/\(if CF P a2 b2 then a2+1 else a2)<=P.ts.length:=by
   split
   ·next hi =>
    have:a2<P.ts.length:=by
     unfold CF at hi;rw[bM]at hi;by_cases h:a2<P.ts.length
     ·exact h
     rw[aS oM]at hi;cases hi.2
    omega
   omega
  generalize W:(if CF P a2 b2 then a2+1 else a2)=a3 at *;generalize R:(if CF P a2 b2 then b2 else AF P a2 b2)=b3 at *;have G:=EY (bad:=b3) (t:=[93]) J.2;have I:=EY (bad:=tkB P a3 b3 [93]) (t:=[59]) G.2;exact RK.leaf oM I.2 (λ_=>d) (show AS 1<=0 by decide)
 have o:=EY (bad:=naB P (a+1) bad) (t:=[59]) D.2;exact RK.leaf oM o.2 (λ_=>d) (show AS 0<=0 by decide)
def yv9:∀(k:Nat) (l:List Nd) (a:Nat) (bad:Int),SK P 0 (-1) (l,a,bad)->SK P 0 (-1) (dlF P k l a bad)
 | 0,l,a,bad,h=>h
 | k+1,l,a,bad,h=>by
  rw[dlF]
  split
  ·next hi =>
   have d:bad<0/\a<P.ts.length:=by
    rw[cR]at hi
    rcases hi with hi | hi<;>exact zb9 hi
   exact yv9 k _ _ _ (h.more (yE7 d.1 d.2))
  exact h
def yw0(hG:P.ts.length<=8192):∀(k:Nat) (l:List Nd) (a:Nat) (bad:Int),SK P 0 (-1) (l,a,bad)->SK P 0 (-1) (slF P k l a bad)
 | 0,l,a,bad,h=>h
 | k+1,l,a,bad,h=>by
  rw[slF]
  split
  ·have d:a<=P.ts.length:=h.lim
   exact yw0 hG k _ _ _ (h.more (yj0 hG _ 0 a bad oM d oM))
  exact h
def yE8(hG:P.ts.length<=8192):SK P 0 (-1) (paF P):=yw0 hG _ _ _ _ (yv9 _ _ _ _ (SK.nil (zL_ _)))
def zv0(hG:P.ts.length<=8192)(d:(BX P).1=0):(BX P).2.2.length<=300/\(CJ (BX P).2.2=(0,0)\/InR (CJ (BX P).2.2) 0 (BX P).2.2.length):=by
 have G:=yE8 hG;unfold BX at d ⊢
 split at d
 ·cases d
 next hb =>
 rw[aC hb]
 split at d
 ·cases d
 next hn =>
 split at d
 ·cases d
 next hd =>
 have D:(paF P).1.length<=300:=by rw[gV]at hn;exact hn
 obtain⟨cs,e,o⟩:=G.tw oM;simp only[hn,hd];refine⟨D,?_⟩;unfold CJ;rw[aC oM,e];rcases wv5 cs o [] 0 false zu8 with h | h
 ·right;rw[aL]at h;exact h
 left;exact h
def zH9(ao:Option Addr)(cap:Nat)(w:World) :
  Calls Tryz.prog 47 #[.slice ao 0 cap] w λy w'=>y=.returned (.tuple #[nI 0,nI 0])/\Below w.heap.size w w':=by
 go_enter Tryz.func47,Tryz.ntmps47;go_wp2_with fail
 go_loop [4,6] (λs i=>s=sZ/\i=nI 0) (λ_ _=>0)
 case atStart=>exact⟨rfl,rfl⟩
 obtain⟨rfl,rfl⟩:=hrel;go_wp2_with fail
 go_loop [12] (λi=>i=nI 0) (λ_=>0)
 case atStart=>rfl
 subst hrel;go_wp2_with fail
 go_ret2
 exact⟨rfl,Below.refl _ _⟩
def zI0:AA []=(0,0,ls0):=rfl
def AG(w:World)(B:Nat)(v:Nat->Value)(ns:List Nd)(l:Ls):Prop:=∀k,k<6->w.ownsRow B (TY k) (SZ k) (v k) (nOf ns.length l k) (xOf ns ns.length l k)
def AG.none(w:World)(B:Nat):AG w B (λ_=>sZ) [] ls0:=by
 intro k D;have d:nOf ([]:List Nd).length ls0 k=0:=by unfold nOf ls0;simp
 have o:xOf [] ([]:List Nd).length ls0 k=[]:=by unfold xOf ls0;simp
 rw[d,o];exact World.ownsRow_nil _ _ _ _
def zB9(ao:Option Addr)(cap:Nat)(w:World) :
  Calls Tryz.prog 25 #[.slice ao 0 cap] w λe w'=>e=.returned (.tuple #[.agg #[sZ,sZ,sZ,sZ,sZ,sZ],nI 0,nI 0])/\Ok w w':=by
 have G:Hi (∀J,Below w.heap.size w (w.alloc J)):=λJ=>(Below.refl _ _).alloc (nR_ _) _;go_enter Tryz.func25,Tryz.ntmps25;go_wp2_with fail;refine mq (zH9 ao cap _) λK d=>?_;have D:Hi (Six K w.heap.size (sZ) (sZ) (sZ) (sZ) (sZ) (sZ)):=(Six.new w _ _ _ _ _ _).below d;have I:Hi (Below w.heap.size w K):=(G.o _).trans (d.mono sI);clear d;obtain⟨X,Y,L,W,d,O,R⟩:=D.o.pc;have Z:=D.o.warm;go_wp2_with fail
 go_loop [8] (λi=>i=nI 0) (λ_=>0)
 case atStart=>rfl
 subst hrel;go_wp2_with fail
 try simp only[Exit.inBlock,Exit.then]
 refine bodyPost_ret (zc6 rfl _ _ w.heap.size 30 _ (0,0) _ rfl (heap_past _ _ _ (za2 (zc9 D.o.heap _ _ _ _ _ _)) (zc9 D.o.heap _ _ _ _ _ _)) Tryz.underlying30 rfl Tryz.info30) rfl ?_;exact⟨rfl,(show Ok w _ from zc8 I.o (nR_ _) _ _ _ _ _ _).alloc _⟩
def yj1(h:n.Fit):n.Ok:=⟨by have:=h.name;unfold maxLen;omega,h.lo,h.hi,h.num⟩
def zI1(v:Value)(ns:List Nd)(w:World)(h:DF w v ns) :
  Calls Tryz.prog 25 #[v] w λe w'=>∃u:Nat->Value,e=.returned (.tuple #[.agg #[u 0,u 1,u 2,u 3,u 4,u 5],nI (AA ns).1,nI (AA ns).2.1])/\Ok w w'/\((AA ns).1=0->AG w' w.heap.size u ns (AA ns).2.2/\Apt u)/\((AA ns).1≠0->∀k,u k=sZ):=by
 obtain⟨d,J,cap,rfl,L,K,D⟩:=h;rcases D with rfl | ⟨b,o,rfl,hN⟩
 ·refine(zB9 J cap w).mono ?_
  rintro e w' ⟨rfl,G⟩;rw[zI0];exact⟨λ_=>sZ,rfl,G,λ_=>⟨AG.none _ _,λ_ _ _ _ _=>.inl rfl⟩,λh=>absurd rfl h⟩
 refine(zJ0 b o cap ns w d hN L K).mono ?_;rintro e w' ⟨u,rfl,G,D,I⟩;exact⟨u,rfl,G,D,I⟩
def yt6{w:World}{B g n cap:Nat}{ns:List Nd}(h:w.ownsRow B 53 6 (.slice (sA g 0) n cap) n (ndL ns))(I:n=ns.length):AV w g 0 ns:=by
 have D:∀j u,(ndL ns)[j]?=some u->w.cell? (aD g j)=some u:=λj u G=>by have:=h.cells (g:=g) rfl j u G;rw[zb7,aL]at this;exact this
 have o:∀(i:Nat) (d:i<ns.length),ns[i]?=some ns[i]:=λi d=>gG_ d;refine⟨(h.lt g rfl).2,?_,?_,?_,?_,?_,?_⟩
 ·intro i d;rw[aL];exact D _ _ (zg3 (o i d)).1
 ·intro i d;rw[aL];exact D _ _ (zg3 (o i d)).2.1
 ·intro i d;rw[aL];exact D _ _ (zg3 (o i d)).2.2.1
 ·intro i d;rw[aL];exact D _ _ (zg3 (o i d)).2.2.2.1
 ·intro i d;rw[aL];exact D _ _ (zg3 (o i d)).2.2.2.2.1
 intro i d;rw[aL];exact D _ _ (zg3 (o i d)).2.2.2.2.2
def NL.snds{w:World}{B:Nat}{v:Value}{ns:List Nd}(h:NL w B v ns)(d:∀n∈ns,n.Ok):DF w v ns:=by
 refine⟨d,?_⟩;rcases h.2 with ⟨rfl,G⟩ | ⟨g,cap,I,rfl,K,O,o,D,J,L⟩
 ·exact⟨none,0,by rw[G],oM,by simp[maxLen],.inl (aW G)⟩
 exact⟨_,cap,rfl,o,D,.inr ⟨g,0,rfl,yt6 h rfl⟩⟩
def zv1(ns:List Nd):∀(t:List Nd) (i:Nat) (l:Ls),(AR ns t i l).1≠0->∃m:Nat,(AR ns t i l).2.1=m/\i<=m/\m<i+t.length
 | [],i,l,h=>absurd rfl h
 | n::t,i,l,h=>by
  rw[AR]at h ⊢
  split at h
  ·next h0 =>
   rw[aG h0];obtain⟨m,e,d,o⟩:=zv1 ns t (i+1) _ h;exact⟨m,e,oM,by rw[aR];omega⟩
  next h0 =>
  rw[aC h0];exact⟨i,rfl,aK _,by rw[aR];omega⟩
def zM8(hG:P.ts.length<=8192)(o:(BX P).1=0)(h:(AA (BX P).2.2).1≠0):∃m:Nat,(AA (BX P).2.2).2.1=m/\m<(BX P).2.2.length:=by
 obtain⟨G,hs⟩:=zv0 hG o;unfold AA at h ⊢;rcases hs with hs | hs
 ·rw[hs,aG rfl]at h ⊢
  obtain⟨m,e,D,d⟩:=zv1 _ _ _ _ h;exact⟨m,e,oM⟩
 rw[aC hs.1]at h ⊢;obtain⟨m,e,D,d⟩:=hs.2;exact⟨m,e,d⟩
def ws1(w:World)(P:RP)(e:Ending)(w':World):Prop :=
 ((BX P).1=0/\(AA (BX P).2.2).1=0/\∃u:Nat->Value,e=.returned (.tuple #[.agg #[u 0,u 1,u 2,u 3,u 4,u 5],nI 0,nI 0])/\AG w' w.heap.size u (BX P).2.2 (AA (BX P).2.2).2.2/\(∀n∈(BX P).2.2,n.Fit)/\Apt u)
 \/ (((BX P).1=0->(AA (BX P).2.2).1≠0)/\∃er at0:Int,er≠0/\e=.returned (.tuple #[.agg #[sZ,sZ,sZ,sZ,sZ,sZ],nI er,nI at0]))
def wb3(w:World)(l:List UInt8)(e:Ending)(w':World):Prop :=
 match DY l with
 | .inl (er,at0)=>20<=er/\e=.returned (.tuple #[.agg #[sZ,sZ,sZ,sZ,sZ,sZ],nI (er:Nat),nI (at0:Nat)])
 | .inr ts=>∃P:RP,P.ts=ts/\P.en=l.length/\ws1 w P e w'
def yt7(s:ByteArray)(w:World) :
  Calls Tryz.prog 12 #[.string s] w λe w'=>wb3 w s.toList e w'/\Ok w w':=by
 cases J:DY s.toList with
 | inl p =>
  obtain⟨W,K⟩:=p;have R:=hid J;have d:=hid (zr3 J);have D:((W:Int)==0)=false:=by rw[aF];have:=zr3 J;omega
  clear J;go_enter Tryz.func12,Tryz.ntmps12
  go_wp2_with (first
   |(go_at_call 24;refine(zH7 s _).mono ?_;rintro e w1 ⟨ht,I⟩;unfold we7 at ht;rw[R.o]at ht;subst ht;have HX:Hi (Six w1 w.heap.size (sZ) (sZ) (sZ) (sZ) (sZ) (sZ)):=(Six.new w _ _ _ _ _ _).below I;have HK:Hi (Ok w w1):=((Ok.refl w).alloc _).step I;obtain⟨z1,c0,c1,c2,c3,c4,c5⟩:=HX.o.pc;have wf:=HX.o.warm;clear I)
   | fail)
  try simp only[Exit.inBlock,Exit.then]
  refine bodyPost_ret (zc6 rfl _ _ w.heap.size 30 _ (0,0) _ rfl (zc9 HX.o.heap _ _ _ _ _ _) Tryz.underlying30 rfl Tryz.info30) rfl ?_;refine⟨?_,zc8 HK.o (nR_ _) _ _ _ _ _ _⟩;unfold wb3;rw[R.o];exact⟨d.o,rfl⟩
 | inr ts =>
  have R:=hid J;have a2:=hid ((zB8 J).2.1);clear J;go_enter Tryz.func12,Tryz.ntmps12;go_wp2_with fail;refine(zH7 s _).mono ?_;rintro e w1 ⟨ht,I⟩;unfold we7 at ht;rw[R.o]at ht;obtain⟨P,v,h1,h2,rfl,h3,D⟩:=ht;have Y:Hi ((BX P).1=0->(AA (BX P).2.2).1≠0->∃m:Nat,(AA (BX P).2.2).2.1=m/\m<(BX P).2.2.length):=zM8 (by rw[h1];exact a2.o);have X:Hi ((BX P).1=0->(BX P).2.2.length<=300):=λh0=>(zv0 (by rw[h1];exact a2.o) h0).1;have d:Hi (∀e w',ws1 w P e w'->wb3 w s.toList e w'):=λe w' h=>by unfold wb3;rw[R.o];exact⟨P,h1,h2,h⟩
  unfold ws1 at d;obtain⟨x,G⟩:=qq (BX P);rw[<-G]at h3 D Y d X ⊢;obtain⟨W,K,ns⟩:=x;simp only at h3 D Y d X ⊢;obtain⟨ao,cp,rfl⟩:=za0 h3;have HX:Hi (Six w1 w.heap.size (sZ) (sZ) (sZ) (sZ) (sZ) (sZ)):=(Six.new w _ _ _ _ _ _).below I;have HK:Hi (Ok w w1):=((Ok.refl w).alloc _).step I;have HN:Hi (NL w1 (w.heap.size+1) (.slice ao ns.length cp) ns/\∀n∈ns,n.Fit):=⟨(by simpa using h3),D⟩;obtain⟨z1,c0,c1,c2,c3,c4,c5⟩:=HX.o.pc;have wf:=HX.o.warm;clear I h1 h2 h3 D G;by_cases hc:W=0
  ·have a6:Hi (∀e w' (u:Nat->Value),(AA ns).1=0->e=.returned (.tuple #[.agg #[u 0,u 1,u 2,u 3,u 4,u 5],nI 0,nI 0])->AG w' w.heap.size u ns (AA ns).2.2->Apt u->wb3 w s.toList e w'):=λe w' u h0 h1 h2 h3=>d.o _ _ (.inl ⟨hc,h0,u,h1,h2,HN.o.2,h3⟩)
   have b5:Hi (∀e w' (W K:Int),(AA ns).1≠0->W≠0->e=.returned (.tuple #[.agg #[sZ,sZ,sZ,sZ,sZ,sZ],nI W,nI K])->wb3 w s.toList e w'):=λe w' W K h0 h1 h2=>d.o _ _ (.inr ⟨λ_=>h0,W,K,h1,h2⟩);have a8:=hid (Y.o hc);have c8:=hid (X.o hc);subst hc;clear c0 c1 c2 c3 c4 c5 z1 wf d Y X;go_wp2_with fail;refine(zI1 _ ns w1 (HN.o.1.snds λn hn=>yj1 (HN.o.2 n hn))).mono ?_;rintro e w2 ⟨u,rfl,D,O,G⟩;have L:=hid (HX.o.below D);have a3:=hid (HK.o.step D);have HU:Hi (((AA ns).1=0->AG w2 w1.heap.size u ns (AA ns).2.2/\Apt u)/\((AA ns).1≠0->∀k,u k=sZ)):=⟨O,G⟩;have b2:=hid HX.o.lt;have a1:=hid (za1 HN.o.1 D);obtain⟨z1,c0,c1,c2,c3,c4,c5⟩:=L.o.pc;have wf:=L.o.warm;clear D O G;obtain⟨pe,O⟩:=qq ((AA ns).1);obtain⟨pi,Z⟩:=qq ((AA ns).2.1);rw[<-O,<-Z];by_cases hp:pe=0
   ·have G:Hi ((AA ns).1=0):=by rw[<-O];exact hp
    subst hp;have D:=hid ((HU.o.1 G.o).1);have a7:=hid ((HU.o.1 G.o).2);clear HU O Z;obtain⟨o0,p0,e0⟩:=za0 (D.o 0 dC);obtain⟨o1,p1,e1⟩:=za0 (D.o 1 dC);obtain⟨o2,p2,e2⟩:=za0 (D.o 2 dC);obtain⟨o3,p3,e3⟩:=za0 (D.o 3 dC);obtain⟨o4,p4,e4⟩:=za0 (D.o 4 dC);obtain⟨o5,p5,e5⟩:=za0 (D.o 5 dC);have b7:Hi (u 0=_):=e0;have b3:Hi (u 1=_):=e1;have a9:Hi (u 2=_):=e2;have b8:Hi (u 3=_):=e3;have b4:Hi (u 4=_):=e4;have a5:Hi (u 5=_):=e5;rw[e0,e1,e2,e3,e4,e5];clear e0 e1 e2 e3 e4 e5;go_wp2_with fail
    try simp only[Exit.inBlock,Exit.then]
    refine bodyPost_ret (zc6 rfl _ _ w.heap.size 30 _ (0,0) _ rfl (heap_past _ _ _ (za2 (zc9 L.o.heap _ _ _ _ _ _)) (zc9 L.o.heap _ _ _ _ _ _)) Tryz.underlying30 rfl Tryz.info30) rfl ?_;refine⟨?_,(show Ok w _ from zc8 a3.o (nR_ _) _ _ _ _ _ _).alloc _⟩;refine a6.o _ _ u G.o ?_ ?_ a7.o
    ·rw[b7.o,b3.o,a9.o,b8.o,b4.o,a5.o];rfl
    intro k hk;exact World.ownsRow.alloc (zI9 (D.o k hk) b2.o _ _ _ _ _ _) _
   have G:Hi ((AA ns).1≠0):=by rw[<-O];exact hp
   have b0:=hid hp;have c9:(pe==0)=false:=by rw[aF];exact hp
   have D:=HU.o.2 G.o;obtain⟨m,hm,a4⟩:=a8.o G.o;rw[<-Z]at hm;subst hm;have c6:(m:Int)<(ns.length:Int):=za5 a4;obtain⟨n,hn⟩:∃n,ns[m]?=some n:=⟨ns[m],gG_ a4⟩
   obtain⟨g,hg⟩:∃g,ao=some ⟨g,0,none⟩:=by
    obtain⟨g,c,e,_⟩:=a1.o.form oM
    injection e with e1
    exact⟨g,e1⟩
   subst hg;have d5:=a1.o.cells (g:=g) rfl _ _ (zg3 hn).2.2.2.2.2;rw[zb7,aL]at d5;have c7:=(a1.o.lt g rfl).2;have b6:=(a1.o.lt g rfl).1;have b9:¬w.heap.size=g:=oM;have b1:¬g=w.heap.size:=oM;rw[D 0,D 1,D 2,D 3,D 4,D 5];clear hp O Z D hn HU b6;go_wp2_with fail
   go_region
   go_wp2_with fail
   try simp only[Exit.inBlock,Exit.then]
   refine bodyPost_ret (zc6 rfl _ _ w.heap.size 30 _ (0,0) _ rfl (heap_past _ _ _ (za2 (zc9 L.o.heap _ _ _ _ _ _)) (zc9 L.o.heap _ _ _ _ _ _)) Tryz.underlying30 rfl Tryz.info30) rfl ?_;refine⟨?_,Below.drew ((show Ok w _ from zc8 a3.o (nR_ _) _ _ _ _ _ _).alloc _)⟩;exact b5.o _ _ pe n.pos G.o b0.o rfl
  have D:=hid hc;have G:(W==0)=false:=by rw[aF];exact hc
  clear hc;go_wp2_with fail
  try simp only[Exit.inBlock,Exit.then]
  refine bodyPost_ret (zc6 rfl _ _ w.heap.size 30 _ (0,0) _ rfl (zc9 HX.o.heap _ _ _ _ _ _) Tryz.underlying30 rfl Tryz.info30) rfl ?_;refine⟨?_,zc8 HK.o (nR_ _) _ _ _ _ _ _⟩;exact d.o _ _ (.inr ⟨λh=>absurd h D.o,W,K,D.o,rfl⟩)
end Go.Proofs.YthoegkcpmgalbaaGreatDoor
