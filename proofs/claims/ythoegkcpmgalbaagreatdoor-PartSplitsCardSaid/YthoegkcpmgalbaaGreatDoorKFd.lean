import Derived.Test.YthoegkcpmgalbaaGreatDoorKLf
set_option linter.all false
namespace Go.Proofs.YthoegkcpmgalbaaGreatDoor
variable{D:Int->List UInt8}{N f fr k:Nat}{n:Int}
structure Ed where
 from':Int
 to':Int
 op:Int
 place:Int
 sense:Bool
 loop:Bool
def edV(e:Ed):List Value:=[nI e.from',nI e.to',nI e.op,nI e.place,.bool e.sense,.bool e.loop]
def edL(es:List Ed):List Value:=(es.map edV).flatten
abbrev Tok:=Bool×List Int×List (Int×Int)
abbrev Vx:=Int×Tok
abbrev Lk:=Nat×Nat×Nat
def EG:Tok:=(true,[],[])
def FV:Tok:=(false,[],[])
def ET(t:Tok)(h:Int):Bool:=match t.2.2.getLast? with | some l=>l.1==h | none=>false
def wb0(U:Int)(l:List (Int×Int)):List (Int×Int):=match l.getLast? with | some x=>l.dropLast++[(x.1,if x.2<U then x.2+1 else U)] | none=>l
def AM(H U:Int)(e:Ed)(i:Nat)(t:Tok):Tok :=
 if t.1=true then EG
 else if e.op≠5 then (false,t.2.1,t.2.2)
 else if e.loop=false then (if (t.2.1.length:Int)<H then (false,t.2.1++[(i:Int)],t.2.2) else (false,t.2.1,t.2.2))
 else if e.sense=false then (if ET t e.from'=true then (false,t.2.1,t.2.2.dropLast) else (false,t.2.1,t.2.2))
 else if 0<U then (if ET t e.from'=true then (false,t.2.1,wb0 U t.2.2) else (false,t.2.1,t.2.2++[(e.from',1)]))
 else (false,t.2.1,t.2.2)
def CD(es:List Ed)(node:Int):List (Nat×Ed):=((List.range es.length).zip es).filter λx=>decide (x.2.from'=node)
structure Pl where
 mgd:Int->Bool
 cap:Nat
 H:Int
 U:Int
 es:List Ed
def Pl.tok(p:Pl)(node:Int)(t:Tok):Tok:=if p.mgd node=true then EG else t
def look(vs:List Vx)(v:Vx):Option Nat:=vs.findIdx? λx=>decide (x=v)
def many(vs:List Vx)(n:Int):Nat:=vs.countP λx=>decide (x.1=n)
def Pl.vert(p:Pl)(vs:List Vx)(node:Int)(t:Tok):Option (List Vx×Nat) :=
 match look vs (node,p.tok node t) with
 | some k=>some (vs,k)
 | none=>if many vs node=p.cap then none else some (vs++[(node,p.tok node t)],vs.length)
def Pl.edges(p:Pl)(fr:Nat)(t:Tok):List (Nat×Ed)->List Vx->List Lk->Int⊕(List Vx×List Lk)
 | [],vs,ls=>.inr (vs,ls)
 | x::l,vs,ls=>match p.vert vs x.2.to' (AM p.H p.U x.2 x.1 t) with
  | none=>.inl x.2.to'
  | some r=>p.edges fr t l r.1 (ls++[(fr,r.2,x.1)])
def Pl.verts(p:Pl):Nat->Nat->List Vx->List Lk->Int⊕(List Vx×List Lk)
 | 0,_,vs,ls=>.inr (vs,ls)
 | f+1,fr,vs,ls=>match vs[fr]? with
  | none=>.inr (vs,ls)
  | some v=>match p.edges fr v.2 (CD p.es v.1) vs ls with
   | .inl n=>.inl n
   | .inr r=>p.verts f (fr+1) r.1 r.2
def Pl.find(p:Pl)(f:Nat):Int⊕(List Vx×List Lk):=p.verts f 0 [(0,p.tok 0 FV)] []
structure VI(p:Pl)(vs:List Vx):Prop where
 nd:vs.Nodup
 cnt:∀n,many vs n<=p.cap
 mg:∀v∈vs,p.mgd v.1=true->v.2=EG
 dom:∀v∈vs,v.1=0\/∃e∈p.es,e.to'=v.1
def ya7{vs:List Vx}{v:Vx}(h:look vs v=some k):vs[k]?=some v:=by unfold look at h;obtain⟨o,d,_⟩:=List.findIdx?_eq_some_iff_getElem.1 h;rw[aJ o];exact cA some (cO d)
def zE4{vs:List Vx}{v:Vx}(h:look vs v=none):v ∉ vs:=by unfold look at h;intro d;have:=(List.findIdx?_eq_none_iff.1 h) v d;simp at this
def zP5(vs:List Vx)(v:Vx)(n:Int):many (vs++[v]) n=many vs n+if v.1=n then 1 else 0:=by unfold many;rw[List.countP_append,iH];simp
def zo5{p:Pl}{G:List Vx}{d:Int}{t:Tok}{r:List Vx×Nat}(h:VI p G)(O:d=0\/∃e∈p.es,e.to'=d)(o:p.vert G d t=some r) :
  VI p r.1/\(∃l,r.1=G++l/\(l=[]\/(l=[(d,p.tok d t)]/\r.2=G.length)))/\r.1[r.2]?=some (d,p.tok d t):=by
 unfold Pl.vert at o
 cases I:look G (d,p.tok d t) with
 | some k =>
  rw[I]at o
  injection o with o
  subst o;exact⟨h,⟨[],by simp,.inl rfl⟩,ya7 I⟩
 | none =>
  rw[I]at o;simp only at o
  split at o
  ·cases o
  rename_i hc
  injection o with o
  subst o;refine⟨⟨?_,?_,?_,?_⟩,⟨_,rfl,.inr ⟨rfl,rfl⟩⟩,by simp⟩
  ·refine List.nodup_append.2 ⟨h.nd,by simp,λa L b K e=>?_⟩
   rw[aT.1 K]at e;exact zE4 I (e ▸ L)
  ·intro n
   rw[zP5];by_cases e:d=n
   ·subst e
    have:=h.cnt d;simp only[dD];omega
   have:=h.cnt n;simp only[aC e];omega
  ·intro v hv J
   rcases bA.1 hv with hv | hv
   ·exact h.mg v hv J
   rw[aT.1 hv]at J ⊢;show p.tok d t=EG;unfold Pl.tok;rw[aG J]
  intro v hv;rcases bA.1 hv with hv | hv
  ·exact h.dom v hv
  rw[aT.1 hv];exact O
def ya8{p:Pl}{I:List Vx}{d:Int}{t:Tok}(h:VI p I)(W:0<p.cap)(o:p.vert I d t=none):p.mgd d=false:=by
 cases K:p.mgd d with
 | false=>rfl
 | true =>
  exfalso;unfold Pl.vert at o;have R:p.tok d t=EG:=by unfold Pl.tok;rw[aG K]
  rw[R]at o
  cases J:look I (d,EG) with
  | some k=>rw[J]at o;cases o
  | none =>
   rw[J]at o;simp only at o
   split at o
   ·rename_i he
    have X:many I d=0:=by unfold many;rw[List.countP_eq_zero];intro v L G;have G:v.1=d:=cO G;have O:=h.mg v L (by rw[G];exact K);apply zE4 J;rw[<-G,<-O];exact L
    omega
   cases o
def we1(p:Pl)(vs:List Vx)(fr:Nat)(t:Tok)(x:Nat×Ed)(l:Lk):Prop:=l.1=fr/\l.2.2=x.1/\vs[l.2.1]?=some (x.2.to',p.tok x.2.to' (AM p.H p.U x.2 x.1 t))
def wh9(p:Pl)(vs:List Vx)(fr:Nat)(t:Tok)(xs:List (Nat×Ed))(ll:List Lk):Prop:=ll.length=xs.length/\∀(j:Nat) (x:Nat×Ed),xs[j]?=some x->∃l,ll[j]?=some l/\we1 p vs fr t x l
def we1.grow{p:Pl}{d o:List Vx}{t:Tok}{x:Nat×Ed}{l:Lk}(h:we1 p d fr t x l):we1 p (d++o) fr t x l:=by refine⟨h.1,h.2.1,?_⟩;obtain⟨G,e⟩:=aE.1 h.2.2;rw[aQ G];exact h.2.2
def wh9.grow{p:Pl}{o L:List Vx}{t:Tok}{d:List (Nat×Ed)}{G:List Lk}(h:wh9 p o fr t d G):wh9 p (o++L) fr t d G :=
 ⟨h.1,λj x J=>by obtain⟨l,K,I⟩:=h.2 j x J;exact⟨l,K,I.grow⟩⟩
def wq0(vs:List Vx)(ls:List Lk)(m:Nat):Prop:=∀j,m<=j->j<vs.length->∃l∈ls,l.2.1=j/\l.1<j
def zw8{p:Pl}{t:Tok}:∀(G:List (Nat×Ed)) (d:List Vx) (L:List Lk) (r:List Vx×List Lk),VI p d->(∀x∈G,x.2∈p.es)->fr<d.length->p.edges fr t G d L=.inr r ->
  VI p r.1/\(∃ws,r.1=d++ws)/\∃J,r.2=L++J/\wh9 p r.1 fr t G J/\wq0 r.1 J d.length
 | [],d,L,r,h,_,_,hr=>by
  unfold Pl.edges at hr
  injection hr with hr
  subst hr;exact⟨h,⟨[],by simp⟩,[],by simp,⟨rfl,λj x K=>by simp at K⟩,λj R o=>absurd R (by have h3:j<d.length:=o;omega)⟩
 | x::G,d,L,r,h,K,hf,hr=>by
  unfold Pl.edges at hr
  cases W:p.vert d x.2.to' (AM p.H p.U x.2 x.1 t) with
  | none=>rw[W]at hr;cases hr
  | some q =>
   rw[W]at hr;obtain⟨R,⟨w1,O,I⟩,h3⟩:=zo5 h (.inr ⟨x.2,K x aY,rfl⟩) W;obtain⟨h4,⟨w2,Y⟩,J,h5,Z,h7⟩:=zw8 G q.1 _ r R (λy o=>K y (bG _ o)) (by rw[O,aA];omega) hr;refine⟨h4,⟨w1++w2,by rw[Y,O,bN]⟩,(fr,q.2,x.1)::J,by rw[h5,bN];rfl,⟨by rw[aR,aR,Z.1],?_⟩,?_⟩
   ·intro j y o
    cases j with
    | zero =>
     simp only[bR,cD]at o;subst o;refine⟨_,rfl,?_⟩;rw[Y];exact we1.grow ⟨rfl,rfl,h3⟩
    | succ j =>
     simp only[bF]at o ⊢;exact Z.2 j y o
   intro j a1 X;by_cases c:q.1.length<=j
   ·obtain⟨l,m1,m2⟩:=h7 j c X
    exact⟨l,bG _ m1,m2⟩
   rcases I with I | ⟨I,k2⟩
   ·rw[O,I,bD]at c;omega
   rw[O,I,aA,aZ]at c;have:j=d.length:=oM;exact⟨_,aY,by show q.2=j;omega,by show fr<j;omega⟩
def zE5{p:Pl}{t:Tok}(J:0<p.cap):∀(o:List (Nat×Ed)) (d:List Vx) (I:List Lk) (n:Int),VI p d->(∀x∈o,x.2∈p.es)->p.edges fr t o d I=.inl n->p.mgd n=false/\∃e∈p.es,e.to'=n
 | [],d,I,n,_,_,hr=>by unfold Pl.edges at hr;cases hr
 | x::o,d,I,n,h,hx,hr=>by
  unfold Pl.edges at hr
  cases G:p.vert d x.2.to' (AM p.H p.U x.2 x.1 t) with
  | none =>
   rw[G]at hr
   injection hr with hr
   subst hr;exact⟨ya8 h J G,x.2,hx x aY,rfl⟩
  | some q =>
   rw[G]at hr;exact zE5 J o q.1 _ n (zo5 h (.inr ⟨x.2,hx x aY,rfl⟩) G).1 (λy K=>hx y (bG _ K)) hr
def ya9{es:List Ed}{x:Nat×Ed}(h:x∈CD es n):x.2∈es/\x.2.from'=n:=by unfold CD at h;obtain⟨d,o⟩:=fY.1 h;exact⟨(List.of_mem_zip d).2,cO o⟩
structure FI(p:Pl)(fr:Nat)(vs:List Vx)(ls:List Lk):Prop where
 vi:VI p vs
 rows:∃ll:List (List Lk),ll.length=fr/\ls=ll.flatten/\∀(i:Nat) (l:List Lk),ll[i]?=some l->∃v,vs[i]?=some v/\wh9 p vs i v.2 (CD p.es v.1) l
 led:wq0 vs ls 1
 first:vs[0]?=some (0,p.tok 0 FV)
 le:fr<=vs.length
def FI.start(p:Pl)(I:0<p.cap):FI p 0 [(0,p.tok 0 FV)] []:=by
 refine⟨⟨by simp,λn=>?_,λv d o=>?_,λv d=>?_⟩,⟨[],rfl,rfl,λi l h=>by simp at h⟩,λj J G=>?_,rfl,by simp⟩
 ·unfold many
  rw[iH]
  split<;>omega
 ·rw[aT.1 d]at o ⊢
  show p.tok 0 FV=EG;unfold Pl.tok;rw[aG o]
 ·rw[aT.1 d];exact .inl rfl
 simp at G;omega
def FI.next{p:Pl}{K:List Vx}{R:List Lk}{v:Vx}{r:List Vx×List Lk}(h:FI p fr K R)(X:K[fr]?=some v)(hr:p.edges fr v.2 (CD p.es v.1) K R=.inr r):FI p (fr+1) r.1 r.2:=by
 obtain⟨O,_⟩:=aE.1 X;obtain⟨h1,⟨ws,J⟩,ll,L,h3,h4⟩:=zw8 _ _ _ _ h.vi (λx Y=>(ya9 Y).1) O hr;obtain⟨LL,W,k2,k3⟩:=h.rows;refine⟨h1,⟨LL++[ll],by simp[W],by rw[L,k2];simp,λi l o=>?_⟩,λj Z h6=>?_,?_,?_⟩
 ·by_cases c:i<LL.length
  ·rw[aQ c]at o
   obtain⟨v',G,I⟩:=k3 i l o;obtain⟨d,_⟩:=aE.1 G;refine⟨v',by rw[J,aQ d];exact G,?_⟩;rw[J];exact I.grow
  rw[bC oM]at o;by_cases d:i=fr
  ·subst d
   rw[W,eJ]at o;simp only[bR,cD]at o;subst o;exact⟨v,by rw[J,aQ O];exact X,h3⟩
  rw[aS (by simp;omega)]at o;cases o
 ·by_cases c:K.length<=j
  ·obtain⟨l,G,I⟩:=h4 j c h6
   exact⟨l,by rw[L];exact cI _ G,I⟩
  obtain⟨l,G,I⟩:=h.led j Z oM;exact⟨l,by rw[L];exact cG _ G,I⟩
 ·rw[J,aQ oM];exact h.first
 rw[J,aA];omega
def zw9{p:Pl}:∀(f fr:Nat) (d:List Vx) (o:List Lk) (r:List Vx×List Lk),FI p fr d o->p.verts f fr d o=.inr r->∃g,FI p g r.1 r.2/\(g=r.1.length\/g=fr+f)
 | 0,fr,d,o,r,h,hr=>by
  unfold Pl.verts at hr
  injection hr with hr
  subst hr;exact⟨fr,h,.inr rfl⟩
 | f+1,fr,d,o,r,h,hr=>by
  unfold Pl.verts at hr
  cases G:d[fr]? with
  | none =>
   rw[G]at hr
   injection hr with hr
   subst hr;have:=gV.1 G;have:=h.le;exact⟨fr,h,.inl (by show fr=d.length;omega)⟩
  | some v =>
   rw[G]at hr;simp only at hr
   cases I:p.edges fr v.2 (CD p.es v.1) d o with
   | inl n=>rw[I]at hr;cases hr
   | inr q =>
    rw[I]at hr;obtain⟨g,J,K⟩:=zw9 f (fr+1) q.1 q.2 r (h.next G I) hr;exact⟨g,J,oM⟩
def zE6{p:Pl}(J:0<p.cap):∀(f fr:Nat) (d:List Vx) (o:List Lk) (n:Int),FI p fr d o->p.verts f fr d o=.inl n->p.mgd n=false/\∃e∈p.es,e.to'=n
 | 0,fr,d,o,n,h,hr=>by unfold Pl.verts at hr;cases hr
 | f+1,fr,d,o,n,h,hr=>by
  unfold Pl.verts at hr
  cases I:d[fr]? with
  | none=>rw[I]at hr;cases hr
  | some v =>
   rw[I]at hr;simp only at hr
   cases G:p.edges fr v.2 (CD p.es v.1) d o with
   | inl k =>
    rw[G]at hr
    injection hr with hr
    subst hr;exact zE5 J _ _ _ _ h.vi (λx K=>(ya9 K).1) G
   | inr q=>rw[G]at hr;exact zE6 J f (fr+1) q.1 q.2 n (h.next I G) hr
def yv2(c:Nat):∀(N:Nat) (d:List Vx),(∀v∈d,0<=v.1/\v.1<(N:Int))->(∀n,many d n<=c)->d.length<=N*c
 | 0,d,h,_=>by
  cases d with
  | nil=>simp
  | cons v t=>have:=h v aY;omega
 | N+1,d,h,hc=>by
  have e:d.length=many d (N:Int)+(d.filter λv => !decide (v.1=(N:Int))).length:=by
   unfold many;rw[List.length_eq_countP_add_countP (λx:Vx=>decide (x.1=(N:Int)))]
   congr 1
   rw[List.countP_eq_length_filter]
   congr 1
   apply List.filter_congr;intro x _;simp
  have G:=yv2 c N (d.filter λv => !decide (v.1=(N:Int))) (λv o=>by
   obtain⟨a,b⟩:=fY.1 o;have:=h v a;have:v.1≠(N:Int):=by simpa using b
   omega) (λn=>aH (by
    unfold many
    exact List.Sublist.countP_le List.filter_sublist) (hc n))
  have o:=hc (N:Int);rw[e,Nat.succ_mul];omega
def FO(N:Nat)(es:List Ed):Prop:=0<N/\∀e∈es,0<=e.to'/\e.to'<(N:Int)
def VI.len{p:Pl}{o:List Vx}(h:VI p o)(G:FO N p.es):o.length<=N*p.cap:=by
 refine yv2 p.cap N o (λv I=>?_) h.cnt;rcases h.dom v I with e | ⟨d,h1,h2⟩
 ·rw[e];have:=G.1;omega
 have:=G.2 d h1;omega
def yb0{p:Pl}{r:List Vx×List Lk}(o:0<p.cap)(G:FO N p.es)(J:N*p.cap<f)(h:p.find f=.inr r):FI p r.1.length r.1 r.2:=by
 obtain⟨g,d,h2⟩:=zw9 f 0 _ _ r (FI.start p o) h;have K:=d.vi.len G;have I:=d.le;rcases h2 with h2 | h2
 ·rw[h2]at d;exact d
 omega
def zz5{p:Pl}(d:0<p.cap)(o:FO N p.es)(h:p.find f=.inl n):p.mgd n=false/\0<=n/\n<(N:Int):=by obtain⟨I,e,G,J⟩:=zE6 d f 0 _ _ n (FI.start p d) h;have:=o.2 e G;exact⟨I,oM,oM⟩
def DR(cap:Nat)(H U:Int)(es:List Ed)(mg:List Int):Pl:=⟨λn=>decide (n∈mg),cap,H,U,es⟩
def FW(cap:Nat)(H U:Int)(es:List Ed)(f:Nat):Nat->List Int->Option (List Int×List Vx×List Lk)
 | 0,_=>none
 | k+1,mg=>match (DR cap H U es mg).find f with
  | .inl n=>FW cap H U es f k (n::mg)
  | .inr r=>some (mg,r.1,r.2)
def zE7:∀(N:Nat) (d:List Int),d.Nodup->(∀n∈d,0<=n/\n<(N:Int))->d.length<=N
 | 0,d,_,h=>by
  cases d with
  | nil=>simp
  | cons n t=>have:=h n aY;omega
 | N+1,d,hd,h=>by
  have I:=zE7 N (d.erase (N:Int)) (hd.erase _) (λn o=>by
   have G:=h n (List.mem_of_mem_erase o);have J:n≠(N:Int):=λe=>by subst e;exact(hd.not_mem_erase) o
   omega)
  have G:d.length<=(d.erase (N:Int)).length+1:=by
   rw[List.length_erase]
   split<;>omega
  omega
def zE8{cap:Nat}{H U:Int}{es:List Ed}(o:0<cap)(G:FO N es):∀(k:Nat) (d:List Int),d.Nodup->(∀n∈d,0<=n/\n<(N:Int))->N<k+d.length->∃r,FW cap H U es f k d=some r
 | 0,d,hd,hm,hk=>by have:=zE7 N d hd hm;omega
 | k+1,d,hd,hm,hk=>by
  unfold FW
  cases h:(DR cap H U es d).find f with
  | inr r=>exact⟨_,rfl⟩
  | inl n =>
   obtain⟨J,I⟩:=zz5 (p:=DR cap H U es d) o G h;have K:n ∉ d:=of_decide_eq_false J
   exact zE8 o G k (n::d) (List.nodup_cons.2 ⟨K,hd⟩) (λx hx=>by
    rcases bJ.1 hx with e | hx
    ·rw[e];exact I
    exact hm x hx) (by rw[aR];omega)
def zs8{cap:Nat}{H U:Int}{es:List Ed}(G:0<cap)(I:FO N es)(J:N*cap<f):∀(k:Nat) (d:List Int) (r:List Int×List Vx×List Lk),d.Nodup->(∀n∈d,0<=n/\n<(N:Int))->FW cap H U es f k d=some r->r.1.Nodup/\(∀n∈r.1,0<=n/\n<(N:Int))/\FI (DR cap H U es r.1) r.2.1.length r.2.1 r.2.2
 | 0,d,r,_,_,h=>by unfold FW at h;cases h
 | k+1,d,r,hd,hm,h=>by
  unfold FW at h
  cases o:(DR cap H U es d).find f with
  | inr q =>
   rw[o]at h
   injection h with h
   subst h;exact⟨hd,hm,yb0 (p:=DR cap H U es d) G I J o⟩
  | inl n =>
   rw[o]at h;obtain⟨L,K⟩:=zz5 (p:=DR cap H U es d) G I o;have O:n ∉ d:=of_decide_eq_false L
   exact zs8 G I J k (n::d) r (List.nodup_cons.2 ⟨O,hd⟩) (λx hx=>by
    rcases bJ.1 hx with e | hx
    ·rw[e];exact K
    exact hm x hx) h
def mgL(N:Nat)(mg:List Int):List Int:=((List.range N).map λk:Nat=>(k:Int)).filter λn=>decide (n∈mg)
def wb5(ls:List Lk)(v k:Nat):Option Nat:=(ls.find? λl=>decide (l.1=v/\l.2.2=k)).map λl=>l.2.1
def zE9(es:List Ed)(k:Nat)(e:Ed)(h:es[k]?=some e):((List.range es.length).zip es)[k]?=some (k,e):=by obtain⟨d,_⟩:=aE.1 h;rw[gX];exact⟨by rw[cF d],h⟩
def yD1{es:List Ed}{x:Nat×Ed}(h:x∈(List.range es.length).zip es):es[x.1]?=some x.2:=by obtain⟨i,I⟩:=bW.1 h;obtain⟨G,o⟩:=gX.1 I;obtain⟨J,d⟩:=aE.1 G;rw[List.getElem_range]at d;rw[<-d];exact o
def zz6{es:List Ed}{e:Ed}:(k,e)∈CD es n↔es[k]?=some e/\e.from'=n:=by
 unfold CD;rw[fY];constructor
 ·rintro⟨d,o⟩;exact⟨yD1 d,cO o⟩
 rintro⟨d,o⟩;exact⟨List.mem_iff_getElem?.2 ⟨k,zE9 es k e d⟩,dT_ o⟩
def FI.link{p:Pl}{G:List Vx}{O:List Lk}(h:FI p G.length G O){l:Lk}(W:l∈O):∃v e,G[l.1]?=some v/\p.es[l.2.2]?=some e/\e.from'=v.1/\G[l.2.1]?=some (e.to',p.tok e.to' (AM p.H p.U e l.2.2 v.2)):=by
 obtain⟨LL,k1,Z,k3⟩:=h.rows;rw[Z]at W;obtain⟨row,Y,m2⟩:=fR.1 W;obtain⟨i,X⟩:=bW.1 Y;obtain⟨v,hv,d⟩:=k3 i row X;obtain⟨j,R⟩:=bW.1 m2;obtain⟨K,_⟩:=aE.1 R;have o:j<(CD p.es v.1).length:=by rw[<-d.1];exact K
 obtain⟨l',I,J⟩:=d.2 j _ (gG_ o);rw[R]at I
 injection I with I
 subst I;have L:(CD p.es v.1)[j]∈CD p.es v.1:=cB o;obtain⟨q1,q2⟩:=zz6.1 (show(((CD p.es v.1)[j]).1,((CD p.es v.1)[j]).2)∈CD p.es v.1 from L);refine⟨v,((CD p.es v.1)[j]).2,by rw[J.1];exact hv,by rw[J.2.1];exact q1,q2,?_⟩;rw[J.2.1];exact J.2.2
def FI.one{p:Pl}{W:List Vx}{K:List Lk}(h:FI p W.length W K){l d:Lk}(hl:l∈K)(L:d∈K)(O:l.1=d.1)(o:l.2.2=d.2.2):l=d:=by
 obtain⟨v,e,I,G,a3,Z⟩:=h.link hl;obtain⟨v',e',b1,b2,b3,J⟩:=h.link L;rw[O,b1]at I
 injection I with I
 subst I;rw[o,b2]at G
 injection G with G
 subst G;rw[o,<-J]at Z;obtain⟨c1,Y⟩:=aE.1 (Z.trans J);obtain⟨R,X⟩:=aE.1 J
 have:l.2.1=d.2.1:=by
  rcases eU l.2.1 d.2.1 with hlt | heq | hgt
  ·exact absurd (Y.trans X.symm) (gY.1 h.vi.nd _ _ c1 R hlt)
  ·exact heq
  exact absurd (X.trans Y.symm) (gY.1 h.vi.nd _ _ R c1 hgt)
 obtain⟨x,y,z⟩:=l;obtain⟨x',y',z'⟩:=d;simp only at O o this;subst O o this;rfl
def FI.next_some{p:Pl}{J:List Vx}{d:List Lk}(h:FI p J.length J d){l:Lk}(G:l∈d):wb5 d l.1 l.2.2=some l.2.1:=by
 unfold wb5
 cases o:d.find? λx=>decide (x.1=l.1/\x.2.2=l.2.2) with
 | none=>have:=fG.1 o l G;simp at this
 | some x =>
  have I:x.1=l.1/\x.2.2=l.2.2:=by have:=List.find?_some o;simpa using this
  rw[h.one (List.mem_of_find?_eq_some o) G I.1 I.2];rfl
structure Dig(D:Int->List UInt8):Prop where
 inj:∀a b,D a=D b->a=b
 dig:∀a,∀c∈D a,c=45\/(48<=c/\c<=57)
 ne:∀a,D a≠[]
def Dig.not(h:Dig D){b:UInt8}(d:b≠45/\¬(48<=b/\b<=57))(a:Int):b ∉ D a:=λo=>by
 rcases h.dig a b o with e | e
 ·exact d.1 e
 exact d.2 e
def wi0{s:UInt8}:∀{a b x y:List UInt8},s ∉ a->s ∉ b->a++s::x=b++s::y->a=b/\x=y
 | [],[],x,y,_,_,h=>by simpa using h
 | [],c::b,x,y,_,hb,h=>by simp only[cV,cE,cJ]at h;exact absurd (h.1 ▸ aY) hb
 | c::a,[],x,y,ha,_,h=>by simp only[cV,cE,cJ]at h;exact absurd (h.1 ▸ aY) ha
 | c::a,d::b,x,y,ha,hb,h=>by simp only[cE,cJ]at h;obtain⟨o,G⟩:=wi0 (λm=>ha (bG _ m)) (λm=>hb (bG _ m)) h.2;exact⟨by rw[h.1,o],G⟩
def CV(ws:List (List UInt8)):List UInt8:=ws.flatMap λw=>32::w
def zk2(w:List UInt8)(d:List (List UInt8)):CV (w::d)=32::(w++CV d):=by simp[CV]
def zT9(a b:List (List UInt8)):CV (a++b)=CV a++CV b:=by simp[CV]
def zP6:∀{u v:List UInt8} {d o:List (List UInt8)},32 ∉ u->32 ∉ v->(∀w∈d,32 ∉ w)->(∀w∈o,32 ∉ w)->u++CV d=v++CV o->u=v/\d=o
 | u,v,[],[],_,_,_,_,h=>by simpa[CV] using h
 | u,v,[],y::ys,hu,_,_,_,h=>by rw[zk2]at h;simp only[CV,fS,bD]at h;exact absurd (h ▸ cI _ aY) hu
 | u,v,x::xs,[],_,hv,_,_,h=>by rw[zk2]at h;simp only[CV,fS,bD]at h;exact absurd (h ▸ cI _ aY) hv
 | u,v,x::xs,y::ys,hu,hv,hx,hy,h=>by rw[zk2,zk2]at h;obtain⟨J,I⟩:=wi0 hu hv h;obtain⟨K,G⟩:=zP6 (hx x aY) (hy y aY) (λw m=>hx w (bG _ m)) (λw m=>hy w (bG _ m)) I;exact⟨J,by rw[K,G]⟩
def wIf:List UInt8:=[105,102]
def wg2:List UInt8:=[119,104,105,108,101]
def wk5:List UInt8:=[114,111,117,110,100]
def wa1:List UInt8:=[109,101,114,103,101,100]
def wdH(D:Int->List UInt8)(h:List Int):List (List UInt8):=h.flatMap λe=>[wIf,D e]
def wdL(D:Int->List UInt8)(l:List (Int×Int)):List (List UInt8):=l.flatMap λx=>[wg2,D x.1,wk5,D x.2]
def wdT(D:Int->List UInt8)(t:Tok):List (List UInt8):=if t.1=true then [wa1] else wdH D t.2.1++wdL D t.2.2
def FL(D:Int->List UInt8)(v:Vx):List UInt8:=D v.1++CV (wdT D v.2)
def CG(t:Tok):Prop:=t.1=true->t=EG
def yb1(hD:Dig D):∀{a b:List (Int×Int)},wdL D a=wdL D b->a=b
 | [],[],_=>rfl
 | [],y::ys,h=>by simp[wdL]at h
 | x::xs,[],h=>by simp[wdL]at h
 | x::xs,y::ys,h=>by
  have e:∀(z:Int×Int) d,wdL D (z::d)=wg2::D z.1::wk5::D z.2::wdL D d:=λz d=>by simp[wdL]
  rw[e,e]at h;simp only[cJ,gI]at h;obtain⟨I,J⟩:=x;obtain⟨y1,y2⟩:=y;have G:=hD.inj _ _ h.1;have o:=hD.inj _ _ h.2.1;simp only at G o;rw[G,o,yb1 hD h.2.2]
def yb2(hD:Dig D):∀{a b:List Int} {x y:List (Int×Int)},wdH D a++wdL D x=wdH D b++wdL D y->a=b/\x=y
 | [],[],x,y,h=>⟨rfl,yb1 hD (by simpa[wdH] using h)⟩
 | [],c::b,x,y,h=>by
  cases x with
  | nil=>simp[wdH,wdL]at h
  | cons z o=>simp[wdH,wdL,wg2,wIf]at h
 | c::a,[],x,y,h=>by
  cases y with
  | nil=>simp[wdH,wdL]at h
  | cons z o=>simp[wdH,wdL,wg2,wIf]at h
 | c::a,d::b,x,y,h=>by
  have e:∀(z:Int) o,wdH D (z::o)=wIf::D z::wdH D o:=λz o=>by simp[wdH]
  rw[e,e]at h;simp only[cE,cJ,gI]at h;obtain⟨G,I⟩:=yb2 hD h.2;exact⟨by rw[hD.inj _ _ h.1,G],I⟩
def yv3(hD:Dig D)(t:Tok):∀w∈wdT D t,(32:UInt8) ∉ w:=by
 intro w o;unfold wdT at o;have d:∀a,(32:UInt8) ∉ D a:=λa=>hD.not dC a
 split at o
 ·rw[aT.1 o];decide
 rcases bA.1 o with h | h
 ·obtain⟨x,_,h⟩:=eH.1 h
  simp only[bJ,dE,fL]at h;rcases h with rfl | rfl
  ·decide
  exact d _
 obtain⟨x,_,h⟩:=eH.1 h;simp only[bJ,dE,fL]at h;rcases h with rfl | rfl | rfl | rfl
 ·decide
 ·exact d _
 ·decide
 exact d _
def yn6(hD:Dig D){u v:Vx}(o:CG u.2)(I:CG v.2)(h:FL D u=FL D v):u=v:=by
 unfold FL at h;obtain⟨O,d⟩:=zP6 (hD.not dC _) (hD.not dC _) (yv3 hD _) (yv3 hD _) h;have G:=hD.inj _ _ O;obtain⟨n,b,a,x⟩:=u;obtain⟨m,c,L,K⟩:=v;simp only at G o I d;subst G
 cases b with
 | true =>
  have J:=o rfl
  cases c with
  | true=>rw[J,I rfl]
  | false =>
   exfalso;unfold wdT at d;simp only[dD,bL,cT]at d
   cases L with
   | nil=>cases K with
    | nil=>simp[wdH,wdL]at d
    | cons z zs=>simp[wdH,wdL]at d
   | cons z zs=>simp[wdH]at d
 | false =>
  cases c with
  | true =>
   exfalso;unfold wdT at d;simp only[dD,bL,cT]at d
   cases a with
   | nil=>cases x with
    | nil=>simp[wdH,wdL]at d
    | cons z zs=>simp[wdH,wdL]at d
   | cons z zs=>simp[wdH]at d
  | false =>
   unfold wdT at d;simp only[bL,cT]at d;obtain⟨R,J⟩:=yb2 hD d;rw[R,J]
def EC(D:Int->List UInt8)(h:List Int):List UInt8:=h.flatMap λe=>D e++[32]
def wa2(D:Int->List UInt8)(l:List (Int×Int)):List UInt8:=l.flatMap λx=>D x.1++120::(D x.2++[32])
def wc9(D:Int->List UInt8)(t:Tok):List UInt8:=if t.1=true then wa1 else EC D t.2.1++47::wa2 D t.2.2
def zP7(hD:Dig D):∀{a b:List (Int×Int)},wa2 D a=wa2 D b->a=b
 | [],[],_=>rfl
 | [],y::ys,h=>by simp[wa2]at h
 | x::xs,[],h=>by simp[wa2]at h
 | x::xs,y::ys,h=>by
  have e:∀(z:Int×Int) d,wa2 D (z::d)=D z.1++120::(D z.2++32::wa2 D d):=λz d=>by simp[wa2]
  rw[e,e]at h;obtain⟨K,J⟩:=wi0 (hD.not dC _) (hD.not dC _) h;obtain⟨L,I⟩:=wi0 (hD.not dC _) (hD.not dC _) J;obtain⟨O,R⟩:=x;obtain⟨y1,y2⟩:=y;have G:=hD.inj _ _ K;have o:=hD.inj _ _ L;simp only at G o;rw[G,o,zP7 hD I]
def zF0(hD:Dig D):∀{a b:List Int} {x y:List UInt8},EC D a++47::x=EC D b++47::y->a=b/\x=y
 | [],[],x,y,h=>by simpa[EC] using h
 | [],c::b,x,y,h=>by
  have e:EC D (c::b)=D c++32::EC D b:=by simp[EC]
  rw[e]at h
  cases o:D c with
  | nil=>exact absurd o (hD.ne c)
  | cons s t =>
   rw[o]at h;simp only[EC,fS,cV,cE,cJ]at h;have:=hD.not (b:=47) dC c;rw[o,<-h.1]at this;exact absurd aY this
 | c::a,[],x,y,h=>by
  have e:EC D (c::a)=D c++32::EC D a:=by simp[EC]
  rw[e]at h
  cases o:D c with
  | nil=>exact absurd o (hD.ne c)
  | cons s t =>
   rw[o]at h;simp only[EC,fS,cV,cE,cJ]at h;have:=hD.not (b:=47) dC c;rw[o,h.1]at this;exact absurd aY this
 | c::a,d::b,x,y,h=>by
  have e:∀z G,EC D (z::G)=D z++32::EC D G:=λz G=>by simp[EC]
  rw[e,e,bN,bN,cE,cE]at h;obtain⟨K,J⟩:=wi0 (hD.not dC _) (hD.not dC _) h;obtain⟨L,I⟩:=zF0 hD J;exact⟨by rw[hD.inj _ _ K,L],I⟩
def yn7(hD:Dig D){s t:Tok}(J:CG s)(I:CG t)(h:wc9 D s=wc9 D t):s=t:=by
 have d:∀(a:List Int) (x:List UInt8),wa1≠EC D a++47::x:=λa x e=>by
  have:(47:UInt8)∈wa1:=by rw[e];exact cI _ aY
  exact absurd this dC
 obtain⟨b,a,x⟩:=s;obtain⟨c,L,K⟩:=t;unfold wc9 at h
 cases b with
 | true =>
  cases c with
  | true=>rw[J rfl,I rfl]
  | false=>exact absurd h (by simp only[dD,bL,cT];exact d _ _)
 | false =>
  cases c with
  | true=>exact absurd h.symm (by simp only[dD,bL,cT];exact d _ _)
  | false =>
   simp only[bL,cT]at h;obtain⟨G,o⟩:=zF0 hD h;rw[G,zP7 hD o]
def wa3(D:Int->List UInt8)(v:Vx):List UInt8:=D v.1++32::wc9 D v.2
def yH3(hD:Dig D){u v:Vx}(I:CG u.2)(K:CG v.2)(h:wa3 D u=wa3 D v):u=v:=by unfold wa3 at h;obtain⟨J,d⟩:=wi0 (hD.not dC _) (hD.not dC _) h;obtain⟨n,s⟩:=u;obtain⟨m,t⟩:=v;have o:=hD.inj _ _ J;simp only at o d;have G:s=t:=yn7 hD I K d;rw[o,G]
def EZ(es:List Ed)(n:Int)(k:Nat):List (Nat×Ed):=(((List.range es.length).zip es).take k).filter λx=>decide (x.2.from'=n)
def zs9(es:List Ed)(n:Int):EZ es n 0=[]:=by simp[EZ]
def zl7{es:List Ed}{e:Ed}(h:es[k]?=some e):EZ es n (k+1)=EZ es n k++if e.from'=n then [(k,e)] else []:=by
 unfold EZ;rw[dH,zE9 es k e h,fH,fI]
 congr 1
 by_cases c:e.from'=n
 ·rw[aG c,List.filter_cons_of_pos (by simpa using c),List.filter_nil]
 rw[aC c,List.filter_cons_of_neg (by simpa using c),List.filter_nil]
def zP8(es:List Ed)(n:Int):EZ es n es.length=CD es n:=by unfold EZ CD;rw[bE (by simp)]
def zx0{es:List Ed}(k:Nat):∃l,CD es n=EZ es n k++l:=by refine⟨(((List.range es.length).zip es).drop k).filter λx=>decide (x.2.from'=n),?_⟩;unfold CD EZ;rw[<-fI,dZ]
def yx9{es:List Ed}{e:Ed}(h:es[k]?=some e)(o:e.from'=n):(CD es n)[(EZ es n k).length]?=some (k,e):=by obtain⟨l,d⟩:=zx0 (es:=es) (n:=n) (k+1);rw[d,zl7 h,aG o,bN,bC (aK _),eJ];rfl
def wc6{α:Type}(ll:List (List α))(i:Nat):Nat:=(ll.take i).flatten.length
end Go.Proofs.YthoegkcpmgalbaaGreatDoor
