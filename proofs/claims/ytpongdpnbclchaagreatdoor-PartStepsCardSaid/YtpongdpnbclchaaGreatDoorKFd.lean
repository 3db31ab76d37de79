import Derived.Test.YtpongdpnbclchaaGreatDoorKLf
set_option linter.all false
namespace Go.Proofs.YtpongdpnbclchaaGreatDoor
variable{D:Int->List UInt8}{N f fr i k:Nat}{n:Int}
section
structure Ed where
 from':Int
 to':Int
 op:Int
 place:Int
 sense:Bool
 loop:Bool
def edV(e:Ed):List Value:=[nI e.from',nI e.to',nI e.op,nI e.place,.bool e.sense,.bool e.loop]
def edL(es:List Ed):List Value:=(es.map edV).flatten
end
section
abbrev Tok:=Bool×List Int×List (Int×Int)
abbrev Vx:=Int×Tok
abbrev Lk:=Nat×Nat×Nat
def EX:Tok:=(true,[],[])
def wa1:Tok:=(false,[],[])
def EO(t:Tok)(h:Int):Bool:=match t.2.2.getLast? with | some l=>l.1==h | none=>false
def wa9(U:Int)(l:List (Int×Int)):List (Int×Int):=match l.getLast? with | some x=>l.dropLast++[(x.1,if x.2<U then x.2+1 else U)] | none=>l
def AK(H U:Int)(e:Ed)(i:Nat)(t:Tok):Tok :=
 if t.1=true then EX
 else if e.op≠5 then (false,t.2.1,t.2.2)
 else if e.loop=false then (if (t.2.1.length:Int)<H then (false,t.2.1++[(i:Int)],t.2.2) else (false,t.2.1,t.2.2))
 else if e.sense=false then (if EO t e.from'=true then (false,t.2.1,t.2.2.dropLast) else (false,t.2.1,t.2.2))
 else if 0<U then (if EO t e.from'=true then (false,t.2.1,wa9 U t.2.2) else (false,t.2.1,t.2.2++[(e.from',1)]))
 else (false,t.2.1,t.2.2)
def CP(es:List Ed)(node:Int):List (Nat×Ed):=((List.range es.length).zip es).filter λx=>decide (x.2.from'=node)
structure Pl where
 mgd:Int->Bool
 cap:Nat
 H:Int
 U:Int
 es:List Ed
def Pl.tok(p:Pl)(node:Int)(t:Tok):Tok:=if p.mgd node=true then EX else t
def look(vs:List Vx)(v:Vx):Option Nat:=vs.findIdx? λx=>decide (x=v)
def many(vs:List Vx)(n:Int):Nat:=vs.countP λx=>decide (x.1=n)
def Pl.vert(p:Pl)(vs:List Vx)(node:Int)(t:Tok):Option (List Vx×Nat) :=
 match look vs (node,p.tok node t) with
 | some k=>some (vs,k)
 | none=>if many vs node=p.cap then none else some (vs++[(node,p.tok node t)],vs.length)
def Pl.edges(p:Pl)(fr:Nat)(t:Tok):List (Nat×Ed)->List Vx->List Lk->Int⊕(List Vx×List Lk)
 | [],vs,ls=>.inr (vs,ls)
 | x::l,vs,ls=>match p.vert vs x.2.to' (AK p.H p.U x.2 x.1 t) with
  | none=>.inl x.2.to'
  | some r=>p.edges fr t l r.1 (ls++[(fr,r.2,x.1)])
def Pl.verts(p:Pl):Nat->Nat->List Vx->List Lk->Int⊕(List Vx×List Lk)
 | 0,_,vs,ls=>.inr (vs,ls)
 | f+1,fr,vs,ls=>match vs[fr]? with
  | none=>.inr (vs,ls)
  | some v=>match p.edges fr v.2 (CP p.es v.1) vs ls with
   | .inl n=>.inl n
   | .inr r=>p.verts f (fr+1) r.1 r.2
def Pl.find(p:Pl)(f:Nat):Int⊕(List Vx×List Lk):=p.verts f 0 [(0,p.tok 0 wa1)] []
structure VI(p:Pl)(vs:List Vx):Prop where
 nd:vs.Nodup
 cnt:∀n,many vs n<=p.cap
 mg:∀v∈vs,p.mgd v.1=true->v.2=EX
 dom:∀v∈vs,v.1=0\/∃e∈p.es,e.to'=v.1
theorem ya7{vs:List Vx}{v:Vx}(h:look vs v=some k):vs[k]?=some v:=by unfold look at h;obtain⟨hk,h1,_⟩:=List.findIdx?_eq_some_iff_getElem.1 h;rw[List.getElem?_eq_getElem hk];exact congrArg some (of_decide_eq_true h1)
theorem zE4{vs:List Vx}{v:Vx}(h:look vs v=none):v ∉ vs:=by unfold look at h;intro hm;have:=(List.findIdx?_eq_none_iff.1 h) v hm;simp at this
theorem zP5(vs:List Vx)(v:Vx)(n:Int):many (vs++[v]) n=many vs n+if v.1=n then 1 else 0:=by unfold many;rw[List.countP_append,List.countP_singleton];simp
theorem zo5{p:Pl}{vs:List Vx}{node:Int}{t:Tok}{r:List Vx×Nat}(h:VI p vs)(hd:node=0\/∃e∈p.es,e.to'=node)(hr:p.vert vs node t=some r) :
  VI p r.1/\(∃l,r.1=vs++l/\(l=[]\/(l=[(node,p.tok node t)]/\r.2=vs.length)))/\r.1[r.2]?=some (node,p.tok node t):=by
 unfold Pl.vert at hr
 cases hl:look vs (node,p.tok node t) with
 | some k =>
  rw[hl]at hr
  injection hr with hr
  subst hr;exact⟨h,⟨[],by simp,.inl rfl⟩,ya7 hl⟩
 | none =>
  rw[hl]at hr;simp only at hr
  split at hr
  ·cases hr
  rename_i hc
  injection hr with hr
  subst hr;refine⟨⟨?_,?_,?_,?_⟩,⟨_,rfl,.inr ⟨rfl,rfl⟩⟩,by simp⟩
  ·refine List.nodup_append.2 ⟨h.nd,by simp,λa ha b hb e=>?_⟩
   rw[List.mem_singleton.1 hb]at e;exact zE4 hl (e ▸ ha)
  ·intro n
   rw[zP5];by_cases e:node=n
   ·subst e
    have:=h.cnt node;simp only[if_true];omega
   have:=h.cnt n;simp only[if_neg e];omega
  ·intro v hv hm
   rcases List.mem_append.1 hv with hv | hv
   ·exact h.mg v hv hm
   rw[List.mem_singleton.1 hv]at hm ⊢;show p.tok node t=EX;unfold Pl.tok;rw[if_pos hm]
  intro v hv;rcases List.mem_append.1 hv with hv | hv
  ·exact h.dom v hv
  rw[List.mem_singleton.1 hv];exact hd
theorem ya8{p:Pl}{vs:List Vx}{node:Int}{t:Tok}(h:VI p vs)(hc:0<p.cap)(hr:p.vert vs node t=none):p.mgd node=false:=by
 cases hm:p.mgd node with
 | false=>rfl
 | true =>
  exfalso;unfold Pl.vert at hr;have ht:p.tok node t=EX:=by unfold Pl.tok;rw[if_pos hm]
  rw[ht]at hr
  cases hl:look vs (node,EX) with
  | some k=>rw[hl]at hr;cases hr
  | none =>
   rw[hl]at hr;simp only at hr
   split at hr
   ·rename_i he
    have hz:many vs node=0:=by unfold many;rw[List.countP_eq_zero];intro v hv hn;have hn:v.1=node:=of_decide_eq_true hn;have h2:=h.mg v hv (by rw[hn];exact hm);apply zE4 hl;rw[<-hn,<-h2];exact hv
    omega
   cases hr
def we1(p:Pl)(vs:List Vx)(fr:Nat)(t:Tok)(x:Nat×Ed)(l:Lk):Prop:=l.1=fr/\l.2.2=x.1/\vs[l.2.1]?=some (x.2.to',p.tok x.2.to' (AK p.H p.U x.2 x.1 t))
def wi1(p:Pl)(vs:List Vx)(fr:Nat)(t:Tok)(xs:List (Nat×Ed))(ll:List Lk):Prop:=ll.length=xs.length/\∀(j:Nat) (x:Nat×Ed),xs[j]?=some x->∃l,ll[j]?=some l/\we1 p vs fr t x l
theorem we1.grow{p:Pl}{vs ws:List Vx}{t:Tok}{x:Nat×Ed}{l:Lk}(h:we1 p vs fr t x l):we1 p (vs++ws) fr t x l:=by refine⟨h.1,h.2.1,?_⟩;obtain⟨hk,e⟩:=List.getElem?_eq_some_iff.1 h.2.2;rw[List.getElem?_append_left hk];exact h.2.2
theorem wi1.grow{p:Pl}{vs ws:List Vx}{t:Tok}{xs:List (Nat×Ed)}{ll:List Lk}(h:wi1 p vs fr t xs ll):wi1 p (vs++ws) fr t xs ll :=
 ⟨h.1,λj x hx=>by obtain⟨l,h1,h2⟩:=h.2 j x hx;exact⟨l,h1,h2.grow⟩⟩
def wo6(vs:List Vx)(ls:List Lk)(m:Nat):Prop:=∀j,m<=j->j<vs.length->∃l∈ls,l.2.1=j/\l.1<j
theorem zw8{p:Pl}{t:Tok}:∀(xs:List (Nat×Ed)) (vs:List Vx) (ls:List Lk) (r:List Vx×List Lk),VI p vs->(∀x∈xs,x.2∈p.es)->fr<vs.length->p.edges fr t xs vs ls=.inr r ->
  VI p r.1/\(∃ws,r.1=vs++ws)/\∃ll,r.2=ls++ll/\wi1 p r.1 fr t xs ll/\wo6 r.1 ll vs.length
 | [],vs,ls,r,h,_,_,hr=>by
  unfold Pl.edges at hr
  injection hr with hr
  subst hr;exact⟨h,⟨[],by simp⟩,[],by simp,⟨rfl,λj x hx=>by simp at hx⟩,λj h1 h2=>absurd h1 (by have h3:j<vs.length:=h2;omega)⟩
 | x::xs,vs,ls,r,h,hx,hf,hr=>by
  unfold Pl.edges at hr
  cases hv:p.vert vs x.2.to' (AK p.H p.U x.2 x.1 t) with
  | none=>rw[hv]at hr;cases hr
  | some q =>
   rw[hv]at hr;obtain⟨h1,⟨w1,e1,k1⟩,h3⟩:=zo5 h (.inr ⟨x.2,hx x List.mem_cons_self,rfl⟩) hv;obtain⟨h4,⟨w2,e2⟩,ll,h5,h6,h7⟩:=zw8 xs q.1 _ r h1 (λy hy=>hx y (List.mem_cons_of_mem _ hy)) (by rw[e1,List.length_append];omega) hr;refine⟨h4,⟨w1++w2,by rw[e2,e1,List.append_assoc]⟩,(fr,q.2,x.1)::ll,by rw[h5,List.append_assoc];rfl,⟨by rw[List.length_cons,List.length_cons,h6.1],?_⟩,?_⟩
   ·intro j y hy
    cases j with
    | zero =>
     simp only[List.getElem?_cons_zero,Option.some.injEq]at hy;subst hy;refine⟨_,rfl,?_⟩;rw[e2];exact we1.grow ⟨rfl,rfl,h3⟩
    | succ j =>
     simp only[List.getElem?_cons_succ]at hy ⊢;exact h6.2 j y hy
   intro j hj1 hj2;by_cases c:q.1.length<=j
   ·obtain⟨l,m1,m2⟩:=h7 j c hj2
    exact⟨l,List.mem_cons_of_mem _ m1,m2⟩
   rcases k1 with k1 | ⟨k1,k2⟩
   ·rw[e1,k1,List.append_nil]at c;omega
   rw[e1,k1,List.length_append,List.length_singleton]at c;have:j=vs.length:=oM;exact⟨_,List.mem_cons_self,by show q.2=j;omega,by show fr<j;omega⟩
theorem zE5{p:Pl}{t:Tok}(hc:0<p.cap):∀(xs:List (Nat×Ed)) (vs:List Vx) (ls:List Lk) (n:Int),VI p vs->(∀x∈xs,x.2∈p.es)->p.edges fr t xs vs ls=.inl n->p.mgd n=false/\∃e∈p.es,e.to'=n
 | [],vs,ls,n,_,_,hr=>by unfold Pl.edges at hr;cases hr
 | x::xs,vs,ls,n,h,hx,hr=>by
  unfold Pl.edges at hr
  cases hv:p.vert vs x.2.to' (AK p.H p.U x.2 x.1 t) with
  | none =>
   rw[hv]at hr
   injection hr with hr
   subst hr;exact⟨ya8 h hc hv,x.2,hx x List.mem_cons_self,rfl⟩
  | some q =>
   rw[hv]at hr;exact zE5 hc xs q.1 _ n (zo5 h (.inr ⟨x.2,hx x List.mem_cons_self,rfl⟩) hv).1 (λy hy=>hx y (List.mem_cons_of_mem _ hy)) hr
theorem ya9{es:List Ed}{x:Nat×Ed}(h:x∈CP es n):x.2∈es/\x.2.from'=n:=by unfold CP at h;obtain⟨h1,h2⟩:=List.mem_filter.1 h;exact⟨(List.of_mem_zip h1).2,of_decide_eq_true h2⟩
structure FI(p:Pl)(fr:Nat)(vs:List Vx)(ls:List Lk):Prop where
 vi:VI p vs
 rows:∃ll:List (List Lk),ll.length=fr/\ls=ll.flatten/\∀(i:Nat) (l:List Lk),ll[i]?=some l->∃v,vs[i]?=some v/\wi1 p vs i v.2 (CP p.es v.1) l
 led:wo6 vs ls 1
 first:vs[0]?=some (0,p.tok 0 wa1)
 le:fr<=vs.length
theorem FI.start(p:Pl)(hc:0<p.cap):FI p 0 [(0,p.tok 0 wa1)] []:=by
 refine⟨⟨by simp,λn=>?_,λv hv hm=>?_,λv hv=>?_⟩,⟨[],rfl,rfl,λi l h=>by simp at h⟩,λj h1 h2=>?_,rfl,by simp⟩
 ·unfold many
  rw[List.countP_singleton]
  split<;>omega
 ·rw[List.mem_singleton.1 hv]at hm ⊢
  show p.tok 0 wa1=EX;unfold Pl.tok;rw[if_pos hm]
 ·rw[List.mem_singleton.1 hv];exact .inl rfl
 simp at h2;omega
theorem FI.next{p:Pl}{vs:List Vx}{ls:List Lk}{v:Vx}{r:List Vx×List Lk}(h:FI p fr vs ls)(hv:vs[fr]?=some v)(hr:p.edges fr v.2 (CP p.es v.1) vs ls=.inr r):FI p (fr+1) r.1 r.2:=by
 obtain⟨hf,_⟩:=List.getElem?_eq_some_iff.1 hv;obtain⟨h1,⟨ws,e1⟩,ll,e2,h3,h4⟩:=zw8 _ _ _ _ h.vi (λx hx=>(ya9 hx).1) hf hr;obtain⟨LL,k1,k2,k3⟩:=h.rows;refine⟨h1,⟨LL++[ll],by simp[k1],by rw[e2,k2];simp,λi l hl=>?_⟩,λj h5 h6=>?_,?_,?_⟩
 ·by_cases c:i<LL.length
  ·rw[List.getElem?_append_left c]at hl
   obtain⟨v',m1,m2⟩:=k3 i l hl;obtain⟨hi,_⟩:=List.getElem?_eq_some_iff.1 m1;refine⟨v',by rw[e1,List.getElem?_append_left hi];exact m1,?_⟩;rw[e1];exact m2.grow
  rw[List.getElem?_append_right (by omega)]at hl;by_cases d:i=fr
  ·subst d
   rw[k1,Nat.sub_self]at hl;simp only[List.getElem?_cons_zero,Option.some.injEq]at hl;subst hl;exact⟨v,by rw[e1,List.getElem?_append_left hf];exact hv,h3⟩
  rw[List.getElem?_eq_none (by simp;omega)]at hl;cases hl
 ·by_cases c:vs.length<=j
  ·obtain⟨l,m1,m2⟩:=h4 j c h6
   exact⟨l,by rw[e2];exact List.mem_append_right _ m1,m2⟩
  obtain⟨l,m1,m2⟩:=h.led j h5 oM;exact⟨l,by rw[e2];exact List.mem_append_left _ m1,m2⟩
 ·rw[e1,List.getElem?_append_left (by omega)];exact h.first
 rw[e1,List.length_append];omega
theorem zw9{p:Pl}:∀(f fr:Nat) (vs:List Vx) (ls:List Lk) (r:List Vx×List Lk),FI p fr vs ls->p.verts f fr vs ls=.inr r->∃g,FI p g r.1 r.2/\(g=r.1.length\/g=fr+f)
 | 0,fr,vs,ls,r,h,hr=>by
  unfold Pl.verts at hr
  injection hr with hr
  subst hr;exact⟨fr,h,.inr rfl⟩
 | f+1,fr,vs,ls,r,h,hr=>by
  unfold Pl.verts at hr
  cases hv:vs[fr]? with
  | none =>
   rw[hv]at hr
   injection hr with hr
   subst hr;have:=List.getElem?_eq_none_iff.1 hv;have:=h.le;exact⟨fr,h,.inl (by show fr=vs.length;omega)⟩
  | some v =>
   rw[hv]at hr;simp only at hr
   cases he:p.edges fr v.2 (CP p.es v.1) vs ls with
   | inl n=>rw[he]at hr;cases hr
   | inr q =>
    rw[he]at hr;obtain⟨g,h1,h2⟩:=zw9 f (fr+1) q.1 q.2 r (h.next hv he) hr;exact⟨g,h1,by omega⟩
theorem zE6{p:Pl}(hc:0<p.cap):∀(f fr:Nat) (vs:List Vx) (ls:List Lk) (n:Int),FI p fr vs ls->p.verts f fr vs ls=.inl n->p.mgd n=false/\∃e∈p.es,e.to'=n
 | 0,fr,vs,ls,n,h,hr=>by unfold Pl.verts at hr;cases hr
 | f+1,fr,vs,ls,n,h,hr=>by
  unfold Pl.verts at hr
  cases hv:vs[fr]? with
  | none=>rw[hv]at hr;cases hr
  | some v =>
   rw[hv]at hr;simp only at hr
   cases he:p.edges fr v.2 (CP p.es v.1) vs ls with
   | inl k =>
    rw[he]at hr
    injection hr with hr
    subst hr;exact zE5 hc _ _ _ _ h.vi (λx hx=>(ya9 hx).1) he
   | inr q=>rw[he]at hr;exact zE6 hc f (fr+1) q.1 q.2 n (h.next hv he) hr
end
section
theorem yv2(c:Nat):∀(N:Nat) (vs:List Vx),(∀v∈vs,0<=v.1/\v.1<(N:Int))->(∀n,many vs n<=c)->vs.length<=N*c
 | 0,vs,h,_=>by
  cases vs with
  | nil=>simp
  | cons v t=>have:=h v List.mem_cons_self;omega
 | N+1,vs,h,hc=>by
  have e:vs.length=many vs (N:Int)+(vs.filter λv => !decide (v.1=(N:Int))).length:=by
   unfold many;rw[List.length_eq_countP_add_countP (λx:Vx=>decide (x.1=(N:Int)))]
   congr 1
   rw[List.countP_eq_length_filter]
   congr 1
   apply List.filter_congr;intro x _;simp
  have h1:=yv2 c N (vs.filter λv => !decide (v.1=(N:Int))) (λv hv=>by
   obtain⟨a,b⟩:=List.mem_filter.1 hv;have:=h v a;have:v.1≠(N:Int):=by simpa using b
   omega) (λn=>Nat.le_trans (by
    unfold many
    exact List.Sublist.countP_le List.filter_sublist) (hc n))
  have h2:=hc (N:Int);rw[e,Nat.succ_mul];omega
def FG(N:Nat)(es:List Ed):Prop:=0<N/\∀e∈es,0<=e.to'/\e.to'<(N:Int)
theorem VI.len{p:Pl}{vs:List Vx}(h:VI p vs)(hw:FG N p.es):vs.length<=N*p.cap:=by
 refine yv2 p.cap N vs (λv hv=>?_) h.cnt;rcases h.dom v hv with e | ⟨d,h1,h2⟩
 ·rw[e];have:=hw.1;omega
 have:=hw.2 d h1;omega
theorem yb0{p:Pl}{r:List Vx×List Lk}(hc:0<p.cap)(hw:FG N p.es)(hf:N*p.cap<f)(h:p.find f=.inr r):FI p r.1.length r.1 r.2:=by
 obtain⟨g,h1,h2⟩:=zw9 f 0 _ _ r (FI.start p hc) h;have h3:=h1.vi.len hw;have h4:=h1.le;rcases h2 with h2 | h2
 ·rw[h2]at h1;exact h1
 omega
theorem zz5{p:Pl}(hc:0<p.cap)(hw:FG N p.es)(h:p.find f=.inl n):p.mgd n=false/\0<=n/\n<(N:Int):=by obtain⟨h1,e,h2,h3⟩:=zE6 hc f 0 _ _ n (FI.start p hc) h;have:=hw.2 e h2;exact⟨h1,by omega,by omega⟩
def DU(cap:Nat)(H U:Int)(es:List Ed)(mg:List Int):Pl:=⟨λn=>decide (n∈mg),cap,H,U,es⟩
def wc7(cap:Nat)(H U:Int)(es:List Ed)(f:Nat):Nat->List Int->Option (List Int×List Vx×List Lk)
 | 0,_=>none
 | k+1,mg=>match (DU cap H U es mg).find f with
  | .inl n=>wc7 cap H U es f k (n::mg)
  | .inr r=>some (mg,r.1,r.2)
theorem zE7:∀(N:Nat) (mg:List Int),mg.Nodup->(∀n∈mg,0<=n/\n<(N:Int))->mg.length<=N
 | 0,mg,_,h=>by
  cases mg with
  | nil=>simp
  | cons n t=>have:=h n List.mem_cons_self;omega
 | N+1,mg,hd,h=>by
  have h1:=zE7 N (mg.erase (N:Int)) (hd.erase _) (λn hn=>by
   have h2:=h n (List.mem_of_mem_erase hn);have h3:n≠(N:Int):=λe=>by subst e;exact(hd.not_mem_erase) hn
   omega)
  have h2:mg.length<=(mg.erase (N:Int)).length+1:=by
   rw[List.length_erase]
   split<;>omega
  omega
theorem zE8{cap:Nat}{H U:Int}{es:List Ed}(hc:0<cap)(hw:FG N es):∀(k:Nat) (mg:List Int),mg.Nodup->(∀n∈mg,0<=n/\n<(N:Int))->N<k+mg.length->∃r,wc7 cap H U es f k mg=some r
 | 0,mg,hd,hm,hk=>by have:=zE7 N mg hd hm;omega
 | k+1,mg,hd,hm,hk=>by
  unfold wc7
  cases h:(DU cap H U es mg).find f with
  | inr r=>exact⟨_,rfl⟩
  | inl n =>
   obtain⟨h1,h2⟩:=zz5 (p:=DU cap H U es mg) hc hw h;have h3:n ∉ mg:=of_decide_eq_false h1
   exact zE8 hc hw k (n::mg) (List.nodup_cons.2 ⟨h3,hd⟩) (λx hx=>by
    rcases List.mem_cons.1 hx with e | hx
    ·rw[e];exact h2
    exact hm x hx) (by rw[List.length_cons];omega)
theorem zs8{cap:Nat}{H U:Int}{es:List Ed}(hc:0<cap)(hw:FG N es)(hf:N*cap<f):∀(k:Nat) (mg:List Int) (r:List Int×List Vx×List Lk),mg.Nodup->(∀n∈mg,0<=n/\n<(N:Int))->wc7 cap H U es f k mg=some r->r.1.Nodup/\(∀n∈r.1,0<=n/\n<(N:Int))/\FI (DU cap H U es r.1) r.2.1.length r.2.1 r.2.2
 | 0,mg,r,_,_,h=>by unfold wc7 at h;cases h
 | k+1,mg,r,hd,hm,h=>by
  unfold wc7 at h
  cases hq:(DU cap H U es mg).find f with
  | inr q =>
   rw[hq]at h
   injection h with h
   subst h;exact⟨hd,hm,yb0 (p:=DU cap H U es mg) hc hw hf hq⟩
  | inl n =>
   rw[hq]at h;obtain⟨h1,h2⟩:=zz5 (p:=DU cap H U es mg) hc hw hq;have h3:n ∉ mg:=of_decide_eq_false h1
   exact zs8 hc hw hf k (n::mg) r (List.nodup_cons.2 ⟨h3,hd⟩) (λx hx=>by
    rcases List.mem_cons.1 hx with e | hx
    ·rw[e];exact h2
    exact hm x hx) h
def mgL(N:Nat)(mg:List Int):List Int:=((List.range N).map λk:Nat=>(k:Int)).filter λn=>decide (n∈mg)
def FE(ls:List Lk)(v k:Nat):Option Nat:=(ls.find? λl=>decide (l.1=v/\l.2.2=k)).map λl=>l.2.1
theorem zE9(es:List Ed)(k:Nat)(e:Ed)(h:es[k]?=some e):((List.range es.length).zip es)[k]?=some (k,e):=by obtain⟨hk,_⟩:=List.getElem?_eq_some_iff.1 h;rw[List.getElem?_zip_eq_some];exact⟨by rw[List.getElem?_range hk],h⟩
theorem yD1{es:List Ed}{x:Nat×Ed}(h:x∈(List.range es.length).zip es):es[x.1]?=some x.2:=by obtain⟨i,hi⟩:=List.mem_iff_getElem?.1 h;obtain⟨h1,h2⟩:=List.getElem?_zip_eq_some.1 hi;obtain⟨h3,h4⟩:=List.getElem?_eq_some_iff.1 h1;rw[List.getElem_range]at h4;rw[<-h4];exact h2
theorem zz6{es:List Ed}{e:Ed}:(k,e)∈CP es n↔es[k]?=some e/\e.from'=n:=by
 unfold CP;rw[List.mem_filter];constructor
 ·rintro⟨h1,h2⟩;exact⟨yD1 h1,of_decide_eq_true h2⟩
 rintro⟨h1,h2⟩;exact⟨List.mem_iff_getElem?.2 ⟨k,zE9 es k e h1⟩,dT_ h2⟩
theorem FI.link{p:Pl}{vs:List Vx}{ls:List Lk}(h:FI p vs.length vs ls){l:Lk}(hl:l∈ls):∃v e,vs[l.1]?=some v/\p.es[l.2.2]?=some e/\e.from'=v.1/\vs[l.2.1]?=some (e.to',p.tok e.to' (AK p.H p.U e l.2.2 v.2)):=by
 obtain⟨LL,k1,k2,k3⟩:=h.rows;rw[k2]at hl;obtain⟨row,m1,m2⟩:=List.mem_flatten.1 hl;obtain⟨i,hi⟩:=List.mem_iff_getElem?.1 m1;obtain⟨v,hv,hrow⟩:=k3 i row hi;obtain⟨j,hj⟩:=List.mem_iff_getElem?.1 m2;obtain⟨hj1,_⟩:=List.getElem?_eq_some_iff.1 hj;have hj2:j<(CP p.es v.1).length:=by rw[<-hrow.1];exact hj1
 obtain⟨l',g1,g2⟩:=hrow.2 j _ (gG_ hj2);rw[hj]at g1
 injection g1 with g1
 subst g1;have hin:(CP p.es v.1)[j]∈CP p.es v.1:=List.getElem_mem hj2;obtain⟨q1,q2⟩:=zz6.1 (show(((CP p.es v.1)[j]).1,((CP p.es v.1)[j]).2)∈CP p.es v.1 from hin);refine⟨v,((CP p.es v.1)[j]).2,by rw[g2.1];exact hv,by rw[g2.2.1];exact q1,q2,?_⟩;rw[g2.2.1];exact g2.2.2
theorem FI.has{p:Pl}{vs:List Vx}{ls:List Lk}(h:FI p vs.length vs ls){v:Vx}{e:Ed}(hv:vs[i]?=some v)(he:p.es[k]?=some e)(hf:e.from'=v.1):∃l∈ls,l.1=i/\l.2.2=k/\vs[l.2.1]?=some (e.to',p.tok e.to' (AK p.H p.U e k v.2)):=by
 obtain⟨LL,k1,k2,k3⟩:=h.rows;obtain⟨hi,_⟩:=List.getElem?_eq_some_iff.1 hv;have hL:LL[i]?=some (LL[i]'oM):=gG_ oM;obtain⟨v',hv',hrow⟩:=k3 i _ hL;rw[hv]at hv'
 injection hv' with hv'
 subst hv';obtain⟨j,hj⟩:=List.mem_iff_getElem?.1 (zz6.2 ⟨he,hf⟩);obtain⟨l,g1,g2⟩:=hrow.2 j _ hj;refine⟨l,by rw[k2];exact List.mem_flatten.2 ⟨_,List.mem_iff_getElem?.2 ⟨i,hL⟩,List.mem_iff_getElem?.2 ⟨j,g1⟩⟩,g2.1,g2.2.1,g2.2.2⟩
theorem FI.one{p:Pl}{vs:List Vx}{ls:List Lk}(h:FI p vs.length vs ls){l l':Lk}(hl:l∈ls)(hl':l'∈ls)(e1:l.1=l'.1)(e2:l.2.2=l'.2.2):l=l':=by
 obtain⟨v,e,a1,a2,a3,a4⟩:=h.link hl;obtain⟨v',e',b1,b2,b3,b4⟩:=h.link hl';rw[e1,b1]at a1
 injection a1 with a1
 subst a1;rw[e2,b2]at a2
 injection a2 with a2
 subst a2;rw[e2,<-b4]at a4;obtain⟨c1,d1⟩:=List.getElem?_eq_some_iff.1 (a4.trans b4);obtain⟨c2,d2⟩:=List.getElem?_eq_some_iff.1 b4
 have:l.2.1=l'.2.1:=by
  rcases Nat.lt_trichotomy l.2.1 l'.2.1 with hlt | heq | hgt
  ·exact absurd (d1.trans d2.symm) (List.pairwise_iff_getElem.1 h.vi.nd _ _ c1 c2 hlt)
  ·exact heq
  exact absurd (d2.trans d1.symm) (List.pairwise_iff_getElem.1 h.vi.nd _ _ c2 c1 hgt)
 obtain⟨x,y,z⟩:=l;obtain⟨x',y',z'⟩:=l';simp only at e1 e2 this;subst e1 e2 this;rfl
theorem FI.next_some{p:Pl}{vs:List Vx}{ls:List Lk}(h:FI p vs.length vs ls){l:Lk}(hl:l∈ls):FE ls l.1 l.2.2=some l.2.1:=by
 unfold FE
 cases hf:ls.find? λx=>decide (x.1=l.1/\x.2.2=l.2.2) with
 | none=>have:=List.find?_eq_none.1 hf l hl;simp at this
 | some x =>
  have h1:x.1=l.1/\x.2.2=l.2.2:=by have:=List.find?_some hf;simpa using this
  rw[h.one (List.mem_of_find?_eq_some hf) hl h1.1 h1.2];rfl
theorem FI.joins{p:Pl}{vs:List Vx}{ls:List Lk}(h:FI p vs.length vs ls){v:Vx}(hv:vs[i]?=some v):(∃j,FE ls i k=some j)↔∃e,p.es[k]?=some e/\e.from'=v.1:=by
 constructor
 ·rintro⟨j,hj⟩
  unfold FE at hj
  cases hf:ls.find? λx=>decide (x.1=i/\x.2.2=k) with
  | none=>rw[hf]at hj;cases hj
  | some x =>
   have h1:x.1=i/\x.2.2=k:=by have:=List.find?_some hf;simpa using this
   obtain⟨v',e,a1,a2,a3,_⟩:=h.link (List.mem_of_find?_eq_some hf);rw[h1.1,hv]at a1
   injection a1 with a1
   subst a1;rw[h1.2]at a2;exact⟨e,a2,a3⟩
 rintro⟨e,h1,h2⟩;obtain⟨l,m1,m2,m3,_⟩:=h.has hv h1 h2;have:=h.next_some m1;rw[m2,m3]at this;exact⟨_,this⟩
end
section
structure Dig(D:Int->List UInt8):Prop where
 inj:∀a b,D a=D b->a=b
 dig:∀a,∀c∈D a,c=45\/(48<=c/\c<=57)
 ne:∀a,D a≠[]
theorem Dig.not(h:Dig D){b:UInt8}(hb:b≠45/\¬(48<=b/\b<=57))(a:Int):b ∉ D a:=λhm=>by
 rcases h.dig a b hm with e | e
 ·exact hb.1 e
 exact hb.2 e
theorem wo7{s:UInt8}:∀{a b x y:List UInt8},s ∉ a->s ∉ b->a++s::x=b++s::y->a=b/\x=y
 | [],[],x,y,_,_,h=>by simpa using h
 | [],c::b,x,y,_,hb,h=>by simp only[List.nil_append,List.cons_append,List.cons.injEq]at h;exact absurd (h.1 ▸ List.mem_cons_self) hb
 | c::a,[],x,y,ha,_,h=>by simp only[List.nil_append,List.cons_append,List.cons.injEq]at h;exact absurd (h.1 ▸ List.mem_cons_self) ha
 | c::a,d::b,x,y,ha,hb,h=>by simp only[List.cons_append,List.cons.injEq]at h;obtain⟨h1,h2⟩:=wo7 (λm=>ha (List.mem_cons_of_mem _ m)) (λm=>hb (List.mem_cons_of_mem _ m)) h.2;exact⟨by rw[h.1,h1],h2⟩
def CT(ws:List (List UInt8)):List UInt8:=ws.flatMap λw=>32::w
theorem zk2(w:List UInt8)(ws:List (List UInt8)):CT (w::ws)=32::(w++CT ws):=by simp[CT]
theorem zT9(a b:List (List UInt8)):CT (a++b)=CT a++CT b:=by simp[CT]
theorem zP6:∀{u v:List UInt8} {us vs:List (List UInt8)},32 ∉ u->32 ∉ v->(∀w∈us,32 ∉ w)->(∀w∈vs,32 ∉ w)->u++CT us=v++CT vs->u=v/\us=vs
 | u,v,[],[],_,_,_,_,h=>by simpa[CT] using h
 | u,v,[],y::ys,hu,_,_,_,h=>by rw[zk2]at h;simp only[CT,List.flatMap_nil,List.append_nil]at h;exact absurd (h ▸ List.mem_append_right _ List.mem_cons_self) hu
 | u,v,x::xs,[],_,hv,_,_,h=>by rw[zk2]at h;simp only[CT,List.flatMap_nil,List.append_nil]at h;exact absurd (h ▸ List.mem_append_right _ List.mem_cons_self) hv
 | u,v,x::xs,y::ys,hu,hv,hx,hy,h=>by rw[zk2,zk2]at h;obtain⟨h1,h2⟩:=wo7 hu hv h;obtain⟨h3,h4⟩:=zP6 (hx x List.mem_cons_self) (hy y List.mem_cons_self) (λw m=>hx w (List.mem_cons_of_mem _ m)) (λw m=>hy w (List.mem_cons_of_mem _ m)) h2;exact⟨h1,by rw[h3,h4]⟩
def wIf:List UInt8:=[105,102]
def wg3:List UInt8:=[119,104,105,108,101]
def wk0:List UInt8:=[114,111,117,110,100]
def wi8:List UInt8:=[109,101,114,103,101,100]
def wdH(D:Int->List UInt8)(h:List Int):List (List UInt8):=h.flatMap λe=>[wIf,D e]
def wdL(D:Int->List UInt8)(l:List (Int×Int)):List (List UInt8):=l.flatMap λx=>[wg3,D x.1,wk0,D x.2]
def wdT(D:Int->List UInt8)(t:Tok):List (List UInt8):=if t.1=true then [wi8] else wdH D t.2.1++wdL D t.2.2
def FC(D:Int->List UInt8)(v:Vx):List UInt8:=D v.1++CT (wdT D v.2)
def EI(t:Tok):Prop:=t.1=true->t=EX
theorem yb1(hD:Dig D):∀{a b:List (Int×Int)},wdL D a=wdL D b->a=b
 | [],[],_=>rfl
 | [],y::ys,h=>by simp[wdL]at h
 | x::xs,[],h=>by simp[wdL]at h
 | x::xs,y::ys,h=>by
  have e:∀(z:Int×Int) zs,wdL D (z::zs)=wg3::D z.1::wk0::D z.2::wdL D zs:=λz zs=>by simp[wdL]
  rw[e,e]at h;simp only[List.cons.injEq,true_and]at h;obtain⟨x1,x2⟩:=x;obtain⟨y1,y2⟩:=y;have h1:=hD.inj _ _ h.1;have h2:=hD.inj _ _ h.2.1;simp only at h1 h2;rw[h1,h2,yb1 hD h.2.2]
theorem yb2(hD:Dig D):∀{a b:List Int} {x y:List (Int×Int)},wdH D a++wdL D x=wdH D b++wdL D y->a=b/\x=y
 | [],[],x,y,h=>⟨rfl,yb1 hD (by simpa[wdH] using h)⟩
 | [],c::b,x,y,h=>by
  cases x with
  | nil=>simp[wdH,wdL]at h
  | cons z zs=>simp[wdH,wdL,wg3,wIf]at h
 | c::a,[],x,y,h=>by
  cases y with
  | nil=>simp[wdH,wdL]at h
  | cons z zs=>simp[wdH,wdL,wg3,wIf]at h
 | c::a,d::b,x,y,h=>by
  have e:∀(z:Int) zs,wdH D (z::zs)=wIf::D z::wdH D zs:=λz zs=>by simp[wdH]
  rw[e,e]at h;simp only[List.cons_append,List.cons.injEq,true_and]at h;obtain⟨h1,h2⟩:=yb2 hD h.2;exact⟨by rw[hD.inj _ _ h.1,h1],h2⟩
theorem yv3(hD:Dig D)(t:Tok):∀w∈wdT D t,(32:UInt8) ∉ w:=by
 intro w hw;unfold wdT at hw;have h32:∀a,(32:UInt8) ∉ D a:=λa=>hD.not dC a
 split at hw
 ·rw[List.mem_singleton.1 hw];decide
 rcases List.mem_append.1 hw with h | h
 ·obtain⟨x,_,h⟩:=List.mem_flatMap.1 h
  simp only[List.mem_cons,List.not_mem_nil,or_false]at h;rcases h with rfl | rfl
  ·decide
  exact h32 _
 obtain⟨x,_,h⟩:=List.mem_flatMap.1 h;simp only[List.mem_cons,List.not_mem_nil,or_false]at h;rcases h with rfl | rfl | rfl | rfl
 ·decide
 ·exact h32 _
 ·decide
 exact h32 _
theorem yn6(hD:Dig D){u v:Vx}(hu:EI u.2)(hv:EI v.2)(h:FC D u=FC D v):u=v:=by
 unfold FC at h;obtain⟨h1,h2⟩:=zP6 (hD.not dC _) (hD.not dC _) (yv3 hD _) (yv3 hD _) h;have e1:=hD.inj _ _ h1;obtain⟨n,b,a,x⟩:=u;obtain⟨m,c,a',x'⟩:=v;simp only at e1 hu hv h2;subst e1
 cases b with
 | true =>
  have e2:=hu rfl
  cases c with
  | true=>rw[e2,hv rfl]
  | false =>
   exfalso;unfold wdT at h2;simp only[if_true,Bool.false_eq_true,if_false]at h2
   cases a' with
   | nil=>cases x' with
    | nil=>simp[wdH,wdL]at h2
    | cons z zs=>simp[wdH,wdL]at h2
   | cons z zs=>simp[wdH]at h2
 | false =>
  cases c with
  | true =>
   exfalso;unfold wdT at h2;simp only[if_true,Bool.false_eq_true,if_false]at h2
   cases a with
   | nil=>cases x with
    | nil=>simp[wdH,wdL]at h2
    | cons z zs=>simp[wdH,wdL]at h2
   | cons z zs=>simp[wdH]at h2
  | false =>
   unfold wdT at h2;simp only[Bool.false_eq_true,if_false]at h2;obtain⟨h3,h4⟩:=yb2 hD h2;rw[h3,h4]
def wt2(D:Int->List UInt8)(h:List Int):List UInt8:=h.flatMap λe=>D e++[32]
def wt3(D:Int->List UInt8)(l:List (Int×Int)):List UInt8:=l.flatMap λx=>D x.1++120::(D x.2++[32])
def wt4(D:Int->List UInt8)(t:Tok):List UInt8:=if t.1=true then wi8 else wt2 D t.2.1++47::wt3 D t.2.2
def wt5(D:Int->List UInt8)(v:Vx):List UInt8:=D v.1++32::wt4 D v.2
end
section
def we2(es:List Ed)(n:Int)(k:Nat):List (Nat×Ed):=(((List.range es.length).zip es).take k).filter λx=>decide (x.2.from'=n)
theorem zs9(es:List Ed)(n:Int):we2 es n 0=[]:=by simp[we2]
theorem zl7{es:List Ed}{e:Ed}(h:es[k]?=some e):we2 es n (k+1)=we2 es n k++if e.from'=n then [(k,e)] else []:=by
 unfold we2;rw[List.take_add_one,zE9 es k e h,Option.toList_some,List.filter_append]
 congr 1
 by_cases c:e.from'=n
 ·rw[if_pos c,List.filter_cons_of_pos (by simpa using c),List.filter_nil]
 rw[if_neg c,List.filter_cons_of_neg (by simpa using c),List.filter_nil]
theorem zP8(es:List Ed)(n:Int):we2 es n es.length=CP es n:=by unfold we2 CP;rw[List.take_of_length_le (by simp)]
theorem zx0{es:List Ed}(k:Nat):∃l,CP es n=we2 es n k++l:=by refine⟨(((List.range es.length).zip es).drop k).filter λx=>decide (x.2.from'=n),?_⟩;unfold CP we2;rw[<-List.filter_append,List.take_append_drop]
theorem yx9{es:List Ed}{e:Ed}(h:es[k]?=some e)(hf:e.from'=n):(CP es n)[(we2 es n k).length]?=some (k,e):=by obtain⟨l,hl⟩:=zx0 (es:=es) (n:=n) (k+1);rw[hl,zl7 h,if_pos hf,List.append_assoc,List.getElem?_append_right (Nat.le_refl _),Nat.sub_self];rfl
def wc4{α:Type}(ll:List (List α))(i:Nat):Nat:=(ll.take i).flatten.length
theorem zF1{α:Type}{ll:List (List α)}{j:Nat}{l:List α}{x:α}(h:ll[i]?=some l)(hx:l[j]?=some x):ll.flatten[wc4 ll i+j]?=some x:=by
 obtain⟨hi,e⟩:=List.getElem?_eq_some_iff.1 h
 have hs:ll=ll.take i++l::ll.drop (i+1):=by rw[<-e,<-List.drop_eq_getElem_cons hi,List.take_append_drop]
 unfold wc4
 have:ll.flatten=(ll.take i).flatten++(l++(ll.drop (i+1)).flatten):=by
  conv=>lhs;rw[hs]
  simp
 rw[this,List.getElem?_append_right (by omega),Nat.add_sub_cancel_left];obtain⟨hj,_⟩:=List.getElem?_eq_some_iff.1 hx;rw[List.getElem?_append_left hj];exact hx
theorem FI.at{p:Pl}{vs:List Vx}{ls:List Lk}{LL:List (List Lk)}(k2:ls=LL.flatten)(k3:∀(i:Nat) (l:List Lk),LL[i]?=some l->∃v,vs[i]?=some v/\wi1 p vs i v.2 (CP p.es v.1) l)(k1:LL.length=vs.length){i k:Nat}{v:Vx}{e:Ed}(hv:vs[i]?=some v)(he:p.es[k]?=some e)(hf:e.from'=v.1) :
  ∃l,ls[wc4 LL i+(we2 p.es v.1 k).length]?=some l/\we1 p vs i v.2 (k,e) l:=by
 obtain⟨hi,_⟩:=List.getElem?_eq_some_iff.1 hv;have hL:LL[i]?=some (LL[i]'oM):=gG_ oM;obtain⟨v',hv',hrow⟩:=k3 i _ hL;rw[hv]at hv'
 injection hv' with hv'
 subst hv';obtain⟨l,g1,g2⟩:=hrow.2 _ _ (yx9 he hf);exact⟨l,by rw[k2];exact zF1 hL g1,g2⟩
end
end Go.Proofs.YtpongdpnbclchaaGreatDoor
