import Derived.Test.YtbneneijdgcccaaGreatDoorKLf
set_option linter.all false
namespace Go.Proofs.YtbneneijdgcccaaGreatDoor
section
structure Ed where
 from':Int
 to':Int
 op:Int
 place:Int
 sense:Bool
 loop:Bool
def edV (e:Ed):List Value:=[.int .i64 e.from',.int .i64 e.to',.int .i64 e.op,.int .i64 e.place,.bool e.sense,.bool e.loop]
def edL (es:List Ed):List Value:=(es.map edV).flatten
end
section
abbrev Tok:=Bool×List Int×List (Int×Int)
abbrev Vx:=Int×Tok
abbrev Lk:=Nat×Nat×Nat
def tokM:Tok:=(true,[],[])
def tokE:Tok:=(false,[],[])
def inLp (t:Tok) (h:Int):Bool:=match t.2.2.getLast? with | some l=>l.1==h | none=>false
def upLp (U:Int) (l:List (Int×Int)):List (Int×Int):=match l.getLast? with | some x=>l.dropLast++[(x.1,if x.2<U then x.2+1 else U)] | none=>l
def stepT (H U:Int) (e:Ed) (i:Nat) (t:Tok):Tok :=
 if t.1=true then tokM
 else if e.op≠5 then (false,t.2.1,t.2.2)
 else if e.loop=false then (if (t.2.1.length:Int)<H then (false,t.2.1++[(i:Int)],t.2.2) else (false,t.2.1,t.2.2))
 else if e.sense=false then (if inLp t e.from'=true then (false,t.2.1,t.2.2.dropLast) else (false,t.2.1,t.2.2))
 else if 0<U then (if inLp t e.from'=true then (false,t.2.1,upLp U t.2.2) else (false,t.2.1,t.2.2++[(e.from',1)]))
 else (false,t.2.1,t.2.2)
def outE (es:List Ed) (node:Int):List (Nat×Ed):=((List.range es.length).zip es).filter fun x=>decide (x.2.from'=node)
structure Pl where
 mgd:Int->Bool
 cap:Nat
 H:Int
 U:Int
 es:List Ed
def Pl.tok (p:Pl) (node:Int) (t:Tok):Tok:=if p.mgd node=true then tokM else t
def look (vs:List Vx) (v:Vx):Option Nat:=vs.findIdx? fun x=>decide (x=v)
def many (vs:List Vx) (n:Int):Nat:=vs.countP fun x=>decide (x.1=n)
def Pl.vert (p:Pl) (vs:List Vx) (node:Int) (t:Tok):Option (List Vx×Nat) :=
 match look vs (node,p.tok node t) with
 | some k=>some (vs,k)
 | none=>if many vs node=p.cap then none else some (vs++[(node,p.tok node t)],vs.length)
def Pl.edges (p:Pl) (fr:Nat) (t:Tok):List (Nat×Ed)->List Vx->List Lk->Int⊕(List Vx×List Lk)
 | [],vs,ls=>.inr (vs,ls)
 | x::l,vs,ls=>match p.vert vs x.2.to' (stepT p.H p.U x.2 x.1 t) with
  | none=>.inl x.2.to'
  | some r=>p.edges fr t l r.1 (ls++[(fr,r.2,x.1)])
def Pl.verts (p:Pl):Nat->Nat->List Vx->List Lk->Int⊕(List Vx×List Lk)
 | 0,_,vs,ls=>.inr (vs,ls)
 | f+1,fr,vs,ls=>match vs[fr]? with
  | none=>.inr (vs,ls)
  | some v=>match p.edges fr v.2 (outE p.es v.1) vs ls with
   | .inl n=>.inl n
   | .inr r=>p.verts f (fr+1) r.1 r.2
def Pl.find (p:Pl) (f:Nat):Int⊕(List Vx×List Lk):=p.verts f 0 [(0,p.tok 0 tokE)] []
structure VI (p:Pl) (vs:List Vx):Prop where
 nd:vs.Nodup
 cnt:∀ n,many vs n<=p.cap
 mg:∀ v∈vs,p.mgd v.1=true->v.2=tokM
 dom:∀ v∈vs,v.1=0\/∃ e∈p.es,e.to'=v.1
theorem ya7 {vs:List Vx} {v:Vx} {k:Nat} (h:look vs v=some k):vs[k]?=some v:=by
 unfold look at h
 obtain ⟨hk,h1,_⟩:=List.findIdx?_eq_some_iff_getElem.1 h
 rw [List.getElem?_eq_getElem hk]
 exact congrArg some (of_decide_eq_true h1)
theorem zE4 {vs:List Vx} {v:Vx} (h:look vs v=none):v ∉ vs:=by
 unfold look at h
 intro hm
 have:=(List.findIdx?_eq_none_iff.1 h) v hm
 simp at this
theorem zP5 (vs:List Vx) (v:Vx) (n:Int):many (vs++[v]) n=many vs n+if v.1=n then 1 else 0:=by
 unfold many
 rw [List.countP_append,List.countP_singleton]
 simp
theorem zo5 {p:Pl} {vs:List Vx} {node:Int} {t:Tok} {r:List Vx×Nat} (h:VI p vs) (hd:node=0\/∃ e∈p.es,e.to'=node) (hr:p.vert vs node t=some r) :
  VI p r.1/\(∃ l,r.1=vs++l/\(l=[]\/(l=[(node,p.tok node t)]/\r.2=vs.length)))/\r.1[r.2]?=some (node,p.tok node t):=by
 unfold Pl.vert at hr
 cases hl:look vs (node,p.tok node t) with
 | some k =>
  rw [hl] at hr
  injection hr with hr
  subst hr
  exact ⟨h,⟨[],by simp,.inl rfl⟩,ya7 hl⟩
 | none =>
  rw [hl] at hr
  simp only at hr
  split at hr
  ·cases hr
  rename_i hc
  injection hr with hr
  subst hr
  refine ⟨⟨?_,?_,?_,?_⟩,⟨_,rfl,.inr ⟨rfl,rfl⟩⟩,by simp⟩
  ·refine List.nodup_append.2 ⟨h.nd,by simp,fun a ha b hb e=>?_⟩
   rw [List.mem_singleton.1 hb] at e
   exact zE4 hl (e ▸ ha)
  ·intro n
   rw [zP5]
   by_cases e:node=n
   ·subst e
    have:=h.cnt node
    simp only [if_true]
    omega
   have:=h.cnt n
   simp only [if_neg e]
   omega
  ·intro v hv hm
   rcases List.mem_append.1 hv with hv | hv
   ·exact h.mg v hv hm
   rw [List.mem_singleton.1 hv] at hm ⊢
   show p.tok node t=tokM
   unfold Pl.tok
   rw [if_pos hm]
  intro v hv
  rcases List.mem_append.1 hv with hv | hv
  ·exact h.dom v hv
  rw [List.mem_singleton.1 hv];exact hd
theorem ya8 {p:Pl} {vs:List Vx} {node:Int} {t:Tok} (h:VI p vs) (hc:0<p.cap) (hr:p.vert vs node t=none):p.mgd node=false:=by
 cases hm:p.mgd node with
 | false=>rfl
 | true =>
  exfalso
  unfold Pl.vert at hr
  have ht:p.tok node t=tokM:=by unfold Pl.tok;rw [if_pos hm]
  rw [ht] at hr
  cases hl:look vs (node,tokM) with
  | some k=>rw [hl] at hr;cases hr
  | none =>
   rw [hl] at hr
   simp only at hr
   split at hr
   ·rename_i he
    have hz:many vs node=0:=by
     unfold many
     rw [List.countP_eq_zero]
     intro v hv hn
     have hn:v.1=node:=of_decide_eq_true hn
     have h2:=h.mg v hv (by rw [hn];exact hm)
     apply zE4 hl
     rw [<-hn,<-h2]
     exact hv
    omega
   cases hr
def LinkIs (p:Pl) (vs:List Vx) (fr:Nat) (t:Tok) (x:Nat×Ed) (l:Lk):Prop:=l.1=fr/\l.2.2=x.1/\vs[l.2.1]?=some (x.2.to',p.tok x.2.to' (stepT p.H p.U x.2 x.1 t))
def RowIs (p:Pl) (vs:List Vx) (fr:Nat) (t:Tok) (xs:List (Nat×Ed)) (ll:List Lk):Prop:=ll.length=xs.length/\∀ (j:Nat) (x:Nat×Ed),xs[j]?=some x->∃ l,ll[j]?=some l/\LinkIs p vs fr t x l
theorem LinkIs.grow {p:Pl} {vs ws:List Vx} {fr:Nat} {t:Tok} {x:Nat×Ed} {l:Lk} (h:LinkIs p vs fr t x l):LinkIs p (vs++ws) fr t x l:=by
 refine ⟨h.1,h.2.1,?_⟩
 obtain ⟨hk,e⟩:=List.getElem?_eq_some_iff.1 h.2.2
 rw [List.getElem?_append_left hk]
 exact h.2.2
theorem RowIs.grow {p:Pl} {vs ws:List Vx} {fr:Nat} {t:Tok} {xs:List (Nat×Ed)} {ll:List Lk} (h:RowIs p vs fr t xs ll):RowIs p (vs++ws) fr t xs ll :=
 ⟨h.1,fun j x hx=>by obtain ⟨l,h1,h2⟩:=h.2 j x hx;exact ⟨l,h1,h2.grow⟩⟩
def LedBy (vs:List Vx) (ls:List Lk) (m:Nat):Prop:=∀ j,m<=j->j<vs.length->∃ l∈ls,l.2.1=j/\l.1<j
theorem zw8 {p:Pl} {fr:Nat} {t:Tok}:∀ (xs:List (Nat×Ed)) (vs:List Vx) (ls:List Lk) (r:List Vx×List Lk),VI p vs->(∀ x∈xs,x.2∈p.es)->fr<vs.length->p.edges fr t xs vs ls=.inr r ->
  VI p r.1/\(∃ ws,r.1=vs++ws)/\∃ ll,r.2=ls++ll/\RowIs p r.1 fr t xs ll/\LedBy r.1 ll vs.length
 | [],vs,ls,r,h,_,_,hr=>by
  unfold Pl.edges at hr
  injection hr with hr
  subst hr
  exact ⟨h,⟨[],by simp⟩,[],by simp,⟨rfl,fun j x hx=>by simp at hx⟩,fun j h1 h2=>absurd h1 (by have h3:j<vs.length:=h2;omega)⟩
 | x::xs,vs,ls,r,h,hx,hf,hr=>by
  unfold Pl.edges at hr
  cases hv:p.vert vs x.2.to' (stepT p.H p.U x.2 x.1 t) with
  | none=>rw [hv] at hr;cases hr
  | some q =>
   rw [hv] at hr
   obtain ⟨h1,⟨w1,e1,k1⟩,h3⟩:=zo5 h (.inr ⟨x.2,hx x List.mem_cons_self,rfl⟩) hv
   obtain ⟨h4,⟨w2,e2⟩,ll,h5,h6,h7⟩:=zw8 xs q.1 _ r h1 (fun y hy=>hx y (List.mem_cons_of_mem _ hy)) (by rw [e1,List.length_append];omega) hr
   refine ⟨h4,⟨w1++w2,by rw [e2,e1,List.append_assoc]⟩,(fr,q.2,x.1)::ll,by rw [h5,List.append_assoc];rfl,⟨by rw [List.length_cons,List.length_cons,h6.1],?_⟩,?_⟩
   ·intro j y hy
    cases j with
    | zero =>
     simp only [List.getElem?_cons_zero,Option.some.injEq] at hy
     subst hy
     refine ⟨_,rfl,?_⟩
     rw [e2]
     exact LinkIs.grow ⟨rfl,rfl,h3⟩
    | succ j =>
     simp only [List.getElem?_cons_succ] at hy ⊢
     exact h6.2 j y hy
   intro j hj1 hj2
   by_cases c:q.1.length<=j
   ·obtain ⟨l,m1,m2⟩:=h7 j c hj2
    exact ⟨l,List.mem_cons_of_mem _ m1,m2⟩
   rcases k1 with k1 | ⟨k1,k2⟩
   ·rw [e1,k1,List.append_nil] at c;omega
   rw [e1,k1,List.length_append,List.length_singleton] at c
   have:j=vs.length:=by omega
   exact ⟨_,List.mem_cons_self,by show q.2=j;omega,by show fr<j;omega⟩
theorem zE5 {p:Pl} {fr:Nat} {t:Tok} (hc:0<p.cap):∀ (xs:List (Nat×Ed)) (vs:List Vx) (ls:List Lk) (n:Int),VI p vs->(∀ x∈xs,x.2∈p.es)->p.edges fr t xs vs ls=.inl n->p.mgd n=false/\∃ e∈p.es,e.to'=n
 | [],vs,ls,n,_,_,hr=>by unfold Pl.edges at hr;cases hr
 | x::xs,vs,ls,n,h,hx,hr=>by
  unfold Pl.edges at hr
  cases hv:p.vert vs x.2.to' (stepT p.H p.U x.2 x.1 t) with
  | none =>
   rw [hv] at hr
   injection hr with hr
   subst hr
   exact ⟨ya8 h hc hv,x.2,hx x List.mem_cons_self,rfl⟩
  | some q =>
   rw [hv] at hr
   exact zE5 hc xs q.1 _ n (zo5 h (.inr ⟨x.2,hx x List.mem_cons_self,rfl⟩) hv).1 (fun y hy=>hx y (List.mem_cons_of_mem _ hy)) hr
theorem ya9 {es:List Ed} {n:Int} {x:Nat×Ed} (h:x∈outE es n):x.2∈es/\x.2.from'=n:=by
 unfold outE at h
 obtain ⟨h1,h2⟩:=List.mem_filter.1 h
 exact ⟨(List.of_mem_zip h1).2,of_decide_eq_true h2⟩
structure FI (p:Pl) (fr:Nat) (vs:List Vx) (ls:List Lk):Prop where
 vi:VI p vs
 rows:∃ ll:List (List Lk),ll.length=fr/\ls=ll.flatten/\∀ (i:Nat) (l:List Lk),ll[i]?=some l->∃ v,vs[i]?=some v/\RowIs p vs i v.2 (outE p.es v.1) l
 led:LedBy vs ls 1
 first:vs[0]?=some (0,p.tok 0 tokE)
 le:fr<=vs.length
theorem FI.start (p:Pl) (hc:0<p.cap):FI p 0 [(0,p.tok 0 tokE)] []:=by
 refine ⟨⟨by simp,fun n=>?_,fun v hv hm=>?_,fun v hv=>?_⟩,⟨[],rfl,rfl,fun i l h=>by simp at h⟩,fun j h1 h2=>?_,rfl,by simp⟩
 ·unfold many
  rw [List.countP_singleton]
  split<;>omega
 ·rw [List.mem_singleton.1 hv] at hm ⊢
  show p.tok 0 tokE=tokM
  unfold Pl.tok
  rw [if_pos hm]
 ·rw [List.mem_singleton.1 hv];exact .inl rfl
 simp at h2;omega
theorem FI.next {p:Pl} {fr:Nat} {vs:List Vx} {ls:List Lk} {v:Vx} {r:List Vx×List Lk} (h:FI p fr vs ls) (hv:vs[fr]?=some v) (hr:p.edges fr v.2 (outE p.es v.1) vs ls=.inr r):FI p (fr+1) r.1 r.2:=by
 obtain ⟨hf,_⟩:=List.getElem?_eq_some_iff.1 hv
 obtain ⟨h1,⟨ws,e1⟩,ll,e2,h3,h4⟩:=zw8 _ _ _ _ h.vi (fun x hx=>(ya9 hx).1) hf hr
 obtain ⟨LL,k1,k2,k3⟩:=h.rows
 refine ⟨h1,⟨LL++[ll],by simp [k1],by rw [e2,k2];simp,fun i l hl=>?_⟩,fun j h5 h6=>?_,?_,?_⟩
 ·by_cases c:i<LL.length
  ·rw [List.getElem?_append_left c] at hl
   obtain ⟨v',m1,m2⟩:=k3 i l hl
   obtain ⟨hi,_⟩:=List.getElem?_eq_some_iff.1 m1
   refine ⟨v',by rw [e1,List.getElem?_append_left hi];exact m1,?_⟩
   rw [e1]
   exact m2.grow
  rw [List.getElem?_append_right (by omega)] at hl
  by_cases d:i=fr
  ·subst d
   rw [k1,Nat.sub_self] at hl
   simp only [List.getElem?_cons_zero,Option.some.injEq] at hl
   subst hl
   exact ⟨v,by rw [e1,List.getElem?_append_left hf];exact hv,h3⟩
  rw [List.getElem?_eq_none (by simp;omega)] at hl
  cases hl
 ·by_cases c:vs.length<=j
  ·obtain ⟨l,m1,m2⟩:=h4 j c h6
   exact ⟨l,by rw [e2];exact List.mem_append_right _ m1,m2⟩
  obtain ⟨l,m1,m2⟩:=h.led j h5 (by omega)
  exact ⟨l,by rw [e2];exact List.mem_append_left _ m1,m2⟩
 ·rw [e1,List.getElem?_append_left (by omega)];exact h.first
 rw [e1,List.length_append];omega
theorem zw9 {p:Pl}:∀ (f fr:Nat) (vs:List Vx) (ls:List Lk) (r:List Vx×List Lk),FI p fr vs ls->p.verts f fr vs ls=.inr r->∃ g,FI p g r.1 r.2/\(g=r.1.length\/g=fr+f)
 | 0,fr,vs,ls,r,h,hr=>by
  unfold Pl.verts at hr
  injection hr with hr
  subst hr
  exact ⟨fr,h,.inr rfl⟩
 | f+1,fr,vs,ls,r,h,hr=>by
  unfold Pl.verts at hr
  cases hv:vs[fr]? with
  | none =>
   rw [hv] at hr
   injection hr with hr
   subst hr
   have:=List.getElem?_eq_none_iff.1 hv
   have:=h.le
   exact ⟨fr,h,.inl (by show fr=vs.length;omega)⟩
  | some v =>
   rw [hv] at hr
   simp only at hr
   cases he:p.edges fr v.2 (outE p.es v.1) vs ls with
   | inl n=>rw [he] at hr;cases hr
   | inr q =>
    rw [he] at hr
    obtain ⟨g,h1,h2⟩:=zw9 f (fr+1) q.1 q.2 r (h.next hv he) hr
    exact ⟨g,h1,by omega⟩
theorem zE6 {p:Pl} (hc:0<p.cap):∀ (f fr:Nat) (vs:List Vx) (ls:List Lk) (n:Int),FI p fr vs ls->p.verts f fr vs ls=.inl n->p.mgd n=false/\∃ e∈p.es,e.to'=n
 | 0,fr,vs,ls,n,h,hr=>by unfold Pl.verts at hr;cases hr
 | f+1,fr,vs,ls,n,h,hr=>by
  unfold Pl.verts at hr
  cases hv:vs[fr]? with
  | none=>rw [hv] at hr;cases hr
  | some v =>
   rw [hv] at hr
   simp only at hr
   cases he:p.edges fr v.2 (outE p.es v.1) vs ls with
   | inl k =>
    rw [he] at hr
    injection hr with hr
    subst hr
    exact zE5 hc _ _ _ _ h.vi (fun x hx=>(ya9 hx).1) he
   | inr q=>rw [he] at hr;exact zE6 hc f (fr+1) q.1 q.2 n (h.next hv he) hr
end
end Go.Proofs.YtbneneijdgcccaaGreatDoor
