import Derived.Lib.ItoaNum
import Derived.Test.YtenoopfeplalnaaGreatDoorKFb
import Derived.Test.YtenoopfeplalnaaGreatDoorKPk0
import Derived.Test.YtenoopfeplalnaaGreatDoorKTl
set_option maxHeartbeats 8000000
set_option linter.all false
namespace Go.Proofs.YtenoopfeplalnaaGreatDoor
section
structure Dig (D:Int->List UInt8):Prop where
 inj:∀ a b,D a=D b->a=b
 dig:∀ a,∀ c∈D a,c=45\/(48<=c/\c<=57)
 ne:∀ a,D a≠[]
theorem Dig.not {D:Int->List UInt8} (h:Dig D) {b:UInt8} (hb:b≠45/\¬(48<=b/\b<=57)) (a:Int):b ∉ D a:=fun hm=>by
 rcases h.dig a b hm with e | e
 ·exact hb.1 e
 ·exact hb.2 e
theorem ahead {s:UInt8}:∀ {a b x y:List UInt8},s ∉ a->s ∉ b->a++s::x=b++s::y->a=b/\x=y
 | [],[],x,y,_,_,h=>by simpa using h
 | [],c::b,x,y,_,hb,h=>by
  simp only [List.nil_append,List.cons_append,List.cons.injEq] at h
  exact absurd (h.1 ▸ List.mem_cons_self) hb
 | c::a,[],x,y,ha,_,h=>by
  simp only [List.nil_append,List.cons_append,List.cons.injEq] at h
  exact absurd (h.1 ▸ List.mem_cons_self) ha
 | c::a,d::b,x,y,ha,hb,h=>by
  simp only [List.cons_append,List.cons.injEq] at h
  obtain ⟨h1,h2⟩:=ahead (fun m=>ha (List.mem_cons_of_mem _ m)) (fun m=>hb (List.mem_cons_of_mem _ m)) h.2
  exact ⟨by rw [h.1,h1],h2⟩
def spaced (ws:List (List UInt8)):List UInt8:=ws.flatMap fun w=>32::w
theorem zk0 (w:List UInt8) (ws:List (List UInt8)):spaced (w::ws)=32::(w++spaced ws):=by simp [spaced]
theorem zR9 (a b:List (List UInt8)):spaced (a++b)=spaced a++spaced b:=by simp [spaced]
theorem zO1:∀ {u v:List UInt8} {us vs:List (List UInt8)},32 ∉ u->32 ∉ v->(∀ w∈us,32 ∉ w)->(∀ w∈vs,32 ∉ w)->u++spaced us=v++spaced vs->u=v/\us=vs
 | u,v,[],[],_,_,_,_,h=>by simpa [spaced] using h
 | u,v,[],y::ys,hu,_,_,_,h=>by
  rw [zk0] at h
  simp only [spaced,List.flatMap_nil,List.append_nil] at h
  exact absurd (h ▸ List.mem_append_right _ List.mem_cons_self) hu
 | u,v,x::xs,[],_,hv,_,_,h=>by
  rw [zk0] at h
  simp only [spaced,List.flatMap_nil,List.append_nil] at h
  exact absurd (h ▸ List.mem_append_right _ List.mem_cons_self) hv
 | u,v,x::xs,y::ys,hu,hv,hx,hy,h=>by
  rw [zk0,zk0] at h
  obtain ⟨h1,h2⟩:=ahead hu hv h
  obtain ⟨h3,h4⟩:=zO1 (hx x List.mem_cons_self) (hy y List.mem_cons_self) (fun w m=>hx w (List.mem_cons_of_mem _ m)) (fun w m=>hy w (List.mem_cons_of_mem _ m)) h2
  exact ⟨h1,by rw [h3,h4]⟩
def wIf:List UInt8:=[105,102]
def wWhile:List UInt8:=[119,104,105,108,101]
def wRound:List UInt8:=[114,111,117,110,100]
def wMerged:List UInt8:=[109,101,114,103,101,100]
def wdH (D:Int->List UInt8) (h:List Int):List (List UInt8):=h.flatMap fun e=>[wIf,D e]
def wdL (D:Int->List UInt8) (l:List (Int×Int)):List (List UInt8):=l.flatMap fun x=>[wWhile,D x.1,wRound,D x.2]
def wdT (D:Int->List UInt8) (t:Tok):List (List UInt8):=if t.1=true then [wMerged] else wdH D t.2.1++wdL D t.2.2
def txtV (D:Int->List UInt8) (v:Vx):List UInt8:=D v.1++spaced (wdT D v.2)
def TokOk (t:Tok):Prop:=t.1=true->t=tokM
theorem zZ0 {D:Int->List UInt8} (hD:Dig D):∀ {a b:List (Int×Int)},wdL D a=wdL D b->a=b
 | [],[],_=>rfl
 | [],y::ys,h=>by simp [wdL] at h
 | x::xs,[],h=>by simp [wdL] at h
 | x::xs,y::ys,h=>by
  have e:∀ (z:Int×Int) zs,wdL D (z::zs)=wWhile::D z.1::wRound::D z.2::wdL D zs:=fun z zs=>by simp [wdL]
  rw [e,e] at h
  simp only [List.cons.injEq,true_and] at h
  obtain ⟨x1,x2⟩:=x
  obtain ⟨y1,y2⟩:=y
  have h1:=hD.inj _ _ h.1
  have h2:=hD.inj _ _ h.2.1
  simp only at h1 h2
  rw [h1,h2,zZ0 hD h.2.2]
theorem zZ1 {D:Int->List UInt8} (hD:Dig D):∀ {a b:List Int} {x y:List (Int×Int)},wdH D a++wdL D x=wdH D b++wdL D y->a=b/\x=y
 | [],[],x,y,h=>⟨rfl,zZ0 hD (by simpa [wdH] using h)⟩
 | [],c::b,x,y,h=>by
  cases x with
  | nil=>simp [wdH,wdL] at h
  | cons z zs=>simp [wdH,wdL,wWhile,wIf] at h
 | c::a,[],x,y,h=>by
  cases y with
  | nil=>simp [wdH,wdL] at h
  | cons z zs=>simp [wdH,wdL,wWhile,wIf] at h
 | c::a,d::b,x,y,h=>by
  have e:∀ (z:Int) zs,wdH D (z::zs)=wIf::D z::wdH D zs:=fun z zs=>by simp [wdH]
  rw [e,e] at h
  simp only [List.cons_append,List.cons.injEq,true_and] at h
  obtain ⟨h1,h2⟩:=zZ1 hD h.2
  exact ⟨by rw [hD.inj _ _ h.1,h1],h2⟩
theorem yt9 {D:Int->List UInt8} (hD:Dig D) (t:Tok):∀ w∈wdT D t,(32:UInt8) ∉ w:=by
 intro w hw
 unfold wdT at hw
 have h32:∀ a,(32:UInt8) ∉ D a:=fun a=>hD.not (by decide) a
 split at hw
 ·rw [List.mem_singleton.1 hw];decide
 ·rcases List.mem_append.1 hw with h | h
  ·obtain ⟨x,_,h⟩:=List.mem_flatMap.1 h
   simp only [List.mem_cons,List.not_mem_nil,or_false] at h
   rcases h with rfl | rfl
   ·decide
   ·exact h32 _
  ·obtain ⟨x,_,h⟩:=List.mem_flatMap.1 h
   simp only [List.mem_cons,List.not_mem_nil,or_false] at h
   rcases h with rfl | rfl | rfl | rfl
   ·decide
   ·exact h32 _
   ·decide
   ·exact h32 _
theorem ym0 {D:Int->List UInt8} (hD:Dig D) {u v:Vx} (hu:TokOk u.2) (hv:TokOk v.2) (h:txtV D u=txtV D v):u=v:=by
 unfold txtV at h
 obtain ⟨h1,h2⟩:=zO1 (hD.not (by decide) _) (hD.not (by decide) _) (yt9 hD _) (yt9 hD _) h
 have e1:=hD.inj _ _ h1
 obtain ⟨n,b,a,x⟩:=u
 obtain ⟨m,c,a',x'⟩:=v
 simp only at e1 hu hv h2
 subst e1
 cases b with
 | true =>
  have e2:=hu rfl
  cases c with
  | true=>rw [e2,hv rfl]
  | false =>
   exfalso
   unfold wdT at h2
   simp only [if_true,Bool.false_eq_true,if_false] at h2
   cases a' with
   | nil=>cases x' with
    | nil=>simp [wdH,wdL] at h2
    | cons z zs=>simp [wdH,wdL] at h2
   | cons z zs=>simp [wdH] at h2
 | false =>
  cases c with
  | true =>
   exfalso
   unfold wdT at h2
   simp only [if_true,Bool.false_eq_true,if_false] at h2
   cases a with
   | nil=>cases x with
    | nil=>simp [wdH,wdL] at h2
    | cons z zs=>simp [wdH,wdL] at h2
   | cons z zs=>simp [wdH] at h2
  | false =>
   unfold wdT at h2
   simp only [Bool.false_eq_true,if_false] at h2
   obtain ⟨h3,h4⟩:=zZ1 hD h2
   rw [h3,h4]
end
section
def outP (es:List Ed) (n:Int) (k:Nat):List (Nat×Ed):=(((List.range es.length).zip es).take k).filter fun x=>decide (x.2.from'=n)
theorem zZ2 (es:List Ed) (n:Int):outP es n 0=[]:=by simp [outP]
theorem zs2 {es:List Ed} {n:Int} {k:Nat} {e:Ed} (h:es[k]?=some e):outP es n (k+1)=outP es n k++if e.from'=n then [(k,e)] else []:=by
 unfold outP
 rw [List.take_add_one,zE3 es k e h,Option.toList_some,List.filter_append]
 congr 1
 by_cases c:e.from'=n
 ·rw [if_pos c,List.filter_cons_of_pos (by simpa using c),List.filter_nil]
 ·rw [if_neg c,List.filter_cons_of_neg (by simpa using c),List.filter_nil]
theorem ym1 (es:List Ed) (n:Int):outP es n es.length=outE es n:=by
 unfold outP outE
 rw [List.take_of_length_le (by simp)]
theorem zw4 {es:List Ed} {n:Int} (k:Nat):∃ l,outE es n=outP es n k++l:=by
 refine ⟨(((List.range es.length).zip es).drop k).filter fun x=>decide (x.2.from'=n),?_⟩
 unfold outE outP
 rw [<-List.filter_append,List.take_append_drop]
theorem yw5 {es:List Ed} {n:Int} {k:Nat} {e:Ed} (h:es[k]?=some e) (hf:e.from'=n):(outE es n)[(outP es n k).length]?=some (k,e):=by
 obtain ⟨l,hl⟩:=zw4 (es:=es) (n:=n) (k+1)
 rw [hl,zs2 h,if_pos hf,List.append_assoc,List.getElem?_append_right (Nat.le_refl _),Nat.sub_self]
 rfl
def before {α:Type} (ll:List (List α)) (i:Nat):Nat:=(ll.take i).flatten.length
theorem zZ3 {α:Type} {ll:List (List α)} {i j:Nat} {l:List α} {x:α} (h:ll[i]?=some l) (hx:l[j]?=some x):ll.flatten[before ll i+j]?=some x:=by
 obtain ⟨hi,e⟩:=List.getElem?_eq_some_iff.1 h
 have hs:ll=ll.take i++l::ll.drop (i+1):=by
  rw [<-e,<-List.drop_eq_getElem_cons hi,List.take_append_drop]
 unfold before
 have:ll.flatten=(ll.take i).flatten++(l++(ll.drop (i+1)).flatten):=by
  conv=>lhs;rw [hs]
  simp
 rw [this,List.getElem?_append_right (by omega),Nat.add_sub_cancel_left]
 obtain ⟨hj,_⟩:=List.getElem?_eq_some_iff.1 hx
 rw [List.getElem?_append_left hj]
 exact hx
theorem FI.at {p:Pl} {vs:List Vx} {ls:List Lk} {LL:List (List Lk)} (k2:ls=LL.flatten) (k3:∀ (i:Nat) (l:List Lk),LL[i]?=some l->∃ v,vs[i]?=some v/\RowIs p vs i v.2 (outE p.es v.1) l) (k1:LL.length=vs.length) {i k:Nat} {v:Vx} {e:Ed} (hv:vs[i]?=some v) (he:p.es[k]?=some e) (hf:e.from'=v.1) :
  ∃ l,ls[before LL i+(outP p.es v.1 k).length]?=some l/\LinkIs p vs i v.2 (k,e) l:=by
 obtain ⟨hi,_⟩:=List.getElem?_eq_some_iff.1 hv
 have hL:LL[i]?=some (LL[i]'(by omega)):=List.getElem?_eq_getElem (by omega)
 obtain ⟨v',hv',hrow⟩:=k3 i _ hL
 rw [hv] at hv'
 injection hv' with hv'
 subst hv'
 obtain ⟨l,g1,g2⟩:=hrow.2 _ _ (yw5 he hf)
 exact ⟨l,by rw [k2];exact zZ3 hL g1,g2⟩
end
section
def goP (ls:List Lk):Nat->List Int->Option Nat
 | v,[]=>some v
 | v,k::t=>match (if 0<=k then nextV ls v k.toNat else none) with
  | none=>none
  | some u=>goP ls u t
theorem zO2 (ls:List Lk) (v:Nat) (k:Int) (t:List Int):goP ls v (k::t)=(if 0<=k then nextV ls v k.toNat else none).bind fun u=>goP ls u t:=by
 conv=>lhs;unfold goP
 cases (if 0<=k then nextV ls v k.toNat else none)<;>rfl
theorem zz2 (ls:List Lk):∀ (v:Nat) (a b:List Int),goP ls v (a++b)=(goP ls v a).bind fun u=>goP ls u b
 | v,[],b=>rfl
 | v,k::a,b=>by
  rw [List.cons_append,zO2,zO2]
  cases (if 0<=k then nextV ls v k.toNat else none) with
  | none=>rfl
  | some u=>exact zz2 ls u a b
theorem zI3 (ls:List Lk) (v:Nat) (k:Int):goP ls v [k]=if 0<=k then nextV ls v k.toNat else none:=by
 unfold goP
 cases (if 0<=k then nextV ls v k.toNat else none)<;>rfl
end
section
open Go.Lib
theorem zm4 {u:Nat} (h:u<10):decDigits u=[UInt8.ofNat (48+u)]:=by rw [decDigits,dif_pos h]
theorem zw5 {u:Nat} (h:¬u<10):decDigits u=decDigits (u/10)++[UInt8.ofNat (48+u%10)]:=by rw [decDigits,dif_neg h]
theorem dd_ne (u:Nat):decDigits u≠[]:=by
 by_cases h:u<10
 ·rw [zm4 h];simp
 ·rw [zw5 h];simp
theorem zZ4 {a b:Nat} (ha:a<256) (hb:b<256) (h:UInt8.ofNat a=UInt8.ofNat b):a=b:=by
 have:=congrArg UInt8.toNat h
 simp only [UInt8.toNat_ofNat'] at this
 omega
theorem yu0 (u:Nat):∀ v,decDigits u=decDigits v->u=v:=by
 induction u using Nat.strongRecOn with
 | _ u ih =>
  intro v h
  by_cases c:u<10
  ·by_cases d:v<10
   ·rw [zm4 c,zm4 d] at h
    simp only [List.cons.injEq,and_true] at h
    have:=zZ4 (by omega) (by omega) h
    omega
   ·exfalso
    rw [zm4 c,zw5 d] at h
    have:=congrArg List.length h
    rw [List.length_append,List.length_singleton,List.length_singleton] at this
    exact dd_ne (v/10) (List.eq_nil_of_length_eq_zero (by omega))
  ·by_cases d:v<10
   ·exfalso
    rw [zw5 c,zm4 d] at h
    have:=congrArg List.length h
    rw [List.length_append,List.length_singleton,List.length_singleton] at this
    exact dd_ne (u/10) (List.eq_nil_of_length_eq_zero (by omega))
   ·rw [zw5 c,zw5 d] at h
    obtain ⟨h1,h2⟩:=List.append_inj' h rfl
    simp only [List.cons.injEq,and_true] at h2
    have e1:=ih (u/10) (by omega) (v/10) h1
    have e2:=zZ4 (by omega) (by omega) h2
    omega
theorem zZ5 (u:Nat):∀ c∈decDigits u,(48:UInt8)<=c/\c<=57:=by
 have key:∀ d,d<10->(48:UInt8)<=UInt8.ofNat (48+d)/\UInt8.ofNat (48+d)<=57:=by decide
 induction u using Nat.strongRecOn with
 | _ u ih =>
  intro c hc
  by_cases h:u<10
  ·rw [zm4 h] at hc
   rw [List.mem_singleton.1 hc]
   exact key u h
  ·rw [zw5 h] at hc
   rcases List.mem_append.1 hc with hc | hc
   ·exact ih (u/10) (by omega) c hc
   ·rw [List.mem_singleton.1 hc]
    exact key (u%10) (by omega)
theorem zO3:Dig itoa:=by
 refine ⟨fun a b h=>?_,fun a c hc=>?_,fun a h=>?_⟩
 ·have no:∀ u v:Nat,45::decDigits u≠decDigits v:=fun u v e=>by
   have:=zZ5 v 45 (by rw [<-e];exact List.mem_cons_self)
   exact absurd this.1 (by decide)
  unfold itoa at h
  by_cases c:a<0
  ·by_cases d:b<0
   ·rw [if_pos c,if_pos d] at h
    simp only [List.cons.injEq,true_and] at h
    have:=yu0 _ _ h
    omega
   ·rw [if_pos c,if_neg d] at h
    exact absurd h (no _ _)
  ·by_cases d:b<0
   ·rw [if_neg c,if_pos d] at h
    exact absurd h.symm (no _ _)
   ·rw [if_neg c,if_neg d] at h
    have:=yu0 _ _ h
    omega
 ·unfold itoa at hc
  split at hc
  ·rcases List.mem_cons.1 hc with e | hc
   ·exact .inl e
   ·exact .inr (zZ5 _ c hc)
  ·exact .inr (zZ5 _ c hc)
 ·unfold itoa at h
  split at h
  ·cases h
  ·exact dd_ne _ h
end
section
open Go.RowKit
def ilL (l:List Int):List Value:=l.map fun x=>.int .i64 x
def lpL (l:List (Int×Int)):List Value:=l.flatMap fun x=>[.int .i64 x.1,.int .i64 x.2]
theorem zz3:∀ (l:List (Int×Int)),(lpL l).length=l.length*2
 | []=>rfl
 | x::l=>by
  have e:lpL (x::l)=[.int .i64 x.1,.int .i64 x.2]++lpL l:=by simp [lpL]
  rw [e,List.length_append,zz3 l,List.length_cons]
  simp
  omega
theorem zs3:∀ (l:List (Int×Int)) (k:Nat) (x:Int×Int),l[k]?=some x->(lpL l)[k*2]?=some (.int .i64 x.1)/\(lpL l)[k*2+1]?=some (.int .i64 x.2)
 | [],k,x,h=>by simp at h
 | y::l,k,x,h=>by
  have e:lpL (y::l)=.int .i64 y.1::.int .i64 y.2::lpL l:=by simp [lpL]
  cases k with
  | zero =>
   simp only [List.getElem?_cons_zero,Option.some.injEq] at h
   subst h
   rw [e]
   exact ⟨rfl,rfl⟩
  | succ k =>
   simp only [List.getElem?_cons_succ] at h
   obtain ⟨h1,h2⟩:=zs3 l k x h
   rw [e,show (k+1)*2=k*2+1+1 by omega]
   exact ⟨h1,h2⟩
structure TokIs (w:World) (hv lv:Value) (t:Tok):Prop where
 hist:SL w 1 hv t.2.1.length (ilL t.2.1)
 loops:SL w 2 lv t.2.2.length (lpL t.2.2)
 cap:∀ ao n c,lv=.slice ao n c->n<=c
theorem TokIs.below {w w':World} {hv lv:Value} {t:Tok} (h:TokIs w hv lv t) (hk:Ok w w'):TokIs w' hv lv t:=⟨h.hist.below hk,h.loops.below hk,h.cap⟩
structure TokOwn (w:World) (B:Nat) (hv lv:Value) (t:Tok):Prop where
 hist:w.ownsRow B 3 1 hv t.2.1.length (ilL t.2.1)
 loops:w.ownsRow B 214 2 lv t.2.2.length (lpL t.2.2)
theorem TokOwn.ok {w w':World} {B:Nat} {hv lv:Value} {t:Tok} (h:TokOwn w B hv lv t) (hk:Ok w w'):TokOwn w' B hv lv t:=⟨za1 h.hist hk,za1 h.loops hk⟩
theorem TokOwn.base {w:World} {B B':Nat} {hv lv:Value} {t:Tok} (h:TokOwn w B hv lv t) (hB:B'<=B):TokOwn w B' hv lv t:=⟨za8 h.hist hB,za8 h.loops hB⟩
theorem zn0 {w:World} {B s n:Nat} {e:TypeId} {v:Value} {xs:List Value} (h:w.ownsRow B e s v n xs) (h1:∀ u∈xs,u.oneCell'=true) (hs:0<s):SL w s v n xs:=by
 obtain ⟨ao,cap,rfl⟩:=za0 h
 refine ⟨h.1,h1,ao,cap,rfl,?_⟩
 by_cases c:n=0
 ·exact .inl c
 ·right
  obtain ⟨g,cp,e,_⟩:=h.form (by omega)
  injection e with e1 e2 e3
  subst e1
  exact ⟨g,0,rfl,(h.lt g rfl).2,fun j u hj=>by have:=h.cells (g:=g) rfl j u hj;rw [zc0] at this;exact this⟩
theorem zp3 (l:List Int):∀ u∈ilL l,u.oneCell'=true:=fun u hu=>by
 obtain ⟨x,_,rfl⟩:=List.mem_map.1 hu
 rfl
theorem zZ6 (l:List (Int×Int)):∀ u∈lpL l,u.oneCell'=true:=fun u hu=>by
 obtain ⟨x,_,hx⟩:=List.mem_flatMap.1 hu
 simp only [List.mem_cons,List.not_mem_nil,or_false] at hx
 rcases hx with rfl | rfl<;>rfl
theorem yw6 {w:World} {B s n:Nat} {e:TypeId} {v:Value} {xs:List Value} (h:w.ownsRow B e s v n xs):∀ ao m c,v=.slice ao m c->m<=c:=by
 intro ao m c hv
 rcases h.2 with ⟨e1,_⟩ | ⟨g,cap,cur,e1,_,_,h3,_⟩
 ·rw [hv] at e1
  injection e1 with _ e2 e3
  omega
 ·rw [hv] at e1
  injection e1 with _ e2 e3
  omega
theorem TokOwn.is {w:World} {B:Nat} {hv lv:Value} {t:Tok} (h:TokOwn w B hv lv t):TokIs w hv lv t:=⟨zn0 h.hist (zp3 _) (by decide),zn0 h.loops (zZ6 _) (by decide),yw6 h.loops⟩
theorem zZ7 {t:Tok} {h:Int} {x:Int×Int} (hx:t.2.2[t.2.2.length-1]?=some x):inLp t h=(x.1==h):=by
 unfold inLp
 rw [List.getLast?_eq_getElem?,hx]
theorem zz4 {t:Tok} {h:Int} (hx:t.2.2=[]):inLp t h=false:=by
 unfold inLp
 rw [hx]
 rfl
set_option maxRecDepth 100000 in
theorem zw6 (m:Bool) (hv lv:Value) (t:Tok) (h:Int) (w:World) (ht:TokIs w hv lv t) (hl:t.2.2.length<1000000000000000) :
  Calls Tryz.prog 123 #[.agg #[.bool m,hv,lv],.int .i64 h] w fun e w'=>e=.returned (.bool (inLp t h))/\Ok w w':=by
 obtain ⟨_,_,ho,hc,rfl,_⟩:=ht.hist
 obtain ⟨_,_,lo,lc,rfl,h2⟩:=ht.loops
 obtain ⟨q,hq⟩:∃ q,q=t.2.1.length:=⟨_,rfl⟩
 obtain ⟨n,hn⟩:∃ n,n=t.2.2.length:=⟨_,rfl⟩
 rw [<-hq,<-hn]
 have HN:Hid (n=t.2.2.length):=hn
 have HT:Hid (SL w 2 (.slice lo n lc) n (lpL t.2.2)):=by unfold Hid;rw [hn];exact ht.loops
 rw [<-hn] at hl h2
 clear hq hn ht
 cases n with
 | zero =>
  have HE:Hid (inLp t h=false):=zz4 (List.eq_nil_of_length_eq_zero HN.out.symm)
  go_enter Tryz.func123,Tryz.ntmps123
  go_wp2_with fail
  go_ret
  exact ⟨by rw [HE.out];rfl,(Ok.refl w).alloc _⟩
 | succ k =>
  obtain ⟨b,o,e,hb,hc2⟩:=h2.resolve_left (by omega)
  subst e
  have hlt:k<t.2.2.length:=by have:=HN.out;omega
  obtain ⟨x,hx⟩:∃ x,t.2.2[k]?=some x:=⟨_,List.getElem?_eq_getElem hlt⟩
  have HE:Hid (inLp t h=(x.1==h)):=zZ7 (by rw [<-HN.out];exact hx)
  have r0:w.cell? ⟨b,o+k*2,none⟩=some (.int .i64 x.1):=hc2 _ _ (zs3 _ _ _ hx).1
  have kw:IntKind.i64.wrap (((k+1:Nat):Int)-1)=(k:Int):=by rw [IntKind.wrap_i64];omega
  have kw2:wrap64 (k:Int)=(k:Int):=by unfold wrap64;omega
  have k0:(0:Int)<=(k:Int):=by omega
  clear hx hc2 hl hlt
  go_enter Tryz.func123,Tryz.ntmps123
  go_wp2_with fail
  go_ret
  exact ⟨by rw [HE.out];rfl,(Ok.refl w).alloc _⟩
theorem infLp:(Tryz.prog.info? 214).map (fun i=>(i.zero,i.size,i.bytes))=some (some (.agg #[.int .i64 0,.int .i64 0]),2,16):=by kernel_rfl
theorem infIn:(Tryz.prog.info? 3).map (fun i=>(i.zero,i.size,i.bytes))=some (some (.int .i64 0),1,8):=by kernel_rfl
theorem infTk:(Tryz.prog.info? 54).map (·.size)=some 3:=by kernel_rfl
theorem zd9 {w:World} {g:Nat} {u v x:Value} {t:TypeId} (hg:w.heap[g]?=some (.cells #[u,v,x] t (0,0))) (a b c:Value):(((w.setCell ⟨g,0,none⟩ a).setCell ⟨g,1,none⟩ b).setCell ⟨g,2,none⟩ c).heap[g]?=some (.cells #[a,b,c] t (0,0)):=by
 have h1:=heap_setCell_same w g 0 _ t a hg
 have h2:=heap_setCell_same _ g 1 _ t b h1
 have h3:=heap_setCell_same _ g 2 _ t c h2
 simpa using h3
theorem zb2 {w:World} {g:Nat} {u v x:Value} {t:TypeId} (h:w.heap[g]?=some (.cells #[u,v,x] t (0,0))) :
  w.cell? ⟨g,0,none⟩=some u/\w.cell? ⟨g,1,none⟩=some v/\w.cell? ⟨g,2,none⟩=some x/\w.frozen? ⟨g,0,none⟩=false/\w.frozen? ⟨g,1,none⟩=false/\w.frozen? ⟨g,2,none⟩=false :=
 ⟨(cell_of_row _ _ 0 _ _ _ h).trans (by simp),(cell_of_row _ _ 1 _ _ _ h).trans (by simp),(cell_of_row _ _ 2 _ _ _ h).trans (by simp),frozen_of_row _ _ _ _ _ h,frozen_of_row _ _ _ _ _ h,frozen_of_row _ _ _ _ _ h⟩
theorem zf6 {w:World} {B g:Nat} {e:TypeId} {s n:Nat} {v:Value} {xs:List Value} (h:w.ownsRow B e s v n xs) (hg:g<B) (a b c:Value):(((w.setCell ⟨g,0,none⟩ a).setCell ⟨g,1,none⟩ b).setCell ⟨g,2,none⟩ c).ownsRow B e s v n xs :=
 zb4 h fun k hk=>by
  have hne:k≠g:=by have:=(h.lt k hk).1;omega
  rw [Below.heap_setCell _ _ _ _ hne,Below.heap_setCell _ _ _ _ hne,Below.heap_setCell _ _ _ _ hne]
def cpT (t:Tok):Tok:=if t.1=true then tokM else t
set_option maxRecDepth 100000 in
theorem zi2 (hv lv:Value) (t:Tok) (w:World) (ht:TokIs w hv lv t) (hb:t.2.1.length*8<=140737488355328/\t.2.2.length*16<=140737488355328) :
  Calls Tryz.prog 82 #[.agg #[.bool t.1,hv,lv]] w fun e w'=>∃ hv' lv',e=.returned (.agg #[.bool t.1,hv',lv'])/\TokOwn w' w.heap.size hv' lv' (cpT t)/\Ok w w':=by
 have HT:=hid ht
 have HB:=hid hb
 obtain ⟨_,_,ho,hc,rfl,_⟩:=ht.hist
 obtain ⟨_,_,lo,lc,rfl,_⟩:=ht.loops
 obtain ⟨m,hm⟩:∃ m,m=t.1:=⟨_,rfl⟩
 have HM:Hid (m=t.1):=hm
 rw [<-hm]
 clear ht hb hm
 obtain ⟨q,hq⟩:∃ q,q=t.2.1.length:=⟨_,rfl⟩
 obtain ⟨n,hn⟩:∃ n,n=t.2.2.length:=⟨_,rfl⟩
 have HQ:Hid (q=t.2.1.length/\n=t.2.2.length):=⟨hq,hn⟩
 rw [<-hq,<-hn]
 have HTH:Hid (SL w 1 (.slice ho q hc) q (ilL t.2.1)):=by unfold Hid;rw [hq];exact HT.out.hist
 have HTL:Hid (SL w 2 (.slice lo n lc) n (lpL t.2.2)):=by unfold Hid;rw [hn];exact HT.out.loops
 clear hq hn HT
 go_enter Tryz.func82,Tryz.ntmps82
 cases m with
 | true =>
  have HE:Hid (cpT t=tokM):=by unfold Hid cpT;rw [if_pos HM.out.symm]
  go_wp2_with fail
  (try simp only [Exit.inBlock,Exit.then])
  refine bodyPost_ret (results_cell_row rfl _ _ (w.heap.size+1) 54 #[_,_,_] (0,0) _ rfl (by repeat (first | (refine heap_at _ _ _ ?hx; case hx => (first | (simp; done) | (simp; omega))) | (refine heap_past _ _ _ ?hy ?_; case hy => (first | (simp; done) | (simp; omega))) | fail)) Tryz.underlying54 rfl infTk) rfl ?_
  exact ⟨_,_,rfl,by rw [HE.out];exact ⟨World.ownsRow_nil _ _ _ _,World.ownsRow_nil _ _ _ _⟩,((Ok.refl w).alloc _).alloc _⟩
 | false =>
  have HE:Hid (cpT t=t):=by unfold Hid cpT;rw [if_neg (by rw [<-HM.out];decide)]
  go_wp2_with fail
  obtain ⟨W,hW⟩:∃ z,z=(w.alloc (Obj.cells #[.bool false,.slice ho q hc,.slice lo n lc] 54)).alloc (Obj.cells #[.bool false,.slice none 0 0,.slice none 0 0] 54):=⟨_,rfl⟩
  obtain ⟨gr,hgr⟩:∃ z,z=w.heap.size+1:=⟨_,rfl⟩
  obtain ⟨gp,hgp⟩:∃ z,z=w.heap.size:=⟨_,rfl⟩
  rw [<-hW,<-hgr,<-hgp]
  have HK:Hid (Ok w W):=by unfold Hid;rw [hW];exact ((Ok.refl w).alloc _).alloc _
  have HP:Hid (W.heap[gp]?=some (.cells #[Value.bool false,Value.slice ho q hc,Value.slice lo n lc] 54 (0,0))):=by unfold Hid;rw [hW,hgp];exact (by repeat (first | (refine heap_at _ _ _ ?hx; case hx => (first | (simp; done) | (simp; omega))) | (refine heap_past _ _ _ ?hy ?_; case hy => (first | (simp; done) | (simp; omega))) | fail))
  have HR:Hid (W.heap[gr]?=some (.cells #[Value.bool false,Value.slice none 0 0,Value.slice none 0 0] 54 (0,0))):=by unfold Hid;rw [hW,hgr];exact (by repeat (first | (refine heap_at _ _ _ ?hx; case hx => (first | (simp; done) | (simp; omega))) | (refine heap_past _ _ _ ?hy ?_; case hy => (first | (simp; done) | (simp; omega))) | fail))
  have HG:Hid (w.heap.size<=gr):=by unfold Hid;omega
  clear hW hgr hgp
  replace HTH:Hid (∀ Y,Ok W Y->SL Y 1 (.slice ho q hc) q (ilL t.2.1)):=fun Y hY=>HTH.out.below (HK.out.step hY)
  replace HTL:Hid (∀ Y,Ok W Y->SL Y 2 (.slice lo n lc) n (lpL t.2.2)):=fun Y hY=>HTL.out.below (HK.out.step hY)
  have HSS:Hid (∀ Y,Ok W Y->Y.cell? ⟨gp,1,none⟩=some (.slice ho q hc)/\Y.cell? ⟨gp,2,none⟩=some (.slice lo n lc)/\gp<Y.heap.size):=fun Y hY=>by
   have h:=Ok.row' hY HP.out
   exact ⟨(cell_of_row _ _ 1 _ _ _ h).trans (by simp),(cell_of_row _ _ 2 _ _ _ h).trans (by simp),za2 h⟩
  have S0:Ok W W.drew:=Below.drew (Ok.refl _)
  refine zf9 (fun Y=>Ok W Y) 7 (by kernel_rfl) ?_
  refine za3 (i:=0) (v:=.pointer (some ⟨gp,1,none⟩)) rfl (by kernel_rfl) (by kernel_rfl) (by kernel_rfl) (by kernel_rfl) (fun _ _ _ h=>h) S0 (Or.inl ⟨by rfl,?_⟩) ?_
  ·intro w' s0;clear s0;go_simp;try with_reducible rfl
  simp only [pu]
  refine za3 (i:=1) (v:=.slice ho q hc) rfl (by kernel_rfl) (by kernel_rfl) (by kernel_rfl) (by kernel_rfl) (fun _ _ _ h=>h) S0 (Or.inl ⟨by rfl,?_⟩) ?_
  ·intro w' s0;obtain ⟨z1,z2,z3⟩:=HSS.out w' s0;clear s0;go_simp;try with_reducible rfl
  simp only [pu]
  refine za3 (i:=3) (v:=.pointer (some ⟨gp,2,none⟩)) rfl (by kernel_rfl) (by kernel_rfl) (by kernel_rfl) (by kernel_rfl) (fun _ _ _ h=>h) S0 (Or.inl ⟨by rfl,?_⟩) ?_
  ·intro w' s0;clear s0;go_simp;try with_reducible rfl
  simp only [pu]
  refine za3 (i:=4) (v:=.slice lo n lc) rfl (by kernel_rfl) (by kernel_rfl) (by kernel_rfl) (by kernel_rfl) (fun _ _ _ h=>h) S0 (Or.inl ⟨by rfl,?_⟩) ?_
  ·intro w' s0;obtain ⟨z1,z2,z3⟩:=HSS.out w' s0;clear s0;go_simp;try with_reducible rfl
  simp only [pu]
  refine zb0 (i:=2) (by kernel_rfl) rfl (fun K hK=>?_)
  refine zd1 rfl _ _ 25 3 1 8 _ rfl Tryz.underlying25 infIn (by rfl) (by decide) (by decide) W.heap.size (.slice none 0 0) 0 [] (by rfl) (World.ownsRow_nil _ _ _ _) (.slice ho q hc) q (ilL t.2.1) (by rfl) (HTH.out _ (Below.drew (Ok.refl _))) (by have:=HB.out.1;have:=HQ.out.1;omega) (Nat.le_refl _) ?_
  intro v1 w1 k1 k2
  rw [Nat.zero_add,List.nil_append] at k1
  have HK1:Hid (Ok W w1):=Ok.step (Below.drew (Ok.refl _)) (Ok.grown0 k2)
  have HH1:Hid (w1.ownsRow W.heap.size 3 1 v1 q (ilL t.2.1)):=k1
  obtain ⟨vo,vc,rfl⟩:=za0 k1
  clear k1 k2
  refine hK.out _ _ (fun _=>HK1.out) ?_
  clear hK K
  simp only [pu]
  refine zb0 (i:=5) (by kernel_rfl) rfl (fun K hK=>?_)
  refine zd1 rfl _ _ 52 214 2 16 _ rfl Tryz.underlying52 infLp (by rfl) (by decide) (by decide) W.heap.size (.slice none 0 0) 0 [] (by rfl) (World.ownsRow_nil _ _ _ _) (.slice lo n lc) n (lpL t.2.2) (by rfl) (HTL.out _ HK1.out) (by have:=HB.out.2;have:=HQ.out.2;omega) HK1.out.le ?_
  intro v2 w2 k1 k2
  rw [Nat.zero_add,List.nil_append] at k1
  have HK2:Hid (Ok W w2):=HK1.out.step (Ok.grown0 k2)
  have HH2:Hid (w2.ownsRow W.heap.size 3 1 (.slice vo q vc) q (ilL t.2.1)):=za1 HH1.out (Ok.grown0 k2)
  have HL2:Hid (w2.ownsRow W.heap.size 214 2 v2 n (lpL t.2.2)):=k1
  obtain ⟨uo,uc,rfl⟩:=za0 k1
  clear k1 k2
  refine hK.out _ _ (fun _=>HK2.out) ?_
  clear hK K
  simp only [pu]
  refine zb0 (i:=6) (by kernel_rfl) rfl (fun K hK=>?_)
  go_simp
  refine hK.out _ _ (fun _=>HK2.out) ?_
  clear hK K
  have HR2:Hid _:=Ok.row' HK2.out HR.out
  obtain ⟨c0,c1,c2,c3,c4,c5⟩:=zb2 HR2.out
  have lgr:=za2 HR2.out
  refine zb0 (i:=7) (by kernel_rfl) rfl (fun K hK=>?_)
  go_simp
  refine hK.out _ _ (fun h=>absurd rfl h) ?_
  clear hK K
  refine zf8 (by kernel_rfl) ?_ _
  go_wp2_with fail
  (try simp only [Exit.inBlock,Exit.then])
  refine bodyPost_ret (results_cell_row rfl _ _ gr 54 #[_,_,_] (0,0) _ rfl (zd9 HR2.out _ _ _) Tryz.underlying54 rfl infTk) rfl ?_
  have hlt:gr<W.heap.size:=za2 HR.out
  refine ⟨_,_,rfl,?_,((((HK.out.step HK2.out).set HG.out _).set HG.out _).set HG.out _)⟩
  rw [HE.out]
  refine ⟨?_,?_⟩
  ·rw [<-HQ.out.1];exact za8 (zf6 HH2.out hlt _ _ _) HK.out.le
  ·rw [<-HQ.out.2];exact za8 (zf6 HL2.out hlt _ _ _) HK.out.le
end
end Go.Proofs.YtenoopfeplalnaaGreatDoor
