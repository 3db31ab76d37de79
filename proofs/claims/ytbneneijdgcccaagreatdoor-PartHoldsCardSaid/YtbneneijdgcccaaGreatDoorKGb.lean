import Derived.Lib.ItoaNum
import Derived.Test.YtbneneijdgcccaaGreatDoorKFa
import Derived.Test.YtbneneijdgcccaaGreatDoorKPk0
import Derived.Test.YtbneneijdgcccaaGreatDoorKTl
set_option maxHeartbeats 8000000
set_option linter.all false
set_option maxRecDepth 100000
namespace Go.Proofs.YtbneneijdgcccaaGreatDoor
section
theorem yv2 (c:Nat):∀ (N:Nat) (vs:List Vx),(∀ v∈vs,0<=v.1/\v.1<(N:Int))->(∀ n,many vs n<=c)->vs.length<=N*c
 | 0,vs,h,_=>by
  cases vs with
  | nil=>simp
  | cons v t=>have:=h v List.mem_cons_self;omega
 | N+1,vs,h,hc=>by
  have e:vs.length=many vs (N:Int)+(vs.filter fun v => !decide (v.1=(N:Int))).length:=by
   unfold many
   rw [List.length_eq_countP_add_countP (fun x:Vx=>decide (x.1=(N:Int)))]
   congr 1
   rw [List.countP_eq_length_filter]
   congr 1
   apply List.filter_congr
   intro x _
   simp
  have h1:=yv2 c N (vs.filter fun v => !decide (v.1=(N:Int))) (fun v hv=>by
   obtain ⟨a,b⟩:=List.mem_filter.1 hv
   have:=h v a
   have:v.1≠(N:Int):=by simpa using b
   omega) (fun n=>Nat.le_trans (by
    unfold many
    exact List.Sublist.countP_le List.filter_sublist) (hc n))
  have h2:=hc (N:Int)
  rw [e,Nat.succ_mul]
  omega
def Within (N:Nat) (es:List Ed):Prop:=0<N/\∀ e∈es,0<=e.to'/\e.to'<(N:Int)
theorem VI.len {p:Pl} {vs:List Vx} {N:Nat} (h:VI p vs) (hw:Within N p.es):vs.length<=N*p.cap:=by
 refine yv2 p.cap N vs (fun v hv=>?_) h.cnt
 rcases h.dom v hv with e | ⟨d,h1,h2⟩
 ·rw [e];have:=hw.1;omega
 have:=hw.2 d h1;omega
theorem yb0 {p:Pl} {N f:Nat} {r:List Vx×List Lk} (hc:0<p.cap) (hw:Within N p.es) (hf:N*p.cap<f) (h:p.find f=.inr r):FI p r.1.length r.1 r.2:=by
 obtain ⟨g,h1,h2⟩:=zw9 f 0 _ _ r (FI.start p hc) h
 have h3:=h1.vi.len hw
 have h4:=h1.le
 rcases h2 with h2 | h2
 ·rw [h2] at h1;exact h1
 omega
theorem zz5 {p:Pl} {N f:Nat} {n:Int} (hc:0<p.cap) (hw:Within N p.es) (h:p.find f=.inl n):p.mgd n=false/\0<=n/\n<(N:Int):=by
 obtain ⟨h1,e,h2,h3⟩:=zE6 hc f 0 _ _ n (FI.start p hc) h
 have:=hw.2 e h2
 exact ⟨h1,by omega,by omega⟩
def plOf (cap:Nat) (H U:Int) (es:List Ed) (mg:List Int):Pl:=⟨fun n=>decide (n∈mg),cap,H,U,es⟩
def runQ (cap:Nat) (H U:Int) (es:List Ed) (f:Nat):Nat->List Int->Option (List Int×List Vx×List Lk)
 | 0,_=>none
 | k+1,mg=>match (plOf cap H U es mg).find f with
  | .inl n=>runQ cap H U es f k (n::mg)
  | .inr r=>some (mg,r.1,r.2)
theorem zE7:∀ (N:Nat) (mg:List Int),mg.Nodup->(∀ n∈mg,0<=n/\n<(N:Int))->mg.length<=N
 | 0,mg,_,h=>by
  cases mg with
  | nil=>simp
  | cons n t=>have:=h n List.mem_cons_self;omega
 | N+1,mg,hd,h=>by
  have h1:=zE7 N (mg.erase (N:Int)) (hd.erase _) (fun n hn=>by
   have h2:=h n (List.mem_of_mem_erase hn)
   have h3:n≠(N:Int):=fun e=>by subst e;exact (hd.not_mem_erase) hn
   omega)
  have h2:mg.length<=(mg.erase (N:Int)).length+1:=by
   rw [List.length_erase]
   split<;>omega
  omega
theorem zE8 {cap:Nat} {H U:Int} {es:List Ed} {N f:Nat} (hc:0<cap) (hw:Within N es):∀ (k:Nat) (mg:List Int),mg.Nodup->(∀ n∈mg,0<=n/\n<(N:Int))->N<k+mg.length->∃ r,runQ cap H U es f k mg=some r
 | 0,mg,hd,hm,hk=>by have:=zE7 N mg hd hm;omega
 | k+1,mg,hd,hm,hk=>by
  unfold runQ
  cases h:(plOf cap H U es mg).find f with
  | inr r=>exact ⟨_,rfl⟩
  | inl n =>
   obtain ⟨h1,h2⟩:=zz5 (p:=plOf cap H U es mg) hc hw h
   have h3:n ∉ mg:=of_decide_eq_false h1
   exact zE8 hc hw k (n::mg) (List.nodup_cons.2 ⟨h3,hd⟩) (fun x hx=>by
    rcases List.mem_cons.1 hx with e | hx
    ·rw [e];exact h2
    exact hm x hx) (by rw [List.length_cons];omega)
theorem zs8 {cap:Nat} {H U:Int} {es:List Ed} {N f:Nat} (hc:0<cap) (hw:Within N es) (hf:N*cap<f):∀ (k:Nat) (mg:List Int) (r:List Int×List Vx×List Lk),mg.Nodup->(∀ n∈mg,0<=n/\n<(N:Int))->runQ cap H U es f k mg=some r->r.1.Nodup/\(∀ n∈r.1,0<=n/\n<(N:Int))/\FI (plOf cap H U es r.1) r.2.1.length r.2.1 r.2.2
 | 0,mg,r,_,_,h=>by unfold runQ at h;cases h
 | k+1,mg,r,hd,hm,h=>by
  unfold runQ at h
  cases hq:(plOf cap H U es mg).find f with
  | inr q =>
   rw [hq] at h
   injection h with h
   subst h
   exact ⟨hd,hm,yb0 (p:=plOf cap H U es mg) hc hw hf hq⟩
  | inl n =>
   rw [hq] at h
   obtain ⟨h1,h2⟩:=zz5 (p:=plOf cap H U es mg) hc hw hq
   have h3:n ∉ mg:=of_decide_eq_false h1
   exact zs8 hc hw hf k (n::mg) r (List.nodup_cons.2 ⟨h3,hd⟩) (fun x hx=>by
    rcases List.mem_cons.1 hx with e | hx
    ·rw [e];exact h2
    exact hm x hx) h
def mgL (N:Nat) (mg:List Int):List Int:=((List.range N).map fun k:Nat=>(k:Int)).filter fun n=>decide (n∈mg)
def nextV (ls:List Lk) (v k:Nat):Option Nat:=(ls.find? fun l=>decide (l.1=v/\l.2.2=k)).map fun l=>l.2.1
theorem zE9 (es:List Ed) (k:Nat) (e:Ed) (h:es[k]?=some e):((List.range es.length).zip es)[k]?=some (k,e):=by
 obtain ⟨hk,_⟩:=List.getElem?_eq_some_iff.1 h
 rw [List.getElem?_zip_eq_some]
 exact ⟨by rw [List.getElem?_range hk],h⟩
theorem yD1 {es:List Ed} {x:Nat×Ed} (h:x∈(List.range es.length).zip es):es[x.1]?=some x.2:=by
 obtain ⟨i,hi⟩:=List.mem_iff_getElem?.1 h
 obtain ⟨h1,h2⟩:=List.getElem?_zip_eq_some.1 hi
 obtain ⟨h3,h4⟩:=List.getElem?_eq_some_iff.1 h1
 rw [List.getElem_range] at h4
 rw [<-h4]
 exact h2
theorem zz6 {es:List Ed} {n:Int} {k:Nat} {e:Ed}:(k,e)∈outE es n↔es[k]?=some e/\e.from'=n:=by
 unfold outE
 rw [List.mem_filter]
 constructor
 ·rintro ⟨h1,h2⟩;exact ⟨yD1 h1,of_decide_eq_true h2⟩
 rintro ⟨h1,h2⟩;exact ⟨List.mem_iff_getElem?.2 ⟨k,zE9 es k e h1⟩,decide_eq_true h2⟩
theorem FI.link {p:Pl} {vs:List Vx} {ls:List Lk} (h:FI p vs.length vs ls) {l:Lk} (hl:l∈ls):∃ v e,vs[l.1]?=some v/\p.es[l.2.2]?=some e/\e.from'=v.1/\vs[l.2.1]?=some (e.to',p.tok e.to' (stepT p.H p.U e l.2.2 v.2)):=by
 obtain ⟨LL,k1,k2,k3⟩:=h.rows
 rw [k2] at hl
 obtain ⟨row,m1,m2⟩:=List.mem_flatten.1 hl
 obtain ⟨i,hi⟩:=List.mem_iff_getElem?.1 m1
 obtain ⟨v,hv,hrow⟩:=k3 i row hi
 obtain ⟨j,hj⟩:=List.mem_iff_getElem?.1 m2
 obtain ⟨hj1,_⟩:=List.getElem?_eq_some_iff.1 hj
 have hj2:j<(outE p.es v.1).length:=by rw [<-hrow.1];exact hj1
 obtain ⟨l',g1,g2⟩:=hrow.2 j _ (List.getElem?_eq_getElem hj2)
 rw [hj] at g1
 injection g1 with g1
 subst g1
 have hin:(outE p.es v.1)[j]∈outE p.es v.1:=List.getElem_mem hj2
 obtain ⟨q1,q2⟩:=zz6.1 (show (((outE p.es v.1)[j]).1,((outE p.es v.1)[j]).2)∈outE p.es v.1 from hin)
 refine ⟨v,((outE p.es v.1)[j]).2,by rw [g2.1];exact hv,by rw [g2.2.1];exact q1,q2,?_⟩
 rw [g2.2.1]
 exact g2.2.2
theorem FI.has {p:Pl} {vs:List Vx} {ls:List Lk} (h:FI p vs.length vs ls) {i k:Nat} {v:Vx} {e:Ed} (hv:vs[i]?=some v) (he:p.es[k]?=some e) (hf:e.from'=v.1):∃ l∈ls,l.1=i/\l.2.2=k/\vs[l.2.1]?=some (e.to',p.tok e.to' (stepT p.H p.U e k v.2)):=by
 obtain ⟨LL,k1,k2,k3⟩:=h.rows
 obtain ⟨hi,_⟩:=List.getElem?_eq_some_iff.1 hv
 have hL:LL[i]?=some (LL[i]'(by omega)):=List.getElem?_eq_getElem (by omega)
 obtain ⟨v',hv',hrow⟩:=k3 i _ hL
 rw [hv] at hv'
 injection hv' with hv'
 subst hv'
 obtain ⟨j,hj⟩:=List.mem_iff_getElem?.1 (zz6.2 ⟨he,hf⟩)
 obtain ⟨l,g1,g2⟩:=hrow.2 j _ hj
 refine ⟨l,by rw [k2];exact List.mem_flatten.2 ⟨_,List.mem_iff_getElem?.2 ⟨i,hL⟩,List.mem_iff_getElem?.2 ⟨j,g1⟩⟩,g2.1,g2.2.1,g2.2.2⟩
theorem FI.one {p:Pl} {vs:List Vx} {ls:List Lk} (h:FI p vs.length vs ls) {l l':Lk} (hl:l∈ls) (hl':l'∈ls) (e1:l.1=l'.1) (e2:l.2.2=l'.2.2):l=l':=by
 obtain ⟨v,e,a1,a2,a3,a4⟩:=h.link hl
 obtain ⟨v',e',b1,b2,b3,b4⟩:=h.link hl'
 rw [e1,b1] at a1
 injection a1 with a1
 subst a1
 rw [e2,b2] at a2
 injection a2 with a2
 subst a2
 rw [e2,<-b4] at a4
 obtain ⟨c1,d1⟩:=List.getElem?_eq_some_iff.1 (a4.trans b4)
 obtain ⟨c2,d2⟩:=List.getElem?_eq_some_iff.1 b4
 have:l.2.1=l'.2.1:=by
  rcases Nat.lt_trichotomy l.2.1 l'.2.1 with hlt | heq | hgt
  ·exact absurd (d1.trans d2.symm) (List.pairwise_iff_getElem.1 h.vi.nd _ _ c1 c2 hlt)
  ·exact heq
  exact absurd (d2.trans d1.symm) (List.pairwise_iff_getElem.1 h.vi.nd _ _ c2 c1 hgt)
 obtain ⟨x,y,z⟩:=l
 obtain ⟨x',y',z'⟩:=l'
 simp only at e1 e2 this
 subst e1 e2 this
 rfl
theorem FI.next_some {p:Pl} {vs:List Vx} {ls:List Lk} (h:FI p vs.length vs ls) {l:Lk} (hl:l∈ls):nextV ls l.1 l.2.2=some l.2.1:=by
 unfold nextV
 cases hf:ls.find? fun x=>decide (x.1=l.1/\x.2.2=l.2.2) with
 | none=>have:=List.find?_eq_none.1 hf l hl;simp at this
 | some x =>
  have h1:x.1=l.1/\x.2.2=l.2.2:=by have:=List.find?_some hf;simpa using this
  rw [h.one (List.mem_of_find?_eq_some hf) hl h1.1 h1.2]
  rfl
end
section
structure Dig (D:Int->List UInt8):Prop where
 inj:∀ a b,D a=D b->a=b
 dig:∀ a,∀ c∈D a,c=45\/(48<=c/\c<=57)
 ne:∀ a,D a≠[]
theorem Dig.not {D:Int->List UInt8} (h:Dig D) {b:UInt8} (hb:b≠45/\¬(48<=b/\b<=57)) (a:Int):b ∉ D a:=fun hm=>by
 rcases h.dig a b hm with e | e
 ·exact hb.1 e
 exact hb.2 e
theorem ahead {s:UInt8}:∀ {a b x y:List UInt8},s ∉ a->s ∉ b->a++s::x=b++s::y->a=b/\x=y
 | [],[],x,y,_,_,h=>by simpa using h
 | [],c::b,x,y,_,hb,h=>by
  simp only [List.nil_append,List.cons_append,List.cons.injEq] at h
  exact absurd (h.1 ▸ List.mem_cons_self) hb
 | c::a,[],x,y,ha,_,h=>by
  simp only [List.nil_append,List.cons_append,List.cons.injEq] at h
  exact absurd (h.1 ▸ List.mem_cons_self) ha
 | c::a,d::b,x,y,ha,hb,h=>by
  simp only [List.cons_append,List.cons.injEq] at h
  obtain ⟨h1,h2⟩:=ahead (fun m=>ha (List.mem_cons_of_mem _ m)) (fun m=>hb (List.mem_cons_of_mem _ m)) h.2
  exact ⟨by rw [h.1,h1],h2⟩
def spaced (ws:List (List UInt8)):List UInt8:=ws.flatMap fun w=>32::w
theorem zk2 (w:List UInt8) (ws:List (List UInt8)):spaced (w::ws)=32::(w++spaced ws):=by simp [spaced]
theorem zT9 (a b:List (List UInt8)):spaced (a++b)=spaced a++spaced b:=by simp [spaced]
theorem zP6:∀ {u v:List UInt8} {us vs:List (List UInt8)},32 ∉ u->32 ∉ v->(∀ w∈us,32 ∉ w)->(∀ w∈vs,32 ∉ w)->u++spaced us=v++spaced vs->u=v/\us=vs
 | u,v,[],[],_,_,_,_,h=>by simpa [spaced] using h
 | u,v,[],y::ys,hu,_,_,_,h=>by
  rw [zk2] at h
  simp only [spaced,List.flatMap_nil,List.append_nil] at h
  exact absurd (h ▸ List.mem_append_right _ List.mem_cons_self) hu
 | u,v,x::xs,[],_,hv,_,_,h=>by
  rw [zk2] at h
  simp only [spaced,List.flatMap_nil,List.append_nil] at h
  exact absurd (h ▸ List.mem_append_right _ List.mem_cons_self) hv
 | u,v,x::xs,y::ys,hu,hv,hx,hy,h=>by
  rw [zk2,zk2] at h
  obtain ⟨h1,h2⟩:=ahead hu hv h
  obtain ⟨h3,h4⟩:=zP6 (hx x List.mem_cons_self) (hy y List.mem_cons_self) (fun w m=>hx w (List.mem_cons_of_mem _ m)) (fun w m=>hy w (List.mem_cons_of_mem _ m)) h2
  exact ⟨h1,by rw [h3,h4]⟩
def wIf:List UInt8:=[105,102]
def wWhile:List UInt8:=[119,104,105,108,101]
def wRound:List UInt8:=[114,111,117,110,100]
def wMerged:List UInt8:=[109,101,114,103,101,100]
def wdH (D:Int->List UInt8) (h:List Int):List (List UInt8):=h.flatMap fun e=>[wIf,D e]
def wdL (D:Int->List UInt8) (l:List (Int×Int)):List (List UInt8):=l.flatMap fun x=>[wWhile,D x.1,wRound,D x.2]
def wdT (D:Int->List UInt8) (t:Tok):List (List UInt8):=if t.1=true then [wMerged] else wdH D t.2.1++wdL D t.2.2
def txtV (D:Int->List UInt8) (v:Vx):List UInt8:=D v.1++spaced (wdT D v.2)
def TokOk (t:Tok):Prop:=t.1=true->t=tokM
theorem yb1 {D:Int->List UInt8} (hD:Dig D):∀ {a b:List (Int×Int)},wdL D a=wdL D b->a=b
 | [],[],_=>rfl
 | [],y::ys,h=>by simp [wdL] at h
 | x::xs,[],h=>by simp [wdL] at h
 | x::xs,y::ys,h=>by
  have e:∀ (z:Int×Int) zs,wdL D (z::zs)=wWhile::D z.1::wRound::D z.2::wdL D zs:=fun z zs=>by simp [wdL]
  rw [e,e] at h
  simp only [List.cons.injEq,true_and] at h
  obtain ⟨x1,x2⟩:=x
  obtain ⟨y1,y2⟩:=y
  have h1:=hD.inj _ _ h.1
  have h2:=hD.inj _ _ h.2.1
  simp only at h1 h2
  rw [h1,h2,yb1 hD h.2.2]
theorem yb2 {D:Int->List UInt8} (hD:Dig D):∀ {a b:List Int} {x y:List (Int×Int)},wdH D a++wdL D x=wdH D b++wdL D y->a=b/\x=y
 | [],[],x,y,h=>⟨rfl,yb1 hD (by simpa [wdH] using h)⟩
 | [],c::b,x,y,h=>by
  cases x with
  | nil=>simp [wdH,wdL] at h
  | cons z zs=>simp [wdH,wdL,wWhile,wIf] at h
 | c::a,[],x,y,h=>by
  cases y with
  | nil=>simp [wdH,wdL] at h
  | cons z zs=>simp [wdH,wdL,wWhile,wIf] at h
 | c::a,d::b,x,y,h=>by
  have e:∀ (z:Int) zs,wdH D (z::zs)=wIf::D z::wdH D zs:=fun z zs=>by simp [wdH]
  rw [e,e] at h
  simp only [List.cons_append,List.cons.injEq,true_and] at h
  obtain ⟨h1,h2⟩:=yb2 hD h.2
  exact ⟨by rw [hD.inj _ _ h.1,h1],h2⟩
theorem yv3 {D:Int->List UInt8} (hD:Dig D) (t:Tok):∀ w∈wdT D t,(32:UInt8) ∉ w:=by
 intro w hw
 unfold wdT at hw
 have h32:∀ a,(32:UInt8) ∉ D a:=fun a=>hD.not (by decide) a
 split at hw
 ·rw [List.mem_singleton.1 hw];decide
 rcases List.mem_append.1 hw with h | h
 ·obtain ⟨x,_,h⟩:=List.mem_flatMap.1 h
  simp only [List.mem_cons,List.not_mem_nil,or_false] at h
  rcases h with rfl | rfl
  ·decide
  exact h32 _
 obtain ⟨x,_,h⟩:=List.mem_flatMap.1 h
 simp only [List.mem_cons,List.not_mem_nil,or_false] at h
 rcases h with rfl | rfl | rfl | rfl
 ·decide
 ·exact h32 _
 ·decide
 exact h32 _
theorem yn6 {D:Int->List UInt8} (hD:Dig D) {u v:Vx} (hu:TokOk u.2) (hv:TokOk v.2) (h:txtV D u=txtV D v):u=v:=by
 unfold txtV at h
 obtain ⟨h1,h2⟩:=zP6 (hD.not (by decide) _) (hD.not (by decide) _) (yv3 hD _) (yv3 hD _) h
 have e1:=hD.inj _ _ h1
 obtain ⟨n,b,a,x⟩:=u
 obtain ⟨m,c,a',x'⟩:=v
 simp only at e1 hu hv h2
 subst e1
 cases b with
 | true =>
  have e2:=hu rfl
  cases c with
  | true=>rw [e2,hv rfl]
  | false =>
   exfalso
   unfold wdT at h2
   simp only [if_true,Bool.false_eq_true,if_false] at h2
   cases a' with
   | nil=>cases x' with
    | nil=>simp [wdH,wdL] at h2
    | cons z zs=>simp [wdH,wdL] at h2
   | cons z zs=>simp [wdH] at h2
 | false =>
  cases c with
  | true =>
   exfalso
   unfold wdT at h2
   simp only [if_true,Bool.false_eq_true,if_false] at h2
   cases a with
   | nil=>cases x with
    | nil=>simp [wdH,wdL] at h2
    | cons z zs=>simp [wdH,wdL] at h2
   | cons z zs=>simp [wdH] at h2
  | false =>
   unfold wdT at h2
   simp only [Bool.false_eq_true,if_false] at h2
   obtain ⟨h3,h4⟩:=yb2 hD h2
   rw [h3,h4]
def keyH (D:Int->List UInt8) (h:List Int):List UInt8:=h.flatMap fun e=>D e++[32]
def keyL (D:Int->List UInt8) (l:List (Int×Int)):List UInt8:=l.flatMap fun x=>D x.1++120::(D x.2++[32])
def keyT (D:Int->List UInt8) (t:Tok):List UInt8:=if t.1=true then wMerged else keyH D t.2.1++47::keyL D t.2.2
theorem zP7 {D:Int->List UInt8} (hD:Dig D):∀ {a b:List (Int×Int)},keyL D a=keyL D b->a=b
 | [],[],_=>rfl
 | [],y::ys,h=>by simp [keyL] at h
 | x::xs,[],h=>by simp [keyL] at h
 | x::xs,y::ys,h=>by
  have e:∀ (z:Int×Int) zs,keyL D (z::zs)=D z.1++120::(D z.2++32::keyL D zs):=fun z zs=>by simp [keyL]
  rw [e,e] at h
  obtain ⟨h1,h2⟩:=ahead (hD.not (by decide) _) (hD.not (by decide) _) h
  obtain ⟨h3,h4⟩:=ahead (hD.not (by decide) _) (hD.not (by decide) _) h2
  obtain ⟨x1,x2⟩:=x
  obtain ⟨y1,y2⟩:=y
  have e1:=hD.inj _ _ h1
  have e2:=hD.inj _ _ h3
  simp only at e1 e2
  rw [e1,e2,zP7 hD h4]
theorem zF0 {D:Int->List UInt8} (hD:Dig D):∀ {a b:List Int} {x y:List UInt8},keyH D a++47::x=keyH D b++47::y->a=b/\x=y
 | [],[],x,y,h=>by simpa [keyH] using h
 | [],c::b,x,y,h=>by
  have e:keyH D (c::b)=D c++32::keyH D b:=by simp [keyH]
  rw [e] at h
  cases hc:D c with
  | nil=>exact absurd hc (hD.ne c)
  | cons s t =>
   rw [hc] at h
   simp only [keyH,List.flatMap_nil,List.nil_append,List.cons_append,List.cons.injEq] at h
   have:=hD.not (b:=47) (by decide) c
   rw [hc,<-h.1] at this
   exact absurd List.mem_cons_self this
 | c::a,[],x,y,h=>by
  have e:keyH D (c::a)=D c++32::keyH D a:=by simp [keyH]
  rw [e] at h
  cases hc:D c with
  | nil=>exact absurd hc (hD.ne c)
  | cons s t =>
   rw [hc] at h
   simp only [keyH,List.flatMap_nil,List.nil_append,List.cons_append,List.cons.injEq] at h
   have:=hD.not (b:=47) (by decide) c
   rw [hc,h.1] at this
   exact absurd List.mem_cons_self this
 | c::a,d::b,x,y,h=>by
  have e:∀ z zs,keyH D (z::zs)=D z++32::keyH D zs:=fun z zs=>by simp [keyH]
  rw [e,e,List.append_assoc,List.append_assoc,List.cons_append,List.cons_append] at h
  obtain ⟨h1,h2⟩:=ahead (hD.not (by decide) _) (hD.not (by decide) _) h
  obtain ⟨h3,h4⟩:=zF0 hD h2
  exact ⟨by rw [hD.inj _ _ h1,h3],h4⟩
theorem yn7 {D:Int->List UInt8} (hD:Dig D) {s t:Tok} (hs:TokOk s) (ht:TokOk t) (h:keyT D s=keyT D t):s=t:=by
 have key:∀ (a:List Int) (x:List UInt8),wMerged≠keyH D a++47::x:=fun a x e=>by
  have:(47:UInt8)∈wMerged:=by rw [e];exact List.mem_append_right _ List.mem_cons_self
  exact absurd this (by decide)
 obtain ⟨b,a,x⟩:=s
 obtain ⟨c,a',x'⟩:=t
 unfold keyT at h
 cases b with
 | true =>
  cases c with
  | true=>rw [hs rfl,ht rfl]
  | false=>exact absurd h (by simp only [if_true,Bool.false_eq_true,if_false];exact key _ _)
 | false =>
  cases c with
  | true=>exact absurd h.symm (by simp only [if_true,Bool.false_eq_true,if_false];exact key _ _)
  | false =>
   simp only [Bool.false_eq_true,if_false] at h
   obtain ⟨h1,h2⟩:=zF0 hD h
   rw [h1,zP7 hD h2]
theorem yn8 (H U:Int) (e:Ed) (i:Nat) (t:Tok):TokOk (stepT H U e i t):=by
 unfold stepT TokOk
 repeat' split
 all_goals first
  | exact fun _=>rfl
  | exact fun h=>absurd h (by simp)
theorem Pl.tok_ok (p:Pl) (n:Int) {t:Tok} (h:TokOk t):TokOk (p.tok n t):=by
 unfold Pl.tok
 split
 ·exact fun _=>rfl
 exact h
end
section
def outP (es:List Ed) (n:Int) (k:Nat):List (Nat×Ed):=(((List.range es.length).zip es).take k).filter fun x=>decide (x.2.from'=n)
theorem zs9 (es:List Ed) (n:Int):outP es n 0=[]:=by simp [outP]
theorem zl7 {es:List Ed} {n:Int} {k:Nat} {e:Ed} (h:es[k]?=some e):outP es n (k+1)=outP es n k++if e.from'=n then [(k,e)] else []:=by
 unfold outP
 rw [List.take_add_one,zE9 es k e h,Option.toList_some,List.filter_append]
 congr 1
 by_cases c:e.from'=n
 ·rw [if_pos c,List.filter_cons_of_pos (by simpa using c),List.filter_nil]
 rw [if_neg c,List.filter_cons_of_neg (by simpa using c),List.filter_nil]
theorem zP8 (es:List Ed) (n:Int):outP es n es.length=outE es n:=by
 unfold outP outE
 rw [List.take_of_length_le (by simp)]
theorem zx0 {es:List Ed} {n:Int} (k:Nat):∃ l,outE es n=outP es n k++l:=by
 refine ⟨(((List.range es.length).zip es).drop k).filter fun x=>decide (x.2.from'=n),?_⟩
 unfold outE outP
 rw [<-List.filter_append,List.take_append_drop]
theorem yx9 {es:List Ed} {n:Int} {k:Nat} {e:Ed} (h:es[k]?=some e) (hf:e.from'=n):(outE es n)[(outP es n k).length]?=some (k,e):=by
 obtain ⟨l,hl⟩:=zx0 (es:=es) (n:=n) (k+1)
 rw [hl,zl7 h,if_pos hf,List.append_assoc,List.getElem?_append_right (Nat.le_refl _),Nat.sub_self]
 rfl
def before {α:Type} (ll:List (List α)) (i:Nat):Nat:=(ll.take i).flatten.length
theorem zt0 {α:Type} {ll:List (List α)} {i:Nat} {l:List α} (h:ll[i]?=some l):before ll (i+1)=before ll i+l.length:=by
 unfold before
 rw [List.take_add_one,h,Option.toList_some,List.flatten_append,List.length_append]
 simp
theorem zF1 {α:Type} {ll:List (List α)} {i j:Nat} {l:List α} {x:α} (h:ll[i]?=some l) (hx:l[j]?=some x):ll.flatten[before ll i+j]?=some x:=by
 obtain ⟨hi,e⟩:=List.getElem?_eq_some_iff.1 h
 have hs:ll=ll.take i++l::ll.drop (i+1):=by
  rw [<-e,<-List.drop_eq_getElem_cons hi,List.take_append_drop]
 unfold before
 have:ll.flatten=(ll.take i).flatten++(l++(ll.drop (i+1)).flatten):=by
  conv=>lhs;rw [hs]
  simp
 rw [this,List.getElem?_append_right (by omega),Nat.add_sub_cancel_left]
 obtain ⟨hj,_⟩:=List.getElem?_eq_some_iff.1 hx
 rw [List.getElem?_append_left hj]
 exact hx
theorem zU0 {α:Type} (ll:List (List α)):before ll ll.length=ll.flatten.length:=by
 unfold before
 rw [List.take_length]
theorem FI.at {p:Pl} {vs:List Vx} {ls:List Lk} {LL:List (List Lk)} (k2:ls=LL.flatten) (k3:∀ (i:Nat) (l:List Lk),LL[i]?=some l->∃ v,vs[i]?=some v/\RowIs p vs i v.2 (outE p.es v.1) l) (k1:LL.length=vs.length) {i k:Nat} {v:Vx} {e:Ed} (hv:vs[i]?=some v) (he:p.es[k]?=some e) (hf:e.from'=v.1) :
  ∃ l,ls[before LL i+(outP p.es v.1 k).length]?=some l/\LinkIs p vs i v.2 (k,e) l:=by
 obtain ⟨hi,_⟩:=List.getElem?_eq_some_iff.1 hv
 have hL:LL[i]?=some (LL[i]'(by omega)):=List.getElem?_eq_getElem (by omega)
 obtain ⟨v',hv',hrow⟩:=k3 i _ hL
 rw [hv] at hv'
 injection hv' with hv'
 subst hv'
 obtain ⟨l,g1,g2⟩:=hrow.2 _ _ (yx9 he hf)
 exact ⟨l,by rw [k2];exact zF1 hL g1,g2⟩
theorem FI.ledAt {p:Pl} {vs:List Vx} {ls:List Lk} {LL:List (List Lk)} (led:LedBy vs ls 1) (k2:ls=LL.flatten) (k3:∀ (i:Nat) (l:List Lk),LL[i]?=some l->∃ v,vs[i]?=some v/\RowIs p vs i v.2 (outE p.es v.1) l) {j:Nat} (h1:1<=j) (h2:j<vs.length):∃ l∈ls.take (before LL j),l.2.1=j:=by
 obtain ⟨l,m1,m2,m3⟩:=led j h1 h2
 rw [k2] at m1
 obtain ⟨row,r1,r2⟩:=List.mem_flatten.1 m1
 obtain ⟨i,hi⟩:=List.mem_iff_getElem?.1 r1
 obtain ⟨v,hv,hrow⟩:=k3 i row hi
 obtain ⟨q,hq⟩:=List.mem_iff_getElem?.1 r2
 obtain ⟨hq1,_⟩:=List.getElem?_eq_some_iff.1 hq
 obtain ⟨l',g1,g2⟩:=hrow.2 q _ (List.getElem?_eq_getElem (by rw [<-hrow.1];exact hq1))
 rw [hq] at g1
 injection g1 with g1
 subst g1
 have hij:i<j:=by rw [<-g2.1];exact m3
 refine ⟨l,?_,m2⟩
 have ha:=zF1 hi hq
 rw [<-k2] at ha
 have hb:before LL i+q<before LL j:=by
  have h4:before LL (i+1)<=before LL j:=by
   unfold before
   have:LL.take (i+1) <+: LL.take j:=List.take_prefix_take_left (by omega)
   obtain ⟨z,hz⟩:=this
   rw [<-hz,List.flatten_append,List.length_append]
   omega
  rw [zt0 hi] at h4
  omega
 exact List.mem_iff_getElem?.2 ⟨before LL i+q,by rw [List.getElem?_take_of_lt hb];exact ha⟩
theorem yb3 {p:Pl} {vs:List Vx} (h:VI p vs) (k:Nat) (n:Int):many (vs.take k) n<=p.cap:=Nat.le_trans (List.Sublist.countP_le (List.take_sublist _ _)) (h.cnt n)
theorem yb4 {N:Nat} {mg:List Int} (h:∀ n∈mg,0<=n/\n<(N:Int)) (n:Int):n∈mgL N mg↔n∈mg:=by
 unfold mgL
 rw [List.mem_filter]
 constructor
 ·rintro ⟨_,h2⟩;exact of_decide_eq_true h2
 intro hm
 obtain ⟨h1,h2⟩:=h n hm
 exact ⟨List.mem_map.2 ⟨n.toNat,List.mem_range.2 (by omega),by omega⟩,decide_eq_true hm⟩
theorem yn9 (N:Nat) (mg:List Int):(mgL N mg).Pairwise (· < ·):=by
 unfold mgL
 refine List.Pairwise.filter _ ?_
 rw [List.pairwise_map]
 exact (List.pairwise_lt_range).imp fun {a b} h=>by omega
end
section
def runeB (c:Nat):List UInt8:=if c<128 then [c.toUInt8] else [(192+c/64).toUInt8,(128+c%64).toUInt8]
theorem zF2 {a b:Nat} (ha:a<256) (hb:b<256) (h:a.toUInt8=b.toUInt8):a=b:=by
 have:=congrArg UInt8.toNat h
 simp only [Nat.toUInt8,UInt8.toNat_ofNat'] at this
 omega
theorem yo0 {a b:List UInt8} {c d:Nat} (hc:c<2048) (hd:d<2048) (h:a++runeB c=b++runeB d):a=b/\c=d:=by
 unfold runeB at h
 by_cases c1:c<128
 ·by_cases d1:d<128
  ·rw [if_pos c1,if_pos d1] at h
   obtain ⟨h1,h2⟩:=List.append_inj' h rfl
   simp only [List.cons.injEq,and_true] at h2
   exact ⟨h1,zF2 (by omega) (by omega) h2⟩
  rw [if_pos c1,if_neg d1,show b++[(192+d/64).toUInt8,(128+d%64).toUInt8]=(b++[(192+d/64).toUInt8])++[(128+d%64).toUInt8] by simp] at h
  obtain ⟨_,h2⟩:=List.append_inj' h rfl
  simp only [List.cons.injEq,and_true] at h2
  have:=zF2 (by omega) (by omega) h2
  omega
 by_cases d1:d<128
 ·rw [if_neg c1,if_pos d1,show a++[(192+c/64).toUInt8,(128+c%64).toUInt8]=(a++[(192+c/64).toUInt8])++[(128+c%64).toUInt8] by simp] at h
  obtain ⟨_,h2⟩:=List.append_inj' h rfl
  simp only [List.cons.injEq,and_true] at h2
  have:=zF2 (by omega) (by omega) h2
  omega
 rw [if_neg c1,if_neg d1] at h
 obtain ⟨h1,h2⟩:=List.append_inj' h rfl
 simp only [List.cons.injEq,and_true] at h2
 have e1:=zF2 (by omega) (by omega) h2.1
 have e2:=zF2 (by omega) (by omega) h2.2
 exact ⟨h1,by omega⟩
def wAt:List UInt8:=[32,97,116,32]
def atV (D:Int->List UInt8) (v:Vx):List UInt8:=(keyT D v.2++wAt)++runeB (v.1+64).toNat
theorem yy0 {D:Int->List UInt8} (hD:Dig D) {u v:Vx} (hu:TokOk u.2) (hv:TokOk v.2) (h1:0<=u.1/\u.1<1900) (h2:0<=v.1/\v.1<1900) (h:atV D u=atV D v):u=v:=by
 unfold atV at h
 obtain ⟨h3,h4⟩:=yo0 (by omega) (by omega) h
 obtain ⟨h5,_⟩:=List.append_inj' h3 rfl
 have e2:=yn7 hD hu hv h5
 obtain ⟨n,s⟩:=u
 obtain ⟨m,t⟩:=v
 simp only at h1 h2 h4 e2
 rw [e2,show n=m by omega]
theorem FI.toks {p:Pl} {vs:List Vx} {ls:List Lk} (h:FI p vs.length vs ls):∀ v∈vs,TokOk v.2:=by
 intro v hv
 obtain ⟨j,hj⟩:=List.mem_iff_getElem?.1 hv
 obtain ⟨hl,_⟩:=List.getElem?_eq_some_iff.1 hj
 by_cases c:j=0
 ·subst c
  rw [h.first] at hj
  injection hj with hj
  rw [<-hj]
  exact p.tok_ok 0 (fun e=>by simp [tokE] at e)
 obtain ⟨l,m1,m2,_⟩:=h.led j (by omega) hl
 obtain ⟨v',e,_,_,_,a4⟩:=h.link m1
 rw [m2,hj] at a4
 injection a4 with a4
 rw [a4]
 exact p.tok_ok _ (yn8 _ _ _ _ _)
def goP (ls:List Lk):Nat->List Int->Option Nat
 | v,[]=>some v
 | v,k::t=>match (if 0<=k then nextV ls v k.toNat else none) with
  | none=>none
  | some u=>goP ls u t
theorem zP9 (ls:List Lk) (v:Nat) (k:Int) (t:List Int):goP ls v (k::t)=(if 0<=k then nextV ls v k.toNat else none).bind fun u=>goP ls u t:=by
 conv=>lhs;unfold goP
 cases (if 0<=k then nextV ls v k.toNat else none)<;>rfl
theorem yb5 (ls:List Lk):∀ (v:Nat) (a b:List Int),goP ls v (a++b)=(goP ls v a).bind fun u=>goP ls u b
 | v,[],b=>rfl
 | v,k::a,b=>by
  rw [List.cons_append,zP9,zP9]
  cases (if 0<=k then nextV ls v k.toNat else none) with
  | none=>rfl
  | some u=>exact yb5 ls u a b
theorem yy1 (ls:List Lk) (v:Nat) (k:Int):goP ls v [k]=if 0<=k then nextV ls v k.toNat else none:=by
 unfold goP
 cases (if 0<=k then nextV ls v k.toNat else none)<;>rfl
end
section
open Go.Lib
theorem zn0 {u:Nat} (h:u<10):decDigits u=[UInt8.ofNat (48+u)]:=by rw [decDigits,dif_pos h]
theorem zx1 {u:Nat} (h:¬u<10):decDigits u=decDigits (u/10)++[UInt8.ofNat (48+u%10)]:=by rw [decDigits,dif_neg h]
theorem dd_ne (u:Nat):decDigits u≠[]:=by
 by_cases h:u<10
 ·rw [zn0 h];simp
 rw [zx1 h];simp
theorem yb6 {a b:Nat} (ha:a<256) (hb:b<256) (h:UInt8.ofNat a=UInt8.ofNat b):a=b:=by
 have:=congrArg UInt8.toNat h
 simp only [UInt8.toNat_ofNat'] at this
 omega
theorem yv4 (u:Nat):∀ v,decDigits u=decDigits v->u=v:=by
 induction u using Nat.strongRecOn with
 | _ u ih =>
  intro v h
  by_cases c:u<10
  ·by_cases d:v<10
   ·rw [zn0 c,zn0 d] at h
    simp only [List.cons.injEq,and_true] at h
    have:=yb6 (by omega) (by omega) h
    omega
   exfalso
   rw [zn0 c,zx1 d] at h
   have:=congrArg List.length h
   rw [List.length_append,List.length_singleton,List.length_singleton] at this
   exact dd_ne (v/10) (List.eq_nil_of_length_eq_zero (by omega))
  by_cases d:v<10
  ·exfalso
   rw [zx1 c,zn0 d] at h
   have:=congrArg List.length h
   rw [List.length_append,List.length_singleton,List.length_singleton] at this
   exact dd_ne (u/10) (List.eq_nil_of_length_eq_zero (by omega))
  rw [zx1 c,zx1 d] at h
  obtain ⟨h1,h2⟩:=List.append_inj' h rfl
  simp only [List.cons.injEq,and_true] at h2
  have e1:=ih (u/10) (by omega) (v/10) h1
  have e2:=yb6 (by omega) (by omega) h2
  omega
theorem yb7 (u:Nat):∀ c∈decDigits u,(48:UInt8)<=c/\c<=57:=by
 have key:∀ d,d<10->(48:UInt8)<=UInt8.ofNat (48+d)/\UInt8.ofNat (48+d)<=57:=by decide
 induction u using Nat.strongRecOn with
 | _ u ih =>
  intro c hc
  by_cases h:u<10
  ·rw [zn0 h] at hc
   rw [List.mem_singleton.1 hc]
   exact key u h
  rw [zx1 h] at hc
  rcases List.mem_append.1 hc with hc | hc
  ·exact ih (u/10) (by omega) c hc
  rw [List.mem_singleton.1 hc]
  exact key (u%10) (by omega)
theorem zz7:Dig itoa:=by
 refine ⟨fun a b h=>?_,fun a c hc=>?_,fun a h=>?_⟩
 ·have no:∀ u v:Nat,45::decDigits u≠decDigits v:=fun u v e=>by
   have:=yb7 v 45 (by rw [<-e];exact List.mem_cons_self)
   exact absurd this.1 (by decide)
  unfold itoa at h
  by_cases c:a<0
  ·by_cases d:b<0
   ·rw [if_pos c,if_pos d] at h
    simp only [List.cons.injEq,true_and] at h
    have:=yv4 _ _ h
    omega
   rw [if_pos c,if_neg d] at h
   exact absurd h (no _ _)
  by_cases d:b<0
  ·rw [if_neg c,if_pos d] at h
   exact absurd h.symm (no _ _)
  rw [if_neg c,if_neg d] at h
  have:=yv4 _ _ h
  omega
 ·unfold itoa at hc
  split at hc
  ·rcases List.mem_cons.1 hc with e | hc
   ·exact .inl e
   exact .inr (yb7 _ c hc)
  exact .inr (yb7 _ c hc)
 unfold itoa at h
 split at h
 ·cases h
 exact dd_ne _ h
end
section
open Go.RowKit
def ilL (l:List Int):List Value:=l.map fun x=>.int .i64 x
def lpL (l:List (Int×Int)):List Value:=l.flatMap fun x=>[.int .i64 x.1,.int .i64 x.2]
theorem zz8:∀ (l:List (Int×Int)),(lpL l).length=l.length*2
 | []=>rfl
 | x::l=>by
  have e:lpL (x::l)=[.int .i64 x.1,.int .i64 x.2]++lpL l:=by simp [lpL]
  rw [e,List.length_append,zz8 l,List.length_cons]
  simp
  omega
theorem zi1:∀ (l:List (Int×Int)) (k:Nat) (x:Int×Int),l[k]?=some x->(lpL l)[k*2]?=some (.int .i64 x.1)/\(lpL l)[k*2+1]?=some (.int .i64 x.2)
 | [],k,x,h=>by simp at h
 | y::l,k,x,h=>by
  have e:lpL (y::l)=.int .i64 y.1::.int .i64 y.2::lpL l:=by simp [lpL]
  cases k with
  | zero =>
   simp only [List.getElem?_cons_zero,Option.some.injEq] at h
   subst h
   rw [e]
   exact ⟨rfl,rfl⟩
  | succ k =>
   simp only [List.getElem?_cons_succ] at h
   obtain ⟨h1,h2⟩:=zi1 l k x h
   rw [e,show (k+1)*2=k*2+1+1 by omega]
   exact ⟨h1,h2⟩
structure TokIs (w:World) (hv lv:Value) (t:Tok):Prop where
 hist:SL w 1 hv t.2.1.length (ilL t.2.1)
 loops:SL w 2 lv t.2.2.length (lpL t.2.2)
 cap:∀ ao n c,lv=.slice ao n c->n<=c
theorem TokIs.below {w w':World} {hv lv:Value} {t:Tok} (h:TokIs w hv lv t) (hk:Ok w w'):TokIs w' hv lv t:=⟨h.hist.below hk,h.loops.below hk,h.cap⟩
structure TokOwn (w:World) (B:Nat) (hv lv:Value) (t:Tok):Prop where
 hist:w.ownsRow B 3 1 hv t.2.1.length (ilL t.2.1)
 loops:w.ownsRow B 79 2 lv t.2.2.length (lpL t.2.2)
theorem TokOwn.ok {w w':World} {B:Nat} {hv lv:Value} {t:Tok} (h:TokOwn w B hv lv t) (hk:Ok w w'):TokOwn w' B hv lv t:=⟨za1 h.hist hk,za1 h.loops hk⟩
theorem TokOwn.base {w:World} {B B':Nat} {hv lv:Value} {t:Tok} (h:TokOwn w B hv lv t) (hB:B'<=B):TokOwn w B' hv lv t:=⟨za7 h.hist hB,za7 h.loops hB⟩
theorem zt1 {w:World} {B s n:Nat} {e:TypeId} {v:Value} {xs:List Value} (h:w.ownsRow B e s v n xs) (h1:∀ u∈xs,u.oneCell'=true) (hs:0<s):SL w s v n xs:=by
 obtain ⟨ao,cap,rfl⟩:=za0 h
 refine ⟨h.1,h1,ao,cap,rfl,?_⟩
 by_cases c:n=0
 ·exact .inl c
 right
 obtain ⟨g,cp,e,_⟩:=h.form (by omega)
 injection e with e1 e2 e3
 subst e1
 exact ⟨g,0,rfl,(h.lt g rfl).2,fun j u hj=>by have:=h.cells (g:=g) rfl j u hj;rw [zb7] at this;exact this⟩
theorem zJ6 (l:List Int):∀ u∈ilL l,u.oneCell'=true:=fun u hu=>by
 obtain ⟨x,_,rfl⟩:=List.mem_map.1 hu
 rfl
theorem yb8 (l:List (Int×Int)):∀ u∈lpL l,u.oneCell'=true:=fun u hu=>by
 obtain ⟨x,_,hx⟩:=List.mem_flatMap.1 hu
 simp only [List.mem_cons,List.not_mem_nil,or_false] at hx
 rcases hx with rfl | rfl<;>rfl
theorem yy2 {w:World} {B s n:Nat} {e:TypeId} {v:Value} {xs:List Value} (h:w.ownsRow B e s v n xs):∀ ao m c,v=.slice ao m c->m<=c:=by
 intro ao m c hv
 rcases h.2 with ⟨e1,_⟩ | ⟨g,cap,cur,e1,_,_,h3,_⟩
 ·rw [hv] at e1
  injection e1 with _ e2 e3
  omega
 rw [hv] at e1
 injection e1 with _ e2 e3
 omega
theorem TokOwn.is {w:World} {B:Nat} {hv lv:Value} {t:Tok} (h:TokOwn w B hv lv t):TokIs w hv lv t:=⟨zt1 h.hist (zJ6 _) (by decide),zt1 h.loops (yb8 _) (by decide),yy2 h.loops⟩
theorem yb9 {t:Tok} {h:Int} {x:Int×Int} (hx:t.2.2[t.2.2.length-1]?=some x):inLp t h=(x.1==h):=by
 unfold inLp
 rw [List.getLast?_eq_getElem?,hx]
theorem zz9 {t:Tok} {h:Int} (hx:t.2.2=[]):inLp t h=false:=by
 unfold inLp
 rw [hx]
 rfl
theorem zx2 (m:Bool) (hv lv:Value) (t:Tok) (h:Int) (w:World) (ht:TokIs w hv lv t) (hl:t.2.2.length<1000000000000000) :
  Calls Tryz.prog 66 #[.agg #[.bool m,hv,lv],.int .i64 h] w fun e w'=>e=.returned (.bool (inLp t h))/\Ok w w':=by
 obtain ⟨_,_,ho,hc,rfl,_⟩:=ht.hist
 obtain ⟨_,_,lo,lc,rfl,h2⟩:=ht.loops
 obtain ⟨q,hq⟩:=qq (t.2.1.length)
 obtain ⟨n,hn⟩:=qq (t.2.2.length)
 rw [<-hq,<-hn]
 have HN:Hi (n=t.2.2.length):=hn
 have HT:Hi (SL w 2 (.slice lo n lc) n (lpL t.2.2)):=by rw [hn];exact ht.loops
 rw [<-hn] at hl h2
 clear hq hn ht
 cases n with
 | zero =>
  have HE:Hi (inLp t h=false):=zz9 (List.eq_nil_of_length_eq_zero HN.o.symm)
  go_enter Tryz.func66,Tryz.ntmps66
  go_wp2_with fail
  go_ret
  exact ⟨by rw [HE.o];rfl,(Ok.refl w).alloc _⟩
 | succ k =>
  obtain ⟨b,o,e,hb,hc2⟩:=h2.resolve_left (by omega)
  subst e
  have hlt:k<t.2.2.length:=by have:=HN.o;omega
  obtain ⟨x,hx⟩:∃ x,t.2.2[k]?=some x:=⟨_,List.getElem?_eq_getElem hlt⟩
  have HE:Hi (inLp t h=(x.1==h)):=yb9 (by rw [<-HN.o];exact hx)
  have r0:w.cell? ⟨b,o+k*2,none⟩=some (.int .i64 x.1):=hc2 _ _ (zi1 _ _ _ hx).1
  have kw:IntKind.i64.wrap (((k+1:Nat):Int)-1)=(k:Int):=by rw [IntKind.wrap_i64];omega
  have kw2:wrap64 (k:Int)=(k:Int):=by unfold wrap64;omega
  have k0:(0:Int)<=(k:Int):=by omega
  clear hx hc2 hl hlt
  go_enter Tryz.func66,Tryz.ntmps66
  go_wp2_with fail
  go_ret
  exact ⟨by rw [HE.o];rfl,(Ok.refl w).alloc _⟩
theorem infLp:(Tryz.prog.info? 79).map (fun i=>(i.zero,i.size,i.bytes))=some (some (.agg #[.int .i64 0,.int .i64 0]),2,16):=by kernel_rfl
theorem infIn:(Tryz.prog.info? 3).map (fun i=>(i.zero,i.size,i.bytes))=some (some (.int .i64 0),1,8):=by kernel_rfl
theorem infTk:(Tryz.prog.info? 50).map (·.size)=some 3:=by kernel_rfl
theorem zd9 {w:World} {g:Nat} {u v x:Value} {t:TypeId} (hg:w.heap[g]?=some (.cells #[u,v,x] t (0,0))) (a b c:Value):(((w.setCell ⟨g,0,none⟩ a).setCell ⟨g,1,none⟩ b).setCell ⟨g,2,none⟩ c).heap[g]?=some (.cells #[a,b,c] t (0,0)):=by
 have h1:=heap_setCell_same w g 0 _ t a hg
 have h2:=heap_setCell_same _ g 1 _ t b h1
 have h3:=heap_setCell_same _ g 2 _ t c h2
 simpa using h3
theorem za9 {w:World} {g:Nat} {u v x:Value} {t:TypeId} (h:w.heap[g]?=some (.cells #[u,v,x] t (0,0))) :
  w.cell? ⟨g,0,none⟩=some u/\w.cell? ⟨g,1,none⟩=some v/\w.cell? ⟨g,2,none⟩=some x/\w.frozen? ⟨g,0,none⟩=false/\w.frozen? ⟨g,1,none⟩=false/\w.frozen? ⟨g,2,none⟩=false :=
 ⟨(cell_of_row _ _ 0 _ _ _ h).trans (by simp),(cell_of_row _ _ 1 _ _ _ h).trans (by simp),(cell_of_row _ _ 2 _ _ _ h).trans (by simp),frozen_of_row _ _ _ _ _ h,frozen_of_row _ _ _ _ _ h,frozen_of_row _ _ _ _ _ h⟩
theorem zf6 {w:World} {B g:Nat} {e:TypeId} {s n:Nat} {v:Value} {xs:List Value} (h:w.ownsRow B e s v n xs) (hg:g<B) (a b c:Value):(((w.setCell ⟨g,0,none⟩ a).setCell ⟨g,1,none⟩ b).setCell ⟨g,2,none⟩ c).ownsRow B e s v n xs :=
 zb4 h fun k hk=>by
  have hne:k≠g:=by have:=(h.lt k hk).1;omega
  rw [Below.heap_setCell _ _ _ _ hne,Below.heap_setCell _ _ _ _ hne,Below.heap_setCell _ _ _ _ hne]
def cpT (t:Tok):Tok:=if t.1=true then tokM else t
theorem zi2 (hv lv:Value) (t:Tok) (w:World) (ht:TokIs w hv lv t) (hb:t.2.1.length*8<=140737488355328/\t.2.2.length*16<=140737488355328) :
  Calls Tryz.prog 36 #[.agg #[.bool t.1,hv,lv]] w fun e w'=>∃ hv' lv',e=.returned (.agg #[.bool t.1,hv',lv'])/\TokOwn w' w.heap.size hv' lv' (cpT t)/\Ok w w':=by
 have HT:=hid ht
 have HB:=hid hb
 obtain ⟨_,_,ho,hc,rfl,_⟩:=ht.hist
 obtain ⟨_,_,lo,lc,rfl,_⟩:=ht.loops
 obtain ⟨m,hm⟩:=qq (t.1)
 have HM:Hi (m=t.1):=hm
 rw [<-hm]
 clear ht hb hm
 obtain ⟨q,hq⟩:=qq (t.2.1.length)
 obtain ⟨n,hn⟩:=qq (t.2.2.length)
 have HQ:Hi (q=t.2.1.length/\n=t.2.2.length):=⟨hq,hn⟩
 rw [<-hq,<-hn]
 have HTH:Hi (SL w 1 (.slice ho q hc) q (ilL t.2.1)):=by rw [hq];exact HT.o.hist
 have HTL:Hi (SL w 2 (.slice lo n lc) n (lpL t.2.2)):=by rw [hn];exact HT.o.loops
 clear hq hn HT
 go_enter Tryz.func36,Tryz.ntmps36
 cases m with
 | true =>
  have HE:Hi (cpT t=tokM):=by unfold Hi cpT;rw [if_pos HM.o.symm]
  go_wp2_with fail
  (try simp only [Exit.inBlock,Exit.then])
  refine bodyPost_ret (results_cell_row rfl _ _ (w.heap.size+1) 50 #[_,_,_] (0,0) _ rfl jj Tryz.underlying50 rfl infTk) rfl ?_
  exact ⟨_,_,rfl,by rw [HE.o];exact ⟨World.ownsRow_nil _ _ _ _,World.ownsRow_nil _ _ _ _⟩,((Ok.refl w).alloc _).alloc _⟩
 | false =>
  have HE:Hi (cpT t=t):=by unfold Hi cpT;rw [if_neg (by rw [<-HM.o];decide)]
  go_wp2_with fail
  obtain ⟨W,hW⟩:=qq ((w.alloc (Obj.cells #[.bool false,.slice ho q hc,.slice lo n lc] 50)).alloc (Obj.cells #[.bool false,.slice none 0 0,.slice none 0 0] 50))
  obtain ⟨gr,hgr⟩:=qq (w.heap.size+1)
  obtain ⟨gp,hgp⟩:=qq (w.heap.size)
  rw [<-hW,<-hgr,<-hgp]
  have HK:Hi (Ok w W):=by rw [hW];exact ((Ok.refl w).alloc _).alloc _
  have HP:Hi (W.heap[gp]?=some (.cells #[Value.bool false,Value.slice ho q hc,Value.slice lo n lc] 50 (0,0))):=by rw [hW,hgp];exact jj
  have HR:Hi (W.heap[gr]?=some (.cells #[Value.bool false,Value.slice none 0 0,Value.slice none 0 0] 50 (0,0))):=by rw [hW,hgr];exact jj
  have HG:Hi (w.heap.size<=gr):=by unfold Hi;omega
  clear hW hgr hgp
  replace HTH:Hi (∀ Y,Ok W Y->SL Y 1 (.slice ho q hc) q (ilL t.2.1)):=fun Y hY=>HTH.o.below (HK.o.step hY)
  replace HTL:Hi (∀ Y,Ok W Y->SL Y 2 (.slice lo n lc) n (lpL t.2.2)):=fun Y hY=>HTL.o.below (HK.o.step hY)
  have HSS:Hi (∀ Y,Ok W Y->Y.cell? ⟨gp,1,none⟩=some (.slice ho q hc)/\Y.cell? ⟨gp,2,none⟩=some (.slice lo n lc)/\gp<Y.heap.size):=fun Y hY=>by
   have h:=Ok.row' hY HP.o
   exact ⟨(cell_of_row _ _ 1 _ _ _ h).trans (by simp),(cell_of_row _ _ 2 _ _ _ h).trans (by simp),za2 h⟩
  have S0:Ok W W.drew:=Below.drew (Ok.refl _)
  refine zd5 (fun Y=>Ok W Y) 7 (by kernel_rfl) ?_
  refine tL 0 (.pointer (some ⟨gp,1,none⟩)) S0 ?_ ?_
  ·intro w' s0;clear s0;go_simp;try with_reducible rfl
  simp only [pu]
  refine tL 1 (.slice ho q hc) S0 ?_ ?_
  ·intro w' s0;obtain ⟨z1,z2,z3⟩:=HSS.o w' s0;clear s0;go_simp;try with_reducible rfl
  simp only [pu]
  refine tL 3 (.pointer (some ⟨gp,2,none⟩)) S0 ?_ ?_
  ·intro w' s0;clear s0;go_simp;try with_reducible rfl
  simp only [pu]
  refine tL 4 (.slice lo n lc) S0 ?_ ?_
  ·intro w' s0;obtain ⟨z1,z2,z3⟩:=HSS.o w' s0;clear s0;go_simp;try with_reducible rfl
  simp only [pu]
  refine zb0 (i:=2) (by kernel_rfl) rfl (fun K hK=>?_)
  refine zj0 rfl _ _ 28 3 1 8 _ rfl Tryz.underlying28 infIn (by rfl) (by decide) (by decide) W.heap.size (.slice none 0 0) 0 [] (by rfl) (World.ownsRow_nil _ _ _ _) (.slice ho q hc) q (ilL t.2.1) (by rfl) (HTH.o _ (Below.drew (Ok.refl _))) (by have:=HB.o.1;have:=HQ.o.1;omega) (Nat.le_refl _) ?_
  intro v1 w1 k1 k2
  rw [Nat.zero_add,List.nil_append] at k1
  have HK1:Hi (Ok W w1):=Ok.step (Below.drew (Ok.refl _)) (Ok.grown0 k2)
  have HH1:Hi (w1.ownsRow W.heap.size 3 1 v1 q (ilL t.2.1)):=k1
  obtain ⟨vo,vc,rfl⟩:=za0 k1
  clear k1 k2
  refine hK.out _ _ (fun _=>HK1.o) ?_
  clear hK K
  simp only [pu]
  refine zb0 (i:=5) (by kernel_rfl) rfl (fun K hK=>?_)
  refine zj0 rfl _ _ 48 79 2 16 _ rfl Tryz.underlying48 infLp (by rfl) (by decide) (by decide) W.heap.size (.slice none 0 0) 0 [] (by rfl) (World.ownsRow_nil _ _ _ _) (.slice lo n lc) n (lpL t.2.2) (by rfl) (HTL.o _ HK1.o) (by have:=HB.o.2;have:=HQ.o.2;omega) HK1.o.le ?_
  intro v2 w2 k1 k2
  rw [Nat.zero_add,List.nil_append] at k1
  have HK2:Hi (Ok W w2):=HK1.o.step (Ok.grown0 k2)
  have HH2:Hi (w2.ownsRow W.heap.size 3 1 (.slice vo q vc) q (ilL t.2.1)):=za1 HH1.o (Ok.grown0 k2)
  have HL2:Hi (w2.ownsRow W.heap.size 79 2 v2 n (lpL t.2.2)):=k1
  obtain ⟨uo,uc,rfl⟩:=za0 k1
  clear k1 k2
  refine hK.out _ _ (fun _=>HK2.o) ?_
  clear hK K
  simp only [pu]
  refine zb0 (i:=6) (by kernel_rfl) rfl (fun K hK=>?_)
  go_simp
  refine hK.out _ _ (fun _=>HK2.o) ?_
  clear hK K
  have HR2:Hi _:=Ok.row' HK2.o HR.o
  obtain ⟨c0,c1,c2,c3,c4,c5⟩:=za9 HR2.o
  have lgr:=za2 HR2.o
  refine zb0 (i:=7) (by kernel_rfl) rfl (fun K hK=>?_)
  go_simp
  refine hK.out _ _ (fun h=>absurd rfl h) ?_
  clear hK K
  refine zd4 (by kernel_rfl) ?_ _
  go_wp2_with fail
  (try simp only [Exit.inBlock,Exit.then])
  refine bodyPost_ret (results_cell_row rfl _ _ gr 50 #[_,_,_] (0,0) _ rfl (zd9 HR2.o _ _ _) Tryz.underlying50 rfl infTk) rfl ?_
  have hlt:gr<W.heap.size:=za2 HR.o
  refine ⟨_,_,rfl,?_,((((HK.o.step HK2.o).set HG.o _).set HG.o _).set HG.o _)⟩
  rw [HE.o]
  refine ⟨?_,?_⟩
  ·rw [<-HQ.o.1];exact za7 (zf6 HH2.o hlt _ _ _) HK.o.le
  rw [<-HQ.o.2];exact za7 (zf6 HL2.o hlt _ _ _) HK.o.le
end
end Go.Proofs.YtbneneijdgcccaaGreatDoor
