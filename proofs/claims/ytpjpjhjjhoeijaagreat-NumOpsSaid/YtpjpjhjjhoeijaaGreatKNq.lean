import Derived.Test.YtpjpjhjjhoeijaaGreatKNm
set_option maxHeartbeats 8000000
set_option linter.all false
namespace Go.Proofs.YtpjpjhjjhoeijaaGreat
section
open Go.RowKit
theorem foldLo (bl:Int) (ts:List Int):∀ m,ts.foldl (stLo bl) m=m\/(ts.foldl (stLo bl) m∈ts/\ts.foldl (stLo bl) m<=bl):=by
 induction ts with
 | nil=>intro m;exact Or.inl rfl
 | cons t ts ih =>
  intro m
  rw [List.foldl_cons]
  rcases ih (stLo bl m t) with h | ⟨h1,h2⟩
  ·rw [h]
   unfold stLo
   by_cases c:t<=bl/\m<t
   ·rw [if_pos c];exact Or.inr ⟨List.mem_cons_self,c.1⟩
   ·rw [if_neg c];exact Or.inl rfl
  ·exact Or.inr ⟨List.mem_cons_of_mem _ h1,h2⟩
theorem foldHi (bh:Int) (ts:List Int):∀ m,ts.foldl (stHi bh) m=m\/(ts.foldl (stHi bh) m∈ts/\bh<=ts.foldl (stHi bh) m):=by
 induction ts with
 | nil=>intro m;exact Or.inl rfl
 | cons t ts ih =>
  intro m
  rw [List.foldl_cons]
  rcases ih (stHi bh m t) with h | ⟨h1,h2⟩
  ·rw [h]
   unfold stHi
   by_cases c:bh<=t/\t<m
   ·rw [if_pos c];exact Or.inr ⟨List.mem_cons_self,c.1⟩
   ·rw [if_neg c];exact Or.inl rfl
  ·exact Or.inr ⟨List.mem_cons_of_mem _ h1,h2⟩
def cLo (ts:List Int) (l:Int):Nat:=ts.countP (fun t=>decide (t<l))+(if -9223372036854775808<l then 1 else 0)
def cHi (ts:List Int) (h:Int):Nat:=ts.countP (fun t=>decide (h<t))+(if h<9223372036854775807 then 1 else 0)
theorem cLo_le (ts:List Int) (l:Int):cLo ts l<=ts.length+1:=by
 unfold cLo
 have:=List.countP_le_length (p:=fun t=>decide (t<l)) (l:=ts)
 split<;>omega
theorem cHi_le (ts:List Int) (l:Int):cHi ts l<=ts.length+1:=by
 unfold cHi
 have:=List.countP_le_length (p:=fun t=>decide (l<t)) (l:=ts)
 split<;>omega
theorem count_mono {p q:Int->Bool} (h:∀ x,p x=true->q x=true) (ts:List Int):ts.countP p<=ts.countP q:=List.countP_mono_left (fun x _=>h x)
theorem count_lt {p q:Int->Bool} (h:∀ x,p x=true->q x=true) {z:Int} (hp:p z=false) (hq:q z=true) {ts:List Int} (hz:z∈ts):ts.countP p<ts.countP q:=by
 induction ts with
 | nil=>exact absurd hz List.not_mem_nil
 | cons t ts ih =>
  have hm:=count_mono h ts
  rw [List.countP_cons,List.countP_cons]
  rcases List.mem_cons.1 hz with rfl | hz
  ·rw [hp,hq,if_neg (by simp),if_pos rfl];omega
  ·have:=ih hz
   by_cases c:p t=true
   ·rw [c,h t c,if_pos rfl];omega
   ·simp only [Bool.not_eq_true] at c
    rw [c,if_neg (by simp)];split<;>omega
theorem cLo_lt {ts:List Int} {l m:Int} (h:m<l) (hm:m = -9223372036854775808\/m∈ts):cLo ts m<cLo ts l:=by
 have mono:∀ x:Int,decide (x<m)=true->decide (x<l)=true:=fun x hx=>by simp at hx ⊢;omega
 have c:=count_mono mono ts
 rcases hm with e | e
 ·unfold cLo
  rw [if_neg (show ¬ -9223372036854775808<m by omega),if_pos (show -9223372036854775808<l by omega)]
  omega
 ·have d:=count_lt mono (z:=m) (by simp) (by simp;omega) e
  unfold cLo
  by_cases p : -9223372036854775808<m
  ·rw [if_pos p,if_pos (show -9223372036854775808<l by omega)];omega
  ·rw [if_neg p];split<;>omega
theorem cHi_lt {ts:List Int} {l m:Int} (h:l<m) (hm:m=9223372036854775807\/m∈ts):cHi ts m<cHi ts l:=by
 have mono:∀ x:Int,decide (m<x)=true->decide (l<x)=true:=fun x hx=>by simp at hx ⊢;omega
 have c:=count_mono mono ts
 rcases hm with e | e
 ·unfold cHi
  rw [if_neg (show ¬m<9223372036854775807 by omega),if_pos (show l<9223372036854775807 by omega)]
  omega
 ·have d:=count_lt mono (z:=m) (by simp) (by simp;omega) e
  unfold cHi
  by_cases p:m<9223372036854775807
  ·rw [if_pos p,if_pos (show l<9223372036854775807 by omega)];omega
  ·rw [if_neg p];split<;>omega
theorem wLo_le {bl:Int} (h:In64 bl) (ts:List Int):wLo bl ts<=bl:=by
 unfold In64 at h
 rcases foldLo bl ts (-9223372036854775808) with e | ⟨_,e⟩
 ·unfold wLo;omega
 ·exact e
theorem wHi_ge {bh:Int} (h:In64 bh) (ts:List Int):bh<=wHi bh ts:=by
 unfold In64 at h
 rcases foldHi bh ts 9223372036854775807 with e | ⟨_,e⟩
 ·unfold wHi;omega
 ·exact e
def WInv (ts:List Int) (nl nh:Int) (L H:Nat):Prop:=(nh<nl/\L=0/\H=0)\/(nl<=nh/\L+cLo ts nl<=ts.length+1/\H+cHi ts nh<=ts.length+1)
theorem WInv.start (ts:List Int) (nl nh:Int):WInv ts nl nh 0 0:=by
 have:=cLo_le ts nl;have:=cHi_le ts nh
 by_cases c:nh<nl
 ·exact Or.inl ⟨c,rfl,rfl⟩
 ·exact Or.inr ⟨by omega,by omega,by omega⟩
theorem WInv.none {ts:List Int} {nl nh bl bh:Int} {L H:Nat} (h:WInv ts nl nh L H) (c:nh<nl):WInv ts (widenI nl nh bl bh ts).1 (widenI nl nh bl bh ts).2 L H:=by
 rcases h with ⟨_,rfl,rfl⟩ | h
 ·exact WInv.start ..
 ·omega
theorem WInv.some {ts:List Int} {nl nh bl bh:Int} {L H:Nat} (hl:In64 bl) (hh:In64 bh) (h:WInv ts nl nh L H) (c:nl<=nh) :
  WInv ts (widenI nl nh bl bh ts).1 (widenI nl nh bl bh ts).2 (if (widenI nl nh bl bh ts).1=nl then L else L+1) (if (widenI nl nh bl bh ts).2=nh then H else H+1):=by
 have a:=wLo_le hl ts
 have b:=wHi_ge hh ts
 rcases h with h | ⟨_,h1,h2⟩
 ·omega
 ·unfold widenI
  rw [if_neg (show ¬nh<nl by omega)]
  by_cases d:bh<bl
  ·rw [if_pos d];simp only [if_true];exact Or.inr ⟨c,h1,h2⟩
  ·rw [if_neg d]
   simp only
   refine Or.inr ⟨?_,?_,?_⟩
   ·split<;>split<;>omega
   ·by_cases e:bl<nl
    ·rw [if_pos e,if_neg (show ¬wLo bl ts=nl by omega)]
     have:=cLo_lt (ts:=ts) (l:=nl) (m:=wLo bl ts) (by omega) (by rcases foldLo bl ts (-9223372036854775808) with p | p;exact Or.inl p;exact Or.inr p.1)
     omega
    ·rw [if_neg e,if_pos rfl];exact h1
   ·by_cases e:nh<bh
    ·rw [if_pos e,if_neg (show ¬wHi bh ts=nh by omega)]
     have:=cHi_lt (ts:=ts) (l:=nh) (m:=wHi bh ts) (by omega) (by rcases foldHi bh ts 9223372036854775807 with p | p;exact Or.inl p;exact Or.inr p.1)
     omega
    ·rw [if_neg e,if_pos rfl];exact h2
end
section
open Go.RowKit
def keepC (aM aR bM bR:Nat):Nat×Nat:=if leqC bM bR aM aR=true then (aM,aR) else (1,0)
def widRaw (a b:Int×Int×Nat×Nat×Bool) (ts:List Int):Int×Int×Nat×Nat×Bool :=
 if a.2.2.2.2=true then b else if b.2.2.2.2=true then a
 else makeN (widenI a.1 a.2.1 b.1 b.2.1 ts).1 (widenI a.1 a.2.1 b.1 b.2.1 ts).2 (keepC a.2.2.1 a.2.2.2.1 b.2.2.1 b.2.2.2.1).1 (keepC a.2.2.1 a.2.2.2.1 b.2.2.1 b.2.2.2.1).2
def widenN (a b:Int×Int×Nat×Nat×Bool) (ts:List Int):Int×Int×Nat×Nat×Bool:=widRaw (normN a) (normN b) ts
theorem wLo_ge (bl:Int) (ts:List Int) : -9223372036854775808<=wLo bl ts:=by
 unfold wLo
 have key:∀ (ts:List Int) (m:Int),m<=ts.foldl (stLo bl) m:=by
  intro ts
  induction ts with
  | nil=>intro m;exact Int.le_refl _
  | cons t ts ih =>
   intro m
   rw [List.foldl_cons]
   have:=ih (stLo bl m t)
   have:m<=stLo bl m t:=by unfold stLo;split<;>omega
   omega
 exact key ts _
theorem wHi_le (bh:Int) (ts:List Int):wHi bh ts<=9223372036854775807:=by
 unfold wHi
 have key:∀ (ts:List Int) (m:Int),ts.foldl (stHi bh) m<=m:=by
  intro ts
  induction ts with
  | nil=>intro m;exact Int.le_refl _
  | cons t ts ih =>
   intro m
   rw [List.foldl_cons]
   have:=ih (stHi bh m t)
   have:stHi bh m t<=m:=by unfold stHi;split<;>omega
   omega
 exact key ts _
theorem wLo_most (bl:Int) (ts:List Int):∀ t∈ts,t<=bl->t<=wLo bl ts:=by
 unfold wLo
 have mono:∀ (ts:List Int) (m:Int),m<=ts.foldl (stLo bl) m:=by
  intro ts
  induction ts with
  | nil=>intro m;exact Int.le_refl _
  | cons t ts ih =>
   intro m
   rw [List.foldl_cons]
   have:=ih (stLo bl m t)
   have:m<=stLo bl m t:=by unfold stLo;split<;>omega
   omega
 have key:∀ (ts:List Int) (m:Int),∀ t∈ts,t<=bl->t<=ts.foldl (stLo bl) m:=by
  intro ts
  induction ts with
  | nil=>intro m t h;exact absurd h List.not_mem_nil
  | cons s ts ih =>
   intro m t h hb
   rw [List.foldl_cons]
   rcases List.mem_cons.1 h with e | h
   ·have a:=mono ts (stLo bl m s)
    have:t<=stLo bl m s:=by unfold stLo;subst e;split<;>omega
    omega
   ·exact ih _ t h hb
 exact key ts _
theorem wHi_most (bh:Int) (ts:List Int):∀ t∈ts,bh<=t->wHi bh ts<=t:=by
 unfold wHi
 have mono:∀ (ts:List Int) (m:Int),ts.foldl (stHi bh) m<=m:=by
  intro ts
  induction ts with
  | nil=>intro m;exact Int.le_refl _
  | cons t ts ih =>
   intro m
   rw [List.foldl_cons]
   have:=ih (stHi bh m t)
   have:stHi bh m t<=m:=by unfold stHi;split<;>omega
   omega
 have key:∀ (ts:List Int) (m:Int),∀ t∈ts,bh<=t->ts.foldl (stHi bh) m<=t:=by
  intro ts
  induction ts with
  | nil=>intro m t h;exact absurd h List.not_mem_nil
  | cons s ts ih =>
   intro m t h hb
   rw [List.foldl_cons]
   rcases List.mem_cons.1 h with e | h
   ·have a:=mono ts (stHi bh m s)
    have:stHi bh m s<=t:=by unfold stHi;subst e;split<;>omega
    omega
   ·exact ih _ t h hb
 exact key ts _
def tLw (ts:List Int):List Int := -9223372036854775808::ts
def tH (ts:List Int):List Int:=9223372036854775807::ts
theorem wLo_in (bl:Int) (ts:List Int):wLo bl ts∈tLw ts:=by
 unfold tLw
 rcases foldLo bl ts (-9223372036854775808) with e | ⟨e,_⟩
 ·rw [show wLo bl ts = -9223372036854775808 from e];exact List.mem_cons_self
 ·exact List.mem_cons_of_mem _ e
theorem wHi_in (bh:Int) (ts:List Int):wHi bh ts∈tH ts:=by
 unfold tH
 rcases foldHi bh ts 9223372036854775807 with e | ⟨e,_⟩
 ·rw [show wHi bh ts=9223372036854775807 from e];exact List.mem_cons_self
 ·exact List.mem_cons_of_mem _ e
def ltL (ts:List Int) (l:Int):Nat:=(tLw ts).countP (fun t=>decide (t<l))
def leL (ts:List Int) (l:Int):Nat:=(tLw ts).countP (fun t=>decide (t<=l))
def ltH (ts:List Int) (h:Int):Nat:=(tH ts).countP (fun t=>decide (h<t))
def leH (ts:List Int) (h:Int):Nat:=(tH ts).countP (fun t=>decide (h<=t))
theorem leL_top (ts:List Int) (l:Int):leL ts l<=ts.length+1:=by
 unfold leL;exact Nat.le_trans List.countP_le_length (by unfold tLw;simp)
theorem leH_top (ts:List Int) (l:Int):leH ts l<=ts.length+1:=by
 unfold leH;exact Nat.le_trans List.countP_le_length (by unfold tH;simp)
theorem ltL_lt {ts:List Int} {w l:Int} (hw:w∈tLw ts) (h:w<l):ltL ts w<ltL ts l:=by
 unfold ltL;exact count_lt (fun x hx=>by simp at hx ⊢;omega) (z:=w) (by simp) (by simp;omega) hw
theorem leL_lt {ts:List Int} {w r:Int} (hr:r∈tLw ts) (h:w<r):leL ts w<leL ts r:=by
 unfold leL;exact count_lt (fun x hx=>by simp at hx ⊢;omega) (z:=r) (by simp;omega) (by simp) hr
theorem ltH_lt {ts:List Int} {w l:Int} (hw:w∈tH ts) (h:l<w):ltH ts w<ltH ts l:=by
 unfold ltH;exact count_lt (fun x hx=>by simp at hx ⊢;omega) (z:=w) (by simp) (by simp;omega) hw
theorem leH_lt {ts:List Int} {w r:Int} (hr:r∈tH ts) (h:r<w):leH ts w<leH ts r:=by
 unfold leH;exact count_lt (fun x hx=>by simp at hx ⊢;omega) (z:=r) (by simp;omega) (by simp) hr
theorem ltL_of {ts:List Int} {r l:Int} (h:∀ t∈tLw ts,t<l->t<=r):ltL ts l<=leL ts r:=by
 unfold ltL leL
 exact List.countP_mono_left (fun x hx p=>by simp at p ⊢;exact h x hx p)
theorem ltH_of {ts:List Int} {r l:Int} (h:∀ t∈tH ts,l<t->r<=t):ltH ts l<=leH ts r:=by
 unfold ltH leH
 exact List.countP_mono_left (fun x hx p=>by simp at p ⊢;exact h x hx p)
def EL (ts:List Int) (M R n:Nat) (l:Int):Prop :=
 n=0\/∃ r,r∈tLw ts/\r<=l/\(∀ x,MemC M R x->r<=x->l<=x)/\(∀ t∈tLw ts,t<l->t<=r)/\n+leL ts r<=ts.length+2
def EH (ts:List Int) (M R n:Nat) (h:Int):Prop :=
 n=0\/∃ r,r∈tH ts/\h<=r/\(∀ x,MemC M R x->x<=r->x<=h)/\(∀ t∈tH ts,h<t->r<=t)/\n+leH ts r<=ts.length+2
theorem EL.move {ts:List Int} {M R n:Nat} {l l' b w:Int} (e:EL ts M R n l) (hw:w∈tLw ts) (hm:∀ t∈tLw ts,t<=b->t<=w) (h1:w<=l') (h2:l'<=b) (hb:b<l) (c:MemC M R l') (hl:∀ x,MemC M R x->w<=x->l'<=x):EL ts M R (n+1) l':=by
 refine Or.inr ⟨w,hw,h1,hl,fun t ht hlt=>hm t ht (by omega),?_⟩
 rcases e with rfl | ⟨r,hr,_,hx,_,hn⟩
 ·have:=leL_top ts w;omega
 ·have:w<r:=by
   apply Int.lt_of_not_ge
   intro k
   have:=hx l' c (by omega)
   omega
  have:=leL_lt hr this
  omega
theorem EH.move {ts:List Int} {M R n:Nat} {l l' b w:Int} (e:EH ts M R n l) (hw:w∈tH ts) (hm:∀ t∈tH ts,b<=t->w<=t) (h1:l'<=w) (h2:b<=l') (hb:l<b) (c:MemC M R l') (hl:∀ x,MemC M R x->x<=w->x<=l'):EH ts M R (n+1) l':=by
 refine Or.inr ⟨w,hw,h1,hl,fun t ht hlt=>hm t ht (by omega),?_⟩
 rcases e with rfl | ⟨r,hr,_,hx,_,hn⟩
 ·have:=leH_top ts w;omega
 ·have:r<w:=by
   apply Int.lt_of_not_ge
   intro k
   have:=hx l' c (by omega)
   omega
  have:=leH_lt hr this
  omega
theorem EL.fall {ts:List Int} {M R n:Nat} {l:Int} (e:EL ts M R n l):n+ltL ts l<=ts.length+2:=by
 rcases e with rfl | ⟨r,hr,_,_,hx,hn⟩
 ·have:ltL ts l<=leL ts l:=by unfold ltL leL;exact count_mono (fun x hx=>by simp at hx ⊢;omega) _
  have:=leL_top ts l;omega
 ·have:=ltL_of hx;omega
theorem EH.fall {ts:List Int} {M R n:Nat} {l:Int} (e:EH ts M R n l):n+ltH ts l<=ts.length+2:=by
 rcases e with rfl | ⟨r,hr,_,_,hx,hn⟩
 ·have:ltH ts l<=leH ts l:=by unfold ltH leH;exact count_mono (fun x hx=>by simp at hx ⊢;omega) _
  have:=leH_top ts l;omega
 ·have:=ltH_of hx;omega
def RInv (ts:List Int) (a:Int×Int×Nat×Nat×Bool) (ch:Nat):Prop :=
 (a=botN/\ch=0)\/(a.2.2.2.2=false/\∃ p q:Nat,
  (ch<=p+q+1/\EL ts a.2.2.1 a.2.2.2.1 p a.1/\EH ts a.2.2.1 a.2.2.2.1 q a.2.1) \/
  (ch<=p+q+2/\a.2.2.1=1/\a.2.2.2.1=0/\p+ltL ts a.1<=ts.length+2/\q+ltH ts a.2.1<=ts.length+2))
theorem RInv.start {ts:List Int} {a:Int×Int×Nat×Nat×Bool} (n:NormN a):RInv ts a 0:=by
 rcases n with n | n
 ·exact Or.inl ⟨n,rfl⟩
 ·exact Or.inr ⟨n.1,0,0,Or.inl ⟨by omega,Or.inl rfl,Or.inl rfl⟩⟩
theorem widenI_some {al ah bl bh:Int} (ha:al<=ah) (hb:bl<=bh) (ts:List Int):widenI al ah bl bh ts=(if bl<al then wLo bl ts else al,if ah<bh then wHi bh ts else ah):=by
 unfold widenI;rw [if_neg (by omega),if_neg (by omega)]
theorem widenI_in {al ah bl bh:Int} (ha1:In64 al) (ha2:In64 ah) (hb1:In64 bl) (hb2:In64 bh) (ha:al<=ah) (hb:bl<=bh) (ts:List Int):In64 (widenI al ah bl bh ts).1/\In64 (widenI al ah bl bh ts).2:=by
 rw [widenI_some ha hb]
 have a:=wLo_le hb1 ts;have b:=wLo_ge bl ts;have c:=wHi_ge hb2 ts;have d:=wHi_le bh ts
 unfold In64 at *
 simp only
 constructor
 ·split<;>omega
 ·split<;>omega
theorem make_ends {lo hi:Int} {M R:Nat} (hl:In64 lo) (hh:In64 hi) {z:Int} (hz:In64 z) (h1:lo<=z) (h2:z<=hi) (h3:MemC M R z) :
  (makeN lo hi M R).2.2.2.2=false/\lo<=(makeN lo hi M R).1/\(makeN lo hi M R).2.1<=hi/\(makeN lo hi M R).1<=z/\z<=(makeN lo hi M R).2.1/\MemC M R (makeN lo hi M R).1/\MemC M R (makeN lo hi M R).2.1/\(∀ x,MemC M R x->lo<=x->(makeN lo hi M R).1<=x)/\(∀ x,MemC M R x->x<=hi->x<=(makeN lo hi M R).2.1):=by
 have n:=make_norm (M:=M) (R:=R) hl hh
 have m:=fun {v:Int} (hv:In64 v)=>make_mem (M:=M) (R:=R) hl hh hv
 have zz:=(m hz).2 ⟨h1,h2,h3⟩
 generalize makeN lo hi M R=a at *
 rcases n with rfl | n
 ·exact absurd zz (memN_bot _)
 have e:=norm_ends n
 have p:=(m n.2.1).1 e.1
 have q:=(m n.2.2.1).1 e.2
 refine ⟨n.1,p.1,q.2.1,zz.2.1,zz.2.2.1,p.2.2,q.2.2,fun x hx hlo=>?_,fun x hx hhi=>?_⟩
 ·apply Int.le_of_not_gt
  intro c
  have:=(m (v:=x) (by have:=n.2.1;unfold In64 at *;omega)).2 ⟨hlo,by omega,hx⟩
  have:=this.2.1
  omega
 ·apply Int.le_of_not_gt
  intro c
  have:=(m (v:=x) (by have:=n.2.2.1;unfold In64 at *;omega)).2 ⟨by omega,hhi,hx⟩
  have:=this.2.2.1
  omega
theorem make_class {lo hi:Int} {M R:Nat} (h:(makeN lo hi M R).1<(makeN lo hi M R).2.1):(makeN lo hi M R).2.2.1=(normC M R).1/\(makeN lo hi M R).2.2.2.1=(normC M R).2:=by
 unfold makeN at h ⊢
 by_cases h0:hi<lo
 ·rw [if_pos h0] at h;unfold botN at h;simp at h
 rw [if_neg h0] at h ⊢
 by_cases h1:(upC M R lo).2=false\/(downC M R hi).2=false\/(downC M R hi).1<(upC M R lo).1
 ·rw [if_pos h1] at h;unfold botN at h;simp at h
 rw [if_neg h1] at h ⊢
 by_cases h2:(upC M R lo).1=(downC M R hi).1
 ·rw [if_pos h2] at h;unfold constN at h;simp at h
 ·rw [if_neg h2];exact ⟨rfl,rfl⟩
end
section
open Go.RowKit
theorem keep_u64 {aM aR bM bR:Nat} (h1:U64 aM) (h2:U64 aR):U64 (keepC aM aR bM bR).1/\U64 (keepC aM aR bM bR).2:=by
 unfold keepC;split
 ·exact ⟨h1,h2⟩
 ·exact ⟨show (1:Nat)<18446744073709551616 by omega,show (0:Nat)<18446744073709551616 by omega⟩
theorem tLw_most (bl:Int) (ts:List Int):∀ t∈tLw ts,t<=bl->t<=wLo bl ts:=by
 intro t ht hb
 rcases List.mem_cons.1 ht with e | e
 ·rw [e];exact wLo_ge bl ts
 ·exact wLo_most bl ts t e hb
theorem tH_most (bh:Int) (ts:List Int):∀ t∈tH ts,bh<=t->wHi bh ts<=t:=by
 intro t ht hb
 rcases List.mem_cons.1 ht with e | e
 ·rw [e];exact wHi_le bh ts
 ·exact wHi_most bh ts t e hb
theorem EL.step {ts:List Int} {M R p:Nat} {al bl x:Int} (e:EL ts M R p al) (mv:bl<al->wLo bl ts<=x/\x<=bl/\MemC M R x/\(∀ z,MemC M R z->wLo bl ts<=z->x<=z)) (st:¬bl<al->x=al):EL ts M R (p+(if bl<al then 1 else 0)) x:=by
 by_cases c:bl<al
 ·rw [if_pos c]
  obtain ⟨m1,m2,m3,m4⟩:=mv c
  exact e.move (wLo_in bl ts) (tLw_most bl ts) m1 m2 c m3 m4
 ·rw [if_neg c,st c];exact e
theorem EH.step {ts:List Int} {M R p:Nat} {ah bh x:Int} (e:EH ts M R p ah) (mv:ah<bh->x<=wHi bh ts/\bh<=x/\MemC M R x/\(∀ z,MemC M R z->z<=wHi bh ts->z<=x)) (st:¬ah<bh->x=ah):EH ts M R (p+(if ah<bh then 1 else 0)) x:=by
 by_cases c:ah<bh
 ·rw [if_pos c]
  obtain ⟨m1,m2,m3,m4⟩:=mv c
  exact e.move (wHi_in bh ts) (tH_most bh ts) m1 m2 c m3 m4
 ·rw [if_neg c,st c];exact e
theorem FL.step {ts:List Int} {p:Nat} {al bl x:Int} (hb:In64 bl) (e:p+ltL ts al<=ts.length+2) (hx:x=if bl<al then wLo bl ts else al):p+(if bl<al then 1 else 0)+ltL ts x<=ts.length+2:=by
 have wl:=wLo_le hb ts
 by_cases c:bl<al
 ·rw [if_pos c] at hx ⊢
  have d:=ltL_lt (ts:=ts) (l:=al) (wLo_in bl ts) (by omega)
  rw [hx];omega
 ·rw [if_neg c] at hx ⊢
  rw [hx];exact e
theorem FH.step {ts:List Int} {p:Nat} {ah bh x:Int} (hb:In64 bh) (e:p+ltH ts ah<=ts.length+2) (hx:x=if ah<bh then wHi bh ts else ah):p+(if ah<bh then 1 else 0)+ltH ts x<=ts.length+2:=by
 have wl:=wHi_ge hb ts
 by_cases c:ah<bh
 ·rw [if_pos c] at hx ⊢
  have d:=ltH_lt (ts:=ts) (l:=ah) (wHi_in bh ts) (by omega)
  rw [hx];omega
 ·rw [if_neg c] at hx ⊢
  rw [hx];exact e
theorem cnt_step {P Q S:Prop} [Decidable P] [Decidable Q] [Decidable S] {ch p q d:Nat} (h:¬P->¬Q->S) (hc:ch<=p+q+d):(if S then ch else ch+1)<=(p+(if P then 1 else 0))+(q+(if Q then 1 else 0))+d:=by
 by_cases c:P
 ·rw [if_pos c];split<;>split<;>omega
 ·by_cases d':Q
  ·rw [if_neg c,if_pos d'];split<;>omega
  ·rw [if_neg c,if_neg d',if_pos (h c d')];exact hc
theorem cnt_more {S:Prop} [Decidable S] {ch p q a b:Nat} (hc:ch<=p+q+1):(if S then ch else ch+1)<=(p+a)+(q+b)+2:=by
 split<;>omega
theorem wid_keep {ts:List Int} {a b:Int×Int×Nat×Nat×Bool} (ra:RawN a) (na:NormN a) (rb:RawN b) (nb:NormN b) (xa:a.2.2.2.2=false) (yb:b.2.2.2.2=false) (lq:leqC b.2.2.1 b.2.2.2.1 a.2.2.1 a.2.2.2.1=true) (lt:a.1<a.2.1) :
  (widRaw a b ts).2.2.2.2=false/\(widRaw a b ts).2.2.1=a.2.2.1/\(widRaw a b ts).2.2.2.1=a.2.2.2.1 /\
  (b.1<a.1->wLo b.1 ts<=(widRaw a b ts).1/\(widRaw a b ts).1<=b.1/\MemC a.2.2.1 a.2.2.2.1 (widRaw a b ts).1/\(∀ z,MemC a.2.2.1 a.2.2.2.1 z->wLo b.1 ts<=z->(widRaw a b ts).1<=z))/\(¬b.1<a.1->(widRaw a b ts).1=a.1) /\
  (a.2.1<b.2.1->(widRaw a b ts).2.1<=wHi b.2.1 ts/\b.2.1<=(widRaw a b ts).2.1/\MemC a.2.2.1 a.2.2.2.1 (widRaw a b ts).2.1/\(∀ z,MemC a.2.2.1 a.2.2.2.1 z->z<=wHi b.2.1 ts->z<=(widRaw a b ts).2.1))/\(¬a.2.1<b.2.1->(widRaw a b ts).2.1=a.2.1):=by
 have sa:=norm_some na xa
 have sb:=norm_some nb yb
 have i:=widenI_in ra.1 ra.2.1 rb.1 rb.2.1 sa sb ts
 rcases na with na | na
 ·rw [na] at xa;cases xa
 rcases nb with nb | nb
 ·rw [nb] at yb;cases yb
 have ea:=norm_ends na
 have eb:=norm_ends nb
 have wl:=wLo_le rb.1 ts
 have wh:=wHi_ge rb.2.1 ts
 have nrm:=na.2.2.2.2.2.2.2 lt
 have lq':=(leqC_iff rb.2.2.2 ra.2.2.2).1 lq
 have e:widRaw a b ts=makeN (if b.1<a.1 then wLo b.1 ts else a.1) (if a.2.1<b.2.1 then wHi b.2.1 ts else a.2.1) a.2.2.1 a.2.2.2.1:=by
  unfold widRaw keepC
  rw [if_neg (by rw [xa];simp),if_neg (by rw [yb];simp),if_pos lq,widenI_some sa sb]
 rw [widenI_some sa sb] at i
 simp only at i
 obtain ⟨lo,hlo⟩:∃ z,z=if b.1<a.1 then wLo b.1 ts else a.1:=⟨_,rfl⟩
 obtain ⟨hi,hhi⟩:∃ z,z=if a.2.1<b.2.1 then wHi b.2.1 ts else a.2.1:=⟨_,rfl⟩
 rw [<-hlo,<-hhi] at e i
 have l1:lo<=a.1:=by clear lq' nrm na nb;rw [hlo];split<;>omega
 have l2:a.2.1<=hi:=by clear lq' nrm na nb;rw [hhi];split<;>omega
 have b1:lo<=b.1:=by clear lq' nrm na nb;rw [hlo];split<;>omega
 have b2:b.2.1<=hi:=by clear lq' nrm na nb;rw [hhi];split<;>omega
 have K:=make_ends (M:=a.2.2.1) (R:=a.2.2.2.1) i.1 i.2 (z:=a.1) na.2.1 l1 (by omega) ea.1.2.2.2
 have G:=make_class (lo:=lo) (hi:=hi) (M:=a.2.2.1) (R:=a.2.2.2.1)
 rw [<-e] at K G
 rw [normC_id (Or.inr nrm.2)] at G
 obtain ⟨k1,k2,k3,k4,k5,k6,k7,k8,k9⟩:=K
 have g2:a.2.1<=(widRaw a b ts).2.1:=k9 _ ea.2.2.2.2 l2
 have cl:=G (Int.lt_of_le_of_lt k4 (Int.lt_of_lt_of_le lt g2))
 have m1:=k8 _ (lq' _ eb.1.2.2.2) b1
 have m2:=k9 _ (lq' _ eb.2.2.2.2) b2
 refine ⟨k1,cl.1,cl.2,fun c=>?_,fun c=>?_,fun c=>?_,fun c=>?_⟩
 ·rw [if_pos c] at hlo;rw [<-hlo];exact ⟨k2,m1,k6,k8⟩
 ·rw [if_neg c] at hlo;rw [hlo] at k2;exact Int.le_antisymm k4 k2
 ·rw [if_pos c] at hhi;rw [<-hhi];exact ⟨k3,m2,k7,k9⟩
 ·rw [if_neg c] at hhi;rw [hhi] at k3;exact Int.le_antisymm k3 g2
theorem wid_fall {ts:List Int} {a b:Int×Int×Nat×Nat×Bool} (ra:RawN a) (na:NormN a) (rb:RawN b) (nb:NormN b) (xa:a.2.2.2.2=false) (yb:b.2.2.2.2=false) (lq:¬leqC b.2.2.1 b.2.2.2.1 a.2.2.1 a.2.2.2.1=true) :
  (widRaw a b ts).2.2.2.2=false/\(widRaw a b ts).2.2.1=1/\(widRaw a b ts).2.2.2.1=0/\(widRaw a b ts).1=(if b.1<a.1 then wLo b.1 ts else a.1)/\(widRaw a b ts).2.1=(if a.2.1<b.2.1 then wHi b.2.1 ts else a.2.1):=by
 have sa:=norm_some na xa
 have sb:=norm_some nb yb
 have i:=widenI_in ra.1 ra.2.1 rb.1 rb.2.1 sa sb ts
 rcases na with na | na
 ·rw [na] at xa;cases xa
 rcases nb with nb | nb
 ·rw [nb] at yb;cases yb
 have ea:=norm_ends na
 have eb:=norm_ends nb
 have wl:=wLo_le rb.1 ts
 have wh:=wHi_ge rb.2.1 ts
 have e:widRaw a b ts=makeN (if b.1<a.1 then wLo b.1 ts else a.1) (if a.2.1<b.2.1 then wHi b.2.1 ts else a.2.1) 1 0:=by
  unfold widRaw keepC
  rw [if_neg (by rw [xa];simp),if_neg (by rw [yb];simp),if_neg lq,widenI_some sa sb]
 rw [widenI_some sa sb] at i
 simp only at i
 obtain ⟨lo,hlo⟩:∃ z,z=if b.1<a.1 then wLo b.1 ts else a.1:=⟨_,rfl⟩
 obtain ⟨hi,hhi⟩:∃ z,z=if a.2.1<b.2.1 then wHi b.2.1 ts else a.2.1:=⟨_,rfl⟩
 rw [<-hlo,<-hhi] at e i ⊢
 have l1:lo<=a.1:=by clear na nb;rw [hlo];split<;>omega
 have l2:a.2.1<=hi:=by clear na nb;rw [hhi];split<;>omega
 have b1:lo<=b.1:=by clear na nb;rw [hlo];split<;>omega
 have b2:b.2.1<=hi:=by clear na nb;rw [hhi];split<;>omega
 have K:=make_ends (M:=1) (R:=0) i.1 i.2 (z:=a.1) na.2.1 l1 (by clear na nb;omega) (all_mem _)
 have G:=make_class (lo:=lo) (hi:=hi) (M:=1) (R:=0)
 rw [<-e] at K G
 rw [normC_id (Or.inr (show (0:Nat)<1 by omega))] at G
 obtain ⟨k1,k2,k3,k4,k5,k6,k7,k8,k9⟩:=K
 have elo:=Int.le_antisymm (k8 _ (all_mem _) (Int.le_refl _)) k2
 have ehi:=Int.le_antisymm k3 (k9 _ (all_mem _) (Int.le_refl _))
 have lt:lo<hi:=by
  apply Int.lt_of_not_ge
  intro c
  apply lq
  rw [leqC_iff rb.2.2.2 ra.2.2.2]
  have eq1:a.1=b.1:=by clear na nb G;omega
  have one:b.1=b.2.1:=by clear na nb G;omega
  have z:=nb.2.2.2.2.2.2.1 one
  intro v hv
  rw [z.1,z.2,memC_zero,wrap_bits nb.2.1] at hv
  rw [hv,<-eq1];exact ea.1.2.2.2
 have cl:=G (by rw [elo,ehi];exact lt)
 exact ⟨k1,cl.1,cl.2,elo,ehi⟩
theorem wid_one {ts:List Int} {a b:Int×Int×Nat×Nat×Bool} (ra:RawN a) (na:NormN a) (rb:RawN b) (nb:NormN b) (xa:a.2.2.2.2=false) (yb:b.2.2.2.2=false) (lq:leqC b.2.2.1 b.2.2.2.1 a.2.2.1 a.2.2.2.1=true) (one:a.1=a.2.1):widRaw a b ts=a:=by
 have sa:=norm_some na xa
 have sb:=norm_some nb yb
 have na0:=na
 have i:=widenI_in ra.1 ra.2.1 rb.1 rb.2.1 sa sb ts
 rcases na with na | na
 ·rw [na] at xa;cases xa
 rcases nb with nb | nb
 ·rw [nb] at yb;cases yb
 have ea:=norm_ends na
 have eb:=norm_ends nb
 have lq':=(leqC_iff rb.2.2.2 ra.2.2.2).1 lq
 have z:=na.2.2.2.2.2.2.1 one
 have cb1:=lq' _ eb.1.2.2.2
 have cb2:=lq' _ eb.2.2.2.2
 have ca:=ea.1.2.2.2
 rw [z.1,memC_zero] at cb1 cb2 ca
 have n1:¬b.1<a.1:=by clear na nb z;omega
 have n2:¬a.2.1<b.2.1:=by clear na nb z;omega
 have e:widRaw a b ts=makeN a.1 a.2.1 a.2.2.1 a.2.2.2.1:=by
  unfold widRaw keepC
  rw [if_neg (by rw [xa];simp),if_neg (by rw [yb];simp),if_pos lq,widenI_some sa sb,if_neg n1,if_neg n2]
 rw [e]
 refine norm_ext (make_norm ra.1 ra.2.1) na0 (fun v hv=>?_)
 rw [make_mem ra.1 ra.2.1 hv]
 exact ⟨fun m=>⟨xa,m⟩,fun m=>m.2⟩
theorem RInv.step {ts:List Int} {a b:Int×Int×Nat×Nat×Bool} {ch:Nat} (ra:RawN a) (na:NormN a) (rb:RawN b) (nb:NormN b) (h:RInv ts a ch) :
  RInv ts (widRaw a b ts) (if widRaw a b ts=a then ch else ch+1):=by
 by_cases x:a.2.2.2.2=true
 ·have e:widRaw a b ts=b:=by unfold widRaw;rw [if_pos x]
  rw [e]
  rcases h with ⟨h1,h2⟩ | ⟨h1,_⟩
  ·rcases nb with nb | nb
   ·rw [nb,h1,if_pos rfl];exact Or.inl ⟨rfl,h2⟩
   ·subst h2
    refine Or.inr ⟨nb.1,0,0,Or.inl ⟨?_,Or.inl rfl,Or.inl rfl⟩⟩
    clear nb
    split<;>omega
  ·rw [h1] at x;cases x
 by_cases y:b.2.2.2.2=true
 ·have e:widRaw a b ts=a:=by unfold widRaw;rw [if_neg x,if_pos y]
  rw [e,if_pos rfl];exact h
 have xa:a.2.2.2.2=false:=by simpa using x
 have yb:b.2.2.2.2=false:=by simpa using y
 by_cases lq:leqC b.2.2.1 b.2.2.2.1 a.2.2.1 a.2.2.2.1=true
 ·by_cases one:a.1=a.2.1
  ·have e:=wid_one (ts:=ts) ra na rb nb xa yb lq one
   rw [e,if_pos rfl];exact h
  ·have lt:a.1<a.2.1:=by have:=norm_some na xa;omega
   obtain ⟨k1,c1,c2,m1,m2,m3,m4⟩:=wid_keep (ts:=ts) ra na rb nb xa yb lq lt
   have stay:¬b.1<a.1->¬a.2.1<b.2.1->widRaw a b ts=a:=fun p q=>Prod.ext (m2 p) (Prod.ext (m4 q) (Prod.ext c1 (Prod.ext c2 (k1.trans xa.symm))))
   rcases h with ⟨hb,_⟩ | ⟨_,p,q,⟨hc,hp,hq⟩ | ⟨hc,hM,hR,hp,hq⟩⟩
   ·rw [hb] at xa;cases xa
   ·refine Or.inr ⟨k1,p+(if b.1<a.1 then 1 else 0),q+(if a.2.1<b.2.1 then 1 else 0),Or.inl ⟨cnt_step stay hc,?_,?_⟩⟩
    ·rw [c1,c2];exact hp.step m1 m2
    ·rw [c1,c2];exact hq.step m3 m4
   ·have all:∀ v,MemC a.2.2.1 a.2.2.2.1 v:=fun v=>by rw [hM,hR];exact all_mem v
    refine Or.inr ⟨k1,p+(if b.1<a.1 then 1 else 0),q+(if a.2.1<b.2.1 then 1 else 0),Or.inr ⟨cnt_step stay hc,c1.trans hM,c2.trans hR,FL.step rb.1 hp ?_,FH.step rb.2.1 hq ?_⟩⟩
    ·by_cases c:b.1<a.1
     ·rw [if_pos c];exact Int.le_antisymm ((m1 c).2.2.2 _ (all _) (Int.le_refl _)) (m1 c).1
     ·rw [if_neg c];exact m2 c
    ·by_cases c:a.2.1<b.2.1
     ·rw [if_pos c];exact Int.le_antisymm (m3 c).1 ((m3 c).2.2.2 _ (all _) (Int.le_refl _))
     ·rw [if_neg c];exact m4 c
 ·obtain ⟨k1,c1,c2,e1,e2⟩:=wid_fall (ts:=ts) ra na rb nb xa yb lq
  rcases h with ⟨hb,_⟩ | ⟨_,p,q,⟨hc,hp,hq⟩ | ⟨hc,hM,hR,hp,hq⟩⟩
  ·rw [hb] at xa;cases xa
  ·exact Or.inr ⟨k1,p+(if b.1<a.1 then 1 else 0),q+(if a.2.1<b.2.1 then 1 else 0),Or.inr ⟨cnt_more hc,c1,c2,FL.step rb.1 hp.fall e1,FH.step rb.2.1 hq.fall e2⟩⟩
  ·exfalso
   apply lq
   rw [leqC_iff rb.2.2.2 ra.2.2.2]
   intro v _
   rw [hM,hR];exact all_mem v
end
section
open Go.RowKit
theorem rows_putC {w0 w1 Z:World} {g:Nat} {p0 p1:Value} {t:TypeId} (ra:w1.heap[g]?=some (.cells #[p0,p1] t (0,0))) (h0:Ok w0 w1) (hg:w0.heap.size<=g) (x0 x1:Value) (hZ:Z=((w1.setCell ⟨g,0,none⟩ x0).setCell ⟨g,1,none⟩ x1)) :
  Hid (Ok w0 Z/\Z.heap[g]?=some (.cells #[x0,x1] t (0,0))/\(∀ (h:Nat) (o:Obj),h≠g->w1.heap[h]?=some o->Z.heap[h]?=some o)):=by
 subst hZ
 refine ⟨Ok.set (Ok.set h0 hg _) hg _,row_set2 ra x0 x1,?_⟩
 intro h o h1 ho
 rw [heap_setCell_other _ _ _ _ h1,heap_setCell_other _ _ _ _ h1]
 exact ho
set_option maxRecDepth 100000 in
theorem widen1_any (xl xh:Int) (xM xR:Nat) (yl yh:Int) (yM yR:Nat) (gt:Nat) (ao:Option Addr) (n cap:Nat) (ts:List Int) (hx:RawN (xl,xh,xM,xR,false)) (hy:RawN (yl,yh,yM,yR,false)) (lx:xl<=xh) (ly:yl<=yh) (w:World) (hr:w.heap[gt]?=some (.cells #[.slice ao n cap] 30)) (hT:SInts w (.slice ao n cap) ts) :
  Calls Tryz.prog 46 #[.agg #[.bool false,.int .i64 xl,.int .i64 xh,.int .u64 (xM:Int),.int .u64 (xR:Int)],.agg #[.bool false,.int .i64 yl,.int .i64 yh,.int .u64 (yM:Int),.int .u64 (yR:Int)],.pointer (some ⟨gt,0,none⟩)] w fun e w'=>e=.returned (nv (makeN (widenI xl xh yl yh ts).1 (widenI xl xh yl yh ts).2 (keepC xM xR yM yR).1 (keepC xM xR yM yR).2))/\Ok w w':=by
 have hok:Ok w w:=Ok.refl _
 have HU:Hid (RawN (xl,xh,xM,xR,false)/\RawN (yl,yh,yM,yR,false)):=⟨hx,hy⟩
 have HT:Hid (SInts w (.slice ao n cap) ts):=hT
 have rt:Hid _:=hr
 obtain ⟨q,hq⟩:∃ q,q=widenI xl xh yl yh ts:=⟨_,rfl⟩
 have IQ:Hid (In64 q.1/\In64 q.2):=by rw [hq];exact widenI_in hx.1 hx.2.1 hy.1 hy.2.1 lx ly ts
 have HQ:Hid _:=hq
 obtain ⟨K,hK⟩:∃ K,K=keepC xM xR yM yR:=⟨_,rfl⟩
 have IK:Hid (U64 K.1/\U64 K.2):=by rw [hK];exact keep_u64 hx.2.2.1 hx.2.2.2
 have HKK:Hid _:=hK
 rw [<-hq,<-hK]
 have sgt:=lt_row hr
 clear hx hy lx ly hT hr hq hK
 go_enter Tryz.func46,Tryz.ntmps46
 go_wp2_with fail
 obtain ⟨W,hW⟩:∃ W,W=(((w).alloc (.cells #[.bool false,.int .i64 xl,.int .i64 xh,.int .u64 (xM:Int),.int .u64 (xR:Int)] 29)).alloc (.cells #[.bool false,.int .i64 yl,.int .i64 yh,.int .u64 (yM:Int),.int .u64 (yR:Int)] 29)).alloc (.cells #[.bool false,.int .i64 0,.int .i64 0,.int .u64 0,.int .u64 0] 29):=⟨_,rfl⟩
 have ra:Hid (W.heap[w.heap.size]?=some (.cells #[.bool false,.int .i64 xl,.int .i64 xh,.int .u64 (xM:Int),.int .u64 (xR:Int)] 29)):=by unfold Hid;rw [hW];exact jj
 have rb:Hid (W.heap[w.heap.size+1]?=some (.cells #[.bool false,.int .i64 yl,.int .i64 yh,.int .u64 (yM:Int),.int .u64 (yR:Int)] 29)):=by unfold Hid;rw [hW];exact jj
 have rz:Hid (W.heap[w.heap.size+1+1]?=some (.cells #[.bool false,.int .i64 0,.int .i64 0,.int .u64 0,.int .u64 0] 29)):=by unfold Hid;rw [hW];exact jj
 have HW:Hid (Ok w W):=by unfold Hid;rw [hW];exact (by repeat (first | exact hok | refine Ok.alloc ?_ _ | refine Ok.draws ?_ _ | fail))
 rw [<-hW]
 clear hW
 obtain ⟨gz,egz⟩:∃ g,g=w.heap.size+1+1:=⟨_,rfl⟩
 rw [<-egz] at rz ⊢
 obtain ⟨gb,egb⟩:∃ g,g=w.heap.size+1:=⟨_,rfl⟩
 rw [<-egb] at rb ⊢
 obtain ⟨ga,ega⟩:∃ g,g=w.heap.size:=⟨_,rfl⟩
 rw [<-ega] at ra ⊢
 have lga:w.heap.size<=ga:=by omega
 have ngagb:¬ga=gb:=by omega
 have ngagz:¬ga=gz:=by omega
 have lgb:w.heap.size<=gb:=by omega
 have ngbga:¬gb=ga:=by omega
 have ngbgz:¬gb=gz:=by omega
 have lgz:w.heap.size<=gz:=by omega
 have ngzga:¬gz=ga:=by omega
 have ngzgb:¬gz=gb:=by omega
 clear ega egb egz
 have ngtga:¬gt=ga:=by omega
 have ngtgb:¬gt=gb:=by omega
 have ngtgz:¬gt=gz:=by omega
 have mgtga:¬ga=gt:=by omega
 have mgtgb:¬gb=gt:=by omega
 have mgtgz:¬gz=gt:=by omega
 refine (every_any W _ (Ok.refl _)).mono ?_
 rintro e w1 ⟨rfl,hb⟩
 replace ra:Hid _:=Ok.row' hb ra.out
 replace rb:Hid _:=Ok.row' hb rb.out
 replace rz:Hid _:=Ok.row' hb rz.out
 have Hw1:Hid (Ok w w1):=HW.out.step hb
 clear hb HW hok
 unfold cv
 obtain ⟨a0,a1,a2,a3,a4,a5,a6,a7,a8,a9⟩:=row5_facts ra.out
 obtain ⟨b0,b1,b2,b3,b4,b5,b6,b7,b8,b9⟩:=row5_facts rb.out
 have s1:=lt_row ra.out
 have s2:=lt_row rb.out
 have s3:=lt_row rz.out
 have s4:=Hw1.out.le
 have vga1:¬w1.heap.size=ga:=by omega
 have vgb1:¬w1.heap.size=gb:=by omega
 have vgz1:¬w1.heap.size=gz:=by omega
 have vgt1:¬w1.heap.size=gt:=by omega
 have vga2:¬ga=w1.heap.size:=by omega
 have vgb2:¬gb=w1.heap.size:=by omega
 have vgz2:¬gz=w1.heap.size:=by omega
 have vgt2:¬gt=w1.heap.size:=by omega
 go_wp2_with fail
 obtain ⟨Y0,hY0⟩:∃ W,W=w1.alloc (.cells #[.int .u64 1,.int .u64 0] 27):=⟨_,rfl⟩
 have OY:Ok w1 Y0:=by rw [hY0];exact (Ok.refl _).alloc _
 have rc:Hid (Y0.heap[w1.heap.size]?=some (.cells #[.int .u64 1,.int .u64 0] 27)):=by unfold Hid;rw [hY0];exact heap_new0 _ _
 rw [<-hY0]
 have HY0:Hid (Ok w Y0):=Hw1.out.step OY
 replace ra:Hid _:=Ok.row' OY ra.out
 replace rb:Hid _:=Ok.row' OY rb.out
 replace rz:Hid _:=Ok.row' OY rz.out
 obtain ⟨gc,egc⟩:∃ g,g=w1.heap.size:=⟨_,rfl⟩
 rw [<-egc] at rc vga1 vgb1 vgz1 vgt1 vga2 vgb2 vgz2 vgt2 s4 ⊢
 clear hY0 OY egc s1 s2 s3 Hw1 a0 b0 a1 b1 a2 b2 a3 b3 a4 b4 a5 b5 a6 b6 a7 b7 a8 b8 a9 b9
 refine (pleq_any yM yR xM xR HU.out.2.2.2.1 HU.out.2.2.2.2 HU.out.1.2.2.1 HU.out.1.2.2.2 Y0 _ (Ok.refl _)).mono ?_
 rintro e w2 ⟨rfl,hb⟩
 replace ra:Hid _:=Ok.row' hb ra.out
 replace rb:Hid _:=Ok.row' hb rb.out
 replace rz:Hid _:=Ok.row' hb rz.out
 replace rc:Hid _:=Ok.row' hb rc.out
 have Hw2:Hid (Ok w w2):=HY0.out.step hb
 clear hb HY0
 obtain ⟨a0,a1,a2,a3,a4,a5,a6,a7,a8,a9⟩:=row5_facts ra.out
 obtain ⟨b0,b1,b2,b3,b4,b5,b6,b7,b8,b9⟩:=row5_facts rb.out
 obtain ⟨k0,k1,k2,k3,k4,k5,k6,k7,k8,k9⟩:=row5_facts rz.out
 obtain ⟨c0,c1,c2,c3⟩:=row_facts rc.out
 cases hL:leqC yM yR xM xR
 ·have HK1:Hid (K.1=1):=by unfold Hid;rw [HKK.out];unfold keepC;rw [if_neg (by rw [hL];simp)]
  have HK2:Hid (K.2=0):=by unfold Hid;rw [HKK.out];unfold keepC;rw [if_neg (by rw [hL];simp)]
  go_wp2_with fail
  clear a0 b0 k0 a1 b1 k1 a2 b2 k2 a3 b3 k3 a4 b4 k4 a5 b5 k5 a6 b6 k6 a7 b7 k7 a8 b8 k8 a9 b9 k9 c0 c1 c2 c3
  have HMK:Hid (makeN q.1 q.2 1 0=makeN q.1 q.2 K.1 K.2):=by unfold Hid;rw [HK1.out,HK2.out]
  have rt2:Hid _:=Ok.row' Hw2.out rt.out
  have HTz:Hid (SInts w2 (.slice ao n cap) ts):=SInts.ok HT.out Hw2.out
  obtain ⟨a0,a1,a2,a3,a4,a5,a6,a7,a8,a9⟩:=row5_facts ra.out
  obtain ⟨b0,b1,b2,b3,b4,b5,b6,b7,b8,b9⟩:=row5_facts rb.out
  obtain ⟨k0,k1,k2,k3,k4,k5,k6,k7,k8,k9⟩:=row5_facts rz.out
  obtain ⟨c0,c1,c2,c3⟩:=row_facts rc.out
  have t0:=row1_cell rt2.out
  have za:=lt_row ra.out
  have zb:=lt_row rb.out
  have zc:=lt_row rc.out
  have zt:=lt_row rt2.out
  have bz:Ok w2 w2:=Ok.refl _
  go_region_held3 (fun w'=>w'.cell? ⟨ga,1,none⟩=some (.int .i64 xl)/\w'.cell? ⟨ga,2,none⟩=some (.int .i64 xh)/\w'.cell? ⟨gb,1,none⟩=some (.int .i64 yl)/\w'.cell? ⟨gb,2,none⟩=some (.int .i64 yh)/\w'.cell? ⟨gc,0,none⟩=some (.int .u64 (1:Int))/\w'.cell? ⟨gc,1,none⟩=some (.int .u64 (0:Int))/\w'.cell? ⟨gt,0,none⟩=some (.slice ao n cap)) (go_keep)
   (first
   | (go_at_call 49;refine (pwiden_any _ _ _ _ (.slice ao n cap) ts w2 _ (by repeat (first | assumption | refine Ok.alloc ?_ _ | refine Below.drew ?_)) (by first | exact HTz.out | exact SInts.ok HTz.out (by assumption) | exact SInts.ok HTz.out (Below.drew (Ok.refl _)) | exact SInts.ok HTz.out (Below.drew (by assumption)))).mono ?_;rintro e w' ⟨rfl,hb⟩;rw [<-HQ.out];have q0:=Ok.cell hb za a1;have q1:=Ok.cell hb za a2;have q2:=Ok.cell hb zb b1;have q3:=Ok.cell hb zb b2;have q4:=Ok.cell hb zc c0;have q5:=Ok.cell hb zc c1;have q6:=Ok.cell hb zt t0;obtain ⟨k0,k1,k2,k3,k4,k5,k6,k7,k8,k9⟩:=row5_facts (Ok.row' hb rz.out))
   | (go_at_call 18;refine (nmake_any _ _ 1 0 IQ.out.1 IQ.out.2 (by rw [<-HK1.out];exact IK.out.1) (by rw [<-HK2.out];exact IK.out.2) w2 _ (by repeat (first | assumption | refine Ok.alloc ?_ _ | refine Below.drew ?_))).mono ?_;rintro e w' ⟨rfl,hb⟩;rw [HMK.out];unfold nv;have q0:=Ok.cell hb za a1;have q1:=Ok.cell hb za a2;have q2:=Ok.cell hb zb b1;have q3:=Ok.cell hb zb b2;have q4:=Ok.cell hb zc c0;have q5:=Ok.cell hb zc c1;have q6:=Ok.cell hb zt t0;obtain ⟨k0,k1,k2,k3,k4,k5,k6,k7,k8,k9⟩:=row5_facts (Ok.row' hb rz.out))
   | fail)
  go_wp2_with fail
  have hr:Hid _:=Ok.row' hb rz.out
  (try simp only [Exit.inBlock, Exit.then]); refine bodyPost_ret (results_cell_row rfl _ _ (gz) 29 #[_, _, _, _, _] (0, 0) _ rfl (row_set5 hr.out _ _ _ _ _) Tryz.underlying29 rfl infoN) rfl ?_
  exact ⟨rfl,Ok.set (Ok.set (Ok.set (Ok.set (Ok.set (Hw2.out.step hb) (show w.heap.size<=gz by omega) _) (show w.heap.size<=gz by omega) _) (show w.heap.size<=gz by omega) _) (show w.heap.size<=gz by omega) _) (show w.heap.size<=gz by omega) _⟩
 ·have HK1:Hid (K.1=xM):=by unfold Hid;rw [HKK.out];unfold keepC;rw [if_pos hL]
  have HK2:Hid (K.2=xR):=by unfold Hid;rw [HKK.out];unfold keepC;rw [if_pos hL]
  go_wp2_with fail
  obtain ⟨Z,hZ⟩:∃ Z,Z=((w2.setCell ⟨gc,0,none⟩ (.int .u64 (xM:Int))).setCell ⟨gc,1,none⟩ (.int .u64 (xR:Int))):=⟨_,rfl⟩
  obtain ⟨HZ,rcz,keep⟩:=(rows_putC rc.out Hw2.out (by omega) _ _ hZ).out
  replace HZ:Hid (Ok w Z):=HZ
  rw [<-hZ]
  replace ra:Hid _:=keep _ _ (by omega) ra.out
  replace rb:Hid _:=keep _ _ (by omega) rb.out
  replace rz:Hid _:=keep _ _ (by omega) rz.out
  replace rc:Hid _:=rcz
  clear keep rcz hZ
  clear a0 b0 k0 a1 b1 k1 a2 b2 k2 a3 b3 k3 a4 b4 k4 a5 b5 k5 a6 b6 k6 a7 b7 k7 a8 b8 k8 a9 b9 k9 c0 c1 c2 c3
  have HMK:Hid (makeN q.1 q.2 xM xR=makeN q.1 q.2 K.1 K.2):=by unfold Hid;rw [HK1.out,HK2.out]
  have rt2:Hid _:=Ok.row' HZ.out rt.out
  have HTz:Hid (SInts Z (.slice ao n cap) ts):=SInts.ok HT.out HZ.out
  obtain ⟨a0,a1,a2,a3,a4,a5,a6,a7,a8,a9⟩:=row5_facts ra.out
  obtain ⟨b0,b1,b2,b3,b4,b5,b6,b7,b8,b9⟩:=row5_facts rb.out
  obtain ⟨k0,k1,k2,k3,k4,k5,k6,k7,k8,k9⟩:=row5_facts rz.out
  obtain ⟨c0,c1,c2,c3⟩:=row_facts rc.out
  have t0:=row1_cell rt2.out
  have za:=lt_row ra.out
  have zb:=lt_row rb.out
  have zc:=lt_row rc.out
  have zt:=lt_row rt2.out
  have bz:Ok Z Z:=Ok.refl _
  go_region_held3 (fun w'=>w'.cell? ⟨ga,1,none⟩=some (.int .i64 xl)/\w'.cell? ⟨ga,2,none⟩=some (.int .i64 xh)/\w'.cell? ⟨gb,1,none⟩=some (.int .i64 yl)/\w'.cell? ⟨gb,2,none⟩=some (.int .i64 yh)/\w'.cell? ⟨gc,0,none⟩=some (.int .u64 (xM:Int))/\w'.cell? ⟨gc,1,none⟩=some (.int .u64 (xR:Int))/\w'.cell? ⟨gt,0,none⟩=some (.slice ao n cap)) (go_keep)
   (first
   | (go_at_call 49;refine (pwiden_any _ _ _ _ (.slice ao n cap) ts Z _ (by repeat (first | assumption | refine Ok.alloc ?_ _ | refine Below.drew ?_)) (by first | exact HTz.out | exact SInts.ok HTz.out (by assumption) | exact SInts.ok HTz.out (Below.drew (Ok.refl _)) | exact SInts.ok HTz.out (Below.drew (by assumption)))).mono ?_;rintro e w' ⟨rfl,hb⟩;rw [<-HQ.out];have q0:=Ok.cell hb za a1;have q1:=Ok.cell hb za a2;have q2:=Ok.cell hb zb b1;have q3:=Ok.cell hb zb b2;have q4:=Ok.cell hb zc c0;have q5:=Ok.cell hb zc c1;have q6:=Ok.cell hb zt t0;obtain ⟨k0,k1,k2,k3,k4,k5,k6,k7,k8,k9⟩:=row5_facts (Ok.row' hb rz.out))
   | (go_at_call 18;refine (nmake_any _ _ xM xR IQ.out.1 IQ.out.2 (by rw [<-HK1.out];exact IK.out.1) (by rw [<-HK2.out];exact IK.out.2) Z _ (by repeat (first | assumption | refine Ok.alloc ?_ _ | refine Below.drew ?_))).mono ?_;rintro e w' ⟨rfl,hb⟩;rw [HMK.out];unfold nv;have q0:=Ok.cell hb za a1;have q1:=Ok.cell hb za a2;have q2:=Ok.cell hb zb b1;have q3:=Ok.cell hb zb b2;have q4:=Ok.cell hb zc c0;have q5:=Ok.cell hb zc c1;have q6:=Ok.cell hb zt t0;obtain ⟨k0,k1,k2,k3,k4,k5,k6,k7,k8,k9⟩:=row5_facts (Ok.row' hb rz.out))
   | fail)
  go_wp2_with fail
  have hr:Hid _:=Ok.row' hb rz.out
  (try simp only [Exit.inBlock, Exit.then]); refine bodyPost_ret (results_cell_row rfl _ _ (gz) 29 #[_, _, _, _, _] (0, 0) _ rfl (row_set5 hr.out _ _ _ _ _) Tryz.underlying29 rfl infoN) rfl ?_
  exact ⟨rfl,Ok.set (Ok.set (Ok.set (Ok.set (Ok.set (HZ.out.step hb) (show w.heap.size<=gz by omega) _) (show w.heap.size<=gz by omega) _) (show w.heap.size<=gz by omega) _) (show w.heap.size<=gz by omega) _) (show w.heap.size<=gz by omega) _⟩
set_option maxRecDepth 100000 in
theorem ntog_widen (a b:Int×Int×Nat×Nat×Bool) (gt:Nat) (ao:Option Addr) (n cap:Nat) (ts:List Int) (ha:RawN a) (hb:RawN b) (w:World) (hr:w.heap[gt]?=some (.cells #[.slice ao n cap] 30)) (hT:SInts w (.slice ao n cap) ts) :
  Calls Tryz.prog 45 #[nv a,nv b,.func (.func 46) #[] #[.pointer (some ⟨gt,0,none⟩)]] w fun e w'=>e=.returned (nv (widenN a b ts))/\Ok w w':=by
 have hok:Ok w w:=Ok.refl w
 have hle:=hok.le
 have HU:Hid _:=And.intro ha hb
 clear ha hb
 obtain ⟨x,hx⟩:∃ x,x=normN a:=⟨_,rfl⟩
 obtain ⟨y,hy⟩:∃ x,x=normN b:=⟨_,rfl⟩
 have HS:Hid (widenN a b ts=widRaw x y ts):=by unfold Hid;rw [hx,hy];rfl
 have RX:Hid (RawN x/\RawN y):=by rw [hx,hy];exact ⟨normN_raw HU.out.1,normN_raw HU.out.2⟩
 have NX:Hid (NormN x/\NormN y):=by rw [hx,hy];exact ⟨normN_norm HU.out.1,normN_norm HU.out.2⟩
 have HX:Hid _:=hx
 have HY:Hid _:=hy
 clear hx hy
 have HT:Hid (SInts w (.slice ao n cap) ts):=hT
 have HR:Hid _:=hr
 clear hr hT
 unfold nv
 go_enter Tryz.func45,Tryz.ntmps45
 go_wp2_with fail
 obtain ⟨W,hW⟩:∃ W,W=(((w).alloc (.cells #[.bool a.2.2.2.2,.int .i64 a.1,.int .i64 a.2.1,.int .u64 (a.2.2.1:Int),.int .u64 (a.2.2.2.1:Int)] 29)).alloc (.cells #[.bool b.2.2.2.2,.int .i64 b.1,.int .i64 b.2.1,.int .u64 (b.2.2.1:Int),.int .u64 (b.2.2.2.1:Int)] 29)).alloc (.cells #[.bool false,.int .i64 0,.int .i64 0,.int .u64 0,.int .u64 0] 29):=⟨_,rfl⟩
 have ra:Hid (W.heap[w.heap.size]?=some (.cells #[.bool a.2.2.2.2,.int .i64 a.1,.int .i64 a.2.1,.int .u64 (a.2.2.1:Int),.int .u64 (a.2.2.2.1:Int)] 29)):=by unfold Hid;rw [hW];exact jj
 have rb:Hid (W.heap[w.heap.size+1]?=some (.cells #[.bool b.2.2.2.2,.int .i64 b.1,.int .i64 b.2.1,.int .u64 (b.2.2.1:Int),.int .u64 (b.2.2.2.1:Int)] 29)):=by unfold Hid;rw [hW];exact jj
 have rz:Hid (W.heap[w.heap.size+1+1]?=some (.cells #[.bool false,.int .i64 0,.int .i64 0,.int .u64 0,.int .u64 0] 29)):=by unfold Hid;rw [hW];exact jj
 have HW:Hid (Ok w W):=by unfold Hid;rw [hW];exact (by repeat (first | exact hok | refine Ok.alloc ?_ _ | refine Ok.draws ?_ _ | fail))
 rw [<-hW]
 clear hW
 obtain ⟨gz,egz⟩:∃ g,g=w.heap.size+1+1:=⟨_,rfl⟩
 rw [<-egz] at rz ⊢
 obtain ⟨gb,egb⟩:∃ g,g=w.heap.size+1:=⟨_,rfl⟩
 rw [<-egb] at rb ⊢
 obtain ⟨ga,ega⟩:∃ g,g=w.heap.size:=⟨_,rfl⟩
 rw [<-ega] at ra ⊢
 have lga:w.heap.size<=ga:=by omega
 have ngagb:¬ga=gb:=by omega
 have ngagz:¬ga=gz:=by omega
 have lgb:w.heap.size<=gb:=by omega
 have ngbga:¬gb=ga:=by omega
 have ngbgz:¬gb=gz:=by omega
 have lgz:w.heap.size<=gz:=by omega
 have ngzga:¬gz=ga:=by omega
 have ngzgb:¬gz=gb:=by omega
 clear ega egb egz
 apply wp_cutN (fun w1=>Hid (Ok w w1/\w1.heap[ga]?=some (.cells #[.bool x.2.2.2.2,.int .i64 x.1,.int .i64 x.2.1,.int .u64 (x.2.2.1:Int),.int .u64 (x.2.2.2.1:Int)] 29)/\w1.heap[gb]?=some (.cells #[.bool y.2.2.2.2,.int .i64 y.1,.int .i64 y.2.1,.int .u64 (y.2.2.1:Int),.int .u64 (y.2.2.2.1:Int)] 29)/\(∀ (h:Nat) (o:Obj),h≠ga->h≠gb->W.heap[h]?=some o->w1.heap[h]?=some o)))
 case h1 =>
  obtain ⟨a0,a1,a2,a3,a4,a5,a6,a7,a8,a9⟩:=row5_facts ra.out
  obtain ⟨b0,b1,b2,b3,b4,b5,b6,b7,b8,b9⟩:=row5_facts rb.out
  have bz:Ok W W:=Ok.refl _
  go_region_with (go_at_call 13;refine (nnorm_any _ (by first | exact HU.out.1 | exact HU.out.2) W _ (by first | assumption | exact Below.drew (by assumption))).mono ?_;rintro e w1 ⟨rfl,hb⟩;(first | rw [<-HX.out] | rw [<-HY.out]);unfold nv;obtain ⟨a0,a1,a2,a3,a4,a5,a6,a7,a8,a9⟩:=row5_facts (Ok.row' hb ra.out);obtain ⟨b0,b1,b2,b3,b4,b5,b6,b7,b8,b9⟩:=row5_facts (Ok.row' hb rb.out))
  all_goals exact ⟨rfl,rows_put2 (by omega) ra.out rb.out hb HW.out (by omega) (by omega) _ _ _ _ _ _ _ _ _ _⟩
 case h2 =>
  rintro Z H
  obtain ⟨HZ,raz,rbz,keep⟩:=H.out
  replace HZ:Hid (Ok w Z):=HZ
  replace raz:Hid _:=raz
  replace rbz:Hid _:=rbz
  replace rz:Hid _:=keep _ _ (by omega) (by omega) rz.out
  clear H ra rb keep
  have OZ:Hid (Ok w Z):=HZ
  have rtz:Hid _:=Ok.row' OZ.out HR.out
  obtain ⟨a0,a1,a2,a3,a4,a5,a6,a7,a8,a9⟩:=row5_facts raz.out
  obtain ⟨b0,b1,b2,b3,b4,b5,b6,b7,b8,b9⟩:=row5_facts rbz.out
  obtain ⟨k0,k1,k2,k3,k4,k5,k6,k7,k8,k9⟩:=row5_facts rz.out
  cases hxb:x.2.2.2.2
  ·rw [hxb] at a0
   cases hyb:y.2.2.2.2
   ·rw [hyb] at b0
    have HA:Hid (widRaw x y ts=makeN (widenI x.1 x.2.1 y.1 y.2.1 ts).1 (widenI x.1 x.2.1 y.1 y.2.1 ts).2 (keepC x.2.2.1 x.2.2.2.1 y.2.2.1 y.2.2.2.1).1 (keepC x.2.2.1 x.2.2.2.1 y.2.2.1 y.2.2.2.1).2):=by unfold Hid widRaw;rw [if_neg (by rw [hxb];simp),if_neg (by rw [hyb];simp)]
    have LX:Hid (x.1<=x.2.1/\y.1<=y.2.1):=⟨norm_some NX.out.1 hxb,norm_some NX.out.2 hyb⟩
    go_wp2_with fail
    refine (widen1_any x.1 x.2.1 x.2.2.1 x.2.2.2.1 y.1 y.2.1 y.2.2.1 y.2.2.2.1 gt ao n cap ts RX.out.1 RX.out.2 LX.out.1 LX.out.2 Z (rtz.out) (SInts.ok HT.out OZ.out)).mono ?_
    rintro e z1 ⟨rfl,hb⟩
    rw [<-HA.out]
    have hr:Hid _:=Ok.row' hb rz.out
    obtain ⟨k0,k1,k2,k3,k4,k5,k6,k7,k8,k9⟩:=row5_facts hr.out
    unfold nv
    go_wp2_with fail
    (try simp only [Exit.inBlock, Exit.then]); refine bodyPost_ret (results_cell_row rfl _ _ (gz) 29 #[_, _, _, _, _] (0, 0) _ rfl (row_set5 hr.out _ _ _ _ _) Tryz.underlying29 rfl infoN) rfl ?_
    exact ⟨(by rw [HS.out]),Ok.set (Ok.set (Ok.set (Ok.set (Ok.set (HZ.out.step hb) (show w.heap.size<=gz by omega) _) (show w.heap.size<=gz by omega) _) (show w.heap.size<=gz by omega) _) (show w.heap.size<=gz by omega) _) (show w.heap.size<=gz by omega) _⟩
   ·rw [hyb] at b0
    have HA:Hid (widRaw x y ts=x):=by unfold Hid widRaw;rw [if_neg (by rw [hxb];simp),if_pos hyb]
    have hr:Hid _:=rz
    go_wp2_with fail
    have HB:Hid _:=hxb
    (try simp only [Exit.inBlock, Exit.then]); refine bodyPost_ret (results_cell_row rfl _ _ (gz) 29 #[_, _, _, _, _] (0, 0) _ rfl (row_set5 hr.out _ _ _ _ _) Tryz.underlying29 rfl infoN) rfl ?_
    exact ⟨(by rw [HS.out,HA.out,HB.out]),Ok.set (Ok.set (Ok.set (Ok.set (Ok.set (HZ.out) (show w.heap.size<=gz by omega) _) (show w.heap.size<=gz by omega) _) (show w.heap.size<=gz by omega) _) (show w.heap.size<=gz by omega) _) (show w.heap.size<=gz by omega) _⟩
  ·rw [hxb] at a0
   have HA:Hid (widRaw x y ts=y):=by unfold Hid widRaw;rw [if_pos hxb]
   have hr:Hid _:=rz
   go_wp2_with fail
   (try simp only [Exit.inBlock, Exit.then]); refine bodyPost_ret (results_cell_row rfl _ _ (gz) 29 #[_, _, _, _, _] (0, 0) _ rfl (row_set5 hr.out _ _ _ _ _) Tryz.underlying29 rfl infoN) rfl ?_
   exact ⟨(by rw [HS.out,HA.out]),Ok.set (Ok.set (Ok.set (Ok.set (Ok.set (HZ.out) (show w.heap.size<=gz by omega) _) (show w.heap.size<=gz by omega) _) (show w.heap.size<=gz by omega) _) (show w.heap.size<=gz by omega) _) (show w.heap.size<=gz by omega) _⟩
set_option maxRecDepth 100000 in
theorem nwiden_any (a b:Int×Int×Nat×Nat×Bool) (v:Value) (ts:List Int) (ha:RawN a) (hb:RawN b) (w0 w:World) (hok:Ok w0 w) (hT:SInts w v ts) :
  Calls Tryz.prog 9 #[nv a,nv b,v] w fun e w'=>e=.returned (nv (widenN a b ts))/\Ok w0 w':=by
 have hle:=hok.le
 have HU:Hid _:=And.intro ha hb
 obtain ⟨ao,n,cap,rfl⟩:=SInts.form hT
 have HT:Hid (SInts w (.slice ao n cap) ts):=hT
 clear ha hb hT
 unfold nv
 go_enter Tryz.func9,Tryz.ntmps9
 go_wp2_with fail
 obtain ⟨W,hW⟩:∃ W,W=((((w).alloc (.cells #[.bool a.2.2.2.2,.int .i64 a.1,.int .i64 a.2.1,.int .u64 (a.2.2.1:Int),.int .u64 (a.2.2.2.1:Int)] 29)).alloc (.cells #[.bool b.2.2.2.2,.int .i64 b.1,.int .i64 b.2.1,.int .u64 (b.2.2.1:Int),.int .u64 (b.2.2.2.1:Int)] 29)).alloc (.cells #[.slice ao n cap] 30)).alloc (.cells #[.bool false,.int .i64 0,.int .i64 0,.int .u64 0,.int .u64 0] 29):=⟨_,rfl⟩
 have rt:Hid (W.heap[w.heap.size+1+1]?=some (.cells #[.slice ao n cap] 30)):=by unfold Hid;rw [hW];exact jj
 have rz:Hid (W.heap[w.heap.size+1+1+1]?=some (.cells #[.bool false,.int .i64 0,.int .i64 0,.int .u64 0,.int .u64 0] 29)):=by unfold Hid;rw [hW];exact jj
 have HW:Hid (Ok w0 W):=by unfold Hid;rw [hW];exact (by repeat (first | exact hok | refine Ok.alloc ?_ _ | refine Ok.draws ?_ _ | fail))
 rw [<-hW]
 have OW:Ok w W:=by rw [hW];exact ((((Ok.refl w).alloc _).alloc _).alloc _).alloc _
 clear hW
 obtain ⟨gz,ez⟩:∃ g,g=w.heap.size+1+1+1:=⟨_,rfl⟩
 rw [<-ez] at rz ⊢
 obtain ⟨gt,et⟩:∃ g,g=w.heap.size+1+1:=⟨_,rfl⟩
 rw [<-et] at rt ⊢
 have lgz:w0.heap.size<=gz:=by omega
 clear ez et
 refine (ntog_widen a b gt ao n cap ts HU.out.1 HU.out.2 W rt.out (SInts.ok HT.out OW)).mono ?_
 rintro e z1 ⟨rfl,hb⟩
 have hr:Hid _:=Ok.row' hb rz.out
 obtain ⟨k0,k1,k2,k3,k4,k5,k6,k7,k8,k9⟩:=row5_facts hr.out
 unfold nv
 go_wp2_with fail
 (try simp only [Exit.inBlock, Exit.then]); refine bodyPost_ret (results_cell_row rfl _ _ (gz) 29 #[_, _, _, _, _] (0, 0) _ rfl (row_set5 hr.out _ _ _ _ _) Tryz.underlying29 rfl infoN) rfl ?_
 exact ⟨rfl,Ok.set (Ok.set (Ok.set (Ok.set (Ok.set (HW.out.step hb) (show w0.heap.size<=gz by omega) _) (show w0.heap.size<=gz by omega) _) (show w0.heap.size<=gz by omega) _) (show w0.heap.size<=gz by omega) _) (show w0.heap.size<=gz by omega) _⟩
end
end Go.Proofs.YtpjpjhjjhoeijaaGreat
