import Derived.Test.YtnjmjnmhldhaoaaGreatKNv
set_option linter.all false
namespace Go.Proofs.YtnjmjnmhldhaoaaGreat
section
open Go.RowKit
theorem tdiv_abs_pos {x y:Int} (hy:0<y):(0<=x->0<=x.tdiv y/\x.tdiv y<=x)/\(x<=0->x<=x.tdiv y/\x.tdiv y<=0):=by
 have base:∀ n:Int,0<=n->0<=n.tdiv y/\n.tdiv y<=n:=by
  intro n hn
  rw [Int.tdiv_eq_ediv_of_nonneg hn]
  exact ⟨Int.ediv_nonneg hn (by omega),Int.ediv_le_self _ hn⟩
 refine ⟨base x,fun hx=>?_⟩
 obtain ⟨n,rfl⟩:∃ n,x = -n:=⟨-x,by omega⟩
 have:=base n (by omega)
 rw [Int.neg_tdiv]
 omega
theorem tdiv_half {x y:Int} (hy:2<=y) (hx:0<=x):2*x.tdiv y<=x:=by
 rw [Int.tdiv_eq_ediv_of_nonneg hx]
 have h1:x/y*y<=x:=Int.ediv_mul_le _ (by omega)
 have h2:0<=x/y:=Int.ediv_nonneg hx (by omega)
 have h3:=Int.mul_le_mul_of_nonneg_left hy h2
 omega
theorem tdiv_in {x y:Int} (hx:In64 x) (hy:y≠0) (hn:¬(x = -9223372036854775808/\y = -1)):In64 (x.tdiv y):=by
 unfold In64 at *
 by_cases h:0<y
 ·have a:=tdiv_abs_pos (x:=x) h
  by_cases h0:0<=x
  ·have:=a.1 h0;omega
  ·have:=a.2 (by omega);omega
 ·obtain ⟨z,rfl⟩:∃ z,y = -z:=⟨-y,by omega⟩
  rw [Int.tdiv_neg]
  have a:=tdiv_abs_pos (x:=x) (y:=z) (by omega)
  by_cases h0:0<=x
  ·have:=a.1 h0;omega
  ·have b:=a.2 (by omega)
   by_cases hz:z=1
   ·subst hz
    have:x ≠ -9223372036854775808:=fun e=>hn ⟨e,rfl⟩
    omega
   ·obtain ⟨n,rfl⟩:∃ n,x = -n:=⟨-x,by omega⟩
    have c:=tdiv_half (x:=n) (y:=z) (by omega) (by omega)
    rw [Int.neg_tdiv] at b ⊢
    omega
theorem quo_id {x y:Int} (hx:In64 x) (hy:y≠0) (hn:¬(x = -9223372036854775808/\y = -1)):quoI x y=x.tdiv y:=by
 unfold quoI;exact wrap64_id (tdiv_in hx hy hn)
theorem cor_mem {al ah bl bh x y:Int} (ha1:In64 al) (ha2:In64 ah) (hs:0<bl\/bh<0) (hno:¬(Mem al ah (-9223372036854775808)/\Mem bl bh (-1))) (hx:Mem al ah x) (hy:Mem bl bh y) :
  Mem (cornersI al ah bl bh).1 (cornersI al ah bl bh).2 (x.tdiv y):=by
 have e1:al<=ah:=by unfold Mem at hx;omega
 have e2:bl<=bh:=by unfold Mem at hy;omega
 have hq:∀ u v,(u=al\/u=ah)->(v=bl\/v=bh)->quoI u v=u.tdiv v:=by
  intro u v hu hv
  refine quo_id ?_ ?_ ?_
  ·rcases hu with rfl | rfl<;>assumption
  ·rcases hv with rfl | rfl<;>omega
  ·rintro ⟨p,q⟩
   apply hno
   constructor
   ·unfold Mem;rcases hu with h | h<;>unfold In64 at * <;> omega
   ·unfold Mem;rcases hv with h | h<;>omega
 unfold cornersI
 rw [if_neg (by omega),hq al bl (Or.inl rfl) (Or.inl rfl),hq al bh (Or.inl rfl) (Or.inr rfl),hq ah bl (Or.inr rfl) (Or.inl rfl),hq ah bh (Or.inr rfl) (Or.inr rfl)]
 rcases hs with h | h
 ·exact tdiv_corners_pos h hx hy
 ·exact tdiv_corners_neg h hx hy
theorem J_left {p q:Int×Int} {v:Int} (h:Mem p.1 p.2 v):Mem (J p q).1 (J p q).2 v:=joinI_mem (Or.inl h)
theorem J_right {p q:Int×Int} {v:Int} (h:Mem q.1 q.2 v):Mem (J p q).1 (J p q).2 v:=joinI_mem (Or.inr h)
theorem has_iff (l h v:Int):hasI l h v=true↔Mem l h v:=by unfold hasI Mem;simp
theorem meet_norm_in {l h p q:Int} (a:In64 l) (b:In64 h) (c:In64 p) (d:In64 q):In64 (meetI l h p q).1/\In64 (meetI l h p q).2:=by
 unfold meetI normI In64 at *
 split<;>simp only<;>omega
theorem up_sign (bl bh:Int):0<(upI bl bh).1:=by
 unfold upI meetI normI;split<;>simp only<;>omega
theorem dn_sign {bl bh:Int} {y:Int} (h:Mem (dnI bl bh).1 (dnI bl bh).2 y):(dnI bl bh).2<0:=by
 unfold dnI meetI normI Mem at *
 split<;>rename_i c<;>simp only [c,if_true,if_false] at h ⊢ <;> omega
theorem dn2_sign {l h:Int} {y:Int} (hm:Mem (meetI l h (-9223372036854775808) (-2)).1 (meetI l h (-9223372036854775808) (-2)).2 y):(meetI l h (-9223372036854775808) (-2)).2<0:=by
 unfold meetI normI Mem at *
 split<;>rename_i c<;>simp only [c,if_true,if_false] at hm ⊢ <;> omega
theorem div_mem {al ah bl bh x y:Int} (ha1:In64 al) (ha2:In64 ah) (hb1:In64 bl) (hb2:In64 bh) (hx:Mem al ah x) (hy:Mem bl bh y) (h0:y≠0) :
  Mem (divI al ah bl bh).1 (divI al ah bl bh).2.1 (wrap64 (x.tdiv y)):=by
 have hxi:In64 x:=by unfold Mem In64 at *;omega
 have hyi:In64 y:=by unfold Mem In64 at *;omega
 have e1:¬(ah<al\/bh<bl):=by unfold Mem at *;omega
 have hup:0<y->Mem (upI bl bh).1 (upI bl bh).2 y:=fun h=>(meetI_mem _ _ _ _ _).2 ⟨hy,by unfold Mem In64 at *;omega⟩
 have hdn:y<0->Mem (dnI bl bh).1 (dnI bl bh).2 y:=fun h=>(meetI_mem _ _ _ _ _).2 ⟨hy,by unfold Mem In64 at *;omega⟩
 have habove:0<y->Mem (divA al ah bl bh).1 (divA al ah bl bh).2 (wrap64 (x.tdiv y)):=by
  intro h
  rw [wrap64_id (tdiv_in hxi h0 (by omega))]
  refine cor_mem ha1 ha2 (Or.inl (up_sign _ _)) ?_ hx (hup h)
  rintro ⟨_,q⟩
  have:=up_sign bl bh
  unfold Mem at q;omega
 unfold divI
 rw [if_neg e1]
 split
 ·rename_i hc
  show Mem (J (J (J (divA al ah bl bh) (-9223372036854775808,-9223372036854775808)) (C (meetI al ah (-9223372036854775807) 9223372036854775807) (dnI bl bh))) (C (-9223372036854775808,-9223372036854775808) (meetI (dnI bl bh).1 (dnI bl bh).2 (-9223372036854775808) (-2)))).1 (J (J (J (divA al ah bl bh) (-9223372036854775808,-9223372036854775808)) (C (meetI al ah (-9223372036854775807) 9223372036854775807) (dnI bl bh))) (C (-9223372036854775808,-9223372036854775808) (meetI (dnI bl bh).1 (dnI bl bh).2 (-9223372036854775808) (-2)))).2 _
  by_cases hp:0<y
  ·exact J_left (J_left (J_left (habove hp)))
  ·have hd:=hdn (by omega)
   by_cases hm:x = -9223372036854775808
   ·by_cases hy1:y = -1
    ·subst hm hy1
     refine J_left (J_left (J_right ?_))
     show Mem (-9223372036854775808) (-9223372036854775808) _
     have t:(-9223372036854775808:Int).tdiv (-1)=9223372036854775808:=by rfl
     rw [t];unfold wrap64 Mem;omega
    ·have h2:Mem (meetI (dnI bl bh).1 (dnI bl bh).2 (-9223372036854775808) (-2)).1 (meetI (dnI bl bh).1 (dnI bl bh).2 (-9223372036854775808) (-2)).2 y :=
      (meetI_mem _ _ _ _ _).2 ⟨hd,by unfold Mem In64 at *;omega⟩
     rw [wrap64_id (tdiv_in hxi h0 (by omega))]
     refine J_right (cor_mem (x:=x) (y:=y) (by unfold In64;omega) (by unfold In64;omega) (Or.inr ?_) ?_ (by unfold Mem;omega) h2)
     ·exact dn2_sign h2
     ·rintro ⟨_,q⟩
      have:=((meetI_mem _ _ _ _ _).1 q).2
      unfold Mem at this;omega
   ·have h2:Mem (meetI al ah (-9223372036854775807) 9223372036854775807).1 (meetI al ah (-9223372036854775807) 9223372036854775807).2 x :=
     (meetI_mem _ _ _ _ _).2 ⟨hx,by unfold Mem In64 at *;omega⟩
    have hin:=meet_norm_in ha1 ha2 (show In64 (-9223372036854775807) by unfold In64;omega) (show In64 9223372036854775807 by unfold In64;omega)
    rw [wrap64_id (tdiv_in hxi h0 (by omega))]
    refine J_left (J_right (cor_mem hin.1 hin.2 (Or.inr (dn_sign hd)) ?_ h2 hd))
    rintro ⟨q,_⟩
    have:=((meetI_mem _ _ _ _ _).1 q).2
    unfold Mem at this;omega
 ·rename_i hc
  show Mem (J (divA al ah bl bh) (C (al,ah) (dnI bl bh))).1 (J (divA al ah bl bh) (C (al,ah) (dnI bl bh))).2 _
  by_cases hp:0<y
  ·exact J_left (habove hp)
  ·have hd:=hdn (by omega)
   have hno:¬(Mem al ah (-9223372036854775808)/\Mem (dnI bl bh).1 (dnI bl bh).2 (-1)):=fun h=>hc ⟨(has_iff _ _ _).2 h.1,(has_iff _ _ _).2 h.2⟩
   rw [wrap64_id (tdiv_in hxi h0 (fun h=>hno ⟨h.1 ▸ hx,h.2 ▸ hd⟩))]
   exact J_right (cor_mem ha1 ha2 (Or.inr (dn_sign hd)) hno hx hd)
theorem div_exact {al ah bl bh:Int} (hb1:In64 bl) (hb2:In64 bh) (ha1:In64 al) (ha2:In64 ah):(divI al ah bl bh).2.2=true↔∀ x y,Mem al ah x->Mem bl bh y->y≠0->In64 (x.tdiv y):=by
 unfold divI
 split
 ·simp only [true_iff];intro x y hx hy;unfold Mem at hx hy;omega
 ·split
  ·rename_i hc
   simp only [Bool.false_eq_true,false_iff]
   intro h
   have h1:=(has_iff _ _ _).1 hc.1
   have h2:=((meetI_mem _ _ _ _ _).1 ((has_iff _ _ _).1 hc.2)).1
   have:=h _ _ h1 h2 (by omega)
   have t:(-9223372036854775808:Int).tdiv (-1)=9223372036854775808:=by rfl
   rw [t] at this;unfold In64 at this;omega
  ·rename_i hc
   simp only [true_iff]
   intro x y hx hy h0
   refine tdiv_in (by unfold Mem In64 at *;omega) h0 (fun h=>hc ⟨(has_iff _ _ _).2 (h.1 ▸ hx),(has_iff _ _ _).2 ?_⟩)
   exact (meetI_mem _ _ _ _ _).2 ⟨h.2 ▸ hy,by unfold Mem;omega⟩
theorem tmod_bd {x y:Int} (hy:y≠0):(0<=x->0<=x.tmod y/\x.tmod y<=x/\x.tmod y<farI y)/\(x<=0->x<=x.tmod y/\x.tmod y<=0 /\ -(farI y)<x.tmod y)/\(farI x<farI y->x.tmod y=x):=by
 have base:∀ n m:Int,0<=n->0<m->0<=n.tmod m/\n.tmod m<=n/\n.tmod m<m:=by
  intro n m hn hm
  rw [Int.tmod_eq_emod_of_nonneg hn]
  refine ⟨Int.emod_nonneg _ (by omega),?_,Int.emod_lt_of_pos _ hm⟩
  have h1:0<=m*(n/m):=Int.mul_nonneg (by omega) (Int.ediv_nonneg hn (by omega))
  rw [Int.emod_def];omega
 have key:∀ m:Int,0<m->(0<=x->0<=x.tmod m/\x.tmod m<=x/\x.tmod m<m)/\(x<=0->x<=x.tmod m/\x.tmod m<=0 /\ -m<x.tmod m)/\(farI x<m->x.tmod m=x):=by
  intro m hm
  refine ⟨fun h=>base x m h hm,fun h=>?_,fun h=>?_⟩
  ·obtain ⟨n,rfl⟩:∃ n,x = -n:=⟨-x,by omega⟩
   have:=base n m (by omega) hm
   rw [Int.neg_tmod];omega
  ·unfold farI at h
   split at h
   ·obtain ⟨n,rfl⟩:∃ n,x = -n:=⟨-x,by omega⟩
    rw [Int.neg_tmod,Int.tmod_eq_of_lt (by omega) (by omega)]
   ·exact Int.tmod_eq_of_lt (by omega) h
 by_cases h:0<y
 ·have e:farI y=y:=by unfold farI;rw [if_neg (by omega)]
  rw [e];exact key y h
 ·have e:farI y = -y:=by unfold farI;rw [if_pos (by omega)]
  rw [e]
  have:=key (-y) (by omega)
  rw [Int.tmod_neg] at this
  exact this
theorem far_mid {l h x:Int} (h1:l<=x) (h2:x<=h):farI x<=max (farI l) (farI h):=by
 unfold farI;split<;>split<;>split<;>omega
theorem far_up {a b:Int} (h0:0<=a) (h:a<=b):farI a<=farI b:=by unfold farI;split<;>split<;>omega
theorem far_dn {a b:Int} (h:a<=b) (h0:b<=0):farI b<=farI a:=by unfold farI;split<;>split<;>omega
theorem rem_side {bl bh y:Int} (hb1:In64 bl) (hb2:In64 bh) (hy:Mem bl bh y) (h0:y≠0):remNear bl bh<=farI y/\farI y<=remMost bl bh/\¬((rDn bl bh).2<(rDn bl bh).1/\(rUp bl bh).2<(rUp bl bh).1):=by
 unfold remNear remMost
 by_cases hp:0<y
 ·have hm:Mem (rUp bl bh).1 (rUp bl bh).2 y:=(meetI_mem _ _ _ _ _).2 ⟨hy,by unfold Mem In64 at *;omega⟩
  have c:=rUp_cases hb1 hb2
  unfold Mem at hm
  rw [if_neg (show ¬(rUp bl bh).2<(rUp bl bh).1 by omega),if_neg (show ¬(rUp bl bh).2<(rUp bl bh).1 by omega)]
  have c1:1<=(rUp bl bh).1:=by
   rcases c with c | c
   ·rw [c];simp
   ·exact c.1
  have p1:farI (rUp bl bh).1<=farI y:=far_up (by omega) hm.1
  have p2:farI y<=farI (rUp bl bh).2:=far_up (by omega) hm.2
  refine ⟨by omega,by omega,by omega⟩
 ·have hm:Mem (rDn bl bh).1 (rDn bl bh).2 y:=(meetI_mem _ _ _ _ _).2 ⟨hy,by unfold Mem In64 at *;omega⟩
  have c:=rDn_cases hb1 hb2
  unfold Mem at hm
  rw [if_neg (show ¬(rDn bl bh).2<(rDn bl bh).1 by omega),if_neg (show ¬(rDn bl bh).2<(rDn bl bh).1 by omega)]
  have c1:(rDn bl bh).2<=0:=by
   rcases c with c | c
   ·rw [c];simp
   ·omega
  have p1:farI (rDn bl bh).2<=farI y:=far_dn hm.2 c1
  have p2:farI y<=farI (rDn bl bh).1:=far_dn hm.1 (by omega)
  refine ⟨by omega,by omega,by omega⟩
theorem rem_mem {al ah bl bh x y:Int} (hb1:In64 bl) (hb2:In64 bh) (hx:Mem al ah x) (hy:Mem bl bh y) (h0:y≠0) :
  Mem (remI al ah bl bh).1 (remI al ah bl bh).2.1 (x.tmod y):=by
 obtain ⟨s1,s2,s3⟩:=rem_side hb1 hb2 hy h0
 have b:=tmod_bd (x:=x) h0
 unfold remI
 rw [if_neg (by unfold Mem at hx;omega)]
 split
 ·rename_i k
  have ex:x=al:=by unfold Mem at hx;omega
  have ey:y=bl:=by unfold Mem at hy;omega
  subst ex ey
  split
  ·rename_i k1
   subst k1
   have:x.tmod (-1)=0:=by rw [Int.tmod_neg,Int.tmod_one]
   rw [this];unfold Mem;simp
  ·unfold Mem;simp
 ·split
  ·rename_i k kn
   have:=far_mid hx.1 hx.2
   rw [b.2.2 (by omega)]
   exact hx
  ·show Mem (min 0 (max al (-(remMost bl bh-1)))) (max 0 (min ah (remMost bl bh-1))) _
   unfold Mem at *
   by_cases hz:0<=x
   ·have:=b.1 hz;omega
   ·have:=b.2.1 (by omega);omega
end
section
open Go.RowKit
def Got (S:Int->Prop) (p:Int×Int):Prop:=p=(1,0)\/(p.1<=p.2/\S p.1/\S p.2)
theorem min_or {S:Int->Prop} {a b:Int} (ha:S a) (hb:S b):S (min a b):=by
 rcases Int.le_total a b with h | h
 ·rw [Int.min_eq_left h];exact ha
 ·rw [Int.min_eq_right h];exact hb
theorem max_or {S:Int->Prop} {a b:Int} (ha:S a) (hb:S b):S (max a b):=by
 rcases Int.le_total a b with h | h
 ·rw [Int.max_eq_right h];exact hb
 ·rw [Int.max_eq_left h];exact ha
theorem Got.join {S:Int->Prop} {p q:Int×Int} (a:Got S p) (b:Got S q):Got S (J p q):=by
 unfold J joinI normI
 rcases a with rfl | ⟨a1,a2,a3⟩
 ·rw [if_pos (by decide)]
  rcases b with rfl | ⟨b1,b2,b3⟩
  ·rw [if_pos (by decide)];exact Or.inl rfl
  ·rw [if_neg (by omega)];exact Or.inr ⟨b1,b2,b3⟩
 ·rw [if_neg (by omega)]
  rcases b with rfl | ⟨b1,b2,b3⟩
  ·rw [if_pos (by decide)];exact Or.inr ⟨a1,a2,a3⟩
  ·rw [if_neg (by omega)]
   exact Or.inr ⟨by simp only;omega,min_or a2 b2,max_or a3 b3⟩
theorem cor_got {S:Int->Prop} {al ah bl bh:Int} (h:∀ u v,Mem al ah u->Mem bl bh v->S (quoI u v)):Got S (cornersI al ah bl bh):=by
 unfold cornersI
 by_cases c:ah<al\/bh<bl
 ·rw [if_pos c];exact Or.inl rfl
 ·rw [if_neg c]
  have m1:Mem al ah al:=by unfold Mem;omega
  have m2:Mem al ah ah:=by unfold Mem;omega
  have m3:Mem bl bh bl:=by unfold Mem;omega
  have m4:Mem bl bh bh:=by unfold Mem;omega
  refine Or.inr ⟨?_,?_,?_⟩
  ·simp only [min4,max4];omega
  ·exact min_or (min_or (h _ _ m1 m3) (h _ _ m1 m4)) (min_or (h _ _ m2 m3) (h _ _ m2 m4))
  ·exact max_or (max_or (h _ _ m1 m3) (h _ _ m1 m4)) (max_or (h _ _ m2 m3) (h _ _ m2 m4))
theorem div_got (al ah bl bh:Int):Got (DivS al ah bl bh) ((divI al ah bl bh).1,(divI al ah bl bh).2.1):=by
 have hA:Got (DivS al ah bl bh) (divA al ah bl bh):=by
  refine cor_got ?_
  intro u v hu hv
  have:=(meetI_mem _ _ _ _ _).1 hv
  exact ⟨u,v,hu,this.1,by have:=this.2;unfold Mem at this;omega,rfl⟩
 unfold divI
 split
 ·exact Or.inl rfl
 ·split
  ·rename_i hc
   have h1:=(has_iff _ _ _).1 hc.1
   have h2:=((meetI_mem _ _ _ _ _).1 ((has_iff _ _ _).1 hc.2)).1
   refine Got.join (Got.join (Got.join hA ?_) ?_) ?_
   ·have t:DivS al ah bl bh (-9223372036854775808):=⟨_,_,h1,h2,by omega,(by
     have t:(-9223372036854775808:Int).tdiv (-1)=9223372036854775808:=by rfl
     rw [t];unfold wrap64;omega)⟩
    exact Or.inr ⟨Int.le_refl _,t,t⟩
   ·refine cor_got ?_
    intro u v hu hv
    have a:=(meetI_mem _ _ _ _ _).1 hu
    have b:=(meetI_mem _ _ _ _ _).1 hv
    exact ⟨u,v,a.1,b.1,by have:=b.2;unfold Mem at this;omega,rfl⟩
   ·refine cor_got ?_
    intro u v hu hv
    have b:=(meetI_mem _ _ _ _ _).1 ((meetI_mem _ _ _ _ _).1 hv).1
    have e:u = -9223372036854775808:=by simp only [Mem] at hu;omega
    exact ⟨u,v,e ▸ h1,b.1,by have:=b.2;unfold Mem at this;omega,rfl⟩
  ·refine Got.join hA (cor_got ?_)
   intro u v hu hv
   have b:=(meetI_mem _ _ _ _ _).1 hv
   exact ⟨u,v,hu,b.1,by have:=b.2;unfold Mem at this;omega,rfl⟩
theorem div_hull {al ah bl bh:Int} (ha1:In64 al) (ha2:In64 ah) (hb1:In64 bl) (hb2:In64 bh):Hull (DivS al ah bl bh) (divI al ah bl bh).1 (divI al ah bl bh).2.1:=by
 have hm:∀ v,DivS al ah bl bh v->(divI al ah bl bh).1<=v/\v<=(divI al ah bl bh).2.1:=by
  rintro v ⟨x,y,hx,hy,h0,rfl⟩
  exact div_mem ha1 ha2 hb1 hb2 hx hy h0
 rcases div_got al ah bl bh with h | ⟨_,h2,h3⟩
 ·have e1:(divI al ah bl bh).1=1:=congrArg Prod.fst h
  have e2:(divI al ah bl bh).2.1=0:=congrArg Prod.snd h
  exact Or.inl ⟨e1,e2,fun v hv=>by have:=hm v hv;omega⟩
 ·exact Or.inr ⟨h2,h3,hm⟩
end
section
open Go.RowKit
theorem hull_in {S:Int->Prop} {l h:Int} (H:Hull S l h) (hS:∀ v,S v->In64 v):In64 l/\In64 h:=by
 rcases H with ⟨rfl,rfl,_⟩ | ⟨a,b,_⟩
 ·unfold In64;omega
 ·exact ⟨hS _ a,hS _ b⟩
def negN (a:Int×Int×Nat×Nat×Bool):Int×Int×Nat×Nat×Bool :=
 makeN (negI a.1 a.2.1).1 (negI a.1 a.2.1).2.1 (negC a.2.2.1 a.2.2.2.1 (negI a.1 a.2.1).2.2).1 (negC a.2.2.1 a.2.2.2.1 (negI a.1 a.2.1).2.2).2
def addN (a b:Int×Int×Nat×Nat×Bool):Int×Int×Nat×Nat×Bool :=
 makeN (addI a.1 a.2.1 b.1 b.2.1).1 (addI a.1 a.2.1 b.1 b.2.1).2.1 (addC a.2.2.1 a.2.2.2.1 b.2.2.1 b.2.2.2.1 (addI a.1 a.2.1 b.1 b.2.1).2.2).1 (addC a.2.2.1 a.2.2.2.1 b.2.2.1 b.2.2.2.1 (addI a.1 a.2.1 b.1 b.2.1).2.2).2
def subN (a b:Int×Int×Nat×Nat×Bool):Int×Int×Nat×Nat×Bool :=
 makeN (subI a.1 a.2.1 b.1 b.2.1).1 (subI a.1 a.2.1 b.1 b.2.1).2.1 (subC a.2.2.1 a.2.2.2.1 b.2.2.1 b.2.2.2.1 (subI a.1 a.2.1 b.1 b.2.1).2.2).1 (subC a.2.2.1 a.2.2.2.1 b.2.2.1 b.2.2.2.1 (subI a.1 a.2.1 b.1 b.2.1).2.2).2
theorem negN_mem {a:Int×Int×Nat×Nat×Bool} {x:Int} (hx:In64 x) (ha:MemN a x):MemN (negN a) (wrap64 (-x)):=by
 have H:=neg_hull a.1 a.2.1
 have i:=hull_in H (fun v ⟨_,_,e⟩=>by rw [e];exact wrap64_in _)
 unfold negN
 rw [make_mem i.1 i.2 (wrap64_in _)]
 have m:=H.mem ⟨x,⟨ha.2.1,ha.2.2.1⟩,rfl⟩
 refine ⟨m.1,m.2,neg_memC ha.2.2.2 hx ?_⟩
 cases e:(negI a.1 a.2.1).2.2
 ·exact Or.inr ⟨rfl,rfl⟩
 ·have n:=(neg_exact a.1 a.2.1).1 e x ⟨ha.2.1,ha.2.2.1⟩
  exact Or.inl ⟨wrap64_id n,wrap64_in _⟩
theorem addN_mem {a b:Int×Int×Nat×Nat×Bool} {x y:Int} (ha:MemN a x) (hb:MemN b y):MemN (addN a b) (wrap64 (x+y)):=by
 have H:=add_hull a.1 a.2.1 b.1 b.2.1
 have i:=hull_in H (fun v ⟨_,_,_,_,e⟩=>by rw [e];exact wrap64_in _)
 unfold addN
 rw [make_mem i.1 i.2 (wrap64_in _)]
 have m:=H.mem ⟨x,y,⟨ha.2.1,ha.2.2.1⟩,⟨hb.2.1,hb.2.2.1⟩,rfl⟩
 refine ⟨m.1,m.2,add_memC ha.2.2.2 hb.2.2.2 ?_⟩
 cases e:(addI a.1 a.2.1 b.1 b.2.1).2.2
 ·exact Or.inr ⟨rfl,rfl⟩
 ·have n:=(add_exact a.1 a.2.1 b.1 b.2.1).1 e x y ⟨ha.2.1,ha.2.2.1⟩ ⟨hb.2.1,hb.2.2.1⟩
  exact Or.inl ⟨wrap64_id n,wrap64_in _⟩
theorem subN_mem {a b:Int×Int×Nat×Nat×Bool} {x y:Int} (ha:MemN a x) (hb:MemN b y):MemN (subN a b) (wrap64 (x-y)):=by
 have H:=sub_hull a.1 a.2.1 b.1 b.2.1
 have i:=hull_in H (fun v ⟨_,_,_,_,e⟩=>by rw [e];exact wrap64_in _)
 unfold subN
 rw [make_mem i.1 i.2 (wrap64_in _)]
 have m:=H.mem ⟨x,y,⟨ha.2.1,ha.2.2.1⟩,⟨hb.2.1,hb.2.2.1⟩,rfl⟩
 refine ⟨m.1,m.2,sub_memC ha.2.2.2 hb.2.2.2 ?_⟩
 cases e:(subI a.1 a.2.1 b.1 b.2.1).2.2
 ·exact Or.inr ⟨rfl,rfl⟩
 ·have n:=(sub_exact a.1 a.2.1 b.1 b.2.1).1 e x y ⟨ha.2.1,ha.2.2.1⟩ ⟨hb.2.1,hb.2.2.1⟩
  exact Or.inl ⟨wrap64_id n,wrap64_in _⟩
end
section
open Go.RowKit
def mulN (a b:Int×Int×Nat×Nat×Bool):Int×Int×Nat×Nat×Bool :=
 makeN (mulI a.1 a.2.1 b.1 b.2.1).1 (mulI a.1 a.2.1 b.1 b.2.1).2.1 (mulC a.2.2.1 a.2.2.2.1 b.2.2.1 b.2.2.2.1 (mulI a.1 a.2.1 b.1 b.2.1).2.2).1 (mulC a.2.2.1 a.2.2.2.1 b.2.2.1 b.2.2.2.1 (mulI a.1 a.2.1 b.1 b.2.1).2.2).2
theorem mulI_in (al ah bl bh:Int):In64 (mulI al ah bl bh).1/\In64 (mulI al ah bl bh).2.1:=by
 cases e:(mulI al ah bl bh).2.2
 ·unfold mulI at e ⊢
  split at e
  ·cases e
  ·rename_i h1
   rw [if_neg h1]
   split at e
   ·cases e
   ·rename_i h2
    rw [if_neg h2]
    split
    ·exact ⟨wrap64_in _,wrap64_in _⟩
    ·exact ⟨show In64 (-9223372036854775808) by unfold In64;omega,show In64 9223372036854775807 by unfold In64;omega⟩
 ·exact hull_in (mul_hull e) (fun v ⟨_,_,_,_,z⟩=>by rw [z];exact wrap64_in _)
theorem mulN_mem {a b:Int×Int×Nat×Nat×Bool} (ra:RawN a) (rb:RawN b) {x y:Int} (ha:MemN a x) (hb:MemN b y):MemN (mulN a b) (wrap64 (x*y)):=by
 have i:=mulI_in a.1 a.2.1 b.1 b.2.1
 unfold mulN
 rw [make_mem i.1 i.2 (wrap64_in _)]
 have m:=mul_mem (al:=a.1) (ah:=a.2.1) (bl:=b.1) (bh:=b.2.1) ⟨x,y,⟨ha.2.1,ha.2.2.1⟩,⟨hb.2.1,hb.2.2.1⟩,rfl⟩
 refine ⟨m.1,m.2,mul_memC ra.2.2.2 rb.2.2.2 ha.2.2.2 hb.2.2.2 ?_⟩
 cases e:(mulI a.1 a.2.1 b.1 b.2.1).2.2
 ·exact Or.inr ⟨rfl,rfl⟩
 ·have n:=(mul_exact a.1 a.2.1 b.1 b.2.1).1 e x y ⟨ha.2.1,ha.2.2.1⟩ ⟨hb.2.1,hb.2.2.1⟩
  exact Or.inl ⟨wrap64_id n,wrap64_in _⟩
end
section
open Go.RowKit
def divN (a b:Int×Int×Nat×Nat×Bool):Int×Int×Nat×Nat×Bool :=
 makeN (divI a.1 a.2.1 b.1 b.2.1).1 (divI a.1 a.2.1 b.1 b.2.1).2.1 (divC a.2.2.1 a.2.2.2.1 b.2.2.1 b.2.2.2.1).1 (divC a.2.2.1 a.2.2.2.1 b.2.2.1 b.2.2.2.1).2
def remN (a b:Int×Int×Nat×Nat×Bool):Int×Int×Nat×Nat×Bool :=
 makeN (remI a.1 a.2.1 b.1 b.2.1).1 (remI a.1 a.2.1 b.1 b.2.1).2.1 (remC a.2.2.1 a.2.2.2.1 b.2.2.1 b.2.2.2.1).1 (remC a.2.2.1 a.2.2.2.1 b.2.2.1 b.2.2.2.1).2
theorem mem_in {a:Int×Int×Nat×Nat×Bool} (ra:RawN a) {x:Int} (h:MemN a x):In64 x:=by
 have p:=ra.1;have q:=ra.2.1;have r:=h.2.1;have s:=h.2.2.1
 unfold In64 at *;omega
theorem quo_minus {x y:Int} (hx:In64 x):wrap64 (x.tdiv y)=if y = -1 then wrap64 (-x) else x.tdiv y:=by
 split
 ·rename_i e;subst e;rw [Int.tdiv_neg,Int.tdiv_one]
 ·rename_i e;exact wrap64_id (tdiv_in64 hx e)
theorem divI_in {al ah bl bh:Int} (ha1:In64 al) (ha2:In64 ah) (hb1:In64 bl) (hb2:In64 bh):In64 (divI al ah bl bh).1/\In64 (divI al ah bl bh).2.1 :=
 hull_in (div_hull ha1 ha2 hb1 hb2) (fun v ⟨_,_,_,_,_,e⟩=>by rw [e];exact wrap64_in _)
theorem divN_mem {a b:Int×Int×Nat×Nat×Bool} (ra:RawN a) (rb:RawN b) {x y:Int} (ha:MemN a x) (hb:MemN b y) (h0:y≠0):MemN (divN a b) (wrap64 (x.tdiv y)):=by
 have i:=divI_in ra.1 ra.2.1 rb.1 rb.2.1
 unfold divN
 rw [make_mem i.1 i.2 (wrap64_in _)]
 have m:=div_mem ra.1 ra.2.1 rb.1 rb.2.1 (show Mem a.1 a.2.1 x from ⟨ha.2.1,ha.2.2.1⟩) (show Mem b.1 b.2.1 y from ⟨hb.2.1,hb.2.2.1⟩) h0
 exact ⟨m.1,m.2,div_memC ha.2.2.2 hb.2.2.2 (mem_in ra ha) h0 (quo_minus (mem_in ra ha))⟩
theorem tmod_in {x y:Int} (hx:In64 x) (h0:y≠0):In64 (x.tmod y):=by
 have b:=tmod_bd (x:=x) h0
 unfold In64 at *
 by_cases c:0<=x
 ·have:=b.1 c;omega
 ·have:=b.2.1 (by omega);omega
theorem remMost_pos {bl bh:Int} (hb1:In64 bl) (hb2:In64 bh) (h:¬((rDn bl bh).2<(rDn bl bh).1/\(rUp bl bh).2<(rUp bl bh).1)):1<=remMost bl bh:=by
 obtain ⟨y,hy,h0⟩:∃ y,Mem bl bh y/\y≠0:=by
  rcases Classical.em (∃ y,Mem bl bh y/\y≠0) with k | k
  ·exact k
  ·exfalso
   apply h
   have z:∀ y,Mem bl bh y->y=0:=fun y hy=>Classical.byContradiction fun c=>k ⟨y,hy,c⟩
   constructor
   ·unfold rDn meetI normI
    split
    ·simp
    ·rename_i c
     have:=z bl ⟨Int.le_refl _,by omega⟩
     omega
   ·unfold rUp meetI normI
    split
    ·simp
    ·rename_i c
     have:=z bh ⟨by omega,Int.le_refl _⟩
     omega
 have s:=rem_side hb1 hb2 hy h0
 have:1<=farI y:=by unfold farI;split<;>omega
 omega
theorem remI_in {al ah bl bh:Int} (ha1:In64 al) (ha2:In64 ah) (hb1:In64 bl) (hb2:In64 bh):In64 (remI al ah bl bh).1/\In64 (remI al ah bl bh).2.1:=by
 unfold remI
 split
 ·exact ⟨show In64 1 by unfold In64;omega,show In64 0 by unfold In64;omega⟩
 ·rename_i h1
  split
  ·by_cases c:bl = -1
   ·rw [if_pos c];exact ⟨show In64 0 by unfold In64;omega,show In64 0 by unfold In64;omega⟩
   ·rw [if_neg c]
    by_cases z:bl=0
    ·rw [z,Int.tmod_zero];exact ⟨ha1,ha1⟩
    ·exact ⟨tmod_in ha1 z,tmod_in ha1 z⟩
  ·split
   ·exact ⟨ha1,ha2⟩
   ·have p:=remMost_pos hb1 hb2 (fun c=>h1 (Or.inr c))
    unfold In64 at *
    simp only
    omega
theorem remN_mem {a b:Int×Int×Nat×Nat×Bool} (ra:RawN a) (rb:RawN b) {x y:Int} (ha:MemN a x) (hb:MemN b y) (h0:y≠0):MemN (remN a b) (x.tmod y):=by
 have i:=remI_in ra.1 ra.2.1 rb.1 rb.2.1
 unfold remN
 rw [make_mem i.1 i.2 (tmod_in (mem_in ra ha) h0)]
 have m:=rem_mem rb.1 rb.2.1 (show Mem a.1 a.2.1 x from ⟨ha.2.1,ha.2.2.1⟩) (show Mem b.1 b.2.1 y from ⟨hb.2.1,hb.2.2.1⟩) h0
 exact ⟨m.1,m.2,rem_memC ha.2.2.2 hb.2.2.2 (mem_in ra ha) (mem_in rb hb) h0⟩
end
section
open Go.RowKit
theorem meetN_raw {a b:Int×Int×Nat×Nat×Bool} (ha:RawN a) (hb:RawN b):RawN (meetN a b):=by
 unfold meetN meetRaw
 have ra:=normN_raw ha
 have rb:=normN_raw hb
 split
 ·exact bot_raw
 ·split
  ·exact bot_raw
  ·have i:=meetI_in ra.1 ra.2.1 rb.1 rb.2.1
   have c:=meet_u64 ra.2.2.1 ra.2.2.2 rb.2.2.1 rb.2.2.2
   exact make_raw i.1 i.2 c.1 c.2
theorem nz_in {x:Int} (h:In64 x):In64 (if x=0 then 1 else x)/\In64 (if x=0 then -1 else x):=by
 unfold In64 at *;constructor<;>split<;>omega
theorem nzRaw_norm {a:Int×Int×Nat×Nat×Bool} (ha:RawN a) (na:NormN a):NormN (nzRaw a):=by
 unfold nzRaw
 split
 ·exact na
 ·exact make_norm (nz_in ha.1).1 (nz_in ha.2.1).2
theorem nzRaw_raw {a:Int×Int×Nat×Nat×Bool} (ha:RawN a):RawN (nzRaw a):=by
 unfold nzRaw
 split
 ·exact ha
 ·exact make_raw (nz_in ha.1).1 (nz_in ha.2.1).2 ha.2.2.1 ha.2.2.2
theorem nonZeroN_norm {a:Int×Int×Nat×Nat×Bool} (ha:RawN a):NormN (nonZeroN a):=nzRaw_norm (normN_raw ha) (normN_norm ha)
theorem nonZeroN_raw {a:Int×Int×Nat×Nat×Bool} (ha:RawN a):RawN (nonZeroN a):=nzRaw_raw (normN_raw ha)
def insN (a:Int×Int×Nat×Nat×Bool) (v:Int):Bool := !a.2.2.2.2&&hasI a.1 a.2.1 v&&hasC a.2.2.1 a.2.2.2.1 v
theorem insN_iff {a:Int×Int×Nat×Nat×Bool} (ha:RawN a) {v:Int} (hv:In64 v):insN a v=true↔MemN a v:=by
 unfold insN MemN hasI
 rw [Bool.and_eq_true,Bool.and_eq_true,Bool.and_eq_true,hasC_iff ha.2.2.2 hv]
 simp only [Bool.not_eq_true',decide_eq_true_eq]
 constructor
 ·rintro ⟨⟨a,b,c⟩,d⟩;exact ⟨a,b,c,d⟩
 ·rintro ⟨a,b,c,d⟩;exact ⟨⟨a,b,c⟩,d⟩
def topN:Int×Int×Nat×Nat×Bool:=makeN (-9223372036854775808) 9223372036854775807 1 0
theorem min_in:In64 (-9223372036854775808):=by unfold In64;omega
theorem max_in:In64 9223372036854775807:=by unfold In64;omega
theorem u_one:U64 1:=by unfold U64;omega
theorem top_raw:RawN topN:=make_raw min_in max_in u_one u_zero
def lqN (a b:Int×Int×Nat×Nat×Bool):Bool:=leqN (normN a) (normN b)
theorem lqN_iff {a b:Int×Int×Nat×Nat×Bool} (ha:RawN a) (hb:RawN b):lqN a b=true↔∀ v,In64 v->MemN a v->MemN b v:=by
 unfold lqN
 rw [leqN_iff (normN_norm ha) (normN_norm hb) (normN_raw ha).2.2.2 (normN_raw hb).2.2.2]
 exact ⟨fun h v hv m=>(normN_mem hb hv).1 (h v hv ((normN_mem ha hv).2 m)),fun h v hv m=>(normN_mem hb hv).2 (h v hv ((normN_mem ha hv).1 m))⟩
end
section
open Go.RowKit
theorem nremG_u64 {cM dM dR:Nat} (h1:U64 cM) (h3:U64 dM) (h:0<cM\/0<dM):U64 (remG cM dM dR)/\0<remG cM dM dR:=by
 unfold remG U64 at *
 have p:0<Nat.gcd cM dM:=by
  rcases h with h | h
  ·exact Nat.gcd_pos_of_pos_left _ h
  ·exact Nat.gcd_pos_of_pos_right _ h
 have q:Nat.gcd cM dM<18446744073709551616:=by
  rcases h with h | h
  ·have:=Nat.le_of_dvd h (Nat.gcd_dvd_left cM dM);omega
  ·have:=Nat.le_of_dvd h (Nat.gcd_dvd_right cM dM);omega
 have r:=Nat.le_of_dvd p (Nat.gcd_dvd_left (Nat.gcd cM dM) (rF dM dR))
 exact ⟨by omega,Nat.gcd_pos_of_pos_left _ p⟩
theorem nbyG_u64 (g:Nat) (e:Bool):U64 (byG g e):=by
 unfold byG
 split
 ·rename_i h;exact h.2
 ·exact twoN_u64 g
theorem ncls_u64 {f:Nat} {s:Bool} {g:Nat} (h:0<g) (e:Bool):U64 (byG g e)/\U64 (restN f s (byG g e)):=by
 have a:=nbyG_u64 g e
 have b:=restN_lt (f:=f) (s:=s) (byG_pos h e)
 refine ⟨a,?_⟩
 unfold U64 at *;omega
theorem nneg_u64 {cM cR:Nat} {e:Bool} (h1:U64 cM) (h2:U64 cR):U64 (negC cM cR e).1/\U64 (negC cM cR e).2:=by
 unfold negC
 split
 ·exact ⟨show 0<18446744073709551616 by omega,bitsN_u64 _⟩
 ·exact ncls_u64 (by omega) e
theorem ngcd_pos2 {a b:Nat} (h:¬(a=0/\b=0)):0<Nat.gcd a b:=by
 by_cases hc:a=0
 ·rw [hc,Nat.gcd_zero_left];omega
 ·exact Nat.gcd_pos_of_pos_left _ (by omega)
theorem nadd_u64 {cM cR dM dR:Nat} {e:Bool} (h1:U64 cM) (h2:U64 cR) (h3:U64 dM) (h4:U64 dR):U64 (addC cM cR dM dR e).1/\U64 (addC cM cR dM dR e).2:=by
 unfold addC
 split
 ·exact ⟨show 0<18446744073709551616 by omega,bitsN_u64 _⟩
 ·rename_i h;exact ncls_u64 (ngcd_pos2 h) e
theorem nsub_u64 {cM cR dM dR:Nat} {e:Bool} (h1:U64 cM) (h2:U64 cR) (h3:U64 dM) (h4:U64 dR):U64 (subC cM cR dM dR e).1/\U64 (subC cM cR dM dR e).2:=by
 unfold subC
 split
 ·exact ⟨show 0<18446744073709551616 by omega,bitsN_u64 _⟩
 ·rename_i h;exact ncls_u64 (ngcd_pos2 h) e
theorem nmul_u64 {cM cR dM dR:Nat} {e:Bool} (h1:U64 cM) (h2:U64 cR) (h3:U64 dM) (h4:U64 dR):U64 (mulC cM cR dM dR e).1/\U64 (mulC cM cR dM dR e).2:=by
 unfold mulC
 split
 ·exact ⟨show 0<18446744073709551616 by omega,bitsN_u64 _⟩
 ·split
  ·exact ⟨show 0<18446744073709551616 by omega,show 0<18446744073709551616 by omega⟩
  ·rename_i h h';exact ncls_u64 (mulG_pos h2 h4 h (fun a=>h' (Or.inl a)) (fun a=>h' (Or.inr a))) e
theorem ndiv_u64 {cM cR dM dR:Nat} (h1:U64 cM):U64 (divC cM cR dM dR).1/\U64 (divC cM cR dM dR).2:=by
 have one:U64 1/\U64 0:=⟨show 1<18446744073709551616 by omega,show 0<18446744073709551616 by omega⟩
 unfold divC
 split
 ·exact one
 ·split
  ·exact ⟨one.2,bitsN_u64 _⟩
  ·split
   ·exact one
   ·rename_i h h' h''
    have a:=Nat.div_le_self cM (wrap64 (dR:Int)).natAbs
    have d:=Nat.div_add_mod cM (wrap64 (dR:Int)).natAbs
    have p:0<cM/(wrap64 (dR:Int)).natAbs:=by
     rcases Nat.eq_zero_or_pos (cM/(wrap64 (dR:Int)).natAbs) with z | z
     ·rw [z] at d;simp at d;omega
     ·exact z
    have b:=restN_lt (f:=cR%cM/(wrap64 (dR:Int)).natAbs) (s:=decide (wrap64 (dR:Int)<0)) p
    unfold U64 at *;simp only;omega
theorem nrem_u64 {cM cR dM dR:Nat} (h1:U64 cM) (h3:U64 dM):U64 (remC cM cR dM dR).1/\U64 (remC cM cR dM dR).2:=by
 have one:U64 1/\U64 0:=⟨show 1<18446744073709551616 by omega,show 0<18446744073709551616 by omega⟩
 unfold remC
 split
 ·exact one
 ·split
  ·exact ⟨one.2,bitsN_u64 _⟩
  ·rename_i h h'
   have a:=nremG_u64 (dR:=dR) h1 h3 (by omega)
   have b:=restN_lt (f:=rF cM cR) (s:=rS cM cR) a.2
   have a1:=a.1
   refine ⟨a1,?_⟩
   unfold U64 at *;omega
theorem nneg_in (al ah:Int):In64 (negI al ah).1/\In64 (negI al ah).2.1:=hull_in (neg_hull al ah) (fun v ⟨_,_,e⟩=>by rw [e];exact wrap64_in _)
theorem nadd_in (al ah bl bh:Int):In64 (addI al ah bl bh).1/\In64 (addI al ah bl bh).2.1:=hull_in (add_hull al ah bl bh) (fun v ⟨_,_,_,_,e⟩=>by rw [e];exact wrap64_in _)
theorem nsub_in (al ah bl bh:Int):In64 (subI al ah bl bh).1/\In64 (subI al ah bl bh).2.1:=hull_in (sub_hull al ah bl bh) (fun v ⟨_,_,_,_,e⟩=>by rw [e];exact wrap64_in _)
def ap2 (f:(Int×Int×Nat×Nat×Bool)->(Int×Int×Nat×Nat×Bool)->(Int×Int×Nat×Nat×Bool)) (x y:Int×Int×Nat×Nat×Bool):Int×Int×Nat×Nat×Bool:=if x.2.2.2.2=true\/y.2.2.2.2=true then botN else f x y
theorem ap2_left {f:(Int×Int×Nat×Nat×Bool)->(Int×Int×Nat×Nat×Bool)->(Int×Int×Nat×Nat×Bool)} {x y:Int×Int×Nat×Nat×Bool} (h:x.2.2.2.2=true):ap2 f x y=botN:=by unfold ap2;rw [if_pos (Or.inl h)]
theorem ap2_right {f:(Int×Int×Nat×Nat×Bool)->(Int×Int×Nat×Nat×Bool)->(Int×Int×Nat×Nat×Bool)} {x y:Int×Int×Nat×Nat×Bool} (h:y.2.2.2.2=true):ap2 f x y=botN:=by unfold ap2;rw [if_pos (Or.inr h)]
theorem ap2_some {f:(Int×Int×Nat×Nat×Bool)->(Int×Int×Nat×Nat×Bool)->(Int×Int×Nat×Nat×Bool)} {x y:Int×Int×Nat×Nat×Bool} (h:x.2.2.2.2=false) (h':y.2.2.2.2=false):ap2 f x y=f x y:=by unfold ap2;rw [if_neg (by rw [h,h'];simp)]
theorem negN_raw {a:Int×Int×Nat×Nat×Bool} (ra:RawN a):RawN (negN a):=by
 have i:=(show In64 (negI a.1 a.2.1).1/\In64 (negI a.1 a.2.1).2.1 from nneg_in _ _)
 have u:=(show U64 (negC a.2.2.1 a.2.2.2.1 (negI a.1 a.2.1).2.2).1/\U64 (negC a.2.2.1 a.2.2.2.1 (negI a.1 a.2.1).2.2).2 from nneg_u64 ra.2.2.1 ra.2.2.2)
 unfold negN
 exact make_raw i.1 i.2 u.1 u.2
theorem addN_raw {a b:Int×Int×Nat×Nat×Bool} (ra:RawN a) (rb:RawN b):RawN (addN a b):=by
 have i:=(show In64 (addI a.1 a.2.1 b.1 b.2.1).1/\In64 (addI a.1 a.2.1 b.1 b.2.1).2.1 from nadd_in _ _ _ _)
 have u:=(show U64 (addC a.2.2.1 a.2.2.2.1 b.2.2.1 b.2.2.2.1 (addI a.1 a.2.1 b.1 b.2.1).2.2).1/\U64 (addC a.2.2.1 a.2.2.2.1 b.2.2.1 b.2.2.2.1 (addI a.1 a.2.1 b.1 b.2.1).2.2).2 from nadd_u64 ra.2.2.1 ra.2.2.2 rb.2.2.1 rb.2.2.2)
 unfold addN
 exact make_raw i.1 i.2 u.1 u.2
theorem subN_raw {a b:Int×Int×Nat×Nat×Bool} (ra:RawN a) (rb:RawN b):RawN (subN a b):=by
 have i:=(show In64 (subI a.1 a.2.1 b.1 b.2.1).1/\In64 (subI a.1 a.2.1 b.1 b.2.1).2.1 from nsub_in _ _ _ _)
 have u:=(show U64 (subC a.2.2.1 a.2.2.2.1 b.2.2.1 b.2.2.2.1 (subI a.1 a.2.1 b.1 b.2.1).2.2).1/\U64 (subC a.2.2.1 a.2.2.2.1 b.2.2.1 b.2.2.2.1 (subI a.1 a.2.1 b.1 b.2.1).2.2).2 from nsub_u64 ra.2.2.1 ra.2.2.2 rb.2.2.1 rb.2.2.2)
 unfold subN
 exact make_raw i.1 i.2 u.1 u.2
theorem mulN_raw {a b:Int×Int×Nat×Nat×Bool} (ra:RawN a) (rb:RawN b):RawN (mulN a b):=by
 have i:=(show In64 (mulI a.1 a.2.1 b.1 b.2.1).1/\In64 (mulI a.1 a.2.1 b.1 b.2.1).2.1 from mulI_in _ _ _ _)
 have u:=(show U64 (mulC a.2.2.1 a.2.2.2.1 b.2.2.1 b.2.2.2.1 (mulI a.1 a.2.1 b.1 b.2.1).2.2).1/\U64 (mulC a.2.2.1 a.2.2.2.1 b.2.2.1 b.2.2.2.1 (mulI a.1 a.2.1 b.1 b.2.1).2.2).2 from nmul_u64 ra.2.2.1 ra.2.2.2 rb.2.2.1 rb.2.2.2)
 unfold mulN
 exact make_raw i.1 i.2 u.1 u.2
theorem divN_raw {a b:Int×Int×Nat×Nat×Bool} (ra:RawN a) (rb:RawN b):RawN (divN a b):=by
 have i:=(show In64 (divI a.1 a.2.1 b.1 b.2.1).1/\In64 (divI a.1 a.2.1 b.1 b.2.1).2.1 from divI_in ra.1 ra.2.1 rb.1 rb.2.1)
 have u:=(show U64 (divC a.2.2.1 a.2.2.2.1 b.2.2.1 b.2.2.2.1).1/\U64 (divC a.2.2.1 a.2.2.2.1 b.2.2.1 b.2.2.2.1).2 from ndiv_u64 ra.2.2.1)
 unfold divN
 exact make_raw i.1 i.2 u.1 u.2
theorem remN_raw {a b:Int×Int×Nat×Nat×Bool} (ra:RawN a) (rb:RawN b):RawN (remN a b):=by
 have i:=(show In64 (remI a.1 a.2.1 b.1 b.2.1).1/\In64 (remI a.1 a.2.1 b.1 b.2.1).2.1 from remI_in ra.1 ra.2.1 rb.1 rb.2.1)
 have u:=(show U64 (remC a.2.2.1 a.2.2.2.1 b.2.2.1 b.2.2.2.1).1/\U64 (remC a.2.2.1 a.2.2.2.1 b.2.2.1 b.2.2.2.1).2 from nrem_u64 ra.2.2.1 rb.2.2.1)
 unfold remN
 exact make_raw i.1 i.2 u.1 u.2
theorem ap2_raw {f:(Int×Int×Nat×Nat×Bool)->(Int×Int×Nat×Nat×Bool)->(Int×Int×Nat×Nat×Bool)} {x y:Int×Int×Nat×Nat×Bool} (h:RawN (f x y)):RawN (ap2 f x y):=by
 unfold ap2;split
 ·exact bot_raw
 ·exact h
end
end Go.Proofs.YtnjmjnmhldhaoaaGreat
