import Derived.Test.YtpjpjhjjhoeijaaGreatKJr
set_option linter.all false
namespace Go.Proofs.YtpjpjhjjhoeijaaGreat
section
open Go.RowKit
theorem tdiv_abs_pos {x y:Int} (hy:0<y):(0<=x->0<=x.tdiv y/\x.tdiv y<=x)/\(x<=0->x<=x.tdiv y/\x.tdiv y<=0):=by
 have base:∀ n:Int,0<=n->0<=n.tdiv y/\n.tdiv y<=n:=by
  intro n hn
  rw [Int.tdiv_eq_ediv_of_nonneg hn]
  exact ⟨Int.ediv_nonneg hn (by omega),Int.ediv_le_self _ hn⟩
 refine ⟨base x,fun hx=>?_⟩
 obtain ⟨n,rfl⟩:∃ n,x = -n:=⟨-x,by omega⟩
 have:=base n (by omega)
 rw [Int.neg_tdiv]
 omega
theorem tdiv_half {x y:Int} (hy:2<=y) (hx:0<=x):2*x.tdiv y<=x:=by
 rw [Int.tdiv_eq_ediv_of_nonneg hx]
 have h1:x/y*y<=x:=Int.ediv_mul_le _ (by omega)
 have h2:0<=x/y:=Int.ediv_nonneg hx (by omega)
 have h3:=Int.mul_le_mul_of_nonneg_left hy h2
 omega
theorem tdiv_in {x y:Int} (hx:In64 x) (hy:y≠0) (hn:¬(x = -9223372036854775808/\y = -1)):In64 (x.tdiv y):=by
 unfold In64 at *
 by_cases h:0<y
 ·have a:=tdiv_abs_pos (x:=x) h
  by_cases h0:0<=x
  ·have:=a.1 h0;omega
  ·have:=a.2 (by omega);omega
 ·obtain ⟨z,rfl⟩:∃ z,y = -z:=⟨-y,by omega⟩
  rw [Int.tdiv_neg]
  have a:=tdiv_abs_pos (x:=x) (y:=z) (by omega)
  by_cases h0:0<=x
  ·have:=a.1 h0;omega
  ·have b:=a.2 (by omega)
   by_cases hz:z=1
   ·subst hz
    have:x ≠ -9223372036854775808:=fun e=>hn ⟨e,rfl⟩
    omega
   ·obtain ⟨n,rfl⟩:∃ n,x = -n:=⟨-x,by omega⟩
    have c:=tdiv_half (x:=n) (y:=z) (by omega) (by omega)
    rw [Int.neg_tdiv] at b ⊢
    omega
theorem quo_id {x y:Int} (hx:In64 x) (hy:y≠0) (hn:¬(x = -9223372036854775808/\y = -1)):quoI x y=x.tdiv y:=by
 unfold quoI;exact wrap64_id (tdiv_in hx hy hn)
theorem cor_mem {al ah bl bh x y:Int} (ha1:In64 al) (ha2:In64 ah) (hs:0<bl\/bh<0) (hno:¬(Mem al ah (-9223372036854775808)/\Mem bl bh (-1))) (hx:Mem al ah x) (hy:Mem bl bh y) :
  Mem (cornersI al ah bl bh).1 (cornersI al ah bl bh).2 (x.tdiv y):=by
 have e1:al<=ah:=by unfold Mem at hx;omega
 have e2:bl<=bh:=by unfold Mem at hy;omega
 have hq:∀ u v,(u=al\/u=ah)->(v=bl\/v=bh)->quoI u v=u.tdiv v:=by
  intro u v hu hv
  refine quo_id ?_ ?_ ?_
  ·rcases hu with rfl | rfl<;>assumption
  ·rcases hv with rfl | rfl<;>omega
  ·rintro ⟨p,q⟩
   apply hno
   constructor
   ·unfold Mem;rcases hu with h | h<;>unfold In64 at * <;> omega
   ·unfold Mem;rcases hv with h | h<;>omega
 unfold cornersI
 rw [if_neg (by omega),hq al bl (Or.inl rfl) (Or.inl rfl),hq al bh (Or.inl rfl) (Or.inr rfl),hq ah bl (Or.inr rfl) (Or.inl rfl),hq ah bh (Or.inr rfl) (Or.inr rfl)]
 rcases hs with h | h
 ·exact tdiv_corners_pos h hx hy
 ·exact tdiv_corners_neg h hx hy
theorem J_left {p q:Int×Int} {v:Int} (h:Mem p.1 p.2 v):Mem (J p q).1 (J p q).2 v:=joinI_mem (Or.inl h)
theorem J_right {p q:Int×Int} {v:Int} (h:Mem q.1 q.2 v):Mem (J p q).1 (J p q).2 v:=joinI_mem (Or.inr h)
theorem has_iff (l h v:Int):hasI l h v=true↔Mem l h v:=by unfold hasI Mem;simp
theorem meet_norm_in {l h p q:Int} (a:In64 l) (b:In64 h) (c:In64 p) (d:In64 q):In64 (meetI l h p q).1/\In64 (meetI l h p q).2:=by
 unfold meetI normI In64 at *
 split<;>simp only<;>omega
theorem up_sign (bl bh:Int):0<(upI bl bh).1:=by
 unfold upI meetI normI;split<;>simp only<;>omega
theorem dn_sign {bl bh:Int} {y:Int} (h:Mem (dnI bl bh).1 (dnI bl bh).2 y):(dnI bl bh).2<0:=by
 unfold dnI meetI normI Mem at *
 split<;>rename_i c<;>simp only [c,if_true,if_false] at h ⊢ <;> omega
theorem dn2_sign {l h:Int} {y:Int} (hm:Mem (meetI l h (-9223372036854775808) (-2)).1 (meetI l h (-9223372036854775808) (-2)).2 y):(meetI l h (-9223372036854775808) (-2)).2<0:=by
 unfold meetI normI Mem at *
 split<;>rename_i c<;>simp only [c,if_true,if_false] at hm ⊢ <;> omega
theorem div_mem {al ah bl bh x y:Int} (ha1:In64 al) (ha2:In64 ah) (hb1:In64 bl) (hb2:In64 bh) (hx:Mem al ah x) (hy:Mem bl bh y) (h0:y≠0) :
  Mem (divI al ah bl bh).1 (divI al ah bl bh).2.1 (wrap64 (x.tdiv y)):=by
 have hxi:In64 x:=by unfold Mem In64 at *;omega
 have hyi:In64 y:=by unfold Mem In64 at *;omega
 have e1:¬(ah<al\/bh<bl):=by unfold Mem at *;omega
 have hup:0<y->Mem (upI bl bh).1 (upI bl bh).2 y:=fun h=>(meetI_mem _ _ _ _ _).2 ⟨hy,by unfold Mem In64 at *;omega⟩
 have hdn:y<0->Mem (dnI bl bh).1 (dnI bl bh).2 y:=fun h=>(meetI_mem _ _ _ _ _).2 ⟨hy,by unfold Mem In64 at *;omega⟩
 have habove:0<y->Mem (divA al ah bl bh).1 (divA al ah bl bh).2 (wrap64 (x.tdiv y)):=by
  intro h
  rw [wrap64_id (tdiv_in hxi h0 (by omega))]
  refine cor_mem ha1 ha2 (Or.inl (up_sign _ _)) ?_ hx (hup h)
  rintro ⟨_,q⟩
  have:=up_sign bl bh
  unfold Mem at q;omega
 unfold divI
 rw [if_neg e1]
 split
 ·rename_i hc
  show Mem (J (J (J (divA al ah bl bh) (-9223372036854775808,-9223372036854775808)) (C (meetI al ah (-9223372036854775807) 9223372036854775807) (dnI bl bh))) (C (-9223372036854775808,-9223372036854775808) (meetI (dnI bl bh).1 (dnI bl bh).2 (-9223372036854775808) (-2)))).1 (J (J (J (divA al ah bl bh) (-9223372036854775808,-9223372036854775808)) (C (meetI al ah (-9223372036854775807) 9223372036854775807) (dnI bl bh))) (C (-9223372036854775808,-9223372036854775808) (meetI (dnI bl bh).1 (dnI bl bh).2 (-9223372036854775808) (-2)))).2 _
  by_cases hp:0<y
  ·exact J_left (J_left (J_left (habove hp)))
  ·have hd:=hdn (by omega)
   by_cases hm:x = -9223372036854775808
   ·by_cases hy1:y = -1
    ·subst hm hy1
     refine J_left (J_left (J_right ?_))
     show Mem (-9223372036854775808) (-9223372036854775808) _
     have t:(-9223372036854775808:Int).tdiv (-1)=9223372036854775808:=by rfl
     rw [t];unfold wrap64 Mem;omega
    ·have h2:Mem (meetI (dnI bl bh).1 (dnI bl bh).2 (-9223372036854775808) (-2)).1 (meetI (dnI bl bh).1 (dnI bl bh).2 (-9223372036854775808) (-2)).2 y :=
      (meetI_mem _ _ _ _ _).2 ⟨hd,by unfold Mem In64 at *;omega⟩
     rw [wrap64_id (tdiv_in hxi h0 (by omega))]
     refine J_right (cor_mem (x:=x) (y:=y) (by unfold In64;omega) (by unfold In64;omega) (Or.inr ?_) ?_ (by unfold Mem;omega) h2)
     ·exact dn2_sign h2
     ·rintro ⟨_,q⟩
      have:=((meetI_mem _ _ _ _ _).1 q).2
      unfold Mem at this;omega
   ·have h2:Mem (meetI al ah (-9223372036854775807) 9223372036854775807).1 (meetI al ah (-9223372036854775807) 9223372036854775807).2 x :=
     (meetI_mem _ _ _ _ _).2 ⟨hx,by unfold Mem In64 at *;omega⟩
    have hin:=meet_norm_in ha1 ha2 (show In64 (-9223372036854775807) by unfold In64;omega) (show In64 9223372036854775807 by unfold In64;omega)
    rw [wrap64_id (tdiv_in hxi h0 (by omega))]
    refine J_left (J_right (cor_mem hin.1 hin.2 (Or.inr (dn_sign hd)) ?_ h2 hd))
    rintro ⟨q,_⟩
    have:=((meetI_mem _ _ _ _ _).1 q).2
    unfold Mem at this;omega
 ·rename_i hc
  show Mem (J (divA al ah bl bh) (C (al,ah) (dnI bl bh))).1 (J (divA al ah bl bh) (C (al,ah) (dnI bl bh))).2 _
  by_cases hp:0<y
  ·exact J_left (habove hp)
  ·have hd:=hdn (by omega)
   have hno:¬(Mem al ah (-9223372036854775808)/\Mem (dnI bl bh).1 (dnI bl bh).2 (-1)):=fun h=>hc ⟨(has_iff _ _ _).2 h.1,(has_iff _ _ _).2 h.2⟩
   rw [wrap64_id (tdiv_in hxi h0 (fun h=>hno ⟨h.1 ▸ hx,h.2 ▸ hd⟩))]
   exact J_right (cor_mem ha1 ha2 (Or.inr (dn_sign hd)) hno hx hd)
theorem div_exact {al ah bl bh:Int} (hb1:In64 bl) (hb2:In64 bh) (ha1:In64 al) (ha2:In64 ah):(divI al ah bl bh).2.2=true↔∀ x y,Mem al ah x->Mem bl bh y->y≠0->In64 (x.tdiv y):=by
 unfold divI
 split
 ·simp only [true_iff];intro x y hx hy;unfold Mem at hx hy;omega
 ·split
  ·rename_i hc
   simp only [Bool.false_eq_true,false_iff]
   intro h
   have h1:=(has_iff _ _ _).1 hc.1
   have h2:=((meetI_mem _ _ _ _ _).1 ((has_iff _ _ _).1 hc.2)).1
   have:=h _ _ h1 h2 (by omega)
   have t:(-9223372036854775808:Int).tdiv (-1)=9223372036854775808:=by rfl
   rw [t] at this;unfold In64 at this;omega
  ·rename_i hc
   simp only [true_iff]
   intro x y hx hy h0
   refine tdiv_in (by unfold Mem In64 at *;omega) h0 (fun h=>hc ⟨(has_iff _ _ _).2 (h.1 ▸ hx),(has_iff _ _ _).2 ?_⟩)
   exact (meetI_mem _ _ _ _ _).2 ⟨h.2 ▸ hy,by unfold Mem;omega⟩
theorem tmod_bd {x y:Int} (hy:y≠0):(0<=x->0<=x.tmod y/\x.tmod y<=x/\x.tmod y<farI y)/\(x<=0->x<=x.tmod y/\x.tmod y<=0 /\ -(farI y)<x.tmod y)/\(farI x<farI y->x.tmod y=x):=by
 have base:∀ n m:Int,0<=n->0<m->0<=n.tmod m/\n.tmod m<=n/\n.tmod m<m:=by
  intro n m hn hm
  rw [Int.tmod_eq_emod_of_nonneg hn]
  refine ⟨Int.emod_nonneg _ (by omega),?_,Int.emod_lt_of_pos _ hm⟩
  have h1:0<=m*(n/m):=Int.mul_nonneg (by omega) (Int.ediv_nonneg hn (by omega))
  rw [Int.emod_def];omega
 have key:∀ m:Int,0<m->(0<=x->0<=x.tmod m/\x.tmod m<=x/\x.tmod m<m)/\(x<=0->x<=x.tmod m/\x.tmod m<=0 /\ -m<x.tmod m)/\(farI x<m->x.tmod m=x):=by
  intro m hm
  refine ⟨fun h=>base x m h hm,fun h=>?_,fun h=>?_⟩
  ·obtain ⟨n,rfl⟩:∃ n,x = -n:=⟨-x,by omega⟩
   have:=base n m (by omega) hm
   rw [Int.neg_tmod];omega
  ·unfold farI at h
   split at h
   ·obtain ⟨n,rfl⟩:∃ n,x = -n:=⟨-x,by omega⟩
    rw [Int.neg_tmod,Int.tmod_eq_of_lt (by omega) (by omega)]
   ·exact Int.tmod_eq_of_lt (by omega) h
 by_cases h:0<y
 ·have e:farI y=y:=by unfold farI;rw [if_neg (by omega)]
  rw [e];exact key y h
 ·have e:farI y = -y:=by unfold farI;rw [if_pos (by omega)]
  rw [e]
  have:=key (-y) (by omega)
  rw [Int.tmod_neg] at this
  exact this
theorem far_up {a b:Int} (h0:0<=a) (h:a<=b):farI a<=farI b:=by unfold farI;split<;>split<;>omega
theorem far_dn {a b:Int} (h:a<=b) (h0:b<=0):farI b<=farI a:=by unfold farI;split<;>split<;>omega
theorem rem_side {bl bh y:Int} (hb1:In64 bl) (hb2:In64 bh) (hy:Mem bl bh y) (h0:y≠0):remNear bl bh<=farI y/\farI y<=remMost bl bh/\¬((rDn bl bh).2<(rDn bl bh).1/\(rUp bl bh).2<(rUp bl bh).1):=by
 unfold remNear remMost
 by_cases hp:0<y
 ·have hm:Mem (rUp bl bh).1 (rUp bl bh).2 y:=(meetI_mem _ _ _ _ _).2 ⟨hy,by unfold Mem In64 at *;omega⟩
  have c:=rUp_cases hb1 hb2
  unfold Mem at hm
  rw [if_neg (show ¬(rUp bl bh).2<(rUp bl bh).1 by omega),if_neg (show ¬(rUp bl bh).2<(rUp bl bh).1 by omega)]
  have c1:1<=(rUp bl bh).1:=by
   rcases c with c | c
   ·rw [c];simp
   ·exact c.1
  have p1:farI (rUp bl bh).1<=farI y:=far_up (by omega) hm.1
  have p2:farI y<=farI (rUp bl bh).2:=far_up (by omega) hm.2
  refine ⟨by omega,by omega,by omega⟩
 ·have hm:Mem (rDn bl bh).1 (rDn bl bh).2 y:=(meetI_mem _ _ _ _ _).2 ⟨hy,by unfold Mem In64 at *;omega⟩
  have c:=rDn_cases hb1 hb2
  unfold Mem at hm
  rw [if_neg (show ¬(rDn bl bh).2<(rDn bl bh).1 by omega),if_neg (show ¬(rDn bl bh).2<(rDn bl bh).1 by omega)]
  have c1:(rDn bl bh).2<=0:=by
   rcases c with c | c
   ·rw [c];simp
   ·omega
  have p1:farI (rDn bl bh).2<=farI y:=far_dn hm.2 c1
  have p2:farI y<=farI (rDn bl bh).1:=far_dn hm.1 (by omega)
  refine ⟨by omega,by omega,by omega⟩
end
section
open Go.RowKit
def Got (S:Int->Prop) (p:Int×Int):Prop:=p=(1,0)\/(p.1<=p.2/\S p.1/\S p.2)
theorem min_or {S:Int->Prop} {a b:Int} (ha:S a) (hb:S b):S (min a b):=by
 rcases Int.le_total a b with h | h
 ·rw [Int.min_eq_left h];exact ha
 ·rw [Int.min_eq_right h];exact hb
theorem max_or {S:Int->Prop} {a b:Int} (ha:S a) (hb:S b):S (max a b):=by
 rcases Int.le_total a b with h | h
 ·rw [Int.max_eq_right h];exact hb
 ·rw [Int.max_eq_left h];exact ha
theorem Got.join {S:Int->Prop} {p q:Int×Int} (a:Got S p) (b:Got S q):Got S (J p q):=by
 unfold J joinI normI
 rcases a with rfl | ⟨a1,a2,a3⟩
 ·rw [if_pos (by decide)]
  rcases b with rfl | ⟨b1,b2,b3⟩
  ·rw [if_pos (by decide)];exact Or.inl rfl
  ·rw [if_neg (by omega)];exact Or.inr ⟨b1,b2,b3⟩
 ·rw [if_neg (by omega)]
  rcases b with rfl | ⟨b1,b2,b3⟩
  ·rw [if_pos (by decide)];exact Or.inr ⟨a1,a2,a3⟩
  ·rw [if_neg (by omega)]
   exact Or.inr ⟨by simp only;omega,min_or a2 b2,max_or a3 b3⟩
theorem cor_got {S:Int->Prop} {al ah bl bh:Int} (h:∀ u v,Mem al ah u->Mem bl bh v->S (quoI u v)):Got S (cornersI al ah bl bh):=by
 unfold cornersI
 by_cases c:ah<al\/bh<bl
 ·rw [if_pos c];exact Or.inl rfl
 ·rw [if_neg c]
  have m1:Mem al ah al:=by unfold Mem;omega
  have m2:Mem al ah ah:=by unfold Mem;omega
  have m3:Mem bl bh bl:=by unfold Mem;omega
  have m4:Mem bl bh bh:=by unfold Mem;omega
  refine Or.inr ⟨?_,?_,?_⟩
  ·simp only [min4,max4];omega
  ·exact min_or (min_or (h _ _ m1 m3) (h _ _ m1 m4)) (min_or (h _ _ m2 m3) (h _ _ m2 m4))
  ·exact max_or (max_or (h _ _ m1 m3) (h _ _ m1 m4)) (max_or (h _ _ m2 m3) (h _ _ m2 m4))
theorem div_got (al ah bl bh:Int):Got (DivS al ah bl bh) ((divI al ah bl bh).1,(divI al ah bl bh).2.1):=by
 have hA:Got (DivS al ah bl bh) (divA al ah bl bh):=by
  refine cor_got ?_
  intro u v hu hv
  have:=(meetI_mem _ _ _ _ _).1 hv
  exact ⟨u,v,hu,this.1,by have:=this.2;unfold Mem at this;omega,rfl⟩
 unfold divI
 split
 ·exact Or.inl rfl
 ·split
  ·rename_i hc
   have h1:=(has_iff _ _ _).1 hc.1
   have h2:=((meetI_mem _ _ _ _ _).1 ((has_iff _ _ _).1 hc.2)).1
   refine Got.join (Got.join (Got.join hA ?_) ?_) ?_
   ·have t:DivS al ah bl bh (-9223372036854775808):=⟨_,_,h1,h2,by omega,(by
     have t:(-9223372036854775808:Int).tdiv (-1)=9223372036854775808:=by rfl
     rw [t];unfold wrap64;omega)⟩
    exact Or.inr ⟨Int.le_refl _,t,t⟩
   ·refine cor_got ?_
    intro u v hu hv
    have a:=(meetI_mem _ _ _ _ _).1 hu
    have b:=(meetI_mem _ _ _ _ _).1 hv
    exact ⟨u,v,a.1,b.1,by have:=b.2;unfold Mem at this;omega,rfl⟩
   ·refine cor_got ?_
    intro u v hu hv
    have b:=(meetI_mem _ _ _ _ _).1 ((meetI_mem _ _ _ _ _).1 hv).1
    have e:u = -9223372036854775808:=by simp only [Mem] at hu;omega
    exact ⟨u,v,e ▸ h1,b.1,by have:=b.2;unfold Mem at this;omega,rfl⟩
  ·refine Got.join hA (cor_got ?_)
   intro u v hu hv
   have b:=(meetI_mem _ _ _ _ _).1 hv
   exact ⟨u,v,hu,b.1,by have:=b.2;unfold Mem at this;omega,rfl⟩
theorem div_hull {al ah bl bh:Int} (ha1:In64 al) (ha2:In64 ah) (hb1:In64 bl) (hb2:In64 bh):Hull (DivS al ah bl bh) (divI al ah bl bh).1 (divI al ah bl bh).2.1:=by
 have hm:∀ v,DivS al ah bl bh v->(divI al ah bl bh).1<=v/\v<=(divI al ah bl bh).2.1:=by
  rintro v ⟨x,y,hx,hy,h0,rfl⟩
  exact div_mem ha1 ha2 hb1 hb2 hx hy h0
 rcases div_got al ah bl bh with h | ⟨_,h2,h3⟩
 ·have e1:(divI al ah bl bh).1=1:=congrArg Prod.fst h
  have e2:(divI al ah bl bh).2.1=0:=congrArg Prod.snd h
  exact Or.inl ⟨e1,e2,fun v hv=>by have:=hm v hv;omega⟩
 ·exact Or.inr ⟨h2,h3,hm⟩
end
end Go.Proofs.YtpjpjhjjhoeijaaGreat
