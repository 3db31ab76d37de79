import Derived.Test.YtnjmjnmhldhaoaaGreatKIdv
import Derived.Test.YtnjmjnmhldhaoaaGreatKKa
set_option maxHeartbeats 8000000
set_option linter.all false
namespace Go.Proofs.YtnjmjnmhldhaoaaGreat
section
open Go.RowKit
def botN:Int×Int×Nat×Nat×Bool:=(0,0,0,0,true)
def constN (v:Int):Int×Int×Nat×Nat×Bool:=(v,v,0,bitsN v,false)
def makeN (lo hi:Int) (M R:Nat):Int×Int×Nat×Nat×Bool :=
 if hi<lo then botN
 else if (upC M R lo).2=false\/(downC M R hi).2=false\/(downC M R hi).1<(upC M R lo).1 then botN
 else if (upC M R lo).1=(downC M R hi).1 then constN (upC M R lo).1
 else ((upC M R lo).1,(downC M R hi).1,(normC M R).1,(normC M R).2,false)
def MemN (a:Int×Int×Nat×Nat×Bool) (v:Int):Prop:=a.2.2.2.2=false/\a.1<=v/\v<=a.2.1/\MemC a.2.2.1 a.2.2.2.1 v
def NormN (a:Int×Int×Nat×Nat×Bool):Prop :=
 a=botN\/(a.2.2.2.2=false/\In64 a.1/\In64 a.2.1/\a.1<=a.2.1/\MemC a.2.2.1 a.2.2.2.1 a.1/\MemC a.2.2.1 a.2.2.2.1 a.2.1/\(a.1=a.2.1->a.2.2.1=0/\a.2.2.2.1=bitsN a.1)/\(a.1<a.2.1->0<a.2.2.1/\a.2.2.2.1<a.2.2.1))
theorem memN_bot (v:Int):¬MemN botN v:=fun h=>by have:=h.1;cases this
theorem const_mem {x v:Int} (hx:In64 x):MemN (constN x) v↔v=x:=by
 unfold MemN constN
 simp only [true_and]
 rw [memC_zero,wrap_bits hx]
 constructor
 ·intro h;exact h.2.2
 ·intro h;subst h;exact ⟨Int.le_refl _,Int.le_refl _,rfl⟩
theorem const_norm {x:Int} (hx:In64 x):NormN (constN x):=by
 right
 refine ⟨rfl,hx,hx,Int.le_refl _,(memC_zero.2 (wrap_bits hx).symm),(memC_zero.2 (wrap_bits hx).symm),fun _=>⟨rfl,rfl⟩,fun h=>?_⟩
 have:x<x:=h
 omega
theorem make_mem {lo hi:Int} {M R:Nat} (hl:In64 lo) (hh:In64 hi) {v:Int} (hv:In64 v):MemN (makeN lo hi M R) v↔lo<=v/\v<=hi/\MemC M R v:=by
 have U:=up_is (M:=M) (R:=R) hl
 have D:=down_is (M:=M) (R:=R) hh
 unfold makeN
 by_cases h0:hi<lo
 ·rw [if_pos h0]
  exact ⟨fun h=>absurd h (memN_bot v),fun h=>by omega⟩
 rw [if_neg h0]
 by_cases h1:(upC M R lo).2=false\/(downC M R hi).2=false\/(downC M R hi).1<(upC M R lo).1
 ·rw [if_pos h1]
  refine ⟨fun h=>absurd h (memN_bot v),fun h=>?_⟩
  exfalso
  by_cases u:(upC M R lo).2=false
  ·have:=(U.2 u).2 v h.2.2 hv;omega
  ·by_cases d:(downC M R hi).2=false
   ·have:=(D.2 d).2 v h.2.2 hv;omega
   ·have u':(upC M R lo).2=true:=by simpa using u
    have d':(downC M R hi).2=true:=by simpa using d
    have a:=(U.1 u').2.2.2 v h.2.2 h.1
    have b:=(D.1 d').2.2.2 v h.2.2 h.2.1
    rcases h1 with h1 | h1 | h1
    ·exact u h1
    ·exact d h1
    ·omega
 rw [if_neg h1]
 have u':(upC M R lo).2=true:=by
  cases h:(upC M R lo).2
  ·exact absurd (Or.inl h) h1
  ·rfl
 have d':(downC M R hi).2=true:=by
  cases h:(downC M R hi).2
  ·exact absurd (Or.inr (Or.inl h)) h1
  ·rfl
 have a:=U.1 u'
 have b:=D.1 d'
 by_cases h2:(upC M R lo).1=(downC M R hi).1
 ·rw [if_pos h2,const_mem a.2.2.1]
  constructor
  ·intro h;rw [h];exact ⟨a.2.1,by rw [h2];exact b.2.1,a.1⟩
  ·intro h
   have p:=a.2.2.2 v h.2.2 h.1
   have q:=b.2.2.2 v h.2.2 h.2.1
   omega
 ·rw [if_neg h2]
  unfold MemN
  simp only [true_and]
  rw [normC_mem]
  constructor
  ·intro h
   have p:=a.2.1
   have q:=b.2.1
   exact ⟨by omega,by omega,h.2.2⟩
  ·intro h
   exact ⟨a.2.2.2 v h.2.2 h.1,b.2.2.2 v h.2.2 h.2.1,h.2.2⟩
theorem make_norm {lo hi:Int} {M R:Nat} (hl:In64 lo) (hh:In64 hi):NormN (makeN lo hi M R):=by
 have U:=up_is (M:=M) (R:=R) hl
 have D:=down_is (M:=M) (R:=R) hh
 unfold makeN
 by_cases h0:hi<lo
 ·rw [if_pos h0];exact Or.inl rfl
 rw [if_neg h0]
 by_cases h1:(upC M R lo).2=false\/(downC M R hi).2=false\/(downC M R hi).1<(upC M R lo).1
 ·rw [if_pos h1];exact Or.inl rfl
 rw [if_neg h1]
 have u':(upC M R lo).2=true:=by
  cases h:(upC M R lo).2
  ·exact absurd (Or.inl h) h1
  ·rfl
 have d':(downC M R hi).2=true:=by
  cases h:(downC M R hi).2
  ·exact absurd (Or.inr (Or.inl h)) h1
  ·rfl
 have a:=U.1 u'
 have b:=D.1 d'
 have c:(upC M R lo).1<=(downC M R hi).1:=by
  apply Int.le_of_not_gt;intro h;exact h1 (Or.inr (Or.inr h))
 by_cases h2:(upC M R lo).1=(downC M R hi).1
 ·rw [if_pos h2];exact const_norm a.2.2.1
 ·rw [if_neg h2]
  right
  refine ⟨rfl,a.2.2.1,b.2.2.1,c,(normC_mem _ _ _).2 a.1,(normC_mem _ _ _).2 b.1,fun h=>absurd h h2,fun h=>?_⟩
  have m0:M≠0:=by
   intro z
   subst z
   have p:=memC_zero.1 a.1
   have q:=memC_zero.1 b.1
   exact h2 (p.trans q.symm)
  have n:=normC_normal M R
  refine ⟨by show 0<M;omega,?_⟩
  rcases n with n | n
  ·exact absurd n m0
  ·exact n
theorem norm_second {a:Int×Int×Nat×Nat×Bool} (h:a.2.2.2.2=false/\In64 a.1/\In64 a.2.1/\a.1<=a.2.1/\MemC a.2.2.1 a.2.2.2.1 a.1/\MemC a.2.2.1 a.2.2.2.1 a.2.1/\(a.1=a.2.1->a.2.2.1=0/\a.2.2.2.1=bitsN a.1)/\(a.1<a.2.1->0<a.2.2.1/\a.2.2.2.1<a.2.2.1)) (hlt:a.1<a.2.1) :
  a.1+(a.2.2.1:Int)<=a.2.1/\MemN a (a.1+(a.2.2.1:Int)):=by
 obtain ⟨h1,h2,h3,h4,h5,h6,h7,h8⟩:=h
 have m:=(h8 hlt).1
 have l:a.1+(a.2.2.1:Int)<=a.2.1:=by
  rw [memC_dvd] at h5 h6
  have d:=Int.dvd_sub h6 h5
  rw [show a.2.1-rI a.2.2.1 a.2.2.2.1-(a.1-rI a.2.2.1 a.2.2.2.1)=a.2.1-a.1 by omega] at d
  have:=Int.le_of_dvd (by omega) d
  omega
 refine ⟨l,h1,by omega,l,?_⟩
 rw [memC_dvd] at h5 ⊢
 have:=Int.dvd_add h5 (Int.dvd_refl (a.2.2.1:Int))
 rwa [show a.1-rI a.2.2.1 a.2.2.2.1+(a.2.2.1:Int)=a.1+(a.2.2.1:Int)-rI a.2.2.1 a.2.2.2.1 by omega] at this
theorem norm_ends {a:Int×Int×Nat×Nat×Bool} (h:a.2.2.2.2=false/\In64 a.1/\In64 a.2.1/\a.1<=a.2.1/\MemC a.2.2.1 a.2.2.2.1 a.1/\MemC a.2.2.1 a.2.2.2.1 a.2.1/\(a.1=a.2.1->a.2.2.1=0/\a.2.2.2.1=bitsN a.1)/\(a.1<a.2.1->0<a.2.2.1/\a.2.2.2.1<a.2.2.1)):MemN a a.1/\MemN a a.2.1 :=
 ⟨⟨h.1,Int.le_refl _,h.2.2.2.1,h.2.2.2.2.1⟩,⟨h.1,h.2.2.2.1,Int.le_refl _,h.2.2.2.2.2.1⟩⟩
def leqN (a b:Int×Int×Nat×Nat×Bool):Bool:=if a.2.2.2.2=true\/b.2.2.2.2=true then a.2.2.2.2 else decide (b.1<=a.1/\a.2.1<=b.2.1)&&leqC a.2.2.1 a.2.2.2.1 b.2.2.1 b.2.2.2.1
theorem leqN_iff {a b:Int×Int×Nat×Nat×Bool} (ha:NormN a) (hb:NormN b) (ua:U64 a.2.2.2.1) (ub:U64 b.2.2.2.1):leqN a b=true↔∀ v,In64 v->MemN a v->MemN b v:=by
 unfold leqN
 rcases ha with rfl | ha
 ·rw [if_pos (show botN.2.2.2.2=true\/b.2.2.2.2=true from Or.inl rfl)]
  exact ⟨fun _ v _ h=>absurd h (memN_bot v),fun _=>rfl⟩
 rcases hb with rfl | hb
 ·rw [if_pos (show a.2.2.2.2=true\/botN.2.2.2.2=true from Or.inr rfl),ha.1]
  refine ⟨fun h=>(by cases h),fun h=>?_⟩
  exact absurd (h a.1 ha.2.1 (norm_ends ha).1) (memN_bot _)
 rw [if_neg (by rw [ha.1,hb.1];simp),Bool.and_eq_true,decide_eq_true_iff,leqC_iff ua ub]
 constructor
 ·intro h v _ hm
  exact ⟨hb.1,by have:=hm.2.1;omega,by have:=hm.2.2.1;omega,h.2 v hm.2.2.2⟩
 ·intro h
  have e:=norm_ends ha
  have p:=h a.1 ha.2.1 e.1
  have q:=h a.2.1 ha.2.2.1 e.2
  refine ⟨⟨p.2.1,q.2.2.1⟩,?_⟩
  rcases Int.lt_or_eq_of_le ha.2.2.2.1 with hlt | heq
  ·have s:=norm_second ha hlt
   have r:=h (a.1+(a.2.2.1:Int)) (by have x:=ha.2.1;have y:=ha.2.2.1;unfold In64 at *;have:=s.1;omega) s.2
   intro v hv
   have p4:=p.2.2.2
   have r4:=r.2.2.2
   have l4:=ha.2.2.2.2.1
   rw [memC_dvd] at p4 r4 l4 hv ⊢
   have d:=Int.dvd_sub r4 p4
   rw [show a.1+(a.2.2.1:Int)-rI b.2.2.1 b.2.2.2.1-(a.1-rI b.2.2.1 b.2.2.2.1)=(a.2.2.1:Int) by omega] at d
   have f:=Int.dvd_sub hv l4
   rw [show v-rI a.2.2.1 a.2.2.2.1-(a.1-rI a.2.2.1 a.2.2.2.1)=v-a.1 by omega] at f
   have k:=Int.dvd_add (Int.dvd_trans d f) p4
   rwa [show v-a.1+(a.1-rI b.2.2.1 b.2.2.2.1)=v-rI b.2.2.1 b.2.2.2.1 by omega] at k
  ·have z:=ha.2.2.2.2.2.2.1 heq
   intro v hv
   rw [z.1,z.2] at hv
   rw [memC_zero,wrap_bits ha.2.1] at hv
   rw [hv];exact p.2.2.2
theorem norm_ext {a b:Int×Int×Nat×Nat×Bool} (ha:NormN a) (hb:NormN b) (h:∀ v,In64 v->(MemN a v↔MemN b v)):a=b:=by
 rcases ha with rfl | ha
 ·rcases hb with rfl | hb
  ·rfl
  ·exact absurd ((h b.1 hb.2.1).2 (norm_ends hb).1) (memN_bot _)
 rcases hb with rfl | hb
 ·exact absurd ((h a.1 ha.2.1).1 (norm_ends ha).1) (memN_bot _)
 have ea:=norm_ends ha
 have eb:=norm_ends hb
 have p:=(h a.1 ha.2.1).1 ea.1
 have q:=(h a.2.1 ha.2.2.1).1 ea.2
 have r:=(h b.1 hb.2.1).2 eb.1
 have s:=(h b.2.1 hb.2.2.1).2 eb.2
 have el:a.1=b.1:=by have:=p.2.1;have:=r.2.1;omega
 have eh:a.2.1=b.2.1:=by have:=q.2.2.1;have:=s.2.2.1;omega
 have fin:a.2.2.1=b.2.2.1/\a.2.2.2.1=b.2.2.2.1:=by
  rcases Int.lt_or_eq_of_le ha.2.2.2.1 with hlt | heq
  ·have hlt':b.1<b.2.1:=by omega
   have sa:=norm_second ha hlt
   have sb:=norm_second hb hlt'
   have ra:=(h _ (by have x:=ha.2.1;have y:=ha.2.2.1;unfold In64 at *;have:=sa.1;omega)).1 sa.2
   have rb:=(h _ (by have x:=hb.2.1;have y:=hb.2.2.1;unfold In64 at *;have:=sb.1;omega)).2 sb.2
   have d1:(b.2.2.1:Int) ∣ (a.2.2.1:Int):=by
    have x:=ra.2.2.2
    have y:=p.2.2.2
    rw [memC_dvd] at x y
    have:=Int.dvd_sub x y
    rwa [show a.1+(a.2.2.1:Int)-rI b.2.2.1 b.2.2.2.1-(a.1-rI b.2.2.1 b.2.2.2.1)=(a.2.2.1:Int) by omega] at this
   have d2:(a.2.2.1:Int) ∣ (b.2.2.1:Int):=by
    have x:=rb.2.2.2
    have y:=r.2.2.2
    rw [memC_dvd] at x y
    have:=Int.dvd_sub x y
    rwa [show b.1+(b.2.2.1:Int)-rI a.2.2.1 a.2.2.2.1-(b.1-rI a.2.2.1 a.2.2.2.1)=(b.2.2.1:Int) by omega] at this
   have eM:a.2.2.1=b.2.2.1:=Nat.dvd_antisymm (Int.natCast_dvd_natCast.1 d2) (Int.natCast_dvd_natCast.1 d1)
   refine ⟨eM,?_⟩
   have ma:=ha.2.2.2.2.2.2.2 hlt
   have mb:=hb.2.2.2.2.2.2.2 hlt'
   have x:=ha.2.2.2.2.1
   have y:=hb.2.2.2.2.1
   rw [memC_pos ma.1,Nat.mod_eq_of_lt ma.2] at x
   rw [memC_pos mb.1,Nat.mod_eq_of_lt mb.2] at y
   rw [eM,el] at x
   omega
  ·have z1:=ha.2.2.2.2.2.2.1 heq
   have z2:=hb.2.2.2.2.2.2.1 (by omega)
   exact ⟨z1.1.trans z2.1.symm,by rw [z1.2,z2.2,el]⟩
 have eb:a.2.2.2.2=b.2.2.2.2:=ha.1.trans hb.1.symm
 exact Prod.ext el (Prod.ext eh (Prod.ext fin.1 (Prod.ext fin.2 eb)))
end
section
open Go.RowKit
def RawN (a:Int×Int×Nat×Nat×Bool):Prop:=In64 a.1/\In64 a.2.1/\U64 a.2.2.1/\U64 a.2.2.2.1
theorem in_zero:In64 0:=by unfold In64;omega
theorem u_zero:U64 0:=by unfold U64;omega
theorem bot_raw:RawN botN:=⟨in_zero,in_zero,u_zero,u_zero⟩
theorem const_raw {v:Int} (h:In64 v):RawN (constN v):=⟨h,h,u_zero,bitsN_u64 _⟩
theorem make_raw {lo hi:Int} {M R:Nat} (hl:In64 lo) (hh:In64 hi) (hM:U64 M) (hR:U64 R):RawN (makeN lo hi M R):=by
 have n:=make_norm (M:=M) (R:=R) hl hh
 have u:∀ {x:Int},In64 x->RawN (constN x):=fun h=>const_raw h
 unfold makeN at n ⊢
 split
 ·exact bot_raw
 ·rename_i h0
  rw [if_neg h0] at n
  split
  ·exact bot_raw
  ·rename_i h1
   rw [if_neg h1] at n
   split
   ·rename_i h2
    rw [if_pos h2] at n
    rcases n with n | n
    ·have:=congrArg (fun a=>a.2.2.2.2) n
     cases this
    ·exact const_raw n.2.1
   ·rename_i h2
    rw [if_neg h2] at n
    rcases n with n | n
    ·have:=congrArg (fun a=>a.2.2.2.2) n
     cases this
    ·exact ⟨n.2.1,n.2.2.1,(normC_u64 hM hR).1,(normC_u64 hM hR).2⟩
def normN (a:Int×Int×Nat×Nat×Bool):Int×Int×Nat×Nat×Bool:=if a.2.2.2.2=true then botN else makeN a.1 a.2.1 a.2.2.1 a.2.2.2.1
theorem normN_mem {a:Int×Int×Nat×Nat×Bool} (h:RawN a) {v:Int} (hv:In64 v):MemN (normN a) v↔MemN a v:=by
 unfold normN
 by_cases b:a.2.2.2.2=true
 ·rw [if_pos b]
  exact ⟨fun x=>absurd x (memN_bot v),fun x=>by have:=x.1;rw [b] at this;cases this⟩
 ·rw [if_neg b,make_mem h.1 h.2.1 hv]
  have b':a.2.2.2.2=false:=by simpa using b
  exact ⟨fun x=>⟨b',x⟩,fun x=>x.2⟩
theorem normN_norm {a:Int×Int×Nat×Nat×Bool} (h:RawN a):NormN (normN a):=by
 unfold normN
 split
 ·exact Or.inl rfl
 ·exact make_norm h.1 h.2.1
theorem normN_raw {a:Int×Int×Nat×Nat×Bool} (h:RawN a):RawN (normN a):=by
 unfold normN
 split
 ·exact bot_raw
 ·exact make_raw h.1 h.2.1 h.2.2.1 h.2.2.2
theorem normN_id {a:Int×Int×Nat×Nat×Bool} (h:RawN a) (n:NormN a):normN a=a:=norm_ext (normN_norm h) n (fun v hv=>normN_mem h hv)
theorem norm_some {a:Int×Int×Nat×Nat×Bool} (n:NormN a) (h:a.2.2.2.2=false):a.1<=a.2.1:=by
 rcases n with rfl | n
 ·cases h
 ·exact n.2.2.2.1
theorem meetI_in {al ah bl bh:Int} (h1:In64 al) (h2:In64 ah) (h3:In64 bl) (h4:In64 bh):In64 (meetI al ah bl bh).1/\In64 (meetI al ah bl bh).2:=by
 unfold meetI normI
 unfold In64 at *
 split<;>(simp only;omega)
def meetRaw (a b:Int×Int×Nat×Nat×Bool):Int×Int×Nat×Nat×Bool :=
 if a.2.2.2.2=true\/b.2.2.2.2=true then botN
 else if (meetC a.2.2.1 a.2.2.2.1 b.2.2.1 b.2.2.2.1).2.2=false then botN
 else makeN (meetI a.1 a.2.1 b.1 b.2.1).1 (meetI a.1 a.2.1 b.1 b.2.1).2 (meetC a.2.2.1 a.2.2.2.1 b.2.2.1 b.2.2.2.1).1 (meetC a.2.2.1 a.2.2.2.1 b.2.2.1 b.2.2.2.1).2.1
def meetN (a b:Int×Int×Nat×Nat×Bool):Int×Int×Nat×Nat×Bool:=meetRaw (normN a) (normN b)
theorem meetRaw_mem {a b:Int×Int×Nat×Nat×Bool} (ha:RawN a) (hb:RawN b) {v:Int} (hv:In64 v):MemN (meetRaw a b) v↔MemN a v/\MemN b v:=by
 unfold meetRaw
 have m:=meet_mem (cM:=a.2.2.1) (dM:=b.2.2.1) ha.2.2.2 hb.2.2.2 hv
 by_cases x:a.2.2.2.2=true\/b.2.2.2.2=true
 ·rw [if_pos x]
  refine ⟨fun h=>absurd h (memN_bot v),fun h=>?_⟩
  rcases x with x | x
  ·have:=h.1.1;rw [x] at this;cases this
  ·have:=h.2.1;rw [x] at this;cases this
 rw [if_neg x]
 have xa:a.2.2.2.2=false:=by
  cases h:a.2.2.2.2
  ·rfl
  ·exact absurd (Or.inl h) x
 have xb:b.2.2.2.2=false:=by
  cases h:b.2.2.2.2
  ·rfl
  ·exact absurd (Or.inr h) x
 by_cases y:(meetC a.2.2.1 a.2.2.2.1 b.2.2.1 b.2.2.2.1).2.2=false
 ·rw [if_pos y]
  refine ⟨fun h=>absurd h (memN_bot v),fun h=>?_⟩
  have:=(m.2 ⟨h.1.2.2.2,h.2.2.2.2⟩).1
  rw [y] at this;cases this
 ·have y':(meetC a.2.2.1 a.2.2.2.1 b.2.2.1 b.2.2.2.1).2.2=true:=by simpa using y
  have i:=meetI_in ha.1 ha.2.1 hb.1 hb.2.1
  rw [if_neg y,make_mem i.1 i.2 hv]
  have k:=meetI_mem a.1 a.2.1 b.1 b.2.1 v
  constructor
  ·intro h
   have p:=k.1 ⟨h.1,h.2.1⟩
   have q:=m.1 ⟨y',h.2.2⟩
   exact ⟨⟨xa,p.1.1,p.1.2,q.1⟩,⟨xb,p.2.1,p.2.2,q.2⟩⟩
  ·intro h
   have p:=k.2 ⟨⟨h.1.2.1,h.1.2.2.1⟩,⟨h.2.2.1,h.2.2.2.1⟩⟩
   exact ⟨p.1,p.2,(m.2 ⟨h.1.2.2.2,h.2.2.2.2⟩).2⟩
theorem meetN_mem {a b:Int×Int×Nat×Nat×Bool} (ha:RawN a) (hb:RawN b) {v:Int} (hv:In64 v):MemN (meetN a b) v↔MemN a v/\MemN b v:=by
 unfold meetN
 rw [meetRaw_mem (normN_raw ha) (normN_raw hb) hv,normN_mem ha hv,normN_mem hb hv]
def nzRaw (a:Int×Int×Nat×Nat×Bool):Int×Int×Nat×Nat×Bool :=
 if a.2.2.2.2=true then a else makeN (if a.1=0 then 1 else a.1) (if a.2.1=0 then -1 else a.2.1) a.2.2.1 a.2.2.2.1
def nonZeroN (a:Int×Int×Nat×Nat×Bool):Int×Int×Nat×Nat×Bool:=nzRaw (normN a)
theorem nzRaw_mem {a:Int×Int×Nat×Nat×Bool} (ha:RawN a) {v:Int} (hv:In64 v):MemN (nzRaw a) v↔(MemN a v/\(v=0->a.1≠0/\a.2.1≠0)):=by
 unfold nzRaw
 by_cases x:a.2.2.2.2=true
 ·rw [if_pos x]
  refine ⟨fun h=>?_,fun h=>h.1⟩
  have:=h.1
  rw [x] at this
  cases this
 ·rw [if_neg x,make_mem (by have:=ha.1;unfold In64 at *;split<;>omega) (by have:=ha.2.1;unfold In64 at *;split<;>omega) hv]
  have x':a.2.2.2.2=false:=by simpa using x
  constructor
  ·intro h
   obtain ⟨h1,h2,h3⟩:=h
   refine ⟨⟨x',?_,?_,h3⟩,?_⟩
   ·split at h1<;>omega
   ·split at h2<;>omega
   ·intro z
    subst z
    constructor
    ·intro e;rw [if_pos e] at h1;omega
    ·intro e;rw [if_pos e] at h2;omega
  ·intro h
   obtain ⟨⟨_,h1,h2,h3⟩,h4⟩:=h
   refine ⟨?_,?_,h3⟩
   ·split
    ·rename_i e
     by_cases z:v=0
     ·exact absurd e (h4 z).1
     ·omega
    ·exact h1
   ·split
    ·rename_i e
     by_cases z:v=0
     ·exact absurd e (h4 z).2
     ·omega
    ·exact h2
end
section
open Go.RowKit
theorem infoN:(Tryz.prog.info? 29).map (·.size)=some 5:=by kernel_rfl
def nv (a:Int×Int×Nat×Nat×Bool):Value:=.agg #[.bool a.2.2.2.2,.int .i64 a.1,.int .i64 a.2.1,.int .u64 (a.2.2.1:Int),.int .u64 (a.2.2.2.1:Int)]
def nc (a:Int×Int×Nat×Nat×Bool):Array Value:=#[.bool a.2.2.2.2,.int .i64 a.1,.int .i64 a.2.1,.int .u64 (a.2.2.1:Int),.int .u64 (a.2.2.2.1:Int)]
theorem row5_facts {w:World} {g:Nat} {x y z u v:Value} {t:TypeId} (h:w.heap[g]?=some (.cells #[x,y,z,u,v] t (0,0))) :
  w.cell? ⟨g,0,none⟩=some x/\w.cell? ⟨g,1,none⟩=some y/\w.cell? ⟨g,2,none⟩=some z/\w.cell? ⟨g,3,none⟩=some u/\w.cell? ⟨g,4,none⟩=some v/\w.frozen? ⟨g,0,none⟩=false/\w.frozen? ⟨g,1,none⟩=false/\w.frozen? ⟨g,2,none⟩=false/\w.frozen? ⟨g,3,none⟩=false/\w.frozen? ⟨g,4,none⟩=false:=by
 refine ⟨?_,?_,?_,?_,?_,frozen_of_row _ _ _ _ _ h,frozen_of_row _ _ _ _ _ h,frozen_of_row _ _ _ _ _ h,frozen_of_row _ _ _ _ _ h,frozen_of_row _ _ _ _ _ h⟩
 ·exact (cell_of_row _ _ 0 _ _ _ h).trans (by simp)
 ·exact (cell_of_row _ _ 1 _ _ _ h).trans (by simp)
 ·exact (cell_of_row _ _ 2 _ _ _ h).trans (by simp)
 ·exact (cell_of_row _ _ 3 _ _ _ h).trans (by simp)
 ·exact (cell_of_row _ _ 4 _ _ _ h).trans (by simp)
theorem row_set5 {w:World} {g:Nat} {x y z u v:Value} {t:TypeId} (h:w.heap[g]?=some (.cells #[x,y,z,u,v] t (0,0))) (x' y' z' u' v':Value) :
  (((((w.setCell ⟨g,0,none⟩ x').setCell ⟨g,1,none⟩ y').setCell ⟨g,2,none⟩ z').setCell ⟨g,3,none⟩ u').setCell ⟨g,4,none⟩ v').heap[g]?=some (.cells #[x',y',z',u',v'] t (0,0)):=by
 have h1:=heap_setCell_same w g 0 _ t x' h
 have h2:=heap_setCell_same _ g 1 _ t y' h1
 have h3:=heap_setCell_same _ g 2 _ t z' h2
 have h4:=heap_setCell_same _ g 3 _ t u' h3
 have h5:=heap_setCell_same _ g 4 _ t v' h4
 simpa using h5
theorem nbot_any (w0 w:World) (hok:Ok w0 w) :
  Calls Tryz.prog 18 #[] w fun e w'=>e=.returned (nv botN)/\Ok w0 w':=by
 go_enter Tryz.func18,Tryz.ntmps18
 go_wp2_with fail
 (try simp only [Exit.inBlock, Exit.then]); refine bodyPost_ret (results_cell_row rfl _ _ (w.heap.size) 29 #[_, _, _, _, _] (0, 0) _ rfl jj Tryz.underlying29 rfl infoN) rfl ?_
 exact ⟨rfl,hok.alloc _⟩
theorem rbot_any (w0 w:World) (hok:Ok w0 w) :
  Calls Tryz.prog 31 #[] w fun e w'=>e=.returned (nv botN)/\Ok w0 w':=by
 go_enter Tryz.func31,Tryz.ntmps31
 go_wp2_with fail
 (try simp only [Exit.inBlock, Exit.then]); refine bodyPost_ret (results_cell_row rfl _ _ (w.heap.size) 29 #[_, _, _, _, _] (0, 0) _ rfl jj Tryz.underlying29 rfl infoN) rfl ?_
 exact ⟨rfl,hok.alloc _⟩
theorem every_any (w0 w:World) (hok:Ok w0 w) :
  Calls Tryz.prog 157 #[] w fun e w'=>e=.returned (cv 1 0)/\Ok w0 w':=by
 go_enter Tryz.func157,Tryz.ntmps157
 go_wp2_with fail
 (try simp only [Exit.inBlock, Exit.then]); refine bodyPost_ret (results_cell_row rfl _ _ (w.heap.size) 27 #[_, _] (0, 0) _ rfl jj Tryz.underlying27 rfl infoCg) rfl ?_
 exact ⟨rfl,hok.alloc _⟩
theorem rall_any (w0 w:World) (hok:Ok w0 w) :
  Calls Tryz.prog 54 #[] w fun e w'=>e=.returned (cv 1 0)/\Ok w0 w':=by
 go_enter Tryz.func54,Tryz.ntmps54
 go_wp2_with fail
 (try simp only [Exit.inBlock, Exit.then]); refine bodyPost_ret (results_cell_row rfl _ _ (w.heap.size) 27 #[_, _] (0, 0) _ rfl jj Tryz.underlying27 rfl infoCg) rfl ?_
 exact ⟨rfl,hok.alloc _⟩
theorem nconst_any (v:Int) (w0 w:World) (hok:Ok w0 w) :
  Calls Tryz.prog 59 #[.int .i64 v] w fun e w'=>e=.returned (nv (constN v))/\Ok w0 w':=by
 have hle:=hok.le
 go_enter Tryz.func59,Tryz.ntmps59
 go_wp2_with fail
 refine (pconst_any v _ _ (Ok.refl _)).mono ?_
 rintro e w' ⟨rfl,hb⟩
 have hr : Hid _ := Ok.row' (g := w.heap.size) (o := .cells #[.bool false, .int .i64 0, .int .i64 0, .int .u64 0, .int .u64 0] 29) hb jj; obtain ⟨k0, k1, k2, k3, k4, k5, k6, k7, k8, k9⟩ := row5_facts hr.out
 unfold cv
 go_wp2_with fail
 (try simp only [Exit.inBlock, Exit.then]); refine bodyPost_ret (results_cell_row rfl _ _ (w.heap.size) 29 #[_, _, _, _, _] (0, 0) _ rfl (row_set5 hr.out _ _ _ _ _) Tryz.underlying29 rfl infoN) rfl ?_
 exact ⟨rfl,(((((Ok.step (by repeat (first | exact hok | refine Ok.alloc ?_ _ | refine Ok.draws ?_ _ | fail)) hb).set (show w0.heap.size ≤ w.heap.size by omega) _).set (show w0.heap.size ≤ w.heap.size by omega) _).set (show w0.heap.size ≤ w.heap.size by omega) _).set (show w0.heap.size ≤ w.heap.size by omega) _).set (show w0.heap.size ≤ w.heap.size by omega) _⟩
end
end Go.Proofs.YtnjmjnmhldhaoaaGreat
