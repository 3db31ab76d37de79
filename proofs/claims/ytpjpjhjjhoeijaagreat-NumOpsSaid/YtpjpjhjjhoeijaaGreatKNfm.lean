import Derived.Test.YtpjpjhjjhoeijaaGreatKCst
import Derived.Test.YtpjpjhjjhoeijaaGreatKCsub
set_option linter.all false
namespace Go.Proofs.YtpjpjhjjhoeijaaGreat
section
open Go.RowKit
def botN:Int×Int×Nat×Nat×Bool:=(0,0,0,0,true)
def constN (v:Int):Int×Int×Nat×Nat×Bool:=(v,v,0,bitsN v,false)
def makeN (lo hi:Int) (M R:Nat):Int×Int×Nat×Nat×Bool :=
 if hi<lo then botN
 else if (upC M R lo).2=false\/(downC M R hi).2=false\/(downC M R hi).1<(upC M R lo).1 then botN
 else if (upC M R lo).1=(downC M R hi).1 then constN (upC M R lo).1
 else ((upC M R lo).1,(downC M R hi).1,(normC M R).1,(normC M R).2,false)
def MemN (a:Int×Int×Nat×Nat×Bool) (v:Int):Prop:=a.2.2.2.2=false/\a.1<=v/\v<=a.2.1/\MemC a.2.2.1 a.2.2.2.1 v
def NormN (a:Int×Int×Nat×Nat×Bool):Prop :=
 a=botN\/(a.2.2.2.2=false/\In64 a.1/\In64 a.2.1/\a.1<=a.2.1/\MemC a.2.2.1 a.2.2.2.1 a.1/\MemC a.2.2.1 a.2.2.2.1 a.2.1/\(a.1=a.2.1->a.2.2.1=0/\a.2.2.2.1=bitsN a.1)/\(a.1<a.2.1->0<a.2.2.1/\a.2.2.2.1<a.2.2.1))
theorem memN_bot (v:Int):¬MemN botN v:=fun h=>by have:=h.1;cases this
theorem const_mem {x v:Int} (hx:In64 x):MemN (constN x) v↔v=x:=by
 unfold MemN constN
 simp only [true_and]
 rw [memC_zero,wrap_bits hx]
 constructor
 ·intro h;exact h.2.2
 ·intro h;subst h;exact ⟨Int.le_refl _,Int.le_refl _,rfl⟩
theorem const_norm {x:Int} (hx:In64 x):NormN (constN x):=by
 right
 refine ⟨rfl,hx,hx,Int.le_refl _,(memC_zero.2 (wrap_bits hx).symm),(memC_zero.2 (wrap_bits hx).symm),fun _=>⟨rfl,rfl⟩,fun h=>?_⟩
 have:x<x:=h
 omega
theorem make_mem {lo hi:Int} {M R:Nat} (hl:In64 lo) (hh:In64 hi) {v:Int} (hv:In64 v):MemN (makeN lo hi M R) v↔lo<=v/\v<=hi/\MemC M R v:=by
 have U:=up_is (M:=M) (R:=R) hl
 have D:=down_is (M:=M) (R:=R) hh
 unfold makeN
 by_cases h0:hi<lo
 ·rw [if_pos h0]
  exact ⟨fun h=>absurd h (memN_bot v),fun h=>by omega⟩
 rw [if_neg h0]
 by_cases h1:(upC M R lo).2=false\/(downC M R hi).2=false\/(downC M R hi).1<(upC M R lo).1
 ·rw [if_pos h1]
  refine ⟨fun h=>absurd h (memN_bot v),fun h=>?_⟩
  exfalso
  by_cases u:(upC M R lo).2=false
  ·have:=(U.2 u).2 v h.2.2 hv;omega
  ·by_cases d:(downC M R hi).2=false
   ·have:=(D.2 d).2 v h.2.2 hv;omega
   ·have u':(upC M R lo).2=true:=by simpa using u
    have d':(downC M R hi).2=true:=by simpa using d
    have a:=(U.1 u').2.2.2 v h.2.2 h.1
    have b:=(D.1 d').2.2.2 v h.2.2 h.2.1
    rcases h1 with h1 | h1 | h1
    ·exact u h1
    ·exact d h1
    ·omega
 rw [if_neg h1]
 have u':(upC M R lo).2=true:=by
  cases h:(upC M R lo).2
  ·exact absurd (Or.inl h) h1
  ·rfl
 have d':(downC M R hi).2=true:=by
  cases h:(downC M R hi).2
  ·exact absurd (Or.inr (Or.inl h)) h1
  ·rfl
 have a:=U.1 u'
 have b:=D.1 d'
 by_cases h2:(upC M R lo).1=(downC M R hi).1
 ·rw [if_pos h2,const_mem a.2.2.1]
  constructor
  ·intro h;rw [h];exact ⟨a.2.1,by rw [h2];exact b.2.1,a.1⟩
  ·intro h
   have p:=a.2.2.2 v h.2.2 h.1
   have q:=b.2.2.2 v h.2.2 h.2.1
   omega
 ·rw [if_neg h2]
  unfold MemN
  simp only [true_and]
  rw [normC_mem]
  constructor
  ·intro h
   have p:=a.2.1
   have q:=b.2.1
   exact ⟨by omega,by omega,h.2.2⟩
  ·intro h
   exact ⟨a.2.2.2 v h.2.2 h.1,b.2.2.2 v h.2.2 h.2.1,h.2.2⟩
theorem make_norm {lo hi:Int} {M R:Nat} (hl:In64 lo) (hh:In64 hi):NormN (makeN lo hi M R):=by
 have U:=up_is (M:=M) (R:=R) hl
 have D:=down_is (M:=M) (R:=R) hh
 unfold makeN
 by_cases h0:hi<lo
 ·rw [if_pos h0];exact Or.inl rfl
 rw [if_neg h0]
 by_cases h1:(upC M R lo).2=false\/(downC M R hi).2=false\/(downC M R hi).1<(upC M R lo).1
 ·rw [if_pos h1];exact Or.inl rfl
 rw [if_neg h1]
 have u':(upC M R lo).2=true:=by
  cases h:(upC M R lo).2
  ·exact absurd (Or.inl h) h1
  ·rfl
 have d':(downC M R hi).2=true:=by
  cases h:(downC M R hi).2
  ·exact absurd (Or.inr (Or.inl h)) h1
  ·rfl
 have a:=U.1 u'
 have b:=D.1 d'
 have c:(upC M R lo).1<=(downC M R hi).1:=by
  apply Int.le_of_not_gt;intro h;exact h1 (Or.inr (Or.inr h))
 by_cases h2:(upC M R lo).1=(downC M R hi).1
 ·rw [if_pos h2];exact const_norm a.2.2.1
 ·rw [if_neg h2]
  right
  refine ⟨rfl,a.2.2.1,b.2.2.1,c,(normC_mem _ _ _).2 a.1,(normC_mem _ _ _).2 b.1,fun h=>absurd h h2,fun h=>?_⟩
  have m0:M≠0:=by
   intro z
   subst z
   have p:=memC_zero.1 a.1
   have q:=memC_zero.1 b.1
   exact h2 (p.trans q.symm)
  have n:=normC_normal M R
  refine ⟨by show 0<M;omega,?_⟩
  rcases n with n | n
  ·exact absurd n m0
  ·exact n
theorem norm_second {a:Int×Int×Nat×Nat×Bool} (h:a.2.2.2.2=false/\In64 a.1/\In64 a.2.1/\a.1<=a.2.1/\MemC a.2.2.1 a.2.2.2.1 a.1/\MemC a.2.2.1 a.2.2.2.1 a.2.1/\(a.1=a.2.1->a.2.2.1=0/\a.2.2.2.1=bitsN a.1)/\(a.1<a.2.1->0<a.2.2.1/\a.2.2.2.1<a.2.2.1)) (hlt:a.1<a.2.1) :
  a.1+(a.2.2.1:Int)<=a.2.1/\MemN a (a.1+(a.2.2.1:Int)):=by
 obtain ⟨h1,h2,h3,h4,h5,h6,h7,h8⟩:=h
 have m:=(h8 hlt).1
 have l:a.1+(a.2.2.1:Int)<=a.2.1:=by
  rw [memC_dvd] at h5 h6
  have d:=Int.dvd_sub h6 h5
  rw [show a.2.1-rI a.2.2.1 a.2.2.2.1-(a.1-rI a.2.2.1 a.2.2.2.1)=a.2.1-a.1 by omega] at d
  have:=Int.le_of_dvd (by omega) d
  omega
 refine ⟨l,h1,by omega,l,?_⟩
 rw [memC_dvd] at h5 ⊢
 have:=Int.dvd_add h5 (Int.dvd_refl (a.2.2.1:Int))
 rwa [show a.1-rI a.2.2.1 a.2.2.2.1+(a.2.2.1:Int)=a.1+(a.2.2.1:Int)-rI a.2.2.1 a.2.2.2.1 by omega] at this
theorem norm_ends {a:Int×Int×Nat×Nat×Bool} (h:a.2.2.2.2=false/\In64 a.1/\In64 a.2.1/\a.1<=a.2.1/\MemC a.2.2.1 a.2.2.2.1 a.1/\MemC a.2.2.1 a.2.2.2.1 a.2.1/\(a.1=a.2.1->a.2.2.1=0/\a.2.2.2.1=bitsN a.1)/\(a.1<a.2.1->0<a.2.2.1/\a.2.2.2.1<a.2.2.1)):MemN a a.1/\MemN a a.2.1 :=
 ⟨⟨h.1,Int.le_refl _,h.2.2.2.1,h.2.2.2.2.1⟩,⟨h.1,h.2.2.2.1,Int.le_refl _,h.2.2.2.2.2.1⟩⟩
def leqN (a b:Int×Int×Nat×Nat×Bool):Bool:=if a.2.2.2.2=true\/b.2.2.2.2=true then a.2.2.2.2 else decide (b.1<=a.1/\a.2.1<=b.2.1)&&leqC a.2.2.1 a.2.2.2.1 b.2.2.1 b.2.2.2.1
theorem norm_ext {a b:Int×Int×Nat×Nat×Bool} (ha:NormN a) (hb:NormN b) (h:∀ v,In64 v->(MemN a v↔MemN b v)):a=b:=by
 rcases ha with rfl | ha
 ·rcases hb with rfl | hb
  ·rfl
  ·exact absurd ((h b.1 hb.2.1).2 (norm_ends hb).1) (memN_bot _)
 rcases hb with rfl | hb
 ·exact absurd ((h a.1 ha.2.1).1 (norm_ends ha).1) (memN_bot _)
 have ea:=norm_ends ha
 have eb:=norm_ends hb
 have p:=(h a.1 ha.2.1).1 ea.1
 have q:=(h a.2.1 ha.2.2.1).1 ea.2
 have r:=(h b.1 hb.2.1).2 eb.1
 have s:=(h b.2.1 hb.2.2.1).2 eb.2
 have el:a.1=b.1:=by have:=p.2.1;have:=r.2.1;omega
 have eh:a.2.1=b.2.1:=by have:=q.2.2.1;have:=s.2.2.1;omega
 have fin:a.2.2.1=b.2.2.1/\a.2.2.2.1=b.2.2.2.1:=by
  rcases Int.lt_or_eq_of_le ha.2.2.2.1 with hlt | heq
  ·have hlt':b.1<b.2.1:=by omega
   have sa:=norm_second ha hlt
   have sb:=norm_second hb hlt'
   have ra:=(h _ (by have x:=ha.2.1;have y:=ha.2.2.1;unfold In64 at *;have:=sa.1;omega)).1 sa.2
   have rb:=(h _ (by have x:=hb.2.1;have y:=hb.2.2.1;unfold In64 at *;have:=sb.1;omega)).2 sb.2
   have d1:(b.2.2.1:Int) ∣ (a.2.2.1:Int):=by
    have x:=ra.2.2.2
    have y:=p.2.2.2
    rw [memC_dvd] at x y
    have:=Int.dvd_sub x y
    rwa [show a.1+(a.2.2.1:Int)-rI b.2.2.1 b.2.2.2.1-(a.1-rI b.2.2.1 b.2.2.2.1)=(a.2.2.1:Int) by omega] at this
   have d2:(a.2.2.1:Int) ∣ (b.2.2.1:Int):=by
    have x:=rb.2.2.2
    have y:=r.2.2.2
    rw [memC_dvd] at x y
    have:=Int.dvd_sub x y
    rwa [show b.1+(b.2.2.1:Int)-rI a.2.2.1 a.2.2.2.1-(b.1-rI a.2.2.1 a.2.2.2.1)=(b.2.2.1:Int) by omega] at this
   have eM:a.2.2.1=b.2.2.1:=Nat.dvd_antisymm (Int.natCast_dvd_natCast.1 d2) (Int.natCast_dvd_natCast.1 d1)
   refine ⟨eM,?_⟩
   have ma:=ha.2.2.2.2.2.2.2 hlt
   have mb:=hb.2.2.2.2.2.2.2 hlt'
   have x:=ha.2.2.2.2.1
   have y:=hb.2.2.2.2.1
   rw [memC_pos ma.1,Nat.mod_eq_of_lt ma.2] at x
   rw [memC_pos mb.1,Nat.mod_eq_of_lt mb.2] at y
   rw [eM,el] at x
   omega
  ·have z1:=ha.2.2.2.2.2.2.1 heq
   have z2:=hb.2.2.2.2.2.2.1 (by omega)
   exact ⟨z1.1.trans z2.1.symm,by rw [z1.2,z2.2,el]⟩
 have eb:a.2.2.2.2=b.2.2.2.2:=ha.1.trans hb.1.symm
 exact Prod.ext el (Prod.ext eh (Prod.ext fin.1 (Prod.ext fin.2 eb)))
end
section
open Go.RowKit
def RawN (a:Int×Int×Nat×Nat×Bool):Prop:=In64 a.1/\In64 a.2.1/\U64 a.2.2.1/\U64 a.2.2.2.1
theorem in_zero:In64 0:=by unfold In64;omega
theorem u_zero:U64 0:=by unfold U64;omega
theorem bot_raw:RawN botN:=⟨in_zero,in_zero,u_zero,u_zero⟩
theorem const_raw {v:Int} (h:In64 v):RawN (constN v):=⟨h,h,u_zero,bitsN_u64 _⟩
theorem make_raw {lo hi:Int} {M R:Nat} (hl:In64 lo) (hh:In64 hi) (hM:U64 M) (hR:U64 R):RawN (makeN lo hi M R):=by
 have n:=make_norm (M:=M) (R:=R) hl hh
 have u:∀ {x:Int},In64 x->RawN (constN x):=fun h=>const_raw h
 unfold makeN at n ⊢
 split
 ·exact bot_raw
 ·rename_i h0
  rw [if_neg h0] at n
  split
  ·exact bot_raw
  ·rename_i h1
   rw [if_neg h1] at n
   split
   ·rename_i h2
    rw [if_pos h2] at n
    rcases n with n | n
    ·have:=congrArg (fun a=>a.2.2.2.2) n
     cases this
    ·exact const_raw n.2.1
   ·rename_i h2
    rw [if_neg h2] at n
    rcases n with n | n
    ·have:=congrArg (fun a=>a.2.2.2.2) n
     cases this
    ·exact ⟨n.2.1,n.2.2.1,(normC_u64 hM hR).1,(normC_u64 hM hR).2⟩
def normN (a:Int×Int×Nat×Nat×Bool):Int×Int×Nat×Nat×Bool:=if a.2.2.2.2=true then botN else makeN a.1 a.2.1 a.2.2.1 a.2.2.2.1
theorem normN_mem {a:Int×Int×Nat×Nat×Bool} (h:RawN a) {v:Int} (hv:In64 v):MemN (normN a) v↔MemN a v:=by
 unfold normN
 by_cases b:a.2.2.2.2=true
 ·rw [if_pos b]
  exact ⟨fun x=>absurd x (memN_bot v),fun x=>by have:=x.1;rw [b] at this;cases this⟩
 ·rw [if_neg b,make_mem h.1 h.2.1 hv]
  have b':a.2.2.2.2=false:=by simpa using b
  exact ⟨fun x=>⟨b',x⟩,fun x=>x.2⟩
theorem normN_norm {a:Int×Int×Nat×Nat×Bool} (h:RawN a):NormN (normN a):=by
 unfold normN
 split
 ·exact Or.inl rfl
 ·exact make_norm h.1 h.2.1
theorem normN_raw {a:Int×Int×Nat×Nat×Bool} (h:RawN a):RawN (normN a):=by
 unfold normN
 split
 ·exact bot_raw
 ·exact make_raw h.1 h.2.1 h.2.2.1 h.2.2.2
theorem normN_id {a:Int×Int×Nat×Nat×Bool} (h:RawN a) (n:NormN a):normN a=a:=norm_ext (normN_norm h) n (fun v hv=>normN_mem h hv)
theorem norm_some {a:Int×Int×Nat×Nat×Bool} (n:NormN a) (h:a.2.2.2.2=false):a.1<=a.2.1:=by
 rcases n with rfl | n
 ·cases h
 ·exact n.2.2.2.1
def joinRaw (a b:Int×Int×Nat×Nat×Bool):Int×Int×Nat×Nat×Bool :=
 if a.2.2.2.2=true then b else if b.2.2.2.2=true then a
 else makeN (joinI a.1 a.2.1 b.1 b.2.1).1 (joinI a.1 a.2.1 b.1 b.2.1).2 (joinC a.2.2.1 a.2.2.2.1 b.2.2.1 b.2.2.2.1).1 (joinC a.2.2.1 a.2.2.2.1 b.2.2.1 b.2.2.2.1).2
def joinN (a b:Int×Int×Nat×Nat×Bool):Int×Int×Nat×Nat×Bool:=joinRaw (normN a) (normN b)
theorem joinI_in {al ah bl bh:Int} (h1:In64 al) (h2:In64 ah) (h3:In64 bl) (h4:In64 bh):In64 (joinI al ah bl bh).1/\In64 (joinI al ah bl bh).2:=by
 unfold joinI normI
 unfold In64 at *
 split
 ·split<;>(simp only;omega)
 ·split<;>(simp only;omega)
def nzRaw (a:Int×Int×Nat×Nat×Bool):Int×Int×Nat×Nat×Bool :=
 if a.2.2.2.2=true then a else makeN (if a.1=0 then 1 else a.1) (if a.2.1=0 then -1 else a.2.1) a.2.2.1 a.2.2.2.1
def nonZeroN (a:Int×Int×Nat×Nat×Bool):Int×Int×Nat×Nat×Bool:=nzRaw (normN a)
theorem nzRaw_mem {a:Int×Int×Nat×Nat×Bool} (ha:RawN a) {v:Int} (hv:In64 v):MemN (nzRaw a) v↔(MemN a v/\(v=0->a.1≠0/\a.2.1≠0)):=by
 unfold nzRaw
 by_cases x:a.2.2.2.2=true
 ·rw [if_pos x]
  refine ⟨fun h=>?_,fun h=>h.1⟩
  have:=h.1
  rw [x] at this
  cases this
 ·rw [if_neg x,make_mem (by have:=ha.1;unfold In64 at *;split<;>omega) (by have:=ha.2.1;unfold In64 at *;split<;>omega) hv]
  have x':a.2.2.2.2=false:=by simpa using x
  constructor
  ·intro h
   obtain ⟨h1,h2,h3⟩:=h
   refine ⟨⟨x',?_,?_,h3⟩,?_⟩
   ·split at h1<;>omega
   ·split at h2<;>omega
   ·intro z
    subst z
    constructor
    ·intro e;rw [if_pos e] at h1;omega
    ·intro e;rw [if_pos e] at h2;omega
  ·intro h
   obtain ⟨⟨_,h1,h2,h3⟩,h4⟩:=h
   refine ⟨?_,?_,h3⟩
   ·split
    ·rename_i e
     by_cases z:v=0
     ·exact absurd e (h4 z).1
     ·omega
    ·exact h1
   ·split
    ·rename_i e
     by_cases z:v=0
     ·exact absurd e (h4 z).2
     ·omega
    ·exact h2
end
section
open Go.RowKit
def negC (M R:Nat) (e:Bool):Nat×Nat :=
 if M=0 then (0,bitsN (wrap64 (-(wrap64 (R:Int))))) else (byG M e,restN (rF M R) true (byG M e))
set_option maxRecDepth 100000 in
set_option maxHeartbeats 4000000 in
theorem cneg_any (M R:Nat) (ex:Bool) (h1:U64 M) (h2:U64 R) (w0 w:World) (hok:Ok w0 w) :
  Calls Tryz.prog 34 #[cv M R,.bool ex] w fun e w'=>e=.returned (cv (negC M R ex).1 (negC M R ex).2)/\Ok w0 w':=by
 have hle:=hok.le
 have HU:Hid _:=And.intro h1 h2
 clear h1 h2
 by_cases hz:M=0
 ·have E:Hid (negC M R ex=(0,bitsN (wrap64 (-(wrap64 (R:Int)))))):=by unfold Hid negC;rw [if_pos hz]
  subst hz
  obtain ⟨V1,hV1⟩:∃ V,V=wrap64 (R:Int):=⟨_,rfl⟩
  rw [<-hV1] at E
  have HV:Hid _:=hV1
  clear hV1
  unfold cv
  go_enter Tryz.func34,Tryz.ntmps34
  go_wp2_with fail
  have rr:((w.alloc (.cells #[.int .u64 0,.int .u64 (R:Int)] 27)).alloc (.cells #[.int .u64 0,.int .u64 0] 27)).heap[w.heap.size+1]?=some (.cells #[.int .u64 0,.int .u64 0] 27):=jj
  refine (cnumber_any 0 R HU.out.2 _ _ (Ok.refl _)).mono ?_
  rintro e w1 ⟨rfl,hb1⟩
  rw [<-HV.out]
  have HR1:Hid _:=Ok.row' hb1 rr
  have HB1:Hid (Ok w0 w1):=Ok.step (by repeat (first | exact hok | refine Ok.alloc ?_ _ | refine Ok.draws ?_ _ | fail)) hb1
  clear rr hb1 hok
  go_wp2_with fail
  refine (cconst_any _ w1 w1 (Ok.refl _)).mono ?_
  rintro e w2 ⟨rfl,hb2⟩
  have HR2:Hid _:=Ok.row' hb2 HR1.out
  have HB2:Hid (Ok w0 w2):=Ok.step HB1.out hb2
  obtain ⟨c0,c1,c2,c3⟩:=row_facts HR2.out
  unfold cv
  go_wp2_with fail
  (try simp only [Exit.inBlock,Exit.then])
  refine bodyPost_ret (results_cell_row rfl _ _ (w.heap.size+1) 27 #[_,_] (0,0) _ rfl (row_set2 HR2.out _ _) Tryz.underlying27 rfl infoCg) rfl ?_
  rw [E.out]
  refine ⟨?_,(HB2.out.set (show w0.heap.size<=w.heap.size+1 by omega) _).set (show w0.heap.size<=w.heap.size+1 by omega) _⟩
  first | rfl | (rw [show IntKind.i64.wrap (-V1)=wrap64 (-V1) by rw [IntKind.wrap_i64];unfold wrap64;omega];rfl)
 ·have E:Hid (negC M R ex=(byG M ex,restN (rF M R) true (byG M ex))):=by unfold Hid negC;rw [if_neg hz]
  have hz1:((M:Int)==0)=false:=by simp;omega
  have HM:Hid (0<M/\Big M/\Big (rF M R)):=by
   have a:=HU.out.1
   have b:=rF_rng HU.out.1 HU.out.2
   unfold U64 at a;unfold Hid Big;omega
  obtain ⟨f1,hf1⟩:∃ f,f=rF M R:=⟨_,rfl⟩
  obtain ⟨s1,hs1⟩:∃ s,s=rS M R:=⟨_,rfl⟩
  rw [<-hf1] at E HM
  have HF:Hid _:=And.intro hf1 hs1
  clear hf1 hs1 hz
  unfold cv
  go_enter Tryz.func34,Tryz.ntmps34
  go_wp2_with fail
  obtain ⟨W,hW⟩:∃ W,W=(w.alloc (.cells #[.int .u64 (M:Int),.int .u64 (R:Int)] 27)).alloc (.cells #[.int .u64 0,.int .u64 0] 27):=⟨_,rfl⟩
  have ra:W.heap[w.heap.size]?=some (.cells #[.int .u64 (M:Int),.int .u64 (R:Int)] 27):=by rw [hW];exact jj
  have rr:W.heap[w.heap.size+1]?=some (.cells #[.int .u64 0,.int .u64 0] 27):=by rw [hW];exact jj
  have HW:Hid (Ok w0 W):=by rw [hW];exact (by repeat (first | exact hok | refine Ok.alloc ?_ _ | refine Ok.draws ?_ _ | fail))
  rw [<-hW]
  clear hW hok
  obtain ⟨a0,a1,_,_⟩:=row_facts ra
  have z0:=lt_row ra
  have HR:Hid _:=rr
  clear ra rr
  refine (cr_any M R HU.out.1 HU.out.2 W W (Ok.refl _)).mono ?_
  rintro e w1 ⟨rfl,hb1⟩
  rw [<-HF.out.1,<-HF.out.2]
  have a0':=Ok.cell hb1 z0 a0;have a1':=Ok.cell hb1 z0 a1
  have lz:=hb1.le
  have y0:w.heap.size<w1.heap.size:=by omega
  have y2:¬w.heap.size=w1.heap.size:=by omega
  unfold iv
  go_wp2_with fail
  obtain ⟨Z,hZ⟩:∃ Z,Z=w1.alloc (.cells #[.int .u64 (hiB f1),.int .u64 (loB f1),.bool true] 107):=⟨_,rfl⟩
  obtain ⟨gy,hgy⟩:∃ gy,gy=w1.heap.size:=⟨_,rfl⟩
  have ry:Z.heap[gy]?=some (.cells #[.int .u64 (hiB f1),.int .u64 (loB f1),.bool true] 107):=by rw [hZ];exact heap_at _ _ _ hgy
  have okZ:Ok W Z:=by rw [hZ];exact hb1.alloc _
  rw [<-hZ,<-hgy]
  have n1:¬w.heap.size+1=gy:=by have:=lt_row (Ok.row' hb1 HR.out);omega
  have n2:¬w.heap.size+1=w.heap.size:=by omega
  clear hZ hgy y0 y2 lz a0' a1'
  have HRZ:Hid _:=Ok.row' okZ HR.out
  have HWZ:Hid (Ok w0 Z):=HW.out.step okZ
  have p0:=Ok.cell okZ z0 a0
  have l0:w.heap.size<Z.heap.size:=Nat.lt_of_lt_of_le z0 okZ.le
  obtain ⟨p3,p4,p5,_⟩:=row3_facts ry
  have l2:=lt_row ry
  clear ry okZ a0 a1 z0
  have bz:Ok Z Z:=Ok.refl _
  go_region_held3 (fun w'=>w'.cell? ⟨w.heap.size,0,none⟩=some (.int .u64 (M:Int))/\w'.cell? ⟨gy,0,none⟩=some (.int .u64 (hiB f1))/\w'.cell? ⟨gy,1,none⟩=some (.int .u64 (loB f1))/\w'.cell? ⟨gy,2,none⟩=some (.bool true)) (go_keep)
   (first
   | (go_at_call 111;refine (bof_any M HU.out.1 Z _ (by repeat (first | assumption | refine Ok.alloc ?_ _ | refine Below.drew ?_))).mono ?_;rintro e w' ⟨rfl,hb⟩;have q0:=Ok.cell hb l0 p0;have q3:=Ok.cell hb l2 p3;have q4:=Ok.cell hb l2 p4;have q5:=Ok.cell hb l2 p5;obtain ⟨c0,c1,c2,c3⟩:=row_facts (Ok.row' hb HRZ.out))
   | (go_at_call 110;refine (cby_any f1 true M ex HM.out.2.2 HM.out.2.1 HM.out.1 Z _ (by repeat (first | assumption | refine Ok.alloc ?_ _ | refine Below.drew ?_))).mono ?_;rintro e w' ⟨rfl,hb⟩;unfold cv;have q0:=Ok.cell hb l0 p0;have q3:=Ok.cell hb l2 p3;have q4:=Ok.cell hb l2 p4;have q5:=Ok.cell hb l2 p5;obtain ⟨c0,c1,c2,c3⟩:=row_facts (Ok.row' hb HRZ.out))
   | fail)
  have HR2:Hid _:=Ok.row' hb HRZ.out
  have HB2:Hid (Ok w0 w'):=HWZ.out.step hb
  go_wp2_with fail
  (try simp only [Exit.inBlock,Exit.then])
  refine bodyPost_ret (results_cell_row rfl _ _ (w.heap.size+1) 27 #[_,_] (0,0) _ rfl (row_set2 HR2.out _ _) Tryz.underlying27 rfl infoCg) rfl ?_
  rw [E.out]
  exact ⟨rfl,(HB2.out.set (show w0.heap.size<=w.heap.size+1 by omega) _).set (show w0.heap.size<=w.heap.size+1 by omega) _⟩
end
section
open Go.RowKit
theorem byG_pos {g:Nat} (h:0<g) (e:Bool):0<byG g e:=by
 unfold byG;split
 ·exact h
 ·exact twoN_pos g
theorem sval_not (f:Nat) (s:Bool):sval f (!s) = -(sval f s):=by unfold sval;cases s<;>simp
end
section
open Go.RowKit
def mulG (cM cR dM dR:Nat):Nat:=Nat.gcd (cM*dM) (Nat.gcd (rF cM cR*dM) (rF dM dR*cM))
def mulC (cM cR dM dR:Nat) (e:Bool):Nat×Nat :=
 if cM=0/\dM=0 then (0,bitsN (wrap64 (wrap64 (cR:Int)*wrap64 (dR:Int))))
 else if (cM=0/\cR=0)\/(dM=0/\dR=0) then (0,0)
 else (byG (mulG cM cR dM dR) e,restN (rF cM cR*rF dM dR) (rS cM cR != rS dM dR) (byG (mulG cM cR dM dR) e))
theorem sval_mul (f1 f2:Nat) (s1 s2:Bool):sval (f1*f2) (s1 != s2)=sval f1 s1*sval f2 s2:=by
 unfold sval;cases s1<;>cases s2<;>simp [Int.natCast_mul,Int.neg_mul,Int.mul_neg]
theorem rF_ne {M R:Nat} (hR:U64 R) (h:¬(M=0/\R=0)) (hM:M=0):0<rF M R:=by
 subst hM
 unfold rF;rw [if_pos rfl]
 have:R≠0:=fun c=>h ⟨rfl,c⟩
 unfold U64 at hR;unfold wrap64;omega
theorem mulG_pos {cM cR dM dR:Nat} (hc:U64 cR) (hd:U64 dR) (h0:¬(cM=0/\dM=0)) (h1:¬(cM=0/\cR=0)) (h2:¬(dM=0/\dR=0)):0<mulG cM cR dM dR:=by
 apply Nat.pos_of_ne_zero
 intro h
 unfold mulG at h
 have a:=Nat.gcd_eq_zero_iff.1 h
 have b:=Nat.gcd_eq_zero_iff.1 a.2
 have c:=Nat.mul_eq_zero.1 a.1
 by_cases z:cM=0
 ·have p:=rF_ne hc h1 z
  rcases Nat.mul_eq_zero.1 b.1 with q | q
  ·omega
  ·exact h0 ⟨z,q⟩
 ·have z2:dM=0:=by omega
  have p:=rF_ne hd h2 z2
  rcases Nat.mul_eq_zero.1 b.2 with q | q<;>omega
def remG (cM dM dR:Nat):Nat:=Nat.gcd (Nat.gcd cM dM) (rF dM dR)
def remC (cM cR dM dR:Nat):Nat×Nat :=
 if dM=0/\dR=0 then (1,0)
 else if cM=0/\dM=0 then (0,bitsN (if wrap64 (dR:Int) = -1 then 0 else (wrap64 (cR:Int)).tmod (wrap64 (dR:Int))))
 else (remG cM dM dR,restN (rF cM cR) (rS cM cR) (remG cM dM dR))
end
section
open Go.RowKit
def divC (cM cR dM dR:Nat):Nat×Nat :=
 if 0<dM\/wrap64 (dR:Int)=0 then (1,0)
 else if cM=0 then (0,bitsN (if wrap64 (dR:Int) = -1 then wrap64 (-(wrap64 (cR:Int))) else (wrap64 (cR:Int)).tdiv (wrap64 (dR:Int))))
 else if wrap64 (dR:Int) = -1\/cM%(wrap64 (dR:Int)).natAbs≠0\/cR%cM%(wrap64 (dR:Int)).natAbs≠0 then (1,0)
 else (cM/(wrap64 (dR:Int)).natAbs,restN (cR%cM/(wrap64 (dR:Int)).natAbs) (decide (wrap64 (dR:Int)<0)) (cM/(wrap64 (dR:Int)).natAbs))
theorem all_mem (v:Int):MemC 1 0 v:=by rw [memC_pos (by omega)];simp
theorem tdiv_in64 {x y:Int} (hx:In64 x) (h1:y ≠ -1):In64 (x.tdiv y):=by
 have a:(x.tdiv y).natAbs=x.natAbs/y.natAbs:=Int.natAbs_tdiv x y
 by_cases h0:y.natAbs<2
 ·have:y=0\/y=1:=by omega
  rcases this with rfl | rfl
  ·rw [Int.tdiv_zero];unfold In64;omega
  ·rw [Int.tdiv_one];exact hx
 ·have b:x.natAbs/y.natAbs<=x.natAbs/2:=Nat.div_le_div_left (by omega) (by omega)
  unfold In64 at *;omega
end
section
open Go.RowKit
theorem joinC_u64 {cM cR dM dR:Nat} (h1:U64 cM) (h3:U64 dM) (h2:U64 cR) (h4:U64 dR):U64 (joinC cM cR dM dR).1/\U64 (joinC cM cR dM dR).2:=by
 unfold joinC
 refine classC_u64 ?_
 unfold joinG U64
 by_cases c:cM=0/\dM=0
 ·obtain ⟨rfl,rfl⟩:=c
  have p:=wrap64_in (cR:Int)
  have q:=wrap64_in (dR:Int)
  rw [rI_zero,rI_zero,Nat.gcd_zero_left,Nat.gcd_zero_left]
  unfold In64 at *
  omega
 ·have:0<Nat.gcd cM dM:=by
   apply Nat.pos_of_ne_zero
   intro z
   exact c (Nat.gcd_eq_zero_iff.1 z)
  have a:=Nat.le_of_dvd this (Nat.gcd_dvd_left (Nat.gcd cM dM) (rI cM cR-rI dM dR).natAbs)
  have b:Nat.gcd cM dM<18446744073709551616:=by
   unfold U64 at h1 h3
   by_cases z:cM=0
   ·rw [z,Nat.gcd_zero_left];exact h3
   ·exact Nat.lt_of_le_of_lt (Nat.le_of_dvd (by omega) (Nat.gcd_dvd_left cM dM)) h1
  omega
theorem nz_in {x:Int} (h:In64 x):In64 (if x=0 then 1 else x)/\In64 (if x=0 then -1 else x):=by
 unfold In64 at *;constructor<;>split<;>omega
theorem nzRaw_norm {a:Int×Int×Nat×Nat×Bool} (ha:RawN a) (na:NormN a):NormN (nzRaw a):=by
 unfold nzRaw
 split
 ·exact na
 ·exact make_norm (nz_in ha.1).1 (nz_in ha.2.1).2
theorem nzRaw_raw {a:Int×Int×Nat×Nat×Bool} (ha:RawN a):RawN (nzRaw a):=by
 unfold nzRaw
 split
 ·exact ha
 ·exact make_raw (nz_in ha.1).1 (nz_in ha.2.1).2 ha.2.2.1 ha.2.2.2
theorem nonZeroN_raw {a:Int×Int×Nat×Nat×Bool} (ha:RawN a):RawN (nonZeroN a):=nzRaw_raw (normN_raw ha)
def insN (a:Int×Int×Nat×Nat×Bool) (v:Int):Bool := !a.2.2.2.2&&hasI a.1 a.2.1 v&&hasC a.2.2.1 a.2.2.2.1 v
def lqN (a b:Int×Int×Nat×Nat×Bool):Bool:=leqN (normN a) (normN b)
end
end Go.Proofs.YtpjpjhjjhoeijaaGreat
