import Derived.Test.YtgobgdljckamkaaGreatDoorKRa
set_option linter.unusedVariables false
set_option linter.unusedSimpArgs false
set_option linter.unnecessarySimpa false
namespace Go.Proofs.YtgobgdljckamkaaGreatDoor
section
open Go.RowKit
theorem zi5 {ns:List Nd} {p:Nat} (h:p<ns.length):ptF ns (p+1)=ptF ns p+if 2≤kdA ns p∧kdA ns p≤8 then 1 else 0:=by
 obtain ⟨n,e⟩:=zn6 h
 rw [zx4 e,zd6 e]
 unfold stepB
 by_cases h1:2≤n.kind<;>by_cases h2:n.kind≤8<;>simp [h1,h2]
theorem zH5 {ns:List Nd} {p:Nat} (h:¬p<ns.length):ptF ns (p+1)=ptF ns p:=by
 unfold ptF
 rw [List.take_of_length_le (by omega),List.take_of_length_le (by omega)]
theorem zH6 {ns:List Nd} {p:Nat}:∀ (k:Nat),ptF ns p≤ptF ns (p+k)
 | 0=>Nat.le_refl _
 | k+1=>by
  have h1:=zH6 (ns:=ns) (p:=p) k
  rw [←Nat.add_assoc]
  by_cases h:p+k<ns.length
  ·rw [zi5 h];omega
  ·rw [zH5 h];exact h1
theorem zs9 {ns:List Nd} {p q:Nat} (h:p≤q):ptF ns p≤ptF ns q:=by
 have:=zH6 (ns:=ns) (p:=p) (q-p)
 rwa [show p+(q-p)=q by omega] at this
theorem zx7 {ns:List Nd} {p:Nat}:∀ (k:Nat),(∀ q,p≤q→q<p+k→¬(2≤kdA ns q∧kdA ns q≤8))→ptF ns (p+k)=ptF ns p
 | 0,_=>rfl
 | k+1,h=>by
  rw [←Nat.add_assoc]
  by_cases hl:p+k<ns.length
  ·rw [zi5 hl,if_neg (h (p+k) (by omega) (by omega)),zx7 k (fun q h1 h2=>h q h1 (by omega)),Nat.add_zero]
  ·rw [zH5 hl,zx7 k (fun q h1 h2=>h q h1 (by omega))]
theorem zx8 {ns:List Nd} {p q:Nat} (hpq:p≤q) (h:∀ r,p≤r→r<q→¬(2≤kdA ns r∧kdA ns r≤8)):ptF ns q=ptF ns p:=by
 have:=zx7 (ns:=ns) (p:=p) (q-p) (fun r h1 h2=>h r h1 (by omega))
 rwa [show p+(q-p)=q by omega] at this
theorem zV3 (ns:List Nd) (p:Nat):ptF ns p≤ptF ns ns.length:=by
 rcases Nat.le_total p ns.length with h | h
 ·exact zs9 h
 ·unfold ptF;rw [List.take_of_length_le h,List.take_of_length_le (Nat.le_refl _)];exact Nat.le_refl _
def Blk (v:Nat) (b:List Ed):Prop :=
 (∃ e,b=[e]∧e.from'=v∧e.op≠5∧e.sense=false∧e.loop=false) ∨
 (∃ e1 e2,b=[e1,e2]∧e1.from'=v∧e2.from'=v∧e1.op=5∧e2.op=5∧e2.place=e1.place∧e1.sense=true∧e2.sense=false∧e2.loop=e1.loop)
def Segs (L:List Ed) (A Z:Nat):Prop:=∃ bs:List (List Ed),L=bs.flatten∧A+bs.length=Z∧∀ (i:Nat) (b:List Ed),bs[i]?=some b→Blk (A+i) b
theorem Segs.nil (A:Nat):Segs [] A A:=⟨[],rfl,rfl,fun i b h=>by simp at h⟩
theorem Segs.one {A:Nat} {b:List Ed} (h:Blk A b):Segs b A (A+1):=⟨[b],by simp,rfl,fun i c hc=>by
 cases i with
 | zero=>simp at hc;subst hc;exact h
 | succ i=>simp at hc⟩
theorem Segs.app {L1 L2:List Ed} {A B C:Nat} (h1:Segs L1 A B) (h2:Segs L2 B C):Segs (L1++L2) A C:=by
 obtain ⟨b1,e1,n1,k1⟩:=h1
 obtain ⟨b2,e2,n2,k2⟩:=h2
 refine ⟨b1++b2,by rw [e1,e2,List.flatten_append],by rw [List.length_append];omega,fun i b hb=>?_⟩
 rcases Nat.lt_or_ge i b1.length with h | h
 ·rw [List.getElem?_append_left h] at hb;exact k1 i b hb
 ·rw [List.getElem?_append_right h] at hb
  have:=k2 _ _ hb
  rwa [show B+(i-b1.length)=A+i by omega] at this
def PlOK (ns:List Nd) (e:Ed):Prop :=
 (e.op=5∧∃ p:Nat,e.place=(p:Int)+1∧p+1<ns.length∧(kdA ns p=7∨kdA ns p=8)∧e.loop=decide (kdA ns p=8)∧e.from'=ptF ns p) ∨
 (∃ p:Nat,e.place=p∧p<ns.length∧2≤kdA ns p∧kdA ns p≤6∧e.op=kdA ns p-2∧e.from'=ptF ns p)
structure Flow (ns:List Nd) (L:List Ed) (A Z fol:Nat):Prop where
 seg:Segs L A Z
 to:∀ e∈L,∃ t:Nat,e.to'=t∧t≤ptF ns ns.length
 pl:∀ e∈L,PlOK ns e
 mid:∀ v,A<v→v<Z→∃ e∈L,∃ u:Nat,e.to'=v∧e.from'=u∧u<v
 out:A<Z→∃ e∈L,∃ u:Nat,e.to'=fol∧e.from'=u∧u<Z
def Stretch (ns:List Nd) (D:Int) (p en:Nat):Prop:=p<en→en≤ns.length∧depA ns p=D∧(∀ q,p≤q→q<en→D≤depA ns q)∧(∀ q,p≤q→q<en→depA ns q=D→kdA ns q≤8)∧(en=ns.length∨(en<ns.length∧depA ns en<D))
theorem Stretch.next {ns:List Nd} {D:Int} {p en:Nat} (h:Stretch ns D p en) (hp:p<en):endF ns p≤en∧Stretch ns D (endF ns p) en:=by
 obtain ⟨h1,h2,h3,h4,h5⟩:=h hp
 have hlo:=ze7 (ns:=ns) (p:=p)
 have hle:endF ns p≤en:=by
  rcases Nat.lt_or_ge en (endF ns p) with c | c
  ·exfalso
   have:=zc1 (ns:=ns) hp c
   rcases h5 with h5 | h5<;>omega
  ·exact c
 refine ⟨hle,fun hq=>⟨h1,?_,fun q a b=>h3 q (by omega) b,fun q a b=>h4 q (by omega) b,h5⟩⟩
 have:=zf4 (ns:=ns) (p:=p) (by omega)
 have:=h3 (endF ns p) (by omega) hq
 omega
theorem TreeOK.block {ns:List Nd} (h:TreeOK ns) {a:Nat} (ha:a<ns.length) (hk:kdA ns a=9):Stretch ns (depA ns a+1) (a+1) (endF ns a)∧(∀ q,a+1≤q→q<endF ns a→depA ns q=depA ns a+1→2≤kdA ns q∧kdA ns q≤8):=by
 have hq:∀ q,a+1≤q→q<endF ns a→depA ns q=depA ns a+1→2≤kdA ns q∧kdA ns q≤8:=by
  intro q h1 h2 h3
  obtain ⟨c,hc⟩:=h.kid (by omega) h2 h3
  have k1:=h.kd (zc1 (ns:=ns) (p:=a) (q:=q) (by omega) h2).2
  have hs:=zk9 (k:=(kdA ns q).toNat) (by omega)
  have e:nextD (kdA ns a).toNat c=2:=by rw [hk];rfl
  have:=hs.2.1.1 (by rw [hc,e])
  omega
 refine ⟨fun hp=>⟨(ze4 ha).2,?_,fun q h1 h2=>?_,fun q h1 h2 h3=>(hq q h1 h2 h3).2,?_⟩,hq⟩
 ·have h1:=zc1 (ns:=ns) (p:=a) (q:=a+1) (by omega) hp
  have:=h.step h1.2
  omega
 ·have:=(zc1 (ns:=ns) (p:=a) (q:=q) (by omega) h2).1
  omega
 ·rcases Nat.lt_or_ge (endF ns a) ns.length with c | c
  ·have:=zf4 (ns:=ns) (p:=a) c
   exact .inr ⟨c,by omega⟩
  ·have:=(ze4 ha).2
   exact .inl (by omega)
theorem TreeOK.whole {ns:List Nd} (h:TreeOK ns):Stretch ns 1 0 ns.length:=fun hp=>by
 refine ⟨Nat.le_refl _,?_,fun q _ hq=>h.dep hq,fun q _ hq hd=>?_,.inl rfl⟩
 ·rw [zc8 (List.getElem?_eq_getElem hp)];exact h.shp.first hp
 ·obtain ⟨n,e⟩:=zn6 hq
  have k1:=h.kd hq
  rw [zd6 e] at k1 ⊢
  rw [zc8 e] at hd
  have hs:=zk9 (k:=n.kind.toNat) (by omega)
  rcases h.top n (List.mem_of_getElem? e) hd with c | c
  ·have:=hs.1.1 c;omega
  ·have:=hs.2.1.1 c;omega
theorem TreeOK.decl {ns:List Nd} (h:TreeOK ns) {p q:Nat} (hpq:p<q) (hq:q<ns.length) (hk:2≤kdA ns p):2≤kdA ns q:=by
 rcases Int.lt_or_le (kdA ns q) 2 with c | c
 ·exfalso
  have:=h.shp.decl p q hq hpq (by rw [←zd6 (List.getElem?_eq_getElem hq)];omega)
  rw [←zd6 (List.getElem?_eq_getElem (show p<ns.length by omega))] at this
  omega
 ·exact c
theorem zt0 {ns:List Nd} {x y z:Nat} (h:x<y):bgF ns x y z=ptF ns x:=by unfold bgF;rw [if_pos h]
theorem zu2 {ns:List Nd} {x y z:Nat} (h:¬x<y):bgF ns x y z=z:=by unfold bgF;rw [if_neg h]
theorem zE8 {ns:List Nd} {x y z:Nat} (h:z≤ptF ns ns.length):bgF ns x y z≤ptF ns ns.length:=by
 unfold bgF;split
 ·exact zV3 ns x
 ·exact h
theorem Flow.nil (ns:List Nd) (A fol:Nat):Flow ns [] A A fol:=⟨Segs.nil A,fun e h=>(by cases h),fun e h=>(by cases h),fun v h1 h2=>(by omega),fun h=>(by omega)⟩
theorem Flow.app {ns:List Nd} {L1 L2:List Ed} {A B Z x fol:Nat} (h1:Flow ns L1 A B x) (h2:Flow ns L2 B Z fol) (hx:A<B→B<Z→x=B) (ho:A<Z→B=Z→A<B→x=fol):Flow ns (L1++L2) A Z fol:=by
 obtain ⟨b1,_,n1,_⟩:=h1.seg
 obtain ⟨b2,_,n2,_⟩:=h2.seg
 refine ⟨h1.seg.app h2.seg,fun e he=>?_,fun e he=>?_,fun v hA hZ=>?_,fun hAZ=>?_⟩
 ·rcases List.mem_append.1 he with he | he
  ·exact h1.to e he
  ·exact h2.to e he
 ·rcases List.mem_append.1 he with he | he
  ·exact h1.pl e he
  ·exact h2.pl e he
 ·rcases Nat.lt_trichotomy v B with c | c | c
  ·obtain ⟨e,he,r⟩:=h1.mid v hA c
   exact ⟨e,List.mem_append_left _ he,r⟩
  ·subst c
   obtain ⟨e,he,u,r1,r2,r3⟩:=h1.out hA
   exact ⟨e,List.mem_append_left _ he,u,by rw [r1,hx hA hZ],r2,r3⟩
  ·obtain ⟨e,he,r⟩:=h2.mid v c hZ
   exact ⟨e,List.mem_append_right _ he,r⟩
 ·rcases Nat.lt_or_ge B Z with c | c
  ·obtain ⟨e,he,r⟩:=h2.out c
   exact ⟨e,List.mem_append_right _ he,r⟩
  ·have eB:B=Z:=by omega
   obtain ⟨e,he,u,r1,r2,r3⟩:=h1.out (by omega)
   exact ⟨e,List.mem_append_left _ he,u,by rw [r1,ho hAZ eB (by omega)],r2,by omega⟩
theorem zq2 {ns:List Nd} (h:TreeOK ns):∀ (f p en fol:Nat) (D:Int),Stretch ns D p en→ns.length+2-p≤f→p≤en→fol≤ptF ns ns.length→Flow ns (stE ns f p en fol) (ptF ns p) (ptF ns en) fol
 | 0,p,en,fol,D,hS,hf,hpe,_=>by
  by_cases hp:p<en
  ·have:=(hS hp).1;omega
  ·have e:p=en:=by omega
   subst e
   rw [zj8 hp];exact Flow.nil _ _ _
 | f+1,p,en,fol,D,hS,hf,hpe,hfol=>by
  by_cases hp:p<en
  rotate_left
  ·have e:p=en:=by omega
   subst e
   rw [zj8 hp];exact Flow.nil _ _ _
  obtain ⟨h1,h2,h3,h4,h5⟩:=hS hp
  obtain ⟨hle,hS'⟩:=hS.next hp
  have hpl:p<ns.length:=by omega
  have hlo:=ze7 (ns:=ns) (p:=p)
  have k8:=h4 p (Nat.le_refl _) hp h2
  have kd0:=h.kd hpl
  have IH:=zq2 h f (endF ns p) en fol D hS' (by omega) hle hfol
  obtain ⟨nx,hnx⟩:∃ x,x=bgF ns (endF ns p) en fol:=⟨_,rfl⟩
  have hnxm:nx≤ptF ns ns.length:=by rw [hnx];exact zE8 hfol
  have hxx:∀ (_:ptF ns p<ptF ns (endF ns p)) (_:ptF ns (endF ns p)<ptF ns en),nx=ptF ns (endF ns p):=fun _ c=>by
   rw [hnx]
   refine zt0 ?_
   rcases Nat.lt_or_ge (endF ns p) en with d | d
   ·exact d
   ·exfalso
    have:endF ns p=en:=by omega
    rw [this] at c;omega
  have hoo:∀ (_:ptF ns p<ptF ns en) (_:ptF ns (endF ns p)=ptF ns en) (_:ptF ns p<ptF ns (endF ns p)),nx=fol:=fun _ c d=>by
   rw [hnx]
   refine zu2 fun hlt=>?_
   have hk2:2≤kdA ns p:=by
    rcases Int.lt_or_le (kdA ns p) 2 with c' | c'
    ·exfalso
     have hfl:ptF ns (endF ns p)=ptF ns p:=zx8 (by omega) fun r r1 r2=>by
      by_cases e:r=p
      ·rw [e];omega
      ·have:=h.plain hpl (.inl (by omega)) r (by omega) r2;omega
     omega
    ·exact c'
   have hd:=hS' hlt
   have k1:=h.decl (p:=p) (q:=endF ns p) hlo (by omega) hk2
   have k2:=hd.2.2.2.1 (endF ns p) (Nat.le_refl _) hlt hd.2.1
   have s1:=zi5 (ns:=ns) (p:=endF ns p) (by omega)
   rw [if_pos ⟨k1,k2⟩] at s1
   have:=zs9 (ns:=ns) (p:=endF ns p+1) (q:=en) (by omega)
   omega
  rw [stE,if_pos hp,←hnx]
  refine Flow.app (B:=ptF ns (endF ns p)) (x:=nx) ?_ IH hxx hoo
  by_cases hc:kdA ns p=7∨kdA ns p=8
  ·rw [if_pos hc]
   obtain ⟨t1,t2,t3,t4,t5,t6⟩:=h.two hpl hc
   obtain ⟨a,ha⟩:∃ x,x=endF ns (p+1):=⟨_,rfl⟩
   rw [←ha] at t2 t3 t5 t6 ⊢
   obtain ⟨s,hs⟩:∃ x,x=endF ns a:=⟨_,rfl⟩
   rw [←hs] at t6 ⊢
   have lpa:p+1<a:=by rw [ha];exact ze7
   have las:a<s:=by rw [hs];exact ze7
   have hel:endF ns p≤ns.length:=(ze4 hpl).2
   have hal:a<ns.length:=by omega
   have hsl:s≤ns.length:=by rw [hs];exact (ze4 hal).2
   obtain ⟨bS,bK⟩:=h.block hal t5
   rw [←hs] at bS bK
   obtain ⟨bh,hbh⟩:∃ x,x=(if kdA ns p=8 then ptF ns p else nx):=⟨_,rfl⟩
   have hbm:bh≤ptF ns ns.length:=by
    rw [hbh];split
    ·exact zV3 ns p
    ·exact hnxm
   have pa:ptF ns (a+1)=ptF ns p+1:=by
    rw [zi5 hal,t5,if_neg (by omega)]
    have:=zx8 (ns:=ns) (p:=p+1) (q:=a) (by omega) (fun r r1 r2=>by
     by_cases e:r=p+1
     ·rw [e];omega
     ·have:=h.plain (p:=p+1) t1 (.inr t4) r (by omega) (by rw [←ha];exact r2);omega)
    rw [this,zi5 hpl,if_pos (by omega)]
   have F1:=zq2 h f (a+1) s bh (depA ns a+1) bS (by omega) (by omega) hbm
   have hbig:ptF ns (a+1)≤ptF ns s:=zs9 (by omega)
   have hch:chE ns p nx=[⟨ptF ns p,bgF ns (a+1) s bh,5,p+1,true,decide (kdA ns p=8)⟩,⟨ptF ns p,bgF ns (s+1) (endF ns p) nx,5,p+1,false,decide (kdA ns p=8)⟩]:=by
    unfold chE;rw [←ha,←hs,←hbh]
   rw [←hbh,hch]
   have hpc:∀ (tt:Nat) (sn:Bool),PlOK ns ⟨ptF ns p,tt,5,p+1,sn,decide (kdA ns p=8)⟩:=fun tt sn=>.inl ⟨rfl,p,rfl,by omega,hc,rfl,rfl⟩
   have hBk:Segs [⟨ptF ns p,bgF ns (a+1) s bh,5,p+1,true,decide (kdA ns p=8)⟩,⟨ptF ns p,bgF ns (s+1) (endF ns p) nx,5,p+1,false,decide (kdA ns p=8)⟩] (ptF ns p) (ptF ns p+1):=Segs.one (.inr ⟨_,_,rfl,rfl,rfl,rfl,rfl,rfl,rfl,rfl,rfl⟩)
   -- the edges of what stands behind the first block
   obtain ⟨L2,hL2⟩:∃ x,x=stE ns f (s+1) (endF ns p) nx:=⟨_,rfl⟩
   have F2:Flow ns L2 (ptF ns s) (ptF ns (endF ns p)) nx∧(ptF ns s<ptF ns (endF ns p)→bgF ns (s+1) (endF ns p) nx=ptF ns s)∧(¬ptF ns s<ptF ns (endF ns p)→bgF ns (s+1) (endF ns p) nx=nx):=by
    rcases t6 with e | ⟨k7,u1,u2,u3,u4⟩
    ·rw [hL2,e,zj8 (by omega)]
     exact ⟨Flow.nil _ _ _,fun c=>by omega,fun _=>zu2 (by omega)⟩
    ·have hsl':s<ns.length:=by omega
     obtain ⟨cS,cK⟩:=h.block hsl' u2
     rw [u4] at cS cK
     have ps:ptF ns (s+1)=ptF ns s:=by rw [zi5 hsl',u2,if_neg (by omega)];rfl
     have F:=zq2 h f (s+1) (endF ns p) nx (depA ns s+1) cS (by omega) (by omega) hnxm
     rw [ps] at F
     refine ⟨by rw [hL2];exact F,fun c=>?_,fun c=>?_⟩
     ·rw [zt0,ps]
      rcases Nat.lt_or_ge (s+1) (endF ns p) with d | d
      ·exact d
      ·exfalso
       have e:s+1=endF ns p:=by omega
       rw [←e,ps] at c;omega
     ·refine zu2 fun d=>c ?_
      have hd:=cS d
      have k:=cK (s+1) (Nat.le_refl _) d hd.2.1
      have st:=zi5 (ns:=ns) (p:=s+1) (by omega)
      rw [if_pos k,ps] at st
      have:=zs9 (ns:=ns) (p:=s+1+1) (q:=endF ns p) (by omega)
      omega
   rw [←hL2]
   obtain ⟨F2,G1,G2⟩:=F2
   have hbig2:ptF ns s≤ptF ns (endF ns p):=zs9 (by rcases t6 with e | ⟨_,e,_⟩<;>omega)
   have hy:ptF ns (a+1)<ptF ns s→bgF ns (a+1) s bh=ptF ns (a+1):=fun c=>zt0 (by
    rcases Nat.lt_or_ge (a+1) s with d | d
    ·exact d
    ·exfalso
     have e:a+1=s:=by omega
     rw [←e] at c;omega)
   rw [pa] at F1 hbig hy
   refine ⟨(hBk.app (F1.seg.app F2.seg)),fun e he=>?_,fun e he=>?_,fun v v1 v2=>?_,fun _=>?_⟩
   ·rcases List.mem_append.1 he with he | he
    ·simp only [List.mem_cons,List.not_mem_nil,or_false] at he
     rcases he with rfl | rfl
     ·exact ⟨_,rfl,zE8 hbm⟩
     ·exact ⟨_,rfl,zE8 hnxm⟩
    ·rcases List.mem_append.1 he with he | he
     ·exact F1.to e he
     ·exact F2.to e he
   ·rcases List.mem_append.1 he with he | he
    ·simp only [List.mem_cons,List.not_mem_nil,or_false] at he
     rcases he with rfl | rfl
     ·exact hpc _ _
     ·exact hpc _ _
    ·rcases List.mem_append.1 he with he | he
     ·exact F1.pl e he
     ·exact F2.pl e he
   ·by_cases c1:v=ptF ns p+1
    ·rcases Nat.lt_or_ge v (ptF ns s) with d | d
     ·exact ⟨_,List.mem_append_left _ (List.mem_cons_self),ptF ns p,by rw [c1];exact congrArg Int.ofNat (hy (by omega)),rfl,by omega⟩
     ·exact ⟨_,List.mem_append_left _ (List.mem_cons_of_mem _ List.mem_cons_self),ptF ns p,by rw [c1];exact congrArg Int.ofNat ((G1 (by omega)).trans (by omega)),rfl,by omega⟩
    ·rcases Nat.lt_trichotomy v (ptF ns s) with d | d | d
     ·obtain ⟨e,he,r⟩:=F1.mid v (by omega) d
      exact ⟨e,List.mem_append_right _ (List.mem_append_left _ he),r⟩
     ·exact ⟨_,List.mem_append_left _ (List.mem_cons_of_mem _ List.mem_cons_self),ptF ns p,by rw [d];exact congrArg Int.ofNat (G1 (by omega)),rfl,by omega⟩
     ·obtain ⟨e,he,r⟩:=F2.mid v d v2
      exact ⟨e,List.mem_append_right _ (List.mem_append_right _ he),r⟩
   ·by_cases c:ptF ns s<ptF ns (endF ns p)
    ·obtain ⟨e,he,r⟩:=F2.out c
     exact ⟨e,List.mem_append_right _ (List.mem_append_right _ he),r⟩
    ·exact ⟨_,List.mem_append_left _ (List.mem_cons_of_mem _ List.mem_cons_self),ptF ns p,congrArg Int.ofNat (G2 c),rfl,by omega⟩
  ·rw [if_neg hc]
   have hin:∀ q,p<q→q<endF ns p→10≤kdA ns q:=h.plain hpl (.inl (by omega))
   have hfl:ptF ns (endF ns p)=ptF ns (p+1):=zx8 (by omega) fun r r1 r2=>by have:=hin r (by omega) r2;omega
   rw [hfl,zi5 hpl]
   by_cases hk:2≤kdA ns p∧kdA ns p≤6
   ·rw [if_pos hk,if_pos ⟨hk.1,by omega⟩]
    refine ⟨Segs.one (.inl ⟨_,rfl,rfl,by simp only;omega,rfl,rfl⟩),fun e he=>?_,fun e he=>?_,fun v v1 v2=>by omega,fun _=>⟨_,List.mem_cons_self,ptF ns p,rfl,rfl,by omega⟩⟩
    ·simp only [List.mem_cons,List.not_mem_nil,or_false] at he
     subst he;exact ⟨_,rfl,hnxm⟩
    ·simp only [List.mem_cons,List.not_mem_nil,or_false] at he
     subst he;exact .inr ⟨p,rfl,hpl,hk.1,hk.2,rfl,rfl⟩
   ·rw [if_neg hk,if_neg (by omega)]
    exact Flow.nil _ _ _
end
section
open Go.RowKit
def elF (ns:List Nd):List Ed:=stE ns (ns.length+2) 0 ns.length (ptF ns ns.length)
theorem yc6 {ns:List Nd} (h:TreeOK ns):Flow ns (elF ns) 0 (ptF ns ns.length) (ptF ns ns.length):=by
 have:=zq2 h (ns.length+2) 0 ns.length (ptF ns ns.length) 1 h.whole (by omega) (Nat.zero_le _) (Nat.le_refl _)
 exact this
end
end Go.Proofs.YtgobgdljckamkaaGreatDoor
