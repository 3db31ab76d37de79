import Derived.Test.YtgobgdljckamkaaGreatDoorKQe
set_option linter.unusedVariables false
set_option linter.unusedSimpArgs false
set_option linter.unnecessarySimpa false
namespace Go.Proofs.YtgobgdljckamkaaGreatDoor
open Go.RowKit
def KidsOK (k:Nat) (d:Int):Nat→List Nd→Prop
 | c,[]=>rWant k≤c
 | c,n::r=>if n.depth≤d then rWant k≤c else if n.depth=d+1 then rSort n.kind.toNat=nextD k c∧KidsOK k d (c+1) r else KidsOK k d c r
theorem zV2:∀ (l:List Nd) (i:Nat) (st:List Hold) (g:Bool),(runD l i st g).1=0 →
  (∀ (j:Nat) (h:j<st.length),KidsOK st[j].1 ((j:Int)+1) st[j].2 l)∧(∀ (p:Nat) (n:Nd),l[p]?=some n→KidsOK n.kind.toNat n.depth 0 (l.drop (p+1)))∧(∀ n∈l,n.depth=1→rSort n.kind.toNat=1∨rSort n.kind.toNat=2)
 | [],i,st,g,h=>by
  rw [runD] at h
  have hw:wantsB st=false:=by
   cases e:wantsB st with
   | false=>rfl
   | true=>rw [e] at h;simp at h
  refine ⟨fun j hj=>?_,fun p n hp=>by simp at hp,fun n hn=>by cases hn⟩
  unfold wantsB at hw
  rw [List.any_eq_false] at hw
  have:=hw st[j] (List.getElem_mem hj)
  simp only [decide_eq_true_eq] at this
  show rWant _≤_
  omega
 | n::l,i,st,g,h=>by
  rw [runD] at h
  by_cases h1:fitN n=false
  ·rw [if_pos h1] at h;simp at h
  rw [if_neg h1] at h
  by_cases h2:putOk st g n.depth n.kind.toNat=false
  ·rw [if_pos h2] at h;simp at h
  rw [if_neg h2] at h
  by_cases h3:24<n.depth
  ·rw [if_pos h3] at h;simp at h
  rw [if_neg h3] at h
  obtain ⟨a1,a2,a3⟩:=zV2 l (i+1) _ _ h
  obtain ⟨⟨b1,b2⟩,b3,b4⟩:=zi7.1 (by simpa using h2)
  obtain ⟨m,hm⟩:∃ m:Nat,n.depth=(m:Int)+1:=⟨(n.depth-1).toNat,by omega⟩
  have e1:(n.depth-1).toNat=m:=by omega
  rw [e1] at a1 b3 b4
  have hml:m≤st.length:=by omega
  have htop:KidsOK n.kind.toNat n.depth 0 l:=by
   cases m with
   | zero =>
    have:=a1 0 (by unfold pathPut;simp)
    simp only [pathPut,if_true,List.getElem_cons_zero] at this
    rw [hm]
    simpa using this
   | succ m =>
    have hl:=zP2 st m n.kind.toNat (by omega)
    have:=a1 (m+1) (by omega)
    rw [zP4 st m n.kind.toNat (by omega) (by omega)] at this
    rw [hm]
    simpa using this
  refine ⟨fun j hj=>?_,fun p x hp=>?_,fun x hx=>?_⟩
  ·show KidsOK _ _ _ (n::l)
   rw [KidsOK]
   by_cases c1:n.depth≤(j:Int)+1
   ·rw [if_pos c1]
    unfold wantsB at b3
    rw [List.any_eq_false] at b3
    have:=b3 st[j] (by
     rw [List.mem_iff_getElem]
     refine ⟨j-m,by rw [List.length_drop];omega,?_⟩
     rw [List.getElem_drop]
     congr 1
     omega)
    simp only [decide_eq_true_eq] at this
    omega
   ·rw [if_neg c1]
    obtain ⟨m',rfl⟩:∃ m',m=m'+1:=⟨m-1,by omega⟩
    have hl:=zP2 st m' n.kind.toNat (by omega)
    by_cases c2:n.depth=(j:Int)+1+1
    ·rw [if_pos c2]
     have ej:j=m':=by omega
     subst ej
     have:=a1 j (by omega)
     rw [zP3 st j n.kind.toNat (by omega) (by omega)] at this
     refine ⟨?_,this⟩
     unfold takesB at b4
     rw [if_neg (by omega)] at b4
     have e:st.getD (j+1-1) (0,0)=st[j]:=by
      rw [List.getD_eq_getElem?_getD,Nat.add_sub_cancel,List.getElem?_eq_getElem hj];rfl
     rw [e] at b4
     exact (by simpa using b4:nextD st[j].1 st[j].2=rSort n.kind.toNat).symm
    ·rw [if_neg c2]
     have:=a1 j (by omega)
     rw [pp_lo st m' n.kind.toNat j (by omega) (by omega) (by omega)] at this
     exact this
  ·cases p with
   | zero=>simp at hp;subst hp;exact htop
   | succ p=>rw [List.getElem?_cons_succ] at hp;rw [List.drop_succ_cons];exact a2 p x hp
  ·rcases List.mem_cons.1 hx with rfl | hx
   ·intro hd
    have:m=0:=by omega
    subst this
    unfold takesB at b4
    rw [if_pos rfl] at b4
    simp only [Bool.or_eq_true,beq_iff_eq,Bool.and_eq_true] at b4
    rcases b4 with h | h
    ·exact .inr h
    ·exact .inl h.1
   ·exact a3 x hx
theorem zE7 {k:Nat} {d:Int}:∀ {l:List Nd} {c i:Nat} {n:Nd},KidsOK k d c l→l[i]?=some n→(∀ (j:Nat) (m:Nd),j<i→l[j]?=some m→d<m.depth)→n.depth=d+1→∃ c',c≤c'∧rSort n.kind.toNat=nextD k c'
 | [],c,i,n,h,hi,_,_=>by simp at hi
 | x::r,c,0,n,h,hi,_,hd=>by
  simp at hi;subst hi
  rw [KidsOK,if_neg (by omega),if_pos hd] at h
  exact ⟨c,Nat.le_refl _,h.1⟩
 | x::r,c,i+1,n,h,hi,hj,hd=>by
  have hx:=hj 0 x (by omega) rfl
  rw [KidsOK,if_neg (by omega)] at h
  rw [List.getElem?_cons_succ] at hi
  have hj':∀ (j:Nat) (m:Nd),j<i→r[j]?=some m→d<m.depth:=fun j m h1 h2=>hj (j+1) m (by omega) (by rw [List.getElem?_cons_succ];exact h2)
  split at h
  ·obtain ⟨c',h1,h2⟩:=zE7 h.2 hi hj' hd
   exact ⟨c',by omega,h2⟩
  ·exact zE7 h hi hj' hd
theorem zB7 {k:Nat} {d:Int}:∀ {l:List Nd} {c m:Nat},KidsOK k d c l→(∀ (j:Nat) (x:Nd),j<m→l[j]?=some x→d+1<x.depth)→KidsOK k d c (l.drop m)
 | l,c,0,h,_=>h
 | [],c,m+1,h,_=>by rw [List.drop_nil];exact h
 | x::r,c,m+1,h,hj=>by
  have hx:=hj 0 x (by omega) rfl
  rw [KidsOK,if_neg (by omega),if_neg (by omega)] at h
  rw [List.drop_succ_cons]
  exact zB7 h fun j y h1 h2=>hj (j+1) y (by omega) (by rw [List.getElem?_cons_succ];exact h2)
structure TreeOK (ns:List Nd):Prop where
 shp:Shp ns
 kids:∀ (p:Nat) (n:Nd),ns[p]?=some n→KidsOK n.kind.toNat n.depth 0 (ns.drop (p+1))
 top:∀ n∈ns,n.depth=1→rSort n.kind.toNat=1∨rSort n.kind.toNat=2
theorem zs8 {ns:List Nd} (h:(shapeD ns).1=0):TreeOK ns:=by
 have hs:=zG4 h
 unfold shapeD at h
 split at h
 ·simp at h
 ·have:=zV2 ns 0 [] false h
  exact ⟨hs,this.2.1,this.2.2⟩
theorem zc8 {ns:List Nd} {p:Nat} {n:Nd} (h:ns[p]?=some n):depA ns p=n.depth:=by unfold depA;rw [h];rfl
theorem zd6 {ns:List Nd} {p:Nat} {n:Nd} (h:ns[p]?=some n):kdA ns p=n.kind:=by unfold kdA;rw [h];rfl
theorem zn6 {ns:List Nd} {p:Nat} (h:p<ns.length):∃ n,ns[p]?=some n:=⟨_,List.getElem?_eq_getElem h⟩
theorem zc1 {ns:List Nd} {p q:Nat} (h1:p<q) (h2:q<endF ns p):depA ns p<depA ns q∧q<ns.length:=by
 have hr:q-(p+1)<runP (depA ns p) (ns.drop (p+1)):=by unfold endF at h2;omega
 obtain ⟨n,e,hd⟩:=zs5 _ _ _ hr
 rw [List.getElem?_drop,show p+1+(q-(p+1))=q by omega] at e
 exact ⟨by rw [zc8 e];exact hd,(List.getElem?_eq_some_iff.1 e).1⟩
theorem zf4 {ns:List Nd} {p:Nat} (h:endF ns p<ns.length):depA ns (endF ns p)≤depA ns p:=by
 obtain ⟨n,e⟩:=zn6 h
 rw [zc8 e]
 refine zs7 (depA ns p) (ns.drop (p+1)) n ?_
 rw [List.getElem?_drop];exact e
theorem yh6 {ns:List Nd} {p s:Nat} (h1:p<s) (h2:∀ q,p<q→q<s→depA ns p<depA ns q) (h3:s=ns.length∨(s<ns.length∧depA ns s≤depA ns p)):endF ns p=s:=by
 have hpl:p<ns.length:=by rcases h3 with h | h<;>omega
 have hle:endF ns p≤s:=by
  rcases h3 with h | ⟨h,hd⟩
  ·rw [h];exact (ze4 hpl).2
  ·obtain ⟨n,e⟩:=zn6 h
   have:=zs6 (depA ns p) (ns.drop (p+1)) (s-(p+1)) n (by rw [List.getElem?_drop,show p+1+(s-(p+1))=s by omega];exact e) (by rw [←zc8 e];exact hd)
   unfold endF;omega
 rcases Nat.lt_or_ge (endF ns p) s with h | h
 ·exfalso
  have hsl:s≤ns.length:=by rcases h3 with h | h<;>omega
  have:=h2 (endF ns p) (ze4 hpl).1 h
  have:=zf4 (ns:=ns) (p:=p) (by omega)
  omega
 ·omega
theorem ze7 {ns:List Nd} {p:Nat}:p<endF ns p:=by unfold endF;omega
theorem TreeOK.step {ns:List Nd} (h:TreeOK ns) {p:Nat} (hp:p+1<ns.length):depA ns (p+1)≤depA ns p+1:=by
 have:=h.shp.step p hp
 rw [zc8 (List.getElem?_eq_getElem hp),zc8 (List.getElem?_eq_getElem (show p<ns.length by omega))]
 exact this
theorem TreeOK.dep {ns:List Nd} (h:TreeOK ns) {p:Nat} (hp:p<ns.length):1≤depA ns p:=by
 rw [zc8 (List.getElem?_eq_getElem hp)];exact (h.shp.dep p hp).1
theorem TreeOK.kd {ns:List Nd} (h:TreeOK ns) {p:Nat} (hp:p<ns.length):0≤kdA ns p∧kdA ns p≤15:=by
 rw [zd6 (List.getElem?_eq_getElem hp)];exact zh8 (h.shp.fit p hp)
theorem TreeOK.kid {ns:List Nd} (h:TreeOK ns) {p q:Nat} (h1:p<q) (h2:q<endF ns p) (hd:depA ns q=depA ns p+1):∃ c,rSort (kdA ns q).toNat=nextD (kdA ns p).toNat c:=by
 have hql:=(zc1 h1 h2).2
 obtain ⟨n,en⟩:=zn6 (show p<ns.length by omega)
 obtain ⟨m,em⟩:=zn6 hql
 have hk:=h.kids p n en
 rw [zd6 en,zd6 em]
 rw [zc8 en,zc8 em] at hd
 obtain ⟨c,_,hc⟩:=zE7 hk (i:=q-(p+1)) (n:=m) (by rw [List.getElem?_drop,show p+1+(q-(p+1))=q by omega];exact em) (fun j x hj hx=>by
  rw [List.getElem?_drop] at hx
  have:=(zc1 (ns:=ns) (p:=p) (q:=p+1+j) (by omega) (by omega)).1
  rw [zc8 en,zc8 hx] at this
  exact this) hd
 exact ⟨c,hc⟩
theorem TreeOK.holder {ns:List Nd} (h:TreeOK ns):∀ (m p q:Nat),q-p≤m→p<q→q<endF ns p→∃ g,p≤g∧g<q∧depA ns q=depA ns g+1∧q<endF ns g
 | 0,p,q,hm,h1,_=>by omega
 | m+1,p,q,hm,h1,h2=>by
  by_cases hd:depA ns q=depA ns p+1
  ·exact ⟨p,Nat.le_refl _,h1,hd,h2⟩
  ·have hql:=(zc1 h1 h2).2
   have hq1:p+1<q:=by
    rcases Nat.lt_or_ge (p+1) q with h' | h'
    ·exact h'
    ·exfalso
     have e:q=p+1:=by omega
     subst e
     have:=h.step hql
     have:=(zc1 h1 h2).1
     omega
   have key:∀ a,p<a→a≤q→depA ns a=depA ns p+1→∃ g,p≤g∧g<q∧depA ns q=depA ns g+1∧q<endF ns g:=by
    intro a
    induction hn:q-a using Nat.strongRecOn generalizing a with
    | ind n ih =>
     intro ha1 ha2 ha3
     have hne:a≠q:=fun e=>hd (by rw [←e];exact ha3)
     by_cases hin:q<endF ns a
     ·obtain ⟨g,g1,g2,g3,g4⟩:=TreeOK.holder h m a q (by omega) (by omega) hin
      exact ⟨g,by omega,g2,g3,g4⟩
     ·have hlt:=ze7 (ns:=ns) (p:=a)
      refine ih (q-endF ns a) (by omega) (endF ns a) rfl (by omega) (by omega) ?_
      have hx:=zf4 (ns:=ns) (p:=a) (by omega)
      have hy:=(zc1 (ns:=ns) (p:=p) (q:=endF ns a) (by omega) (by omega)).1
      omega
   have hp1:p+1<ns.length:=by omega
   refine key (p+1) (by omega) (by omega) ?_
   have:=h.step hp1
   have:=(zc1 (ns:=ns) (p:=p) (q:=p+1) (by omega) (by omega)).1
   omega
theorem zk9 {k:Nat} (h:k<16):(rSort k=1↔k≤1)∧(rSort k=2↔2≤k∧k≤8)∧(rSort k=3↔k=9)∧(rSort k=4↔10≤k)∧1≤rSort k:=by
 have:∀ j:Fin 16,(rSort j=1↔(j:Nat)≤1)∧(rSort j=2↔2≤(j:Nat)∧(j:Nat)≤8)∧(rSort j=3↔(j:Nat)=9)∧(rSort j=4↔10≤(j:Nat))∧1≤rSort j:=by decide
 exact this ⟨k,h⟩
theorem zM2 {k:Nat} (h:k<16) (hk:k≤6∨10≤k) (c:Nat):nextD k c=0∨nextD k c=4:=by
 have:∀ j:Fin 16,((j:Nat)≤6∨10≤(j:Nat))→(rH0 j=0∨rH0 j=4)∧(rH1 j=0∨rH1 j=4)∧(rH2 j=0∨rH2 j=4):=by decide
 have:=this ⟨k,h⟩ hk
 unfold nextD
 rw [if_neg (by omega)]
 repeat' split
 all_goals first | exact this.1 | exact this.2.1 | exact this.2.2 | exact .inl rfl
theorem TreeOK.plain {ns:List Nd} (h:TreeOK ns) {p:Nat} (hp:p<ns.length) (hk:kdA ns p≤6∨10≤kdA ns p):∀ q,p<q→q<endF ns p→10≤kdA ns q:=by
 intro q
 induction q using Nat.strongRecOn with
 | ind q ih =>
  intro h1 h2
  obtain ⟨g,g1,g2,g3,g4⟩:=h.holder (q-p) p q (Nat.le_refl _) h1 h2
  have hql:=(zc1 h1 h2).2
  obtain ⟨c,hc⟩:=h.kid g2 g4 g3
  have hkg:kdA ns g≤6∨10≤kdA ns g:=by
   by_cases e:g=p
   ·rw [e];exact hk
   ·exact .inr (ih g g2 (by omega) (by omega))
  have k1:=h.kd (show g<ns.length by omega)
  have k2:=h.kd hql
  have hn:=zM2 (k:=(kdA ns g).toNat) (by omega) (by omega) c
  have hs:=zk9 (k:=(kdA ns q).toNat) (by omega)
  rcases hn with e | e
  ·have:=hs.2.2.2.2;omega
  ·have:=hs.2.2.2.1.1 (by rw [hc,e]);omega
structure TwoKids (ns:List Nd) (p:Nat):Prop where
 len:p+1<ns.length
 a:endF ns (p+1)<endF ns p
 da:depA ns (endF ns (p+1))=depA ns p+1
 kc:10≤kdA ns (p+1)
 ka:kdA ns (endF ns (p+1))=9
 s:endF ns (endF ns (p+1))=endF ns p∨(kdA ns p=7∧endF ns (endF ns (p+1))<endF ns p∧kdA ns (endF ns (endF ns (p+1)))=9∧depA ns (endF ns (endF ns (p+1)))=depA ns p+1∧endF ns (endF ns (endF ns (p+1)))=endF ns p)
theorem TreeOK.next {ns:List Nd} (h:TreeOK ns) {k:Nat} {d:Int} {c q:Nat} (hq:q<ns.length) (hd:depA ns q=d+1) (hK:KidsOK k d c (ns.drop q)):rSort (kdA ns q).toNat=nextD k c∧KidsOK k d (c+1) (ns.drop (endF ns q)):=by
 obtain ⟨n,en⟩:=zn6 hq
 obtain ⟨hq',e2⟩:=List.getElem?_eq_some_iff.1 en
 rw [List.drop_eq_getElem_cons hq',e2,KidsOK] at hK
 rw [zc8 en] at hd
 rw [if_neg (by omega),if_pos hd] at hK
 refine ⟨by rw [zd6 en];exact hK.1,?_⟩
 have:=zB7 (m:=endF ns q-(q+1)) hK.2 (fun j x hj hx=>by
  rw [List.getElem?_drop] at hx
  have:=(zc1 (ns:=ns) (p:=q) (q:=q+1+j) (by omega) (by omega)).1
  rw [zc8 en,zc8 hx] at this
  omega)
 rw [List.drop_drop] at this
 have hlo:=ze7 (ns:=ns) (p:=q)
 rw [show q+1+(endF ns q-(q+1))=endF ns q by omega] at this
 exact this
theorem zq1 {ns:List Nd} {k:Nat} {d:Int} {c q:Nat} (hK:KidsOK k d c (ns.drop q)):(∃ hq:q<ns.length,d<depA ns q)∨(ns.length≤q∨(q<ns.length∧depA ns q≤d))∧rWant k≤c:=by
 rcases Nat.lt_or_ge q ns.length with hq | hq
 ·obtain ⟨n,en⟩:=zn6 hq
  obtain ⟨hq',e2⟩:=List.getElem?_eq_some_iff.1 en
  rw [List.drop_eq_getElem_cons hq',e2,KidsOK] at hK
  rw [zc8 en]
  by_cases c1:n.depth≤d
  ·rw [if_pos c1] at hK
   exact .inr ⟨.inr ⟨hq,c1⟩,hK⟩
  ·exact .inl ⟨hq,by omega⟩
 ·rw [List.drop_eq_nil_of_le hq] at hK
  exact .inr ⟨.inl hq,hK⟩
theorem TreeOK.two {ns:List Nd} (h:TreeOK ns) {p:Nat} (hp:p<ns.length) (hk:kdA ns p=7∨kdA ns p=8):TwoKids ns p:=by
 obtain ⟨n,en⟩:=zn6 hp
 have hK:=h.kids p n en
 have ek:n.kind=7∨n.kind=8:=by rw [zd6 en] at hk;exact hk
 have dn:=zc8 en
 rw [←dn] at hK
 have hw:rWant n.kind.toNat=2:=by rcases ek with e | e<;>(rw [e];rfl)
 have n0:nextD n.kind.toNat 0=4:=by rcases ek with e | e<;>(rw [e];rfl)
 have n1:nextD n.kind.toNat 1=3:=by rcases ek with e | e<;>(rw [e];rfl)
 have n2:nextD n.kind.toNat 2=if kdA ns p=7 then 3 else 0:=by rw [zd6 en];rcases ek with e | e<;>(rw [e];rfl)
 have n3:nextD n.kind.toNat 3=0:=by rcases ek with e | e<;>(rw [e];rfl)
 generalize n.kind.toNat=k at *
 rcases zq1 hK with ⟨q1,d1⟩ | ⟨_,h0⟩
 rotate_left
 ·omega
 have e1:depA ns (p+1)=depA ns p+1:=by have:=h.step q1;omega
 obtain ⟨s1,K1⟩:=h.next q1 e1 hK
 have kc:10≤kdA ns (p+1):=by
  have k1:=h.kd q1
  have:=(zk9 (k:=(kdA ns (p+1)).toNat) (by omega)).2.2.2.1.1 (by rw [s1,n0])
  omega
 have la:=ze7 (ns:=ns) (p:=p+1)
 have lea:=(ze4 q1).2
 have hin1:∀ q,p<q→q<endF ns (p+1)→depA ns p<depA ns q:=fun q h1 h2=>by
  by_cases e:q=p+1
  ·rw [e];omega
  ·have:=(zc1 (ns:=ns) (p:=p+1) (q:=q) (by omega) h2).1;omega
 rcases zq1 K1 with ⟨q2,d2⟩ | ⟨_,h0⟩
 rotate_left
 ·rw [hw] at h0;exact absurd h0 (by decide)
 have e2:depA ns (endF ns (p+1))=depA ns p+1:=by have:=zf4 q2;omega
 obtain ⟨s2,K2⟩:=h.next q2 e2 K1
 have ka:kdA ns (endF ns (p+1))=9:=by
  have k1:=h.kd q2
  have:=(zk9 (k:=(kdA ns (endF ns (p+1))).toNat) (by omega)).2.2.1.1 (by rw [s2];exact n1)
  omega
 have ls:=ze7 (ns:=ns) (p:=endF ns (p+1))
 have les:=(ze4 q2).2
 have hin2:∀ q,p<q→q<endF ns (endF ns (p+1))→depA ns p<depA ns q:=fun q h1 h2=>by
  rcases Nat.lt_or_ge q (endF ns (p+1)) with c | c
  ·exact hin1 q h1 c
  ·by_cases e:q=endF ns (p+1)
   ·rw [e];omega
   ·have:=(zc1 (ns:=ns) (p:=endF ns (p+1)) (q:=q) (by omega) h2).1;omega
 have fin:∀ s,p<s→s≤ns.length→(∀ q,p<q→q<s→depA ns p<depA ns q)→(ns.length≤s∨(s<ns.length∧depA ns s≤depA ns p))→endF ns p=s:=fun s h1 h2 h3 h4 =>
  yh6 h1 h3 (h4.imp (fun h=>by omega) id)
 rcases zq1 K2 with ⟨q3,d3⟩ | ⟨h4,_⟩
 ·have e3:depA ns (endF ns (endF ns (p+1)))=depA ns p+1:=by have:=zf4 q3;omega
  obtain ⟨s3,K3⟩:=h.next q3 e3 K2
  have k1:=h.kd q3
  have hs:=zk9 (k:=(kdA ns (endF ns (endF ns (p+1)))).toNat) (by omega)
  rw [s3,n2] at hs
  have k7:kdA ns p=7:=by
   by_cases c:kdA ns p=7
   ·exact c
   ·rw [if_neg c] at hs
    have:=hs.2.2.2.2
    omega
  rw [if_pos k7] at hs
  have ks:kdA ns (endF ns (endF ns (p+1)))=9:=by have:=hs.2.2.1.1 rfl;omega
  have le3:=ze7 (ns:=ns) (p:=endF ns (endF ns (p+1)))
  have lee:=(ze4 q3).2
  have hin3:∀ q,p<q→q<endF ns (endF ns (endF ns (p+1)))→depA ns p<depA ns q:=fun q h1 h2=>by
   rcases Nat.lt_or_ge q (endF ns (endF ns (p+1))) with c | c
   ·exact hin2 q h1 c
   ·by_cases e:q=endF ns (endF ns (p+1))
    ·rw [e];omega
    ·have:=(zc1 (ns:=ns) (p:=endF ns (endF ns (p+1))) (q:=q) (by omega) h2).1;omega
  rcases zq1 K3 with ⟨q4,d4⟩ | ⟨h4,_⟩
  ·exfalso
   have e4:depA ns (endF ns (endF ns (endF ns (p+1))))=depA ns p+1:=by have:=zf4 q4;omega
   obtain ⟨s4,_⟩:=h.next q4 e4 K3
   have k1:=h.kd q4
   have:=(zk9 (k:=(kdA ns (endF ns (endF ns (endF ns (p+1))))).toNat) (by omega)).2.2.2.2
   rw [s4] at this
   have e:nextD k (0+1+1+1)=0:=n3
   omega
  ·have ee:=fin _ (by omega) lee hin3 h4
   exact ⟨q1,by omega,e2,kc,ka,.inr ⟨k7,by omega,ks,e3,ee.symm⟩⟩
 ·have ee:=fin _ (by omega) les hin2 h4
  exact ⟨q1,by omega,e2,kc,ka,.inl ee.symm⟩
theorem TreeOK.twoIn {ns:List Nd} (h:TreeOK ns):TwoIn ns:=fun p hp hk=>(h.two hp hk).a
end Go.Proofs.YtgobgdljckamkaaGreatDoor
