import Derived.Test.YtpongdpnbclchaaGreatDoorKQe
set_option linter.all false
namespace Go.Proofs.YtpongdpnbclchaaGreatDoor
variable{A k p q x y z:Nat}{d:Int}{ns:List Nd}
section
open Go.RowKit
def CV(k:Nat)(d:Int):Nat->List Nd->Prop
 | c,[]=>DT k<=c
 | c,n::r=>if n.depth<=d then DT k<=c else if n.depth=d+1 then AO n.kind.toNat=BQ k c/\CV k d (c+1) r else CV k d c r
theorem yk9:∀(l:List Nd) (i:Nat) (st:List AW) (g:Bool),(EH l i st g).1=0 ->
  (∀(j:Nat) (h:j<st.length),CV st[j].1 ((j:Int)+1) st[j].2 l)/\(∀(p:Nat) (n:Nd),l[p]?=some n->CV n.kind.toNat n.depth 0 (l.drop (p+1)))/\(∀n∈l,n.depth=1->AO n.kind.toNat=1\/AO n.kind.toNat=2)
 | [],i,st,g,h=>by
  rw[EH]at h
  have hw:CA st=false:=by
   cases e:CA st with
   | false=>rfl
   | true=>rw[e]at h;simp at h
  refine⟨λj hj=>?_,λp n hp=>by simp at hp,λn hn=>by cases hn⟩;unfold CA at hw;rw[List.any_eq_false]at hw;have:=hw st[j] (List.getElem_mem hj);simp only[decide_eq_true_eq]at this;show DT _<=_;omega
 | n::l,i,st,g,h=>by
  rw[EH]at h;by_cases h1:EG n=false
  ·rw[if_pos h1]at h;simp at h
  rw[if_neg h1]at h;by_cases h2:DN st g n.depth n.kind.toNat=false
  ·rw[if_pos h2]at h;simp at h
  rw[if_neg h2]at h;by_cases h3:24<n.depth
  ·rw[if_pos h3]at h;simp at h
  rw[if_neg h3]at h;obtain⟨a1,a2,a3⟩:=yk9 l (i+1) _ _ h;obtain⟨⟨b1,b2⟩,b3,b4⟩:=zj2.1 (by simpa using h2);obtain⟨m,hm⟩:∃m:Nat,n.depth=(m:Int)+1:=⟨(n.depth-1).toNat,by omega⟩;have e1:(n.depth-1).toNat=m:=oM;rw[e1]at a1 b3 b4;have hml:m<=st.length:=oM
  have htop:CV n.kind.toNat n.depth 0 l:=by
   cases m with
   | zero =>
    have:=a1 0 (by unfold AP;simp);simp only[AP,if_true,List.getElem_cons_zero]at this;rw[hm];simpa using this
   | succ m =>
    have hl:=ya2 st m n.kind.toNat oM;have:=a1 (m+1) oM;rw[ya4 st m n.kind.toNat (by omega) (by omega)]at this;rw[hm];simpa using this
  refine⟨λj hj=>?_,λp x hp=>?_,λx hx=>?_⟩
  ·show CV _ _ _ (n::l)
   rw[CV];by_cases c1:n.depth<=(j:Int)+1
   ·rw[if_pos c1]
    unfold CA at b3;rw[List.any_eq_false]at b3
    have:=b3 st[j] (by
     rw[List.mem_iff_getElem];refine⟨j-m,by rw[List.length_drop];omega,?_⟩;rw[List.getElem_drop]
     congr 1
     omega)
    simp only[decide_eq_true_eq]at this;omega
   rw[if_neg c1];obtain⟨m',rfl⟩:∃m',m=m'+1:=⟨m-1,by omega⟩;have hl:=ya2 st m' n.kind.toNat oM;by_cases c2:n.depth=(j:Int)+1+1
   ·rw[if_pos c2]
    have ej:j=m':=oM;subst ej;have:=a1 j oM;rw[ya3 st j n.kind.toNat (by omega) (by omega)]at this;refine⟨?_,this⟩;unfold CR at b4;rw[if_neg (by omega)]at b4
    have e:st.getD (j+1-1) (0,0)=st[j]:=by rw[List.getD_eq_getElem?_getD,Nat.add_sub_cancel,List.getElem?_eq_getElem hj];rfl
    rw[e]at b4;exact(by simpa using b4:BQ st[j].1 st[j].2=AO n.kind.toNat).symm
   rw[if_neg c2];have:=a1 j oM;rw[wl6 st m' n.kind.toNat j (by omega) (by omega) (by omega)]at this;exact this
  ·cases p with
   | zero=>simp at hp;subst hp;exact htop
   | succ p=>rw[List.getElem?_cons_succ]at hp;rw[List.drop_succ_cons];exact a2 p x hp
  rcases List.mem_cons.1 hx with rfl | hx
  ·intro hd
   have:m=0:=oM;subst this;unfold CR at b4;rw[if_pos rfl]at b4;simp only[Bool.or_eq_true,beq_iff_eq,Bool.and_eq_true]at b4;rcases b4 with h | h
   ·exact .inr h
   exact .inl h.1
  exact a3 x hx
theorem zN7:∀{l:List Nd} {c i:Nat} {n:Nd},CV k d c l->l[i]?=some n->(∀(j:Nat) (m:Nd),j<i->l[j]?=some m->d<m.depth)->n.depth=d+1->∃c',c<=c'/\AO n.kind.toNat=BQ k c'
 | [],c,i,n,h,hi,_,_=>by simp at hi
 | x::r,c,0,n,h,hi,_,hd=>by simp at hi;subst hi;rw[CV,if_neg (by omega),if_pos hd]at h;exact⟨c,nR_ _,h.1⟩
 | x::r,c,i+1,n,h,hi,hj,hd=>by
  have hx:=hj 0 x oM rfl;rw[CV,if_neg (by omega)]at h;rw[List.getElem?_cons_succ]at hi;have hj':∀(j:Nat) (m:Nd),j<i->r[j]?=some m->d<m.depth:=λj m h1 h2=>hj (j+1) m (by omega) (by rw[List.getElem?_cons_succ];exact h2)
  split at h
  ·obtain⟨c',h1,h2⟩:=zN7 h.2 hi hj' hd
   exact⟨c',by omega,h2⟩
  exact zN7 h hi hj' hd
theorem zI6:∀{l:List Nd} {c m:Nat},CV k d c l->(∀(j:Nat) (x:Nd),j<m->l[j]?=some x->d+1<x.depth)->CV k d c (l.drop m)
 | l,c,0,h,_=>h
 | [],c,m+1,h,_=>by rw[List.drop_nil];exact h
 | x::r,c,m+1,h,hj=>by have hx:=hj 0 x oM rfl;rw[CV,if_neg (by omega),if_neg (by omega)]at h;rw[List.drop_succ_cons];exact zI6 h λj y h1 h2=>hj (j+1) y (by omega) (by rw[List.getElem?_cons_succ];exact h2)
structure AM(ns:List Nd):Prop where
 shp:Shp ns
 kids:∀(p:Nat) (n:Nd),ns[p]?=some n->CV n.kind.toNat n.depth 0 (ns.drop (p+1))
 top:∀n∈ns,n.depth=1->AO n.kind.toNat=1\/AO n.kind.toNat=2
theorem zN8(h:(BD ns).1=0):AM ns:=by
 have hs:=zP0 h;unfold BD at h
 split at h
 ·simp at h
 have:=yk9 ns 0 [] false h;exact⟨hs,this.2.1,this.2.2⟩
theorem zc4{n:Nd}(h:ns[p]?=some n):AE ns p=n.depth:=by unfold AE;rw[h];rfl
theorem ze1{n:Nd}(h:ns[p]?=some n):kdA ns p=n.kind:=by unfold kdA;rw[h];rfl
theorem zp2(h:p<ns.length):∃n,ns[p]?=some n:=⟨_,gG_ h⟩
theorem zc1(h1:p<q)(h2:q<AB ns p):AE ns p<AE ns q/\q<ns.length:=by
 have hr:q-(p+1)<EV (AE ns p) (ns.drop (p+1)):=by unfold AB at h2;omega
 obtain⟨n,e,hd⟩:=zv4 _ _ _ hr;rw[List.getElem?_drop,show p+1+(q-(p+1))=q by omega]at e;exact⟨by rw[zc4 e];exact hd,(List.getElem?_eq_some_iff.1 e).1⟩
theorem zf5(h:AB ns p<ns.length):AE ns (AB ns p)<=AE ns p:=by obtain⟨n,e⟩:=zp2 h;rw[zc4 e];refine zv6 (AE ns p) (ns.drop (p+1)) n ?_;rw[List.getElem?_drop];exact e
theorem yC5{s:Nat}(h1:p<s)(h2:∀q,p<q->q<s->AE ns p<AE ns q)(h3:s=ns.length\/(s<ns.length/\AE ns s<=AE ns p)):AB ns p=s:=by
 have hpl:p<ns.length:=by rcases h3 with h | h<;>omega
 have hle:AB ns p<=s:=by
  rcases h3 with h | ⟨h,hd⟩
  ·rw[h];exact(ze6 hpl).2
  obtain⟨n,e⟩:=zp2 h;have:=zv5 (AE ns p) (ns.drop (p+1)) (s-(p+1)) n (by rw[List.getElem?_drop,show p+1+(s-(p+1))=s by omega];exact e) (by rw[<-zc4 e];exact hd);unfold AB;omega
 rcases Nat.lt_or_ge (AB ns p) s with h | h
 ·exfalso
  have hsl:s<=ns.length:=by rcases h3 with h | h<;>omega
  have:=h2 (AB ns p) (ze6 hpl).1 h;have:=zf5 (ns:=ns) (p:=p) oM;omega
 omega
theorem ze8:p<AB ns p:=by unfold AB;omega
theorem AM.step(h:AM ns)(hp:p+1<ns.length):AE ns (p+1)<=AE ns p+1:=by have:=h.shp.step p hp;rw[zc4 (List.getElem?_eq_getElem hp),zc4 (List.getElem?_eq_getElem (show p<ns.length by omega))];exact this
theorem AM.dep(h:AM ns)(hp:p<ns.length):1<=AE ns p:=by rw[zc4 (List.getElem?_eq_getElem hp)];exact(h.shp.dep p hp).1
theorem AM.kd(h:AM ns)(hp:p<ns.length):0<=kdA ns p/\kdA ns p<=15:=by rw[ze1 (List.getElem?_eq_getElem hp)];exact zi0 (h.shp.fit p hp)
theorem AM.kid(h:AM ns)(h1:p<q)(h2:q<AB ns p)(hd:AE ns q=AE ns p+1):∃c,AO (kdA ns q).toNat=BQ (kdA ns p).toNat c:=by
 have hql:=(zc1 h1 h2).2;obtain⟨n,en⟩:=zp2 (show p<ns.length by omega);obtain⟨m,em⟩:=zp2 hql;have hk:=h.kids p n en;rw[ze1 en,ze1 em];rw[zc4 en,zc4 em]at hd
 obtain⟨c,_,hc⟩:=zN7 hk (i:=q-(p+1)) (n:=m) (by rw[List.getElem?_drop,show p+1+(q-(p+1))=q by omega];exact em) (λj x hj hx=>by
  rw[List.getElem?_drop]at hx;have:=(zc1 (ns:=ns) (p:=p) (q:=p+1+j) oM oM).1;rw[zc4 en,zc4 hx]at this
  exact this) hd
 exact⟨c,hc⟩
theorem AM.holder(h:AM ns):∀(m p q:Nat),q-p<=m->p<q->q<AB ns p->∃g,p<=g/\g<q/\AE ns q=AE ns g+1/\q<AB ns g
 | 0,p,q,hm,h1,_=>by omega
 | m+1,p,q,hm,h1,h2=>by
  by_cases hd:AE ns q=AE ns p+1
  ·exact⟨p,nR_ _,h1,hd,h2⟩
  have hql:=(zc1 h1 h2).2
  have hq1:p+1<q:=by
   rcases Nat.lt_or_ge (p+1) q with h' | h'
   ·exact h'
   exfalso;have e:q=p+1:=oM;subst e;have:=h.step hql;have:=(zc1 h1 h2).1;omega
  have key:∀a,p<a->a<=q->AE ns a=AE ns p+1->∃g,p<=g/\g<q/\AE ns q=AE ns g+1/\q<AB ns g:=by
   intro a
   induction hn:q-a using Nat.strongRecOn generalizing a with
   | ind n ih =>
    intro ha1 ha2 ha3;have hne:a≠q:=λe=>hd (by rw[<-e];exact ha3);by_cases hin:q<AB ns a
    ·obtain⟨g,g1,g2,g3,g4⟩:=AM.holder h m a q oM oM hin
     exact⟨g,by omega,g2,g3,g4⟩
    have hlt:=ze8 (ns:=ns) (p:=a);refine ih (q-AB ns a) oM (AB ns a) rfl oM oM ?_;have hx:=zf5 (ns:=ns) (p:=a) oM;have hy:=(zc1 (ns:=ns) (p:=p) (q:=AB ns a) oM oM).1;omega
  have hp1:p+1<ns.length:=oM;refine key (p+1) oM oM ?_;have:=h.step hp1;have:=(zc1 (ns:=ns) (p:=p) (q:=p+1) oM oM).1;omega
theorem zm7(h:k<16):(AO k=1↔k<=1)/\(AO k=2↔2<=k/\k<=8)/\(AO k=3↔k=9)/\(AO k=4↔10<=k)/\1<=AO k:=by
 have:∀j:Fin 16,(AO j=1↔(j:Nat)<=1)/\(AO j=2↔2<=(j:Nat)/\(j:Nat)<=8)/\(AO j=3↔(j:Nat)=9)/\(AO j=4↔10<=(j:Nat))/\1<=AO j:=by decide
 exact this ⟨k,h⟩
theorem zX2(h:k<16)(hk:k<=6\/10<=k)(c:Nat):BQ k c=0\/BQ k c=4:=by
 have:∀j:Fin 16,((j:Nat)<=6\/10<=(j:Nat))->(rH0 j=0\/rH0 j=4)/\(rH1 j=0\/rH1 j=4)/\(rH2 j=0\/rH2 j=4):=by decide
 have:=this ⟨k,h⟩ hk;unfold BQ;rw[if_neg (by omega)]
 repeat' split
 all_goals first | exact this.1 | exact this.2.1 | exact this.2.2 | exact .inl rfl
theorem AM.plain(h:AM ns)(hp:p<ns.length)(hk:kdA ns p<=6\/10<=kdA ns p):∀q,p<q->q<AB ns p->10<=kdA ns q:=by
 intro q
 induction q using Nat.strongRecOn with
 | ind q ih =>
  intro h1 h2;obtain⟨g,g1,g2,g3,g4⟩:=h.holder (q-p) p q (nR_ _) h1 h2;have hql:=(zc1 h1 h2).2;obtain⟨c,hc⟩:=h.kid g2 g4 g3
  have hkg:kdA ns g<=6\/10<=kdA ns g:=by
   by_cases e:g=p
   ·rw[e];exact hk
   exact .inr (ih g g2 oM oM)
  have k1:=h.kd (show g<ns.length by omega);have k2:=h.kd hql;have hn:=zX2 (k:=(kdA ns g).toNat) oM oM c;have hs:=zm7 (k:=(kdA ns q).toNat) oM;rcases hn with e | e
  ·have:=hs.2.2.2.2;omega
  have:=hs.2.2.2.1.1 (by rw[hc,e]);omega
structure wo5(ns:List Nd)(p:Nat):Prop where
 len:p+1<ns.length
 a:AB ns (p+1)<AB ns p
 da:AE ns (AB ns (p+1))=AE ns p+1
 kc:10<=kdA ns (p+1)
 ka:kdA ns (AB ns (p+1))=9
 s:AB ns (AB ns (p+1))=AB ns p\/(kdA ns p=7/\AB ns (AB ns (p+1))<AB ns p/\kdA ns (AB ns (AB ns (p+1)))=9/\AE ns (AB ns (AB ns (p+1)))=AE ns p+1/\AB ns (AB ns (AB ns (p+1)))=AB ns p)
theorem AM.next(h:AM ns){c:Nat}(hq:q<ns.length)(hd:AE ns q=d+1)(hK:CV k d c (ns.drop q)):AO (kdA ns q).toNat=BQ k c/\CV k d (c+1) (ns.drop (AB ns q)):=by
 obtain⟨n,en⟩:=zp2 hq;obtain⟨hq',e2⟩:=List.getElem?_eq_some_iff.1 en;rw[List.drop_eq_getElem_cons hq',e2,CV]at hK;rw[zc4 en]at hd;rw[if_neg (by omega),if_pos hd]at hK;refine⟨by rw[ze1 en];exact hK.1,?_⟩
 have:=zI6 (m:=AB ns q-(q+1)) hK.2 (λj x hj hx=>by
  rw[List.getElem?_drop]at hx;have:=(zc1 (ns:=ns) (p:=q) (q:=q+1+j) oM oM).1;rw[zc4 en,zc4 hx]at this
  omega)
 rw[List.drop_drop]at this;have hlo:=ze8 (ns:=ns) (p:=q);rw[show q+1+(AB ns q-(q+1))=AB ns q by omega]at this;exact this
theorem zr5{c:Nat}(hK:CV k d c (ns.drop q)):(∃hq:q<ns.length,d<AE ns q)\/(ns.length<=q\/(q<ns.length/\AE ns q<=d))/\DT k<=c:=by
 rcases Nat.lt_or_ge q ns.length with hq | hq
 ·obtain⟨n,en⟩:=zp2 hq
  obtain⟨hq',e2⟩:=List.getElem?_eq_some_iff.1 en;rw[List.drop_eq_getElem_cons hq',e2,CV]at hK;rw[zc4 en];by_cases c1:n.depth<=d
  ·rw[if_pos c1]at hK
   exact .inr ⟨.inr ⟨hq,c1⟩,hK⟩
  exact .inl ⟨hq,by omega⟩
 rw[List.drop_eq_nil_of_le hq]at hK;exact .inr ⟨.inl hq,hK⟩
theorem AM.two(h:AM ns)(hp:p<ns.length)(hk:kdA ns p=7\/kdA ns p=8):wo5 ns p:=by
 obtain⟨n,en⟩:=zp2 hp;have hK:=h.kids p n en;have ek:n.kind=7\/n.kind=8:=by rw[ze1 en]at hk;exact hk
 have dn:=zc4 en;rw[<-dn]at hK
 have hw:DT n.kind.toNat=2:=by rcases ek with e | e<;>(rw[e];rfl)
 have n0:BQ n.kind.toNat 0=4:=by rcases ek with e | e<;>(rw[e];rfl)
 have n1:BQ n.kind.toNat 1=3:=by rcases ek with e | e<;>(rw[e];rfl)
 have n2:BQ n.kind.toNat 2=if kdA ns p=7 then 3 else 0:=by rw[ze1 en];rcases ek with e | e<;>(rw[e];rfl)
 have n3:BQ n.kind.toNat 3=0:=by rcases ek with e | e<;>(rw[e];rfl)
 generalize n.kind.toNat=k at *;rcases zr5 hK with ⟨q1,d1⟩ | ⟨_,h0⟩;rotate_left
 ·omega
 have e1:AE ns (p+1)=AE ns p+1:=by have:=h.step q1;omega
 obtain⟨s1,K1⟩:=h.next q1 e1 hK
 have kc:10<=kdA ns (p+1):=by have k1:=h.kd q1;have:=(zm7 (k:=(kdA ns (p+1)).toNat) (by omega)).2.2.2.1.1 (by rw[s1,n0]);omega
 have la:=ze8 (ns:=ns) (p:=p+1);have lea:=(ze6 q1).2
 have hin1:∀q,p<q->q<AB ns (p+1)->AE ns p<AE ns q:=λq h1 h2=>by
  by_cases e:q=p+1
  ·rw[e];omega
  have:=(zc1 (ns:=ns) (p:=p+1) (q:=q) oM h2).1;omega
 rcases zr5 K1 with ⟨q2,d2⟩ | ⟨_,h0⟩;rotate_left
 ·rw[hw]at h0;exact absurd h0 (by decide)
 have e2:AE ns (AB ns (p+1))=AE ns p+1:=by have:=zf5 q2;omega
 obtain⟨s2,K2⟩:=h.next q2 e2 K1
 have ka:kdA ns (AB ns (p+1))=9:=by have k1:=h.kd q2;have:=(zm7 (k:=(kdA ns (AB ns (p+1))).toNat) (by omega)).2.2.1.1 (by rw[s2];exact n1);omega
 have ls:=ze8 (ns:=ns) (p:=AB ns (p+1));have les:=(ze6 q2).2
 have hin2:∀q,p<q->q<AB ns (AB ns (p+1))->AE ns p<AE ns q:=λq h1 h2=>by
  rcases Nat.lt_or_ge q (AB ns (p+1)) with c | c
  ·exact hin1 q h1 c
  by_cases e:q=AB ns (p+1)
  ·rw[e];omega
  have:=(zc1 (ns:=ns) (p:=AB ns (p+1)) (q:=q) oM h2).1;omega
 have fin:∀s,p<s->s<=ns.length->(∀q,p<q->q<s->AE ns p<AE ns q)->(ns.length<=s\/(s<ns.length/\AE ns s<=AE ns p))->AB ns p=s:=λs h1 h2 h3 h4 =>
  yC5 h1 h3 (h4.imp (λh=>by omega) id)
 rcases zr5 K2 with ⟨q3,d3⟩ | ⟨h4,_⟩
 ·have e3:AE ns (AB ns (AB ns (p+1)))=AE ns p+1:=by have:=zf5 q3;omega
  obtain⟨s3,K3⟩:=h.next q3 e3 K2;have k1:=h.kd q3;have hs:=zm7 (k:=(kdA ns (AB ns (AB ns (p+1)))).toNat) oM;rw[s3,n2]at hs
  have k7:kdA ns p=7:=by
   by_cases c:kdA ns p=7
   ·exact c
   rw[if_neg c]at hs;have:=hs.2.2.2.2;omega
  rw[if_pos k7]at hs;have ks:kdA ns (AB ns (AB ns (p+1)))=9:=by have:=hs.2.2.1.1 rfl;omega
  have le3:=ze8 (ns:=ns) (p:=AB ns (AB ns (p+1)));have lee:=(ze6 q3).2
  have hin3:∀q,p<q->q<AB ns (AB ns (AB ns (p+1)))->AE ns p<AE ns q:=λq h1 h2=>by
   rcases Nat.lt_or_ge q (AB ns (AB ns (p+1))) with c | c
   ·exact hin2 q h1 c
   by_cases e:q=AB ns (AB ns (p+1))
   ·rw[e];omega
   have:=(zc1 (ns:=ns) (p:=AB ns (AB ns (p+1))) (q:=q) oM h2).1;omega
  rcases zr5 K3 with ⟨q4,d4⟩ | ⟨h4,_⟩
  ·exfalso
   have e4:AE ns (AB ns (AB ns (AB ns (p+1))))=AE ns p+1:=by have:=zf5 q4;omega
   obtain⟨s4,_⟩:=h.next q4 e4 K3;have k1:=h.kd q4;have:=(zm7 (k:=(kdA ns (AB ns (AB ns (AB ns (p+1))))).toNat) oM).2.2.2.2;rw[s4]at this;have e:BQ k (0+1+1+1)=0:=n3;omega
  have ee:=fin _ oM lee hin3 h4;exact⟨q1,by omega,e2,kc,ka,.inr ⟨k7,by omega,ks,e3,ee.symm⟩⟩
 have ee:=fin _ oM les hin2 h4;exact⟨q1,by omega,e2,kc,ka,.inl ee.symm⟩
theorem AM.twoIn(h:AM ns):wl1 ns:=λp hp hk=>(h.two hp hk).a
end
section
open Go.RowKit
theorem zi7(h:p<ns.length):ptF ns (p+1)=ptF ns p+if 2<=kdA ns p/\kdA ns p<=8 then 1 else 0:=by
 obtain⟨n,e⟩:=zp2 h;rw[zC2 e,ze1 e];unfold wh2
 by_cases h1:2<=n.kind<;>by_cases h2:n.kind<=8<;>simp[h1,h2]
theorem zS0(h:¬p<ns.length):ptF ns (p+1)=ptF ns p:=by unfold ptF;rw[List.take_of_length_le (by omega),List.take_of_length_le (by omega)]
theorem zS1{ns:List Nd}{p:Nat}:∀(k:Nat),ptF ns p<=ptF ns (p+k)
 | 0=>nR_ _
 | k+1=>by
  have h1:=zS1 (ns:=ns) (p:=p) k
  rw[<-Nat.add_assoc]
  by_cases h:p+k<ns.length
  ·rw[zi7 h];omega
  rw[zS0 h];exact h1
theorem zv8(h:p<=q):ptF ns p<=ptF ns q:=by
 have:=zS1 (ns:=ns) (p:=p) (q-p)
 rwa [show p+(q-p)=q by omega]at this
theorem zC6:∀(k:Nat),(∀q,p<=q->q<p+k->¬(2<=kdA ns q/\kdA ns q<=8))->ptF ns (p+k)=ptF ns p
 | 0,_=>rfl
 | k+1,h=>by
  rw[<-Nat.add_assoc];by_cases hl:p+k<ns.length
  ·rw[zi7 hl,if_neg (h (p+k) (by omega) (by omega)),zC6 k (λq h1 h2=>h q h1 (by omega)),Nat.add_zero]
  rw[zS0 hl,zC6 k (λq h1 h2=>h q h1 (by omega))]
theorem zC7(hpq:p<=q)(h:∀r,p<=r->r<q->¬(2<=kdA ns r/\kdA ns r<=8)):ptF ns q=ptF ns p:=by
 have:=zC6 (ns:=ns) (p:=p) (q-p) (λr h1 h2=>h r h1 oM)
 rwa [show p+(q-p)=q by omega]at this
theorem zC8(ns:List Nd)(p:Nat):ptF ns p<=ptF ns ns.length:=by
 rcases Nat.le_total p ns.length with h | h
 ·exact zv8 h
 unfold ptF;rw[List.take_of_length_le h,List.take_of_length_le (Nat.le_refl _)];exact Nat.le_refl _
def Blk(v:Nat)(b:List Ed):Prop :=
 (∃e,b=[e]/\e.from'=v/\e.op≠5/\e.sense=false/\e.loop=false) \/
 (∃e1 e2,b=[e1,e2]/\e1.from'=v/\e2.from'=v/\e1.op=5/\e2.op=5/\e2.place=e1.place/\e1.sense=true/\e2.sense=false/\e2.loop=e1.loop)
def wd4(L:List Ed)(A Z:Nat):Prop:=∃bs:List (List Ed),L=bs.flatten/\A+bs.length=Z/\∀(i:Nat) (b:List Ed),bs[i]?=some b->Blk (A+i) b
theorem wd4.nil(A:Nat):wd4 [] A A:=⟨[],rfl,rfl,λi b h=>by simp at h⟩
theorem wd4.one{b:List Ed}(h:Blk A b):wd4 b A (A+1):=⟨[b],by simp,rfl,λi c hc=>by
 cases i with
 | zero=>simp at hc;subst hc;exact h
 | succ i=>simp at hc⟩
theorem wd4.app{L1 L2:List Ed}{B C:Nat}(h1:wd4 L1 A B)(h2:wd4 L2 B C):wd4 (L1++L2) A C:=by
 obtain⟨b1,e1,n1,k1⟩:=h1;obtain⟨b2,e2,n2,k2⟩:=h2;refine⟨b1++b2,by rw[e1,e2,List.flatten_append],by rw[List.length_append];omega,λi b hb=>?_⟩;rcases Nat.lt_or_ge i b1.length with h | h
 ·rw[List.getElem?_append_left h]at hb;exact k1 i b hb
 rw[List.getElem?_append_right h]at hb;have:=k2 _ _ hb
 rwa [show B+(i-b1.length)=A+i by omega]at this
def ws6(ns:List Nd)(e:Ed):Prop :=
 (e.op=5/\∃p:Nat,e.place=(p:Int)+1/\p+1<ns.length/\(kdA ns p=7\/kdA ns p=8)/\e.loop=decide (kdA ns p=8)/\e.from'=ptF ns p) \/
 (∃p:Nat,e.place=p/\p<ns.length/\2<=kdA ns p/\kdA ns p<=6/\e.op=kdA ns p-2/\e.from'=ptF ns p)
structure wd5(ns:List Nd)(L:List Ed)(A Z fol:Nat):Prop where
 seg:wd4 L A Z
 to:∀e∈L,∃t:Nat,e.to'=t/\t<=ptF ns ns.length
 pl:∀e∈L,ws6 ns e
 mid:∀v,A<v->v<Z->∃e∈L,∃u:Nat,e.to'=v/\e.from'=u/\u<v
 o:A<Z->∃e∈L,∃u:Nat,e.to'=fol/\e.from'=u/\u<Z
def wa5(ns:List Nd)(D:Int)(p en:Nat):Prop:=p<en->en<=ns.length/\AE ns p=D/\(∀q,p<=q->q<en->D<=AE ns q)/\(∀q,p<=q->q<en->AE ns q=D->kdA ns q<=8)/\(en=ns.length\/(en<ns.length/\AE ns en<D))
theorem wa5.next{D:Int}{en:Nat}(h:wa5 ns D p en)(hp:p<en):AB ns p<=en/\wa5 ns D (AB ns p) en:=by
 obtain⟨h1,h2,h3,h4,h5⟩:=h hp;have hlo:=ze8 (ns:=ns) (p:=p)
 have hle:AB ns p<=en:=by
  rcases Nat.lt_or_ge en (AB ns p) with c | c
  ·exfalso
   have:=zc1 (ns:=ns) hp c
   rcases h5 with h5 | h5<;>omega
  exact c
 refine⟨hle,λhq=>⟨h1,?_,λq a b=>h3 q oM b,λq a b=>h4 q oM b,h5⟩⟩;have:=zf5 (ns:=ns) (p:=p) oM;have:=h3 (AB ns p) oM hq;omega
theorem AM.block(h:AM ns){a:Nat}(ha:a<ns.length)(hk:kdA ns a=9):wa5 ns (AE ns a+1) (a+1) (AB ns a)/\(∀q,a+1<=q->q<AB ns a->AE ns q=AE ns a+1->2<=kdA ns q/\kdA ns q<=8):=by
 have hq:∀q,a+1<=q->q<AB ns a->AE ns q=AE ns a+1->2<=kdA ns q/\kdA ns q<=8:=by
  intro q h1 h2 h3;obtain⟨c,hc⟩:=h.kid oM h2 h3;have k1:=h.kd (zc1 (ns:=ns) (p:=a) (q:=q) oM h2).2;have hs:=zm7 (k:=(kdA ns q).toNat) oM;have e:BQ (kdA ns a).toNat c=2:=by rw[hk];rfl
  have:=hs.2.1.1 (by rw[hc,e]);omega
 refine⟨λhp=>⟨(ze6 ha).2,?_,λq h1 h2=>?_,λq h1 h2 h3=>(hq q h1 h2 h3).2,?_⟩,hq⟩
 ·have h1:=zc1 (ns:=ns) (p:=a) (q:=a+1) oM hp
  have:=h.step h1.2;omega
 ·have:=(zc1 (ns:=ns) (p:=a) (q:=q) oM h2).1
  omega
 rcases Nat.lt_or_ge (AB ns a) ns.length with c | c
 ·have:=zf5 (ns:=ns) (p:=a) c
  exact .inr ⟨c,by omega⟩
 have:=(ze6 ha).2;exact .inl oM
theorem AM.whole(h:AM ns):wa5 ns 1 0 ns.length:=λhp=>by
 refine⟨nR_ _,?_,λq _ hq=>h.dep hq,λq _ hq hd=>?_,.inl rfl⟩
 ·rw[zc4 (List.getElem?_eq_getElem hp)];exact h.shp.first hp
 obtain⟨n,e⟩:=zp2 hq;have k1:=h.kd hq;rw[ze1 e]at k1 ⊢;rw[zc4 e]at hd;have hs:=zm7 (k:=n.kind.toNat) oM;rcases h.top n (mG_ e) hd with c | c
 ·have:=hs.1.1 c;omega
 have:=hs.2.1.1 c;omega
theorem AM.decl(h:AM ns)(hpq:p<q)(hq:q<ns.length)(hk:2<=kdA ns p):2<=kdA ns q:=by
 rcases Int.lt_or_le (kdA ns q) 2 with c | c
 ·exfalso
  have:=h.shp.decl p q hq hpq (by rw[<-ze1 (List.getElem?_eq_getElem hq)];omega);rw[<-ze1 (List.getElem?_eq_getElem (show p<ns.length by omega))]at this;omega
 exact c
theorem zv9(h:x<y):bgF ns x y z=ptF ns x:=by unfold bgF;rw[if_pos h]
theorem zy2(h:¬x<y):bgF ns x y z=z:=by unfold bgF;rw[if_neg h]
theorem zN9(h:z<=ptF ns ns.length):bgF ns x y z<=ptF ns ns.length:=by
 unfold bgF;split
 ·exact zC8 ns x
 exact h
theorem wd5.nil(ns:List Nd)(A fol:Nat):wd5 ns [] A A fol:=⟨wd4.nil A,λe h=>(by cases h),λe h=>(by cases h),λv h1 h2=>oM,λh=>oM⟩
theorem wd5.app{L1 L2:List Ed}{B Z fol:Nat}(h1:wd5 ns L1 A B x)(h2:wd5 ns L2 B Z fol)(hx:A<B->B<Z->x=B)(ho:A<Z->B=Z->A<B->x=fol):wd5 ns (L1++L2) A Z fol:=by
 obtain⟨b1,_,n1,_⟩:=h1.seg;obtain⟨b2,_,n2,_⟩:=h2.seg;refine⟨h1.seg.app h2.seg,λe he=>?_,λe he=>?_,λv hA hZ=>?_,λhAZ=>?_⟩
 ·rcases List.mem_append.1 he with he | he
  ·exact h1.to e he
  exact h2.to e he
 ·rcases List.mem_append.1 he with he | he
  ·exact h1.pl e he
  exact h2.pl e he
 ·rcases Nat.lt_trichotomy v B with c | c | c
  ·obtain⟨e,he,r⟩:=h1.mid v hA c
   exact⟨e,List.mem_append_left _ he,r⟩
  ·subst c
   obtain⟨e,he,u,r1,r2,r3⟩:=h1.o hA;exact⟨e,List.mem_append_left _ he,u,by rw[r1,hx hA hZ],r2,r3⟩
  obtain⟨e,he,r⟩:=h2.mid v c hZ;exact⟨e,List.mem_append_right _ he,r⟩
 rcases Nat.lt_or_ge B Z with c | c
 ·obtain⟨e,he,r⟩:=h2.o c
  exact⟨e,List.mem_append_right _ he,r⟩
 have eB:B=Z:=oM;obtain⟨e,he,u,r1,r2,r3⟩:=h1.o oM;exact⟨e,List.mem_append_left _ he,u,by rw[r1,ho hAZ eB (by omega)],r2,by omega⟩
theorem zr6(h:AM ns):∀(f p en fol:Nat) (D:Int),wa5 ns D p en->ns.length+2-p<=f->p<=en->fol<=ptF ns ns.length->wd5 ns (stE ns f p en fol) (ptF ns p) (ptF ns en) fol
 | 0,p,en,fol,D,hS,hf,hpe,_=>by
  by_cases hp:p<en
  ·have:=(hS hp).1;omega
  have e:p=en:=oM;subst e;rw[zk8 hp];exact wd5.nil _ _ _
 | f+1,p,en,fol,D,hS,hf,hpe,hfol=>by
  by_cases hp:p<en;rotate_left
  ·have e:p=en:=oM
   subst e;rw[zk8 hp];exact wd5.nil _ _ _
  obtain⟨h1,h2,h3,h4,h5⟩:=hS hp;obtain⟨hle,hS'⟩:=hS.next hp;have hpl:p<ns.length:=oM;have hlo:=ze8 (ns:=ns) (p:=p);have k8:=h4 p (nR_ _) hp h2;have kd0:=h.kd hpl;have IH:=zr6 h f (AB ns p) en fol D hS' oM hle hfol;obtain⟨nx,hnx⟩:=qq (bgF ns (AB ns p) en fol);have hnxm:nx<=ptF ns ns.length:=by rw[hnx];exact zN9 hfol
  have hxx:∀(_:ptF ns p<ptF ns (AB ns p)) (_:ptF ns (AB ns p)<ptF ns en),nx=ptF ns (AB ns p):=λ_ c=>by
   rw[hnx];refine zv9 ?_;rcases Nat.lt_or_ge (AB ns p) en with d | d
   ·exact d
   exfalso;have:AB ns p=en:=oM;rw[this]at c;omega
  have hoo:∀(_:ptF ns p<ptF ns en) (_:ptF ns (AB ns p)=ptF ns en) (_:ptF ns p<ptF ns (AB ns p)),nx=fol:=λ_ c d=>by
   rw[hnx];refine zy2 λhlt=>?_
   have hk2:2<=kdA ns p:=by
    rcases Int.lt_or_le (kdA ns p) 2 with c' | c'
    ·exfalso
     have hfl:ptF ns (AB ns p)=ptF ns p:=zC7 oM λr r1 r2=>by
      by_cases e:r=p
      ·rw[e];omega
      have:=h.plain hpl (.inl oM) r oM r2;omega
     omega
    exact c'
   have hd:=hS' hlt;have k1:=h.decl (p:=p) (q:=AB ns p) hlo oM hk2;have k2:=hd.2.2.2.1 (AB ns p) (nR_ _) hlt hd.2.1;have s1:=zi7 (ns:=ns) (p:=AB ns p) oM;rw[if_pos ⟨k1,k2⟩]at s1;have:=zv8 (ns:=ns) (p:=AB ns p+1) (q:=en) oM;omega
  rw[stE,if_pos hp,<-hnx];refine wd5.app (B:=ptF ns (AB ns p)) (x:=nx) ?_ IH hxx hoo;by_cases hc:kdA ns p=7\/kdA ns p=8
  ·rw[if_pos hc]
   obtain⟨t1,t2,t3,t4,t5,t6⟩:=h.two hpl hc;obtain⟨a,ha⟩:=qq (AB ns (p+1));rw[<-ha]at t2 t3 t5 t6 ⊢;obtain⟨s,hs⟩:=qq (AB ns a);rw[<-hs]at t6 ⊢;have lpa:p+1<a:=by rw[ha];exact ze8
   have las:a<s:=by rw[hs];exact ze8
   have hel:AB ns p<=ns.length:=(ze6 hpl).2;have hal:a<ns.length:=oM;have hsl:s<=ns.length:=by rw[hs];exact(ze6 hal).2
   obtain⟨bS,bK⟩:=h.block hal t5;rw[<-hs]at bS bK;obtain⟨bh,hbh⟩:=qq ((if kdA ns p=8 then ptF ns p else nx))
   have hbm:bh<=ptF ns ns.length:=by
    rw[hbh];split
    ·exact zC8 ns p
    exact hnxm
   have pa:ptF ns (a+1)=ptF ns p+1:=by
    rw[zi7 hal,t5,if_neg (by omega)]
    have:=zC7 (ns:=ns) (p:=p+1) (q:=a) oM (λr r1 r2=>by
     by_cases e:r=p+1
     ·rw[e];omega
     have:=h.plain (p:=p+1) t1 (.inr t4) r (by omega) (by rw[<-ha];exact r2);omega)
    rw[this,zi7 hpl,if_pos (by omega)]
   have F1:=zr6 h f (a+1) s bh (AE ns a+1) bS oM oM hbm;have hbig:ptF ns (a+1)<=ptF ns s:=zv8 oM
   have hch:chE ns p nx=[⟨ptF ns p,bgF ns (a+1) s bh,5,p+1,true,decide (kdA ns p=8)⟩,⟨ptF ns p,bgF ns (s+1) (AB ns p) nx,5,p+1,false,decide (kdA ns p=8)⟩]:=by unfold chE;rw[<-ha,<-hs,<-hbh]
   rw[<-hbh,hch];have hpc:∀(tt:Nat) (sn:Bool),ws6 ns ⟨ptF ns p,tt,5,p+1,sn,decide (kdA ns p=8)⟩:=λtt sn=>.inl ⟨rfl,p,rfl,by omega,hc,rfl,rfl⟩;have hBk:wd4 [⟨ptF ns p,bgF ns (a+1) s bh,5,p+1,true,decide (kdA ns p=8)⟩,⟨ptF ns p,bgF ns (s+1) (AB ns p) nx,5,p+1,false,decide (kdA ns p=8)⟩] (ptF ns p) (ptF ns p+1):=wd4.one (.inr ⟨_,_,rfl,rfl,rfl,rfl,rfl,rfl,rfl,rfl,rfl⟩)
   -- the edges of what stands behind the first block
   obtain⟨L2,hL2⟩:=qq (stE ns f (s+1) (AB ns p) nx)
   have F2:wd5 ns L2 (ptF ns s) (ptF ns (AB ns p)) nx/\(ptF ns s<ptF ns (AB ns p)->bgF ns (s+1) (AB ns p) nx=ptF ns s)/\(¬ptF ns s<ptF ns (AB ns p)->bgF ns (s+1) (AB ns p) nx=nx):=by
    rcases t6 with e | ⟨k7,u1,u2,u3,u4⟩
    ·rw[hL2,e,zk8 (by omega)]
     exact⟨wd5.nil _ _ _,λc=>by omega,λ_=>zy2 oM⟩
    have hsl':s<ns.length:=oM;obtain⟨cS,cK⟩:=h.block hsl' u2;rw[u4]at cS cK;have ps:ptF ns (s+1)=ptF ns s:=by rw[zi7 hsl',u2,if_neg (by omega)];rfl
    have F:=zr6 h f (s+1) (AB ns p) nx (AE ns s+1) cS oM oM hnxm;rw[ps]at F;refine⟨by rw[hL2];exact F,λc=>?_,λc=>?_⟩
    ·rw[zv9,ps]
     rcases Nat.lt_or_ge (s+1) (AB ns p) with d | d
     ·exact d
     exfalso;have e:s+1=AB ns p:=oM;rw[<-e,ps]at c;omega
    refine zy2 λd=>c ?_;have hd:=cS d;have k:=cK (s+1) (nR_ _) d hd.2.1;have st:=zi7 (ns:=ns) (p:=s+1) oM;rw[if_pos k,ps]at st;have:=zv8 (ns:=ns) (p:=s+1+1) (q:=AB ns p) oM;omega
   rw[<-hL2];obtain⟨F2,G1,G2⟩:=F2;have hbig2:ptF ns s<=ptF ns (AB ns p):=zv8 (by rcases t6 with e | ⟨_,e,_⟩<;>omega)
   have hy:ptF ns (a+1)<ptF ns s->bgF ns (a+1) s bh=ptF ns (a+1):=λc=>zv9 (by
    rcases Nat.lt_or_ge (a+1) s with d | d
    ·exact d
    exfalso;have e:a+1=s:=oM
    rw[<-e]at c;omega)
   rw[pa]at F1 hbig hy;refine⟨(hBk.app (F1.seg.app F2.seg)),λe he=>?_,λe he=>?_,λv v1 v2=>?_,λ_=>?_⟩
   ·rcases List.mem_append.1 he with he | he
    ·simp only[List.mem_cons,List.not_mem_nil,or_false]at he
     rcases he with rfl | rfl
     ·exact⟨_,rfl,zN9 hbm⟩
     exact⟨_,rfl,zN9 hnxm⟩
    rcases List.mem_append.1 he with he | he
    ·exact F1.to e he
    exact F2.to e he
   ·rcases List.mem_append.1 he with he | he
    ·simp only[List.mem_cons,List.not_mem_nil,or_false]at he
     rcases he with rfl | rfl
     ·exact hpc _ _
     exact hpc _ _
    rcases List.mem_append.1 he with he | he
    ·exact F1.pl e he
    exact F2.pl e he
   ·by_cases c1:v=ptF ns p+1
    ·rcases Nat.lt_or_ge v (ptF ns s) with d | d
     ·exact⟨_,List.mem_append_left _ (List.mem_cons_self),ptF ns p,by rw[c1];exact congrArg Int.ofNat (hy (by omega)),rfl,by omega⟩
     exact⟨_,List.mem_append_left _ (List.mem_cons_of_mem _ List.mem_cons_self),ptF ns p,by rw[c1];exact congrArg Int.ofNat ((G1 (by omega)).trans (by omega)),rfl,by omega⟩
    rcases Nat.lt_trichotomy v (ptF ns s) with d | d | d
    ·obtain⟨e,he,r⟩:=F1.mid v oM d
     exact⟨e,List.mem_append_right _ (List.mem_append_left _ he),r⟩
    ·exact⟨_,List.mem_append_left _ (List.mem_cons_of_mem _ List.mem_cons_self),ptF ns p,by rw[d];exact congrArg Int.ofNat (G1 (by omega)),rfl,by omega⟩
    obtain⟨e,he,r⟩:=F2.mid v d v2;exact⟨e,List.mem_append_right _ (List.mem_append_right _ he),r⟩
   by_cases c:ptF ns s<ptF ns (AB ns p)
   ·obtain⟨e,he,r⟩:=F2.o c
    exact⟨e,List.mem_append_right _ (List.mem_append_right _ he),r⟩
   exact⟨_,List.mem_append_left _ (List.mem_cons_of_mem _ List.mem_cons_self),ptF ns p,congrArg Int.ofNat (G2 c),rfl,by omega⟩
  rw[if_neg hc];have hin:∀q,p<q->q<AB ns p->10<=kdA ns q:=h.plain hpl (.inl oM);have hfl:ptF ns (AB ns p)=ptF ns (p+1):=zC7 oM λr r1 r2=>by have:=hin r oM r2;omega
  rw[hfl,zi7 hpl];by_cases hk:2<=kdA ns p/\kdA ns p<=6
  ·rw[if_pos hk,if_pos ⟨hk.1,by omega⟩]
   refine⟨wd4.one (.inl ⟨_,rfl,rfl,by simp only;omega,rfl,rfl⟩),λe he=>?_,λe he=>?_,λv v1 v2=>by omega,λ_=>⟨_,List.mem_cons_self,ptF ns p,rfl,rfl,by omega⟩⟩
   ·simp only[List.mem_cons,List.not_mem_nil,or_false]at he
    subst he;exact⟨_,rfl,hnxm⟩
   simp only[List.mem_cons,List.not_mem_nil,or_false]at he;subst he;exact .inr ⟨p,rfl,hpl,hk.1,hk.2,rfl,rfl⟩
  rw[if_neg hk,if_neg (by omega)];exact wd5.nil _ _ _
end
section
open Go.RowKit
def elF(ns:List Nd):List Ed:=stE ns (ns.length+2) 0 ns.length (ptF ns ns.length)
theorem zC9(h:AM ns):wd5 ns (elF ns) 0 (ptF ns ns.length) (ptF ns ns.length):=by have:=zr6 h (ns.length+2) 0 ns.length (ptF ns ns.length) 1 h.whole oM (zL_ _) (nR_ _);exact this
end
end Go.Proofs.YtpongdpnbclchaaGreatDoor
