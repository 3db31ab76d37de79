import Derived.Test.YtpongdpnbclchaaGreatDoorKCdprog
import Derived.Test.YtpongdpnbclchaaGreatDoorKPc
set_option maxHeartbeats 8000000
set_option linter.all false
set_option maxRecDepth 100000
namespace Go.Proofs.YtpongdpnbclchaaGreatDoor
variable{P:RP}{a a' a0:Nat}{b bad0:Int}{cs:List (List Nd)}{g:Nat->Int->List Nd×Nat×Int}{n:Nd}
section
open Go.RowKit
theorem zu7(v1 v2:Value)(l1 l2:List Int)(w:World)(h1:wd9 w v1 l1)(h2:wd9 w v2 l2) :
  Calls Tryz.prog 84 #[v1,v2] w λe w'=>e=.returned (.bool (AL DB l1 l2))/\Below w.heap.size w w':=by
 obtain⟨z1,ao1,cap1,rfl,k1⟩:=h1;obtain⟨z2,ao2,cap2,rfl,k2⟩:=h2;unfold maxLen at z1 z2;by_cases hl:l1.length=l2.length
 case neg =>
  have HE:Hi (AL DB l1 l2=false):=zh7 _ _ _ hl;have hl2:((l1.length:Int)==(l2.length:Int))=false:=by rw[beq_eq_false_iff_ne];omega
  clear k1 k2;go_enter Tryz.func84,Tryz.ntmps84;go_wp2_with fail;go_ret;exact⟨za4 HE.o.symm,Below.refl _ _⟩
 have HK1:Hi _:=k1;have HK2:Hi _:=k2;have HL:Hi _:=hl;obtain⟨n,hn⟩:∃n,l2.length=n:=⟨_,rfl⟩;rw[hl,hn];rw[hn]at HL;have HL2:Hi _:=hn;have hz:n<=9223372036854775807:=by rw[hn]at z2;exact z2
 clear k1 k2 hl hn z1 z2;go_enter Tryz.func84,Tryz.ntmps84;go_wp2_with fail;go_loopw [5] (λt wr=>∃k:Nat,k<=n/\t=nI k/\Hi (AL DB l1 l2=AL DB (l1.drop k) (l2.drop k))/\Hi (Below w.heap.size w wr)) (λt _=>n-(intOf t).toNat)
 case atStart=>exact⟨0,by omega,rfl,rfl,Below.refl _ _⟩
 obtain⟨k,hk,rfl,hr,HB⟩:=hrel;by_cases hlt:k<n
 ·obtain⟨b1,o1,rfl,s1⟩:=HK1.o.resolve_left (λe=>by have:=HL.o;rw[e]at this;simp at this;omega)
  obtain⟨b2,o2,rfl,s2⟩:=HK2.o.resolve_left (λe=>by have:=HL2.o;rw[e]at this;simp at this;omega);have i1:k<l1.length:=by have:=HL.o;omega
  have i2:k<l2.length:=by have:=HL2.o;omega
  have c1:=(s1.below HB.o).c k i1;have c2:=(s2.below HB.o).c k i2;rw[zh4 _ l1 l2 k i1 i2]at hr;generalize l1[k]=x at *;generalize l2[k]=y at *;have lt1:=s1.lt;have lt2:=s2.lt;clear s1 s2;cases hq:(DB x y)
  ·have HE:Hi (AL DB l1 l2=false):=by unfold Hi;rw[hr.o,hq];rfl
   clear hr;unfold DB at hq;go_wp2_with fail;go_quiet (fail);go_wp2_with fail;go_ret;exact⟨za4 HE.o.symm,below_drewN HB.o _⟩
  have HE:Hi (AL DB l1 l2=AL DB (l1.drop (k+1)) (l2.drop (k+1))):=by unfold Hi;rw[hr.o,hq];rfl
  clear hr;unfold DB at hq;go_wp2_with fail;go_quiet (fail);go_wp2_with fail;go_roundw
  case rel=>exact⟨k+1,by omega,by go_num,HE,below_drewN HB.o _⟩
  case measure=>simp[intOf];omega
 have HE:Hi (AL DB l1 l2=true):=by unfold Hi;rw[hr.o,List.drop_of_length_le (by have:=HL.o;omega),List.drop_of_length_le (by have:=HL2.o;omega)];rfl
 clear hr;go_wp2_with fail;go_ret;exact⟨za4 HE.o.symm,HB.o⟩
end
section
open Go.RowKit
def sh(e:Nat)(n:Nd):Nd:={ n with depth:=n.depth+e }
def InR(r:Int×Int)(i j:Nat):Prop:=r.1≠0/\∃m:Nat,r.2=m/\i<=m/\m<j
theorem InR.mono{r:Int×Int}{i j i' j':Nat}(h:InR r i j)(hi:i'<=i)(hj:j<=j'):InR r i' j':=by obtain⟨h0,m,e,h1,h2⟩:=h;exact⟨h0,m,e,by omega,by omega⟩
structure TW(l:List Nd):Prop where
 pos:0<l.length
 dep:∀n∈l,1<=n.depth/\n.depth<=l.length
 sub:∀(A:List AW) (k h:Nat) (T:List AW) (i:Nat) (g:Bool) (rest:List Nd),InR (BR (l.map (sh (A.length+1))++rest) i (A++(k,h)::T) g) i (i+l.length)\/∃T' g',AX T'=false/\BR (l.map (sh (A.length+1))++rest) i (A++(k,h)::T) g=BR rest (i+l.length) (A++(k,h+1)::T') g'
 top:∀(S:List AW) (i:Nat) (g:Bool) (rest:List Nd),InR (BR (l.map (sh 0)++rest) i S g) i (i+l.length)\/∃S' g',AX S'=false/\BR (l.map (sh 0)++rest) i S g=BR rest (i+l.length) S' g'
theorem kids(cs:List (List Nd)):(∀c∈cs,TW c)->∀(A:List AW) (k h:Nat) (T:List AW) (i:Nat) (g:Bool) (rest:List Nd),AX T=false->InR (BR (cs.flatten.map (sh (A.length+1))++rest) i (A++(k,h)::T) g) i (i+cs.flatten.length)\/∃T' g',AX T'=false/\BR (cs.flatten.map (sh (A.length+1))++rest) i (A++(k,h)::T) g=BR rest (i+cs.flatten.length) (A++(k,h+cs.length)::T') g':=by
 induction cs with
 | nil=>intro _ A k h T i g rest hT;exact .inr ⟨T,g,hT,by simp⟩
 | cons c cs ih =>
  intro hc A k h T i g rest hT;have h1:=(hc c sI).sub A k h T i g (cs.flatten.map (sh (A.length+1))++rest);rw[List.flatten_cons,List.map_append,List.append_assoc,List.length_append];rcases h1 with h1 | ⟨T1,g1,hT1,e1⟩
  ·exact .inl (h1.mono (nR_ _) oM)
  rw[e1];rcases ih (λx hx=>hc x (List.mem_cons_of_mem _ hx)) A k (h+1) T1 (i+c.length) g1 rest hT1 with h2 | ⟨T2,g2,hT2,e2⟩
  ·exact .inl (h2.mono oM oM)
  refine .inr ⟨T2,g2,hT2,?_⟩;rw[e2,List.length_cons]
  congr 1
  ·omega
  congr 2;congr 1;omega
theorem zM7(A:List AW)(k h:Nat):BW (A++[(k,h)])=A++[(k,h+1)]:=by unfold BW;simp
theorem zu8:AX []=false:=rfl
theorem yi9(h:1<=n.depth/\n.depth<=1000000)(e:Nat):sh e (DE n)=sh (e+1) n:=by
 unfold sh DE;simp only[IntKind.wrap_i64]
 congr 1
 omega
theorem yt5(h:∀c∈cs,∀n∈c,1<=n.depth/\n.depth<=1000000)(e:Nat):((cs.map λl=>l.map DE).flatten).map (sh e)=cs.flatten.map (sh (e+1)):=by
 induction cs with
 | nil=>rfl
 | cons c cs ih =>
  simp only[List.map_cons,List.flatten_cons,List.map_append,List.map_map]
  congr 1
  ·exact List.map_congr_left λn hn=>yi9 (h c sI n hn) e
  exact ih λx hx=>h x (List.mem_cons_of_mem _ hx)
theorem zH8(cs:List (List Nd)):((cs.map λl=>l.map DE).flatten).length=cs.flatten.length:=by
 induction cs with
 | nil=>rfl
 | cons c cs ih=>simp only[List.map_cons,List.flatten_cons,List.length_append,List.length_map,ih]
theorem TW.node(hc:∀c∈cs,TW c)(hw:AT (n.kind.toNat:Nat)<=cs.length)(ho:BJ n.kind.toNat=true\/cs=[])(hl:cs.flatten.length<=999999):TW (ndS n cs):=by
 have hlen:∀c∈cs,c.length<=cs.flatten.length:=by intro c hcm;obtain⟨a,b,rfl⟩:=List.append_of_mem hcm;simp only[List.flatten_append,List.flatten_cons,List.length_append];omega
 have hd:∀c∈cs,∀m∈c,1<=m.depth/\m.depth<=1000000:=λc hcm m hm=>by have h1:=(hc c hcm).dep m hm;have h2:=hlen c hcm;omega
 have hL:(ndS n cs).length=cs.flatten.length+1:=by unfold ndS;rw[List.length_cons,zH8]
 have key:∀(S1:List AW) (i:Nat) (g:Bool) (rest:List Nd),InR (BR (((cs.map λl=>l.map DE).flatten).map (sh S1.length)++rest) (i+1) (if BJ n.kind.toNat then S1++[(n.kind.toNat,0)] else S1) g) i (i+(ndS n cs).length)\/∃T' g',AX T'=false/\BR (((cs.map λl=>l.map DE).flatten).map (sh S1.length)++rest) (i+1) (if BJ n.kind.toNat then S1++[(n.kind.toNat,0)] else S1) g=BR rest (i+(ndS n cs).length) (S1++T') g':=by
  intro S1 i g rest;rw[yt5 hd,hL]
  cases hopen:BJ n.kind.toNat with
  | true =>
   rw[if_pos rfl];rcases kids cs hc S1 n.kind.toNat 0 [] (i+1) g rest zu8 with h | ⟨T',g',hT',e⟩
   ·exact .inl (h.mono oM oM)
   refine .inr ⟨(n.kind.toNat,0+cs.length)::T',g',?_,?_⟩
   ·unfold AX at hT' ⊢
    rw[List.any_cons,hT',Bool.or_false];exact dF_ (by show ¬((0+cs.length:Nat):Int)<AT (n.kind.toNat:Nat);omega)
   rw[e];congr 1;omega
  | false =>
   rcases ho with ho | ho
   ·rw[hopen]at ho;cases ho
   subst ho;refine .inr ⟨[],g,zu8,?_⟩;simp
 have hdp:∀e:Nat,((sh e { n with depth:=1 }).depth-1).toNat=e:=λe=>by unfold sh;simp only;omega
 have hmap:∀(e:Nat) (rest:List Nd),(ndS n cs).map (sh e)++rest=sh e { n with depth:=1 }::(((cs.map λl=>l.map DE).flatten).map (sh e)++rest):=λe rest=>by unfold ndS;rfl
 have bad:∀(x:Int) (i:Nat),x≠0->InR (x,(i:Int)) i (i+(ndS n cs).length):=λx i hx=>⟨hx,i,rfl,Nat.le_refl _,by rw[hL];omega⟩;refine⟨by rw[hL];omega,?_,?_,?_⟩
 ·intro m hm
  unfold ndS at hm;rw[List.mem_cons]at hm;rcases hm with rfl | hm
  ·exact⟨by show(1:Int)<=1;omega,by rw[hL];show(1:Int)<=_;omega⟩
  rw[List.mem_flatten]at hm;obtain⟨l,hl1,hm⟩:=hm;rw[List.mem_map]at hl1;obtain⟨c,hcm,rfl⟩:=hl1;rw[List.mem_map]at hm;obtain⟨y,hy,rfl⟩:=hm;have h1:=(hc c hcm).dep y hy;have h2:=hlen c hcm
  have h3:(DE y).depth=y.depth+1:=by
   have:=yi9 (hd c hcm y hy) 0;have h4:(sh 0 (DE y)).depth=(sh (0+1) y).depth:=by rw[this]
   unfold sh at h4;simp only at h4;omega
  rw[h3,hL];omega
 ·intro A k h T i g rest
  rw[hmap,BR,hdp];have e1:(A++(k,h)::T).drop (A.length+1)=T:=by simp[List.drop_append]
  have e2:(A++(k,h)::T).take (A.length+1)=A++[(k,h)]:=by rw[List.take_append,List.take_of_length_le (by omega)];simp
  rw[e1,e2]
  split
  ·exact .inl (bad _ _ dC)
  simp only
  split
  ·exact .inl (bad _ _ dC)
  rw[if_neg (by simp)]
  split
  ·exact .inl (bad _ _ dC)
  split
  ·exact .inl (bad _ _ dC)
  have hk:=key (BW (A++[(k,h)])) i g rest;have hkd:(sh (A.length+1) { n with depth:=1 }).kind=n.kind:=rfl;rw[hkd];rw[zM7]at hk ⊢;have e3:(A++[(k,h+1)]).length=A.length+1:=by simp
  rw[e3]at hk;rcases hk with hk | ⟨T',g',hT',e⟩
  ·exact .inl hk
  exact .inr ⟨T',g',hT',by rw[e];simp⟩
 intro S i g rest;rw[hmap,BR,hdp];rw[List.take_zero]
 split
 ·exact .inl (bad _ _ dC)
 simp only
 split
 ·exact .inl (bad _ _ dC)
 rw[if_pos trivial]
 split
 ·exact .inl (bad _ _ dC)
 split
 ·exact .inl (bad _ _ dC)
 have hk:=key [] i (g || !wh9 n.kind.toNat) rest;rcases hk with hk | ⟨T',g',hT',e⟩
 ·exact .inl hk
 exact .inr ⟨T',g',hT',e⟩
theorem wu0(cs:List (List Nd)):(∀c∈cs,TW c)->∀(S:List AW) (i:Nat) (g:Bool),AX S=false->InR (BR cs.flatten i S g) i (i+cs.flatten.length)\/BR cs.flatten i S g=(0,0):=by
 induction cs with
 | nil=>intro _ S i g hS;right;simp only[List.flatten_nil,BR];rw[hS];rfl
 | cons c cs ih =>
  intro hc S i g hS
  have e0:c.map (sh 0)=c:=by
   have:∀n:Nd,sh 0 n=n:=λn=>by unfold sh;simp
   rw[List.map_congr_left (λn _=>this n)];exact List.map_id' c
  have h1:=(hc c sI).top S i g cs.flatten;rw[e0]at h1;rw[List.flatten_cons,List.length_append];rcases h1 with h1 | ⟨S',g',hS',e⟩
  ·exact .inl (h1.mono (nR_ _) oM)
  rw[e];rcases ih (λx hx=>hc x (List.mem_cons_of_mem _ hx)) S' (i+c.length) g' hS' with h2 | h2
  ·exact .inl (h2.mono oM oM)
  exact .inr h2
structure RK(P:RP)(a:Nat)(bad:Int)(r:List Nd×Nat×Int):Prop where
 le:a<=r.2.1
 lim:r.2.1<=P.ts.length
 on:r.2.2<0->bad<0
 tw:r.2.2<0->TW r.1
 sz:r.2.2<0->r.1.length<=r.2.1-a
theorem EA{bad:Int}{t:List UInt8}(h:tkB P a bad t<0):bad<0/\tkA P a bad t=a+1:=by
 unfold tkB at h;unfold tkA
 split at h
 ·next hi=>rw[if_pos hi];exact⟨h,rfl⟩
 have:=ze7 P a bad;omega
theorem EU{bad:Int}{t:List UInt8}(ha:a<=P.ts.length):a<=tkA P a bad t/\tkA P a bad t<=P.ts.length:=by
 unfold tkA
 split
 ·next hi=>have:=(zb9 hi).2;omega
 omega
theorem wp1{bad:Int}(h:naB P a bad<0):bad<0/\naA P a bad=a+1:=by
 unfold naB at h;unfold naA
 split at h
 ·next hi=>rw[if_pos hi];exact⟨h,rfl⟩
 have:=ze7 P a bad;omega
theorem wm9{bad:Int}(ha:a<=P.ts.length):a<=naA P a bad/\naA P a bad<=P.ts.length:=by
 unfold naA
 split
 ·next hi=>have:=(zo9 hi).2;omega
 omega
theorem RK.bad{bad:Int}{l:List Nd}(h1:a<=a')(h2:a'<=P.ts.length)(hb:0<=b):RK P a bad (l,a',b) :=
 ⟨h1,h2,λh=>by have h:b<0:=h;omega,λh=>by have h:b<0:=h;omega,λh=>by have h:b<0:=h;omega⟩
theorem RK.leaf{bad:Int}(h1:a<a')(h2:a'<=P.ts.length)(hb:b<0->bad<0)(hw:AT (n.kind.toNat:Nat)<=0):RK P a bad (ndS n [],a',b) :=
 ⟨by show a<=a';omega,h2,hb,λ_=>TW.node (λc hc=>by cases hc) hw (.inr rfl) (by simp),λ_=>by show(ndS n []).length<=a'-a;simp[ndS];omega⟩
theorem RK.kids{bad:Int}(hg:P.ts.length<=8192)(h1:a<=a')(h2:a'<=P.ts.length)(hb:b<0->bad<0)(hc:b<0->∀c∈cs,TW c)(hs:b<0->cs.flatten.length+1<=a'-a)(hw:AT (n.kind.toNat:Nat)<=cs.length)(ho:BJ n.kind.toNat=true):RK P a bad (ndS n cs,a',b) :=
 ⟨h1,h2,hb,λh=>TW.node (hc h) hw (.inl ho) (by have:=hs h;omega),λh=>by
  have:=hs h;show(ndS n cs).length<=a'-a
  unfold ndS;rw[List.length_cons,zH8];exact this⟩
theorem yv7{row:Nat}(hG:P.ts.length<=8192)(hg:∀a bad,a0<a->a<=P.ts.length->RK P a bad (g a bad)):∀(k:Nat) (l:List Nd) (a1:Nat) (bad1:Int),RK P a0 bad0 (l,a1,bad1)->RK P a0 bad0 (loF P g row k l a1 bad1)
 | 0,l,a1,bad1,h=>h
 | k+1,l,a1,bad1,h=>by
  rw[loF]
  split
  ·exact h
  next h0 =>
  have hy:=yf8 h0;have h1:a0<=a1:=h.le;have hr:=hg (a1+1) bad1 oM oM
  have hn:RK P a0 bad0 (ndS ⟨0,15,⟨#[]⟩,0,opS P a1 bad1 row,(plS P a1:Nat)⟩ [l,(g (a1+1) bad1).1],(g (a1+1) bad1).2.1,(g (a1+1) bad1).2.2):=by
   have hle:=hr.le;refine RK.kids hG oM hr.lim (λ_=>h.on hy.1) (λhb c hc=>?_) (λhb=>?_) (show AT 15<=2 by decide) (show BJ 15=true by decide)
   ·rw[List.mem_cons,List.mem_singleton]at hc
    rcases hc with rfl | rfl
    ·exact h.tw hy.1
    exact hr.tw hb
   have e1:l.length<=a1-a0:=h.sz hy.1;have e2:=hr.sz hb;simp only[List.flatten_cons,List.flatten_nil,List.append_nil,List.length_append];omega
  split
  ·exact hn
  exact yv7 hG hg k _ _ _ hn
theorem yE5{bad:Int}(hG:P.ts.length<=8192)(ha:a<=P.ts.length)(hg:∀a' bad',a<a'->a'<=P.ts.length->RK P a' bad' (g a' bad')):RK P a bad (atF P g a bad):=by
 unfold atF
 split
 ·next hi =>
  have:bad<0/\a<P.ts.length:=by
   unfold CI at hi;rw[Bool.and_eq_true,decide_eq_true_eq]at hi;refine⟨hi.1,?_⟩;by_cases h:a<P.ts.length
   ·exact h
   rw[List.getElem?_eq_none (by omega)]at hi;cases hi.2
  exact RK.leaf oM oM (λh=>h) (show AT 10<=0 by decide)
 split
 ·next hi=>have:=zb9 hi;exact RK.leaf oM oM (λh=>h) (show AT 11<=0 by decide)
 split
 ·next hi=>have:=zb9 hi;exact RK.leaf oM oM (λh=>h) (show AT 11<=0 by decide)
 split
 ·next hi =>
  have hy:=zb9 hi;have hr:=hg (a+1) bad oM oM;have ht:=EU (bad:=(g (a+1) bad).2.2) (t:=[41]) hr.lim;have hle:=hr.le;refine⟨by show a<=tkA _ _ _ _;omega,ht.2,λ_=>hy.1,λh=>hr.tw (EA h).1,λh=>?_⟩;have h1:=hr.sz (EA h).1;have h2:=(EA h).2;show(g (a+1) bad).1.length<=tkA _ _ _ _-a;omega
 split
 ·next hi =>
  have hy:=zo9 hi
  split
  ·next hj =>
   have hz:=zb9 hj;have hr:=hg (a+2) bad oM oM;have ht:=EU (bad:=(g (a+2) bad).2.2) (t:=[93]) hr.lim;have hle:=hr.le;refine RK.kids hG oM ht.2 (λ_=>hy.1) (λh c hc=>?_) (λh=>?_) (show AT 13<=1 by decide) (show BJ 13=true by decide)
   ·rw[List.mem_singleton]at hc
    subst hc;exact hr.tw (EA h).1
   have h1:=hr.sz (EA h).1;have h2:=(EA h).2;simp only[List.flatten_cons,List.flatten_nil,List.append_nil];omega
  exact RK.leaf oM oM (λh=>h) (show AT 12<=0 by decide)
 exact RK.bad (nR_ _) ha (ze7 P a bad)
theorem zu9(hG:P.ts.length<=8192):∀(f md a:Nat) (bad:Int),md<=7->a<=P.ts.length->(P.ts.length-a)*10+(9-md)<=f->RK P a bad (exF P f md a bad)
 | 0,md,a,bad,hm,ha,hf=>by omega
 | f+1,md,a,bad,hm,ha,hf=>by
  rw[exF]
  split
  ·next h5 =>
   have hr:=zu9 hG f (md+1) a bad oM ha oM;exact yv7 hG (λa' bad' h1 h2=>zu9 hG f (md+1) a' bad' oM h2 oM) f _ _ _ hr
  split
  ·exact zu9 hG f 6 a bad oM ha oM
  split
  ·have un:∀op,bad<0/\a<P.ts.length->RK P a bad (ndS ⟨0,14,⟨#[]⟩,0,op,(plS P a:Nat)⟩ [(exF P f 6 (a+1) bad).1],(exF P f 6 (a+1) bad).2.1,(exF P f 6 (a+1) bad).2.2):=by
    intro op hy;have hr:=zu9 hG f 6 (a+1) bad oM oM oM;have hle:=hr.le;refine RK.kids hG oM hr.lim (λ_=>hy.1) (λh c hc=>?_) (λh=>?_) (show AT 14<=1 by decide) (show BJ 14=true by decide)
    ·rw[List.mem_singleton]at hc
     subst hc;exact hr.tw h
    have h1:=hr.sz h;simp only[List.flatten_cons,List.flatten_nil,List.append_nil];omega
   split
   ·next hi=>exact un 1 (zb9 hi)
   split
   ·next hi=>exact un 2 (zb9 hi)
   exact zu9 hG f 7 a bad oM ha oM
  exact yE5 hG ha λa' bad' h1 h2=>zu9 hG f 0 a' bad' oM h2 oM
theorem zy0(hG:P.ts.length<=8192)(a:Nat)(bad:Int)(ha:a<=P.ts.length):RK P a bad (exA P a bad):=zu9 hG _ 0 a bad oM ha oM
structure SK(P:RP)(a:Nat)(bad:Int)(r:List Nd×Nat×Int):Prop where
 le:a<=r.2.1
 lim:r.2.1<=P.ts.length
 on:r.2.2<0->bad<0
 tw:r.2.2<0->∃cs:List (List Nd),r.1=cs.flatten/\∀c∈cs,TW c
 sz:r.2.2<0->r.1.length<=r.2.1-a
theorem SK.nil{bad:Int}(ha:a<=P.ts.length):SK P a bad ([],a,bad):=⟨nR_ _,ha,λh=>h,λ_=>⟨[],rfl,λc hc=>by cases hc⟩,λ_=>zL_ _⟩
theorem SK.more{a1:Nat}{bad1:Int}{l:List Nd}{r:List Nd×Nat×Int}(h:SK P a0 bad0 (l,a1,bad1))(hr:RK P a1 bad1 r):SK P a0 bad0 (l++r.1,r.2.1,r.2.2):=by
 have h1:a0<=a1:=h.le;have h2:=hr.le;refine⟨by show a0<=r.2.1;omega,hr.lim,λhb=>h.on (hr.on hb),λhb=>?_,λhb=>?_⟩
 ·obtain⟨cs,e,hc⟩:=h.tw (hr.on hb)
  refine⟨cs++[r.1],?_,?_⟩
  ·have e':l=cs.flatten:=e
   rw[List.flatten_append,e'];simp
  intro c hcm;rw[List.mem_append,List.mem_singleton]at hcm;rcases hcm with hcm | rfl
  ·exact hc c hcm
  exact hr.tw hb
 have e1:l.length<=a1-a0:=h.sz (hr.on hb);have e2:=hr.sz hb;show(l++r.1).length<=r.2.1-a0;rw[List.length_append];omega
theorem yv8(hg:∀a bad,a0<=a->a<=P.ts.length->RK P a bad (g a bad)):∀(k:Nat) (l:List Nd) (a1:Nat) (bad1:Int),SK P a0 bad0 (l,a1,bad1)->SK P a0 bad0 (blF P g k l a1 bad1)
 | 0,l,a1,bad1,h=>h
 | k+1,l,a1,bad1,h=>by
  rw[blF]
  split
  ·exact yv8 hg k _ _ _ (h.more (hg a1 bad1 h.le h.lim))
  exact h
theorem yE6{bad:Int}(hG:P.ts.length<=8192)(ha:a<=P.ts.length)(hg:∀a' bad',a<a'->a'<=P.ts.length->RK P a' bad' (g a' bad')):RK P a bad (smF P g a bad):=by
 unfold smF
 split
 ·next hi =>
  have hy:=zb9 hi;have h1:=wm9 (bad:=bad) (show a+1<=P.ts.length by omega);have h2:=EU (bad:=naB P (a+1) bad) (t:=[59]) h1.2;exact RK.leaf oM h2.2 (λ_=>hy.1) (show AT 4<=0 by decide)
 split
 ·next hi =>
  have hy:=zb9 hi;have hr:=zy0 hG (a+1) bad oM;have h2:=EU (bad:=(exA P (a+1) bad).2.2) (t:=[59]) hr.lim;have hle:=hr.le;refine RK.kids hG oM h2.2 (λ_=>hy.1) (λh c hc=>?_) (λh=>?_) (show AT 5<=1 by decide) (show BJ 5=true by decide)
  ·rw[List.mem_singleton]at hc
   subst hc;exact hr.tw (EA h).1
  have e1:=hr.sz (EA h).1;have e2:=(EA h).2;simp only[List.flatten_cons,List.flatten_nil,List.append_nil];omega
 split
 ·next hi =>
  have hy:=zb9 hi;have h2:=EU (bad:=bad) (t:=[59]) (show a+1<=P.ts.length by omega);exact RK.leaf oM h2.2 (λ_=>hy.1) (show AT 6<=0 by decide)
 split
 ·next hi =>
  have hy:=zb9 hi;have hr:=zy0 hG (a+1) bad oM;have hle:=hr.le;have hb:=hg (exA P (a+1) bad).2.1 (exA P (a+1) bad).2.2 oM hr.lim;have hle2:=hb.le;refine RK.kids hG oM hb.lim (λ_=>hy.1) (λh c hc=>?_) (λh=>?_) (show AT 8<=2 by decide) (show BJ 8=true by decide)
  ·rw[List.mem_cons,List.mem_singleton]at hc
   rcases hc with rfl | rfl
   ·exact hr.tw (hb.on h)
   exact hb.tw h
  have e1:=hr.sz (hb.on h);have e2:=hb.sz h;simp only[List.flatten_cons,List.flatten_nil,List.append_nil,List.length_append];omega
 split
 ·next hi =>
  have hy:=zb9 hi;have hr:=zy0 hG (a+1) bad oM;have hle:=hr.le;have hb:=hg (exA P (a+1) bad).2.1 (exA P (a+1) bad).2.2 oM hr.lim;have hle2:=hb.le;simp only
  split
  ·next hj =>
   have hz:=zb9 hj;have hc3:=hg ((g (exA P (a+1) bad).2.1 (exA P (a+1) bad).2.2).2.1+1) (g (exA P (a+1) bad).2.1 (exA P (a+1) bad).2.2).2.2 oM oM;have hle3:=hc3.le;refine RK.kids hG oM hc3.lim (λ_=>hy.1) (λh c hc=>?_) (λh=>?_) (show AT 7<=3 by decide) (show BJ 7=true by decide)
   ·rw[List.mem_cons,List.mem_cons,List.mem_singleton]at hc
    rcases hc with rfl | rfl | rfl
    ·exact hr.tw (hb.on hz.1)
    ·exact hb.tw hz.1
    exact hc3.tw h
   have e1:=hr.sz (hb.on hz.1);have e2:=hb.sz hz.1;have e3:=hc3.sz h;simp only[List.flatten_cons,List.flatten_nil,List.append_nil,List.length_append];omega
  refine RK.kids hG oM hb.lim (λ_=>hy.1) (λh c hc=>?_) (λh=>?_) (show AT 7<=2 by decide) (show BJ 7=true by decide)
  ·rw[List.mem_cons,List.mem_singleton]at hc
   rcases hc with rfl | rfl
   ·exact hr.tw (hb.on h)
   exact hb.tw h
  have e1:=hr.sz (hb.on h);have e2:=hb.sz h;simp only[List.flatten_cons,List.flatten_nil,List.append_nil,List.length_append];omega
 have hn:=wm9 (bad:=bad) ha;unfold nsF
 split
 ·next hj =>
  have hz:=zb9 hj;have hr:=zy0 hG (naA P a bad+1) (naB P a bad) oM;have hle:=hr.le;simp only;have h2:=EU (bad:=(exA P (naA P a bad+1) (naB P a bad)).2.2) (t:=[93]) hr.lim;have h3:=EU (bad:=tkB P (exA P (naA P a bad+1) (naB P a bad)).2.1 (exA P (naA P a bad+1) (naB P a bad)).2.2 [93]) (t:=[58,61]) h2.2;generalize e2:tkA P (exA P (naA P a bad+1) (naB P a bad)).2.1 (exA P (naA P a bad+1) (naB P a bad)).2.2 [93]=a2 at *;generalize f2:tkB P (exA P (naA P a bad+1) (naB P a bad)).2.1 (exA P (naA P a bad+1) (naB P a bad)).2.2 [93]=b2 at *;have hv:=zy0 hG (tkA P a2 b2 [58,61]) (tkB P a2 b2 [58,61]) h3.2;have hle4:=hv.le;have h4:=EU (bad:=(exA P (tkA P a2 b2 [58,61]) (tkB P a2 b2 [58,61])).2.2) (t:=[59]) hv.lim
  have down:tkB P (exA P (tkA P a2 b2 [58,61]) (tkB P a2 b2 [58,61])).2.1 (exA P (tkA P a2 b2 [58,61]) (tkB P a2 b2 [58,61])).2.2 [59]<0->(exA P (tkA P a2 b2 [58,61]) (tkB P a2 b2 [58,61])).2.2<0/\tkB P a2 b2 [58,61]<0/\b2<0/\(exA P (naA P a bad+1) (naB P a bad)).2.2<0:=λh=>by have q1:=(EA h).1;have q2:=hv.on q1;have q3:=(EA q2).1;rw[<-f2]at q3;exact⟨q1,q2,by rw[<-f2];exact q3,(EA q3).1⟩
  refine RK.kids hG oM h4.2 (λ_=>(wp1 hz.1).1) (λh c hc=>?_) (λh=>?_) (show AT 3<=2 by decide) (show BJ 3=true by decide)
  ·rw[List.mem_cons,List.mem_singleton]at hc
   rcases hc with rfl | rfl
   ·exact hr.tw (down h).2.2.2
   exact hv.tw (down h).1
  have e1:=hr.sz (down h).2.2.2;have e3:=hv.sz (down h).1;simp only[List.flatten_cons,List.flatten_nil,List.append_nil,List.length_append];omega
 have h3:=EU (bad:=naB P a bad) (t:=[58,61]) hn.2;simp only;have hv:=zy0 hG (tkA P (naA P a bad) (naB P a bad) [58,61]) (tkB P (naA P a bad) (naB P a bad) [58,61]) h3.2;have hle4:=hv.le;have h4:=EU (bad:=(exA P (tkA P (naA P a bad) (naB P a bad) [58,61]) (tkB P (naA P a bad) (naB P a bad) [58,61])).2.2) (t:=[59]) hv.lim;refine RK.kids hG oM h4.2 (λh=>(wp1 (EA (hv.on (EA h).1)).1).1) (λh c hc=>?_) (λh=>?_) (show AT 2<=1 by decide) (show BJ 2=true by decide)
 ·rw[List.mem_singleton]at hc
  subst hc;exact hv.tw (EA h).1
 have e3:=hv.sz (EA h).1;have e4:=(EA h).2;simp only[List.flatten_cons,List.flatten_nil,List.append_nil];omega
theorem yj0(hG:P.ts.length<=8192):∀(f md a:Nat) (bad:Int),md<=1->a<=P.ts.length->(P.ts.length-a)*10+2+3*md<=f->RK P a bad (stF P f md a bad)
 | 0,md,a,bad,hm,ha,hf=>by omega
 | f+1,md,a,bad,hm,ha,hf=>by
  rw[stF]
  split
  ·exact yE6 hG ha λa' bad' h1 h2=>yj0 hG f 1 a' bad' oM h2 oM
  have h1:=EU (bad:=bad) (t:=[123]) ha;have hb:=yv8 (P:=P) (a0:=tkA P a bad [123]) (bad0:=tkB P a bad [123]) (g:=stF P f 0) (λa' bad' q1 q2=>yj0 hG f 0 a' bad' oM q2 oM) f [] _ _ (SK.nil h1.2);generalize hr:blF P (stF P f 0) f [] (tkA P a bad [123]) (tkB P a bad [123])=r at hb;have hle:=hb.le;have h2:=EU (bad:=r.2.2) (t:=[125]) hb.lim;have hw:∀cs:List (List Nd),AT 9<=cs.length:=λcs=>Int.le_trans (show AT 9<=0 by decide) (Int.natCast_nonneg _);unfold blE;by_cases hneg:tkB P r.2.1 r.2.2 [125]<0
  ·have q1:=EA hneg
   obtain⟨cs,e,hc⟩:=hb.tw q1.1;have q2:=hb.sz q1.1;have q3:=EA (hb.on q1.1)
   have en:ndS ⟨0,9,⟨#[]⟩,0,0,(plS P a:Nat)⟩ [r.1]=ndS ⟨0,9,⟨#[]⟩,0,0,(plS P a:Nat)⟩ cs:=by unfold ndS;rw[e];simp[List.map_flatten]
   rw[en];refine RK.kids hG oM h2.2 (λ_=>q3.1) (λ_=>hc) (λ_=>?_) (hw cs) (show BJ 9=true by decide);rw[<-e];omega
  exact RK.bad oM h2.2 oM
theorem yE7{bad:Int}(hb:bad<0)(ha:a<P.ts.length):RK P a bad (deF P a bad):=by
 have h1:=wm9 (bad:=bad) (show a+1<=P.ts.length by omega);unfold deF;simp only
 split
 ·have h2:=EU (bad:=naB P (a+1) bad) (t:=[91]) h1.2
  generalize e2:tkA P (naA P (a+1) bad) (naB P (a+1) bad) [91]=a2 at *;generalize f2:tkB P (naA P (a+1) bad) (naB P (a+1) bad) [91]=b2 at *
  have h3:a2<=(if CI P a2 b2 then a2+1 else a2)/\(if CI P a2 b2 then a2+1 else a2)<=P.ts.length:=by
   split
   ·next hi =>
    have:a2<P.ts.length:=by
     unfold CI at hi;rw[Bool.and_eq_true]at hi;by_cases h:a2<P.ts.length
     ·exact h
     rw[List.getElem?_eq_none (by omega)]at hi;cases hi.2
    omega
   omega
  generalize e3:(if CI P a2 b2 then a2+1 else a2)=a3 at *;generalize f3:(if CI P a2 b2 then b2 else AI P a2 b2)=b3 at *;have h4:=EU (bad:=b3) (t:=[93]) h3.2;have h5:=EU (bad:=tkB P a3 b3 [93]) (t:=[59]) h4.2;exact RK.leaf oM h5.2 (λ_=>hb) (show AT 1<=0 by decide)
 have h2:=EU (bad:=naB P (a+1) bad) (t:=[59]) h1.2;exact RK.leaf oM h2.2 (λ_=>hb) (show AT 0<=0 by decide)
theorem yv9:∀(k:Nat) (l:List Nd) (a:Nat) (bad:Int),SK P 0 (-1) (l,a,bad)->SK P 0 (-1) (dlF P k l a bad)
 | 0,l,a,bad,h=>h
 | k+1,l,a,bad,h=>by
  rw[dlF]
  split
  ·next hi =>
   have hy:bad<0/\a<P.ts.length:=by
    rw[Bool.or_eq_true]at hi
    rcases hi with hi | hi<;>exact zb9 hi
   exact yv9 k _ _ _ (h.more (yE7 hy.1 hy.2))
  exact h
theorem yw0(hG:P.ts.length<=8192):∀(k:Nat) (l:List Nd) (a:Nat) (bad:Int),SK P 0 (-1) (l,a,bad)->SK P 0 (-1) (slF P k l a bad)
 | 0,l,a,bad,h=>h
 | k+1,l,a,bad,h=>by
  rw[slF]
  split
  ·have hl:a<=P.ts.length:=h.lim
   exact yw0 hG k _ _ _ (h.more (yj0 hG _ 0 a bad oM hl oM))
  exact h
theorem yE8(hG:P.ts.length<=8192):SK P 0 (-1) (paF P):=yw0 hG _ _ _ _ (yv9 _ _ _ _ (SK.nil (zL_ _)))
theorem zv0(hG:P.ts.length<=8192)(h0:(BY P).1=0):(BY P).2.2.length<=300/\(CG (BY P).2.2=(0,0)\/InR (CG (BY P).2.2) 0 (BY P).2.2.length):=by
 have hk:=yE8 hG;unfold BY at h0 ⊢
 split at h0
 ·cases h0
 next hb =>
 rw[if_neg hb]
 split at h0
 ·cases h0
 next hn =>
 split at h0
 ·cases h0
 next hd =>
 have hl:(paF P).1.length<=300:=by rw[List.getElem?_eq_none_iff]at hn;exact hn
 obtain⟨cs,e,hc⟩:=hk.tw oM;simp only[hn,hd];refine⟨hl,?_⟩;unfold CG;rw[if_neg (by omega),e];rcases wu0 cs hc [] 0 false zu8 with h | h
 ·right;rw[Nat.zero_add]at h;exact h
 left;exact h
end
section
open Go.RowKit
theorem zH9(ao:Option Addr)(cap:Nat)(w:World) :
  Calls Tryz.prog 42 #[.slice ao 0 cap] w λy w'=>y=.returned (.tuple #[nI 0,nI 0])/\Below w.heap.size w w':=by
 go_enter Tryz.func42,Tryz.ntmps42;go_wp2_with fail
 go_loop [4,6] (λs i=>s=sZ/\i=nI 0) (λ_ _=>0)
 case atStart=>exact⟨rfl,rfl⟩
 obtain⟨rfl,rfl⟩:=hrel;go_wp2_with fail
 go_loop [12] (λi=>i=nI 0) (λ_=>0)
 case atStart=>rfl
 subst hrel;go_wp2_with fail
 go_ret2
 exact⟨rfl,Below.refl _ _⟩
theorem zI0:AC []=(0,0,ls0):=rfl
def BZ(w:World)(B:Nat)(v:Nat->Value)(ns:List Nd)(l:Ls):Prop:=∀k,k<6->w.ownsRow B (TY k) (SZ k) (v k) (nOf ns.length l k) (xOf ns ns.length l k)
theorem BZ.none(w:World)(B:Nat):BZ w B (λ_=>sZ) [] ls0:=by
 intro k hk;have h1:nOf ([]:List Nd).length ls0 k=0:=by unfold nOf ls0;simp
 have h2:xOf [] ([]:List Nd).length ls0 k=[]:=by unfold xOf ls0;simp
 rw[h1,h2];exact World.ownsRow_nil _ _ _ _
theorem zB9(ao:Option Addr)(cap:Nat)(w:World) :
  Calls Tryz.prog 22 #[.slice ao 0 cap] w λe w'=>e=.returned (.tuple #[.agg #[sZ,sZ,sZ,sZ,sZ,sZ],nI 0,nI 0])/\Ok w w':=by
 have HB0:Hi (∀ob,Below w.heap.size w (w.alloc ob)):=λob=>(Below.refl _ _).alloc (nR_ _) _;go_enter Tryz.func22,Tryz.ntmps22;go_wp2_with fail;refine mq (zH9 ao cap _) λw1 hb1=>?_;have HX:Hi (Six w1 w.heap.size (sZ) (sZ) (sZ) (sZ) (sZ) (sZ)):=(Six.new w _ _ _ _ _ _).below hb1;have HB1:Hi (Below w.heap.size w w1):=(HB0.o _).trans (hb1.mono sI);clear hb1;obtain⟨z1,c0,c1,c2,c3,c4,c5⟩:=HX.o.pc;have wf:=HX.o.warm;go_wp2_with fail
 go_loop [8] (λi=>i=nI 0) (λ_=>0)
 case atStart=>rfl
 subst hrel;go_wp2_with fail
 try simp only[Exit.inBlock,Exit.then]
 refine bodyPost_ret (zc6 rfl _ _ w.heap.size 33 _ (0,0) _ rfl (heap_past _ _ _ (za2 (zc9 HX.o.heap _ _ _ _ _ _)) (zc9 HX.o.heap _ _ _ _ _ _)) Tryz.underlying33 rfl Tryz.info33) rfl ?_;exact⟨rfl,(show Ok w _ from zc8 HB1.o (nR_ _) _ _ _ _ _ _).alloc _⟩
theorem yj1(h:n.Fit):n.Ok:=⟨by have:=h.name;unfold maxLen;omega,h.lo,h.hi,h.num⟩
theorem zI1(v:Value)(ns:List Nd)(w:World)(h:DD w v ns) :
  Calls Tryz.prog 22 #[v] w λe w'=>∃u:Nat->Value,e=.returned (.tuple #[.agg #[u 0,u 1,u 2,u 3,u 4,u 5],nI (AC ns).1,nI (AC ns).2.1])/\Ok w w'/\((AC ns).1=0->BZ w' w.heap.size u ns (AC ns).2.2/\Apt u)/\((AC ns).1≠0->∀k,u k=sZ):=by
 obtain⟨hok,ao,cap,rfl,h1,h2,h3⟩:=h;rcases h3 with rfl | ⟨b,o,rfl,hN⟩
 ·refine(zB9 ao cap w).mono ?_
  rintro e w' ⟨rfl,hk⟩;rw[zI0];exact⟨λ_=>sZ,rfl,hk,λ_=>⟨BZ.none _ _,λ_ _ _ _ _=>.inl rfl⟩,λh=>absurd rfl h⟩
 refine(zJ0 b o cap ns w hok hN h1 h2).mono ?_;rintro e w' ⟨u,rfl,hb,h3,h4⟩;exact⟨u,rfl,hb,h3,h4⟩
theorem yt6{w:World}{B g n cap:Nat}{ns:List Nd}(h:w.ownsRow B 78 6 (.slice (sA g 0) n cap) n (ndL ns))(hn:n=ns.length):AV w g 0 ns:=by
 have hc:∀j u,(ndL ns)[j]?=some u->w.cell? (aD g j)=some u:=λj u hj=>by have:=h.cells (g:=g) rfl j u hj;rw[zb7,Nat.zero_add]at this;exact this
 have hg:∀(i:Nat) (hi:i<ns.length),ns[i]?=some ns[i]:=λi hi=>gG_ hi;refine⟨(h.lt g rfl).2,?_,?_,?_,?_,?_,?_⟩
 ·intro i hi;rw[Nat.zero_add];exact hc _ _ (zg3 (hg i hi)).1
 ·intro i hi;rw[Nat.zero_add];exact hc _ _ (zg3 (hg i hi)).2.1
 ·intro i hi;rw[Nat.zero_add];exact hc _ _ (zg3 (hg i hi)).2.2.1
 ·intro i hi;rw[Nat.zero_add];exact hc _ _ (zg3 (hg i hi)).2.2.2.1
 ·intro i hi;rw[Nat.zero_add];exact hc _ _ (zg3 (hg i hi)).2.2.2.2.1
 intro i hi;rw[Nat.zero_add];exact hc _ _ (zg3 (hg i hi)).2.2.2.2.2
theorem NL.snds{w:World}{B:Nat}{v:Value}{ns:List Nd}(h:NL w B v ns)(hok:∀n∈ns,n.Ok):DD w v ns:=by
 refine⟨hok,?_⟩;rcases h.2 with ⟨rfl,h0⟩ | ⟨g,cap,cur,rfl,hBg,hg,hnc,hcm,hcs,htk⟩
 ·exact⟨none,0,by rw[h0],by omega,by simp[maxLen],.inl (List.eq_nil_of_length_eq_zero h0)⟩
 exact⟨_,cap,rfl,hnc,hcm,.inr ⟨g,0,rfl,yt6 h rfl⟩⟩
theorem zv1(ns:List Nd):∀(t:List Nd) (i:Nat) (l:Ls),(AS ns t i l).1≠0->∃m:Nat,(AS ns t i l).2.1=m/\i<=m/\m<i+t.length
 | [],i,l,h=>absurd rfl h
 | n::t,i,l,h=>by
  rw[AS]at h ⊢
  split at h
  ·next h0 =>
   rw[if_pos h0];obtain⟨m,e,h1,h2⟩:=zv1 ns t (i+1) _ h;exact⟨m,e,by omega,by rw[List.length_cons];omega⟩
  next h0 =>
  rw[if_neg h0];exact⟨i,rfl,Nat.le_refl _,by rw[List.length_cons];omega⟩
theorem zM8(hG:P.ts.length<=8192)(h0:(BY P).1=0)(h:(AC (BY P).2.2).1≠0):∃m:Nat,(AC (BY P).2.2).2.1=m/\m<(BY P).2.2.length:=by
 obtain⟨hl,hs⟩:=zv0 hG h0;unfold AC at h ⊢;rcases hs with hs | hs
 ·rw[hs,if_pos rfl]at h ⊢
  obtain⟨m,e,h1,h2⟩:=zv1 _ _ _ _ h;exact⟨m,e,by omega⟩
 rw[if_neg hs.1]at h ⊢;obtain⟨m,e,h1,h2⟩:=hs.2;exact⟨m,e,h2⟩
end
section
open Go.RowKit
def wq2(w:World)(P:RP)(e:Ending)(w':World):Prop :=
 ((BY P).1=0/\(AC (BY P).2.2).1=0/\∃u:Nat->Value,e=.returned (.tuple #[.agg #[u 0,u 1,u 2,u 3,u 4,u 5],nI 0,nI 0])/\BZ w' w.heap.size u (BY P).2.2 (AC (BY P).2.2).2.2/\(∀n∈(BY P).2.2,n.Fit)/\Apt u)
 \/ (((BY P).1=0->(AC (BY P).2.2).1≠0)/\∃er at0:Int,er≠0/\e=.returned (.tuple #[.agg #[sZ,sZ,sZ,sZ,sZ,sZ],nI er,nI at0]))
def wb4(w:World)(l:List UInt8)(e:Ending)(w':World):Prop :=
 match DS l with
 | .inl (er,at0)=>20<=er/\e=.returned (.tuple #[.agg #[sZ,sZ,sZ,sZ,sZ,sZ],nI (er:Nat),nI (at0:Nat)])
 | .inr ts=>∃P:RP,P.ts=ts/\P.en=l.length/\wq2 w P e w'
theorem yt7(s:ByteArray)(w:World) :
  Calls Tryz.prog 12 #[.string s] w λe w'=>wb4 w s.toList e w'/\Ok w w':=by
 cases hlx:DS s.toList with
 | inl p =>
  obtain⟨er,at0⟩:=p;have HLX:=hid hlx;have HER:=hid (zr3 hlx);have her2:((er:Int)==0)=false:=by rw[beq_eq_false_iff_ne];have:=zr3 hlx;omega
  clear hlx;go_enter Tryz.func12,Tryz.ntmps12
  go_wp2_with (first
   |(go_at_call 21;refine(zH7 s _).mono ?_;rintro e w1 ⟨ht,hok⟩;unfold we8 at ht;rw[HLX.o]at ht;subst ht;have HX:Hi (Six w1 w.heap.size (sZ) (sZ) (sZ) (sZ) (sZ) (sZ)):=(Six.new w _ _ _ _ _ _).below hok;have HK:Hi (Ok w w1):=((Ok.refl w).alloc _).step hok;obtain⟨z1,c0,c1,c2,c3,c4,c5⟩:=HX.o.pc;have wf:=HX.o.warm;clear hok)
   | fail)
  try simp only[Exit.inBlock,Exit.then]
  refine bodyPost_ret (zc6 rfl _ _ w.heap.size 33 _ (0,0) _ rfl (zc9 HX.o.heap _ _ _ _ _ _) Tryz.underlying33 rfl Tryz.info33) rfl ?_;refine⟨?_,zc8 HK.o (nR_ _) _ _ _ _ _ _⟩;unfold wb4;rw[HLX.o];exact⟨HER.o,rfl⟩
 | inr ts =>
  have HLX:=hid hlx;have HGT:=hid ((zB8 hlx).2.1);clear hlx;go_enter Tryz.func12,Tryz.ntmps12;go_wp2_with fail;refine(zH7 s _).mono ?_;rintro e w1 ⟨ht,hok⟩;unfold we8 at ht;rw[HLX.o]at ht;obtain⟨P,v,h1,h2,rfl,h3,h4⟩:=ht;have HPR:Hi ((BY P).1=0->(AC (BY P).2.2).1≠0->∃m:Nat,(AC (BY P).2.2).2.1=m/\m<(BY P).2.2.length):=zM8 (by rw[h1];exact HGT.o);have HL3:Hi ((BY P).1=0->(BY P).2.2.length<=300):=λh0=>(zv0 (by rw[h1];exact HGT.o) h0).1;have HTX:Hi (∀e w',wq2 w P e w'->wb4 w s.toList e w'):=λe w' h=>by unfold wb4;rw[HLX.o];exact⟨P,h1,h2,h⟩
  unfold wq2 at HTX;obtain⟨x,hE⟩:=qq (BY P);rw[<-hE]at h3 h4 HPR HTX HL3 ⊢;obtain⟨er,at0,ns⟩:=x;simp only at h3 h4 HPR HTX HL3 ⊢;obtain⟨ao,cp,rfl⟩:=za0 h3;have HX:Hi (Six w1 w.heap.size (sZ) (sZ) (sZ) (sZ) (sZ) (sZ)):=(Six.new w _ _ _ _ _ _).below hok;have HK:Hi (Ok w w1):=((Ok.refl w).alloc _).step hok;have HN:Hi (NL w1 (w.heap.size+1) (.slice ao ns.length cp) ns/\∀n∈ns,n.Fit):=⟨(by simpa using h3),h4⟩;obtain⟨z1,c0,c1,c2,c3,c4,c5⟩:=HX.o.pc;have wf:=HX.o.warm;clear hok h1 h2 h3 h4 hE;by_cases hc:er=0
  ·have HT1:Hi (∀e w' (u:Nat->Value),(AC ns).1=0->e=.returned (.tuple #[.agg #[u 0,u 1,u 2,u 3,u 4,u 5],nI 0,nI 0])->BZ w' w.heap.size u ns (AC ns).2.2->Apt u->wb4 w s.toList e w'):=λe w' u h0 h1 h2 h3=>HTX.o _ _ (.inl ⟨hc,h0,u,h1,h2,HN.o.2,h3⟩)
   have HT2:Hi (∀e w' (er at0:Int),(AC ns).1≠0->er≠0->e=.returned (.tuple #[.agg #[sZ,sZ,sZ,sZ,sZ,sZ],nI er,nI at0])->wb4 w s.toList e w'):=λe w' er at0 h0 h1 h2=>HTX.o _ _ (.inr ⟨λ_=>h0,er,at0,h1,h2⟩);have HP1:=hid (HPR.o hc);have HL1:=hid (HL3.o hc);subst hc;clear c0 c1 c2 c3 c4 c5 z1 wf HTX HPR HL3;go_wp2_with fail;refine(zI1 _ ns w1 (HN.o.1.snds λn hn=>yj1 (HN.o.2 n hn))).mono ?_;rintro e w2 ⟨u,rfl,hok2,hz,hnz⟩;have HX2:=hid (HX.o.below hok2);have HK2:=hid (HK.o.step hok2);have HU:Hi (((AC ns).1=0->BZ w2 w1.heap.size u ns (AC ns).2.2/\Apt u)/\((AC ns).1≠0->∀k,u k=sZ)):=⟨hz,hnz⟩;have HLT:=hid HX.o.lt;have HN2:=hid (za1 HN.o.1 hok2);obtain⟨z1,c0,c1,c2,c3,c4,c5⟩:=HX2.o.pc;have wf:=HX2.o.warm;clear hok2 hz hnz;obtain⟨pe,hpe⟩:=qq ((AC ns).1);obtain⟨pi,hpi⟩:=qq ((AC ns).2.1);rw[<-hpe,<-hpi];by_cases hp:pe=0
   ·have HP0:Hi ((AC ns).1=0):=by rw[<-hpe];exact hp
    subst hp;have HFH:=hid ((HU.o.1 HP0.o).1);have HAP:=hid ((HU.o.1 HP0.o).2);clear HU hpe hpi;obtain⟨o0,p0,e0⟩:=za0 (HFH.o 0 dC);obtain⟨o1,p1,e1⟩:=za0 (HFH.o 1 dC);obtain⟨o2,p2,e2⟩:=za0 (HFH.o 2 dC);obtain⟨o3,p3,e3⟩:=za0 (HFH.o 3 dC);obtain⟨o4,p4,e4⟩:=za0 (HFH.o 4 dC);obtain⟨o5,p5,e5⟩:=za0 (HFH.o 5 dC);have HE0:Hi (u 0=_):=e0;have HE1:Hi (u 1=_):=e1;have HE2:Hi (u 2=_):=e2;have HE3:Hi (u 3=_):=e3;have HE4:Hi (u 4=_):=e4;have HE5:Hi (u 5=_):=e5;rw[e0,e1,e2,e3,e4,e5];clear e0 e1 e2 e3 e4 e5;go_wp2_with fail
    try simp only[Exit.inBlock,Exit.then]
    refine bodyPost_ret (zc6 rfl _ _ w.heap.size 33 _ (0,0) _ rfl (heap_past _ _ _ (za2 (zc9 HX2.o.heap _ _ _ _ _ _)) (zc9 HX2.o.heap _ _ _ _ _ _)) Tryz.underlying33 rfl Tryz.info33) rfl ?_;refine⟨?_,(show Ok w _ from zc8 HK2.o (nR_ _) _ _ _ _ _ _).alloc _⟩;refine HT1.o _ _ u HP0.o ?_ ?_ HAP.o
    ·rw[HE0.o,HE1.o,HE2.o,HE3.o,HE4.o,HE5.o];rfl
    intro k hk;exact World.ownsRow.alloc (zI9 (HFH.o k hk) HLT.o _ _ _ _ _ _) _
   have HP0:Hi ((AC ns).1≠0):=by rw[<-hpe];exact hp
   have HPE:=hid hp;have hp2:(pe==0)=false:=by rw[beq_eq_false_iff_ne];exact hp
   have hu:=HU.o.2 HP0.o;obtain⟨m,hm,hml⟩:=HP1.o HP0.o;rw[<-hpi]at hm;subst hm;have hml':(m:Int)<(ns.length:Int):=za5 hml;obtain⟨n,hn⟩:∃n,ns[m]?=some n:=⟨ns[m],gG_ hml⟩
   obtain⟨g,hg⟩:∃g,ao=some ⟨g,0,none⟩:=by
    obtain⟨g,c,e,_⟩:=HN2.o.form oM
    injection e with e1
    exact⟨g,e1⟩
   subst hg;have d5:=HN2.o.cells (g:=g) rfl _ _ (zg3 hn).2.2.2.2.2;rw[zb7,Nat.zero_add]at d5;have hgl:=(HN2.o.lt g rfl).2;have hgb:=(HN2.o.lt g rfl).1;have hgne:¬w.heap.size=g:=oM;have hgne2:¬g=w.heap.size:=oM;rw[hu 0,hu 1,hu 2,hu 3,hu 4,hu 5];clear hp hpe hpi hu hn HU hgb;go_wp2_with fail
   go_region
   go_wp2_with fail
   try simp only[Exit.inBlock,Exit.then]
   refine bodyPost_ret (zc6 rfl _ _ w.heap.size 33 _ (0,0) _ rfl (heap_past _ _ _ (za2 (zc9 HX2.o.heap _ _ _ _ _ _)) (zc9 HX2.o.heap _ _ _ _ _ _)) Tryz.underlying33 rfl Tryz.info33) rfl ?_;refine⟨?_,Below.drew ((show Ok w _ from zc8 HK2.o (nR_ _) _ _ _ _ _ _).alloc _)⟩;exact HT2.o _ _ pe n.pos HP0.o HPE.o rfl
  have HC:=hid hc;have hc2:(er==0)=false:=by rw[beq_eq_false_iff_ne];exact hc
  clear hc;go_wp2_with fail
  try simp only[Exit.inBlock,Exit.then]
  refine bodyPost_ret (zc6 rfl _ _ w.heap.size 33 _ (0,0) _ rfl (zc9 HX.o.heap _ _ _ _ _ _) Tryz.underlying33 rfl Tryz.info33) rfl ?_;refine⟨?_,zc8 HK.o (nR_ _) _ _ _ _ _ _⟩;exact HTX.o _ _ (.inr ⟨λh=>absurd h HC.o,er,at0,HC.o,rfl⟩)
end
end Go.Proofs.YtpongdpnbclchaaGreatDoor
