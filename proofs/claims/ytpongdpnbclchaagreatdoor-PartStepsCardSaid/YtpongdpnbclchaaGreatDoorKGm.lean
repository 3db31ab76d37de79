import Derived.Lib.ItoaNum
import Derived.Test.YtpongdpnbclchaaGreatDoorKFd
import Derived.Test.YtpongdpnbclchaaGreatDoorKGa
set_option maxHeartbeats 8000000
set_option linter.all false
set_option maxRecDepth 100000
namespace Go.Proofs.YtpongdpnbclchaaGreatDoor
variable{B N b fuel g i n s:Nat}{a:Act}{e k:TypeId}{f:Value->Option Int}{hv key lv v:Value}{listed:Array Bool}{t:Tok}{w w':World}{xs:List Value}
section
open Go
section
variable {P:Program} {ops:Array Oper} {Q:Exit->Act->World->Prop} {md:Region.Mode} {S:World->Prop} {n:Nat}
def DW(P:Program)(md:Region.Mode)(ops:Array Oper)(Q:Exit->Act->World->Prop)(S:World->Prop)(n:Nat):Nat->Array Bool->Act->World->Prop
 | 0,listed,a,w=>Region.ready md ops listed=[]/\Q .normal a w
 | fuel+1,listed,a,w =>
  (Region.ready md ops listed=[]->Q .normal a w) /\
  ∀i∈Region.ready md ops listed,wpOp P ops Q i (λa' w'=>(i≠n->S w')/\DW P md ops Q S n fuel (listed.setIfInBounds i true) a' w') a w
theorem zy3:∀(fuel:Nat) (listed:Array Bool) (a:Act) (w:World),DW P md ops Q S n fuel listed a w->wpAny P md ops Q fuel listed a w
 | 0,_,_,_,h=>h
 | fuel+1,_,_,_,h=>⟨h.1,λi hi=>wpOp_mono (λa' w' h'=>zy3 fuel _ a' w' h'.2) (h.2 i hi)⟩
theorem zI8{oi:Oper}(hi:ops[i]?=some oi)(hsel:∀(j:Nat) (o:Oper) cs b,ops[j]?=some o->o.op≠.select cs b)
  (hw:∃ol,ops[n]?=some ol/\∃e∈ol.after,Region.binds md e=true/\e.on=i)
  (hQ:∀c a w,Q (.panic c) (a.put oi.dst v) w->Q (.panic c) a w) :
  ∀(fuel:Nat) (listed:Array Bool) (a:Act) (w:World),
   (∀j oj,ops[j]?=some oj->j≠i->listed.getD j true=false->(∀e∈oj.after,Region.binds md e=true->e.on≠i)->oi.apart ops oj=true) ->
   i∈Region.ready md ops listed->YieldsIf P ops S oi v a->S w ->
   DW P md ops Q S n fuel (listed.setIfInBounds i true) (a.put oi.dst v) w->DW P md ops Q S n (fuel+1) listed a w:=by
 intro fuel
 induction fuel with
 | zero =>
  intro listed a w _ hr hy hS H;refine⟨λh=>(by rw[h]at hr;cases hr),λj hj=>?_⟩;by_cases hji:j=i
  ·subst hji;exact hy.wpOp hi hS ⟨λ_=>hS,H⟩
  have:=ready_mono hj hji;rw[H.1]at this;cases this
 | succ fuel ih =>
  intro listed a w hfree hr hy hS H;refine⟨λh=>(by rw[h]at hr;cases hr),λj hj=>?_⟩;by_cases hji:j=i
  ·subst hji;exact hy.wpOp hi hS ⟨λ_=>hS,H⟩
  have h1:=H.2 j (ready_mono hj hji);obtain⟨hjun,oj,hoj,hall⟩:=mem_ready.1 hj
  have hnot:∀e∈oj.after,Region.binds md e=true->e.on≠i:=λe he hb heq=>by
   have h1:=hall e he hb;have h0:=(mem_ready.1 hr).1;rw[heq]at h1;rcases Nat.lt_or_ge i listed.size with h' | h'
   ·simp[h']at h0 h1;rw[h0]at h1;cases h1
   simp[Array.getElem?_eq_none h']at h1
  have hjn:j≠n:=by rintro rfl;obtain⟨ol,h3,e,h4,h5,h6⟩:=hw;rw[hoj]at h3;cases h3;exact hnot e h4 h5 h6
  have h2:=wpOp_putIf hoj (hfree j oj hoj hji hjun hnot) (λcs b=>hsel i oi cs b hi) (λcs b=>hsel j oj cs b hoj) hQ hy h1
  have hfree':∀k ok,ops[k]?=some ok->k≠i->(listed.setIfInBounds j true).getD k true=false ->
    (∀e∈ok.after,Region.binds md e=true->e.on≠i)->oi.apart ops ok=true:=λk ok hk hki hun hno=>by
   refine hfree k ok hk hki ?_ hno;by_cases hjk:j=k
   ·subst hjk;exact hjun
   rw[getD_set_ne true hjk]at hun;exact hun
  refine wpOp_mono (λa' w' h3=>⟨h3.2.1,ih (listed.setIfInBounds j true) a' w' hfree' (ready_mono hr (Ne.symm hji)) h3.1 (h3.2.1 hjn) ?_⟩) h2;rw[Array.setIfInBounds_comm _ _ hji];exact h3.2.2
def wc9(md:Region.Mode)(ops:Array Oper)(n i:Nat):Bool :=
 match ops[n]? with
 | some o=>o.after.any λe=>Region.binds md e&&(e.on==i)
 | none=>false
theorem zD2(h:wc9 md ops n i=true):∃ol,ops[n]?=some ol/\∃e∈ol.after,Region.binds md e=true/\e.on=i:=by
 unfold wc9 at h
 split at h
 ·rename_i o ho
  refine⟨o,ho,?_⟩;rw[Array.any_eq_true']at h;obtain⟨e,he,h2⟩:=h;simp only[Bool.and_eq_true,beq_iff_eq]at h2;exact⟨e,he,h2.1,h2.2⟩
 cases h
theorem zO2{oi:Oper}(hi:ops[i]?=some oi)
  (hs:Region.noSelect ops=true) (hf:Region.free md ops listed i=true) (hr:(Region.ready md ops listed).contains i=true) (hn:wc9 md ops n i=true)
  (hQ:∀c a w,Q (.panic c) (a.put oi.dst v) w->Q (.panic c) a w) (hS:S w) (hy:YieldsIf P ops S oi v a)
  (h:DW P md ops Q S n fuel (listed.setIfInBounds i true) (a.put oi.dst v) w):DW P md ops Q S n (fuel+1) listed a w :=
 zI8 hi (Region.noSelect_spec hs) (zD2 hn) hQ fuel listed a w (Region.free_spec hi hf) (by simpa using hr) hy hS h
theorem tL{P:Program}{ops:Array Oper}{Q:Exit->Act->World->Prop}{md:Region.Mode}{S:World->Prop}{n:Nat}(i:Nat)(v:Value){oi:Oper}{listed:Array Bool}{a:Act}{w:World}(hS:S w)(hy:∀w',S w'->Sem.run P (execOp a.eval oi) w'=Result.ok (Next.value v) w')(h:DW P md ops Q S n fuel (listed.setIfInBounds i true) (a.put oi.dst v) w)(hi:ops[i]?=some oi:=by rfl)(hs:Region.noSelect ops=true:=by kernel_rfl)(hf:Region.free md ops listed i=true:=by kernel_rfl)(hr:(Region.ready md ops listed).contains i=true:=by kernel_rfl)(hn:wc9 md ops n i=true:=by kernel_rfl)(hw:Region.wanted oi (yielded ops a.tmps)=true:=by rfl)(hQ:∀c a w,Q (.panic c) (a.put oi.dst v) w->Q (.panic c) a w:=by exact λ_ _ _ h=>h):DW P md ops Q S n (fuel+1) listed a w:=zO2 hi hs hf hr hn hQ hS (Or.inl ⟨hw,hy⟩) h
theorem tH{P:Program}{ops:Array Oper}{Q:Exit->Act->World->Prop}{md:Region.Mode}{S:World->Prop}(i:Nat)(v:Value){oi:Oper}{listed:Array Bool}{a:Act}{w:World}(hy:∀w',S w'->Sem.run P (execOp a.eval oi) w'=Result.ok (Next.value v) w')(hS:S w)(h:wpAnyH P md ops Q S fuel (listed.setIfInBounds i true) (a.put oi.dst v) w)(hi:ops[i]?=some oi:=by rfl)(hs:Region.noSelect ops=true:=by kernel_rfl)(hf:Region.free md ops listed i=true:=by kernel_rfl)(hr:(Region.ready md ops listed).contains i=true:=by kernel_rfl)(hw:Region.wanted oi (yielded ops a.tmps)=true:=by rfl)(hQ:∀c a w,Q (.panic c) (a.put oi.dst v) w->Q (.panic c) a w:=by exact λ_ _ _ h=>h):wpAnyH P md ops Q S (fuel+1) listed a w:=wpAnyH_take hi hs hf hr hQ (Or.inl ⟨hw,hy⟩) hS h
theorem tJ{P:Program}{ops:Array Oper}{Q:Exit->Act->World->Prop}{md:Region.Mode}{S:World->Prop}(i:Nat)(v:Value){oi:Oper}{fuel:Nat}{listed:Array Bool}{a:Act}{w:World}(hS:S w)(h:wpAnyH P md ops Q S fuel (listed.setIfInBounds i true) (a.put oi.dst v) w)(hi:ops[i]?=some oi:=by rfl)(hs:Region.noSelect ops=true:=by kernel_rfl)(hf:Region.free md ops listed i=true:=by kernel_rfl)(hr:(Region.ready md ops listed).contains i=true:=by kernel_rfl)(hw:Region.wanted oi (yielded ops a.tmps)=true:=by rfl)(hQ:∀c a w,Q (.panic c) (a.put oi.dst v) w->Q (.panic c) a w:=by exact λ_ _ _ h=>h)(hy:∀w',S w'->Sem.run P (execOp a.eval oi) w'=Result.ok (Next.value v) w':=by intro w' s0;clear s0;go_simp;try with_reducible rfl):wpAnyH P md ops Q S (fuel+1) listed a w:=wpAnyH_take hi hs hf hr hQ (Or.inl ⟨hw,hy⟩) hS h
theorem tK{P:Program}{ops:Array Oper}{Q:Exit->Act->World->Prop}{md:Region.Mode}{S:World->Prop}{n:Nat}(i:Nat)(v:Value){oi:Oper}{fuel:Nat}{listed:Array Bool}{a:Act}{w:World}(hS:S w)(h:DW P md ops Q S n fuel (listed.setIfInBounds i true) (a.put oi.dst v) w)(hi:ops[i]?=some oi:=by rfl)(hs:Region.noSelect ops=true:=by kernel_rfl)(hf:Region.free md ops listed i=true:=by kernel_rfl)(hr:(Region.ready md ops listed).contains i=true:=by kernel_rfl)(hn:wc9 md ops n i=true:=by kernel_rfl)(hw:Region.wanted oi (yielded ops a.tmps)=true:=by rfl)(hQ:∀c a w,Q (.panic c) (a.put oi.dst v) w->Q (.panic c) a w:=by exact λ_ _ _ h=>h)(hy:∀w',S w'->Sem.run P (execOp a.eval oi) w'=Result.ok (Next.value v) w':=by intro w' s0;clear s0;go_simp;try with_reducible rfl):DW P md ops Q S n (fuel+1) listed a w:=tL i v hS hy h hi hs hf hr hn hw hQ
theorem zb0{o:Oper}(hr:Region.ready md ops listed=[i])(ho:ops[i]?=some o)
  (h:∀K':Act->World->Prop,Shut (∀a w,(i≠n->S w)->DW P md ops Q S n fuel (listed.setIfInBounds i true) a w->K' a w)->if Region.wanted o (yielded ops a.tmps)=true then Oper.wp P o a w K' Q else K' (a.put o.dst undef) w) :
  DW P md ops Q S n (fuel+1) listed a w:=by
 refine⟨λh0=>(by rw[hr]at h0;cases h0),λj hj=>?_⟩;rw[hr,List.mem_singleton]at hj;subst hj;exact wpOp_step ho (λK' hK=>h K' (λa w hS hW=>hK a w ⟨hS,hW⟩))
theorem zd4(hr:Region.ready md ops listed=[])(h:Q .normal a w) :
  ∀fuel,DW P md ops Q S n fuel listed a w
 | 0=>⟨hr,h⟩
 | _+1=>⟨λ_=>h,by rw[hr];simp⟩
theorem zd5{id:Nat}(S:World->Prop)(n:Nat)(hm:P.follows .mixedOrders=true)
  (h:DW P .any ops Q S n ops.size (Array.replicate ops.size false) a w.drew):(Code.region id ops true).wp P Q a w :=
 wp_region_any hm (zy3 _ _ _ _ h)
end
end
section
def goP(ls:List Lk):Nat->List Int->Option Nat
 | v,[]=>some v
 | v,k::t=>match (if 0<=k then FE ls v k.toNat else none) with
  | none=>none
  | some u=>goP ls u t
theorem zP9(ls:List Lk)(v:Nat)(k:Int)(t:List Int):goP ls v (k::t)=(if 0<=k then FE ls v k.toNat else none).bind λu=>goP ls u t:=by
 conv=>lhs;unfold goP
 cases (if 0<=k then FE ls v k.toNat else none)<;>rfl
theorem yb5(ls:List Lk):∀(v:Nat) (a b:List Int),goP ls v (a++b)=(goP ls v a).bind λu=>goP ls u b
 | v,[],b=>rfl
 | v,k::a,b=>by
  rw[List.cons_append,zP9,zP9]
  cases (if 0<=k then FE ls v k.toNat else none) with
  | none=>rfl
  | some u=>exact yb5 ls u a b
theorem yy1(ls:List Lk)(v:Nat)(k:Int):goP ls v [k]=if 0<=k then FE ls v k.toNat else none:=by
 unfold goP
 cases (if 0<=k then FE ls v k.toNat else none)<;>rfl
theorem FI.stays{p:Pl}{vs:List Vx}{ls:List Lk}(h:FI p vs.length vs ls){k j:Nat}(hn:FE ls i k=some j):j<vs.length:=by
 unfold FE at hn
 cases hf:ls.find? λx=>decide (x.1=i/\x.2.2=k) with
 | none=>rw[hf]at hn;cases hn
 | some x =>
  rw[hf]at hn
  injection hn with hn
  obtain⟨v',e,_,_,_,a4⟩:=h.link (List.mem_of_find?_eq_some hf);have e1:x.2.1=j:=hn;rw[e1]at a4;exact(List.getElem?_eq_some_iff.1 a4).1
end
section
open Go.Lib
theorem zn0{u:Nat}(h:u<10):decDigits u=[UInt8.ofNat (48+u)]:=by rw[decDigits,dif_pos h]
theorem zx1{u:Nat}(h:¬u<10):decDigits u=decDigits (u/10)++[UInt8.ofNat (48+u%10)]:=by rw[decDigits,dif_neg h]
theorem wl8(u:Nat):decDigits u≠[]:=by
 by_cases h:u<10
 ·rw[zn0 h];simp
 rw[zx1 h];simp
theorem yb6{a:Nat}(ha:a<256)(hb:b<256)(h:UInt8.ofNat a=UInt8.ofNat b):a=b:=by have:=congrArg UInt8.toNat h;simp only[UInt8.toNat_ofNat']at this;omega
theorem yv4(u:Nat):∀v,decDigits u=decDigits v->u=v:=by
 induction u using Nat.strongRecOn with
 | _ u ih =>
  intro v h;by_cases c:u<10
  ·by_cases d:v<10
   ·rw[zn0 c,zn0 d]at h
    simp only[List.cons.injEq,and_true]at h;have:=yb6 oM oM h;omega
   exfalso;rw[zn0 c,zx1 d]at h;have:=congrArg List.length h;rw[List.length_append,List.length_singleton,List.length_singleton]at this;exact wl8 (v/10) (List.eq_nil_of_length_eq_zero oM)
  by_cases d:v<10
  ·exfalso
   rw[zx1 c,zn0 d]at h;have:=congrArg List.length h;rw[List.length_append,List.length_singleton,List.length_singleton]at this;exact wl8 (u/10) (List.eq_nil_of_length_eq_zero oM)
  rw[zx1 c,zx1 d]at h;obtain⟨h1,h2⟩:=List.append_inj' h rfl;simp only[List.cons.injEq,and_true]at h2;have e1:=ih (u/10) oM (v/10) h1;have e2:=yb6 oM oM h2;omega
theorem yb7(u:Nat):∀c∈decDigits u,(48:UInt8)<=c/\c<=57:=by
 have key:∀d,d<10->(48:UInt8)<=UInt8.ofNat (48+d)/\UInt8.ofNat (48+d)<=57:=by decide
 induction u using Nat.strongRecOn with
 | _ u ih =>
  intro c hc;by_cases h:u<10
  ·rw[zn0 h]at hc
   rw[List.mem_singleton.1 hc];exact key u h
  rw[zx1 h]at hc;rcases List.mem_append.1 hc with hc | hc
  ·exact ih (u/10) oM c hc
  rw[List.mem_singleton.1 hc];exact key (u%10) oM
theorem zz7:Dig itoa:=by
 refine⟨λa b h=>?_,λa c hc=>?_,λa h=>?_⟩
 ·have no:∀u v:Nat,45::decDigits u≠decDigits v:=λu v e=>by
   have:=yb7 v 45 (by rw[<-e];exact List.mem_cons_self);exact absurd this.1 dC
  unfold itoa at h;by_cases c:a<0
  ·by_cases d:b<0
   ·rw[if_pos c,if_pos d]at h
    simp only[List.cons.injEq,true_and]at h;have:=yv4 _ _ h;omega
   rw[if_pos c,if_neg d]at h;exact absurd h (no _ _)
  by_cases d:b<0
  ·rw[if_neg c,if_pos d]at h
   exact absurd h.symm (no _ _)
  rw[if_neg c,if_neg d]at h;have:=yv4 _ _ h;omega
 ·unfold itoa at hc
  split at hc
  ·rcases List.mem_cons.1 hc with e | hc
   ·exact .inl e
   exact .inr (yb7 _ c hc)
  exact .inr (yb7 _ c hc)
 unfold itoa at h
 split at h
 ·cases h
 exact wl8 _ h
end
section
open Go.RowKit
def ilL(l:List Int):List Value:=l.map λx=>nI x
def lpL(l:List (Int×Int)):List Value:=l.flatMap λx=>[nI x.1,nI x.2]
theorem yJ3(l:List Int):(ilL l).length=l.length*1:=by simp[ilL]
theorem zz8:∀(l:List (Int×Int)),(lpL l).length=l.length*2
 | []=>rfl
 | x::l=>by
  have e:lpL (x::l)=[nI x.1,nI x.2]++lpL l:=by simp[lpL]
  rw[e,List.length_append,zz8 l,List.length_cons];simp;omega
theorem zi1:∀(l:List (Int×Int)) (k:Nat) (x:Int×Int),l[k]?=some x->(lpL l)[k*2]?=some (nI x.1)/\(lpL l)[k*2+1]?=some (nI x.2)
 | [],k,x,h=>by simp at h
 | y::l,k,x,h=>by
  have e:lpL (y::l)=nI y.1::nI y.2::lpL l:=by simp[lpL]
  cases k with
  | zero =>
   simp only[List.getElem?_cons_zero,Option.some.injEq]at h;subst h;rw[e];exact⟨rfl,rfl⟩
  | succ k =>
   simp only[List.getElem?_cons_succ]at h;obtain⟨h1,h2⟩:=zi1 l k x h;rw[e,show(k+1)*2=k*2+1+1 by omega];exact⟨h1,h2⟩
structure BC(w:World)(hv lv:Value)(t:Tok):Prop where
 hist:SL w 1 hv t.2.1.length (ilL t.2.1)
 loops:SL w 2 lv t.2.2.length (lpL t.2.2)
 cap:∀ao n c,lv=.slice ao n c->n<=c
theorem BC.below(h:BC w hv lv t)(hk:Ok w w'):BC w' hv lv t:=⟨h.hist.below hk,h.loops.below hk,h.cap⟩
structure AA(w:World)(B:Nat)(hv lv:Value)(t:Tok):Prop where
 hist:w.ownsRow B 3 1 hv t.2.1.length (ilL t.2.1)
 loops:w.ownsRow B 45 2 lv t.2.2.length (lpL t.2.2)
theorem AA.ok(h:AA w B hv lv t)(hk:Ok w w'):AA w' B hv lv t:=⟨za1 h.hist hk,za1 h.loops hk⟩
theorem AA.base{B':Nat}(h:AA w B hv lv t)(hB:B'<=B):AA w B' hv lv t:=⟨za7 h.hist hB,za7 h.loops hB⟩
theorem zt1(h:w.ownsRow B e s v n xs)(h1:∀u∈xs,u.oneCell'=true)(hs:0<s):SL w s v n xs:=by
 obtain⟨ao,cap,rfl⟩:=za0 h;refine⟨h.1,h1,ao,cap,rfl,?_⟩;by_cases c:n=0
 ·exact .inl c
 right;obtain⟨g,cp,e,_⟩:=h.form oM
 injection e with e1 e2 e3
 subst e1;exact⟨g,0,rfl,(h.lt g rfl).2,λj u hj=>by have:=h.cells (g:=g) rfl j u hj;rw[zb7]at this;exact this⟩
theorem zJ6(l:List Int):∀u∈ilL l,u.oneCell'=true:=λu hu=>by obtain⟨x,_,rfl⟩:=List.mem_map.1 hu;rfl
theorem yb8(l:List (Int×Int)):∀u∈lpL l,u.oneCell'=true:=λu hu=>by
 obtain⟨x,_,hx⟩:=List.mem_flatMap.1 hu;simp only[List.mem_cons,List.not_mem_nil,or_false]at hx
 rcases hx with rfl | rfl<;>rfl
theorem yy2(h:w.ownsRow B e s v n xs):∀ao m c,v=.slice ao m c->m<=c:=by
 intro ao m c hv;rcases h.2 with ⟨e1,_⟩ | ⟨g,cap,cur,e1,_,_,h3,_⟩
 ·rw[hv]at e1
  injection e1 with _ e2 e3
  omega
 rw[hv]at e1
 injection e1 with _ e2 e3
 omega
theorem AA.is(h:AA w B hv lv t):BC w hv lv t:=⟨zt1 h.hist (zJ6 _) dC,zt1 h.loops (yb8 _) dC,yy2 h.loops⟩
theorem yb9{h:Int}{x:Int×Int}(hx:t.2.2[t.2.2.length-1]?=some x):EO t h=(x.1==h):=by unfold EO;rw[List.getLast?_eq_getElem?,hx]
theorem zz9{h:Int}(hx:t.2.2=[]):EO t h=false:=by unfold EO;rw[hx];rfl
theorem zx2(m:Bool)(hv lv:Value)(t:Tok)(h:Int)(w:World)(ht:BC w hv lv t)(hl:t.2.2.length<1000000000000000) :
  Calls Tryz.prog 62 #[.agg #[.bool m,hv,lv],nI h] w λe w'=>e=.returned (.bool (EO t h))/\Ok w w':=by
 obtain⟨_,_,ho,hc,rfl,_⟩:=ht.hist;obtain⟨_,_,lo,lc,rfl,h2⟩:=ht.loops;obtain⟨q,hq⟩:=qq (t.2.1.length);obtain⟨n,hn⟩:=qq (t.2.2.length);rw[<-hq,<-hn];have HN:Hi (n=t.2.2.length):=hn;have HT:Hi (SL w 2 (.slice lo n lc) n (lpL t.2.2)):=by rw[hn];exact ht.loops
 rw[<-hn]at hl h2;clear hq hn ht
 cases n with
 | zero =>
  have HE:Hi (EO t h=false):=zz9 (List.eq_nil_of_length_eq_zero HN.o.symm);go_enter Tryz.func62,Tryz.ntmps62;go_wp2_with fail;go_ret;exact⟨by rw[HE.o];rfl,(Ok.refl w).alloc _⟩
 | succ k =>
  obtain⟨b,o,e,hb,hc2⟩:=h2.resolve_left oM;subst e;have hlt:k<t.2.2.length:=by have:=HN.o;omega
  obtain⟨x,hx⟩:∃x,t.2.2[k]?=some x:=⟨_,gG_ hlt⟩;have HE:Hi (EO t h=(x.1==h)):=yb9 (by rw[<-HN.o];exact hx);have r0:w.cell? ⟨b,o+k*2,none⟩=some (nI x.1):=hc2 _ _ (zi1 _ _ _ hx).1;have kw:IntKind.i64.wrap (((k+1:Nat):Int)-1)=(k:Int):=by rw[IntKind.wrap_i64];omega
  have kw2:wrap64 (k:Int)=(k:Int):=by unfold wrap64;omega
  have k0:(0:Int)<=(k:Int):=oM;clear hx hc2 hl hlt;go_enter Tryz.func62,Tryz.ntmps62;go_wp2_with fail;go_ret;exact⟨by rw[HE.o];rfl,(Ok.refl w).alloc _⟩
theorem wg7:(Tryz.prog.info? 45).map (λi=>(i.zero,i.size,i.bytes))=some (some (.agg #[nI 0,nI 0]),2,16):=by kernel_rfl
theorem wb1:(Tryz.prog.info? 3).map (λi=>(i.zero,i.size,i.bytes))=some (some (nI 0),1,8):=by kernel_rfl
theorem CB:(Tryz.prog.info? 28).map (·.size)=some 3:=by kernel_rfl
theorem zd9{u x:Value}{t:TypeId}(hg:w.heap[g]?=some (.cells #[u,v,x] t (0,0)))(a b c:Value):(((w.setCell (aD g 0) a).setCell (aD g 1) b).setCell (aD g 2) c).heap[g]?=some (.cells #[a,b,c] t (0,0)):=by have h1:=heap_setCell_same w g 0 _ t a hg;have h2:=heap_setCell_same _ g 1 _ t b h1;have h3:=heap_setCell_same _ g 2 _ t c h2;simpa using h3
theorem za9{u x:Value}{t:TypeId}(h:w.heap[g]?=some (.cells #[u,v,x] t (0,0))) :
  w.cell? (aD g 0)=some u/\w.cell? (aD g 1)=some v/\w.cell? (aD g 2)=some x/\w.frozen? (aD g 0)=false/\w.frozen? (aD g 1)=false/\w.frozen? (aD g 2)=false :=
 ⟨(cell_of_row _ _ 0 _ _ _ h).trans sI,(cell_of_row _ _ 1 _ _ _ h).trans sI,(cell_of_row _ _ 2 _ _ _ h).trans sI,frozen_of_row _ _ _ _ _ h,frozen_of_row _ _ _ _ _ h,frozen_of_row _ _ _ _ _ h⟩
theorem zf6(h:w.ownsRow B e s v n xs)(hg:g<B)(a b c:Value):(((w.setCell (aD g 0) a).setCell (aD g 1) b).setCell (aD g 2) c).ownsRow B e s v n xs :=
 zb4 h λk hk=>by
  have hne:k≠g:=by have:=(h.lt k hk).1;omega
  rw[Below.heap_setCell _ _ _ _ hne,Below.heap_setCell _ _ _ _ hne,Below.heap_setCell _ _ _ _ hne]
def cpT(t:Tok):Tok:=if t.1=true then EX else t
theorem zi2(hv lv:Value)(t:Tok)(w:World)(ht:BC w hv lv t)(hb:t.2.1.length*8<=140737488355328/\t.2.2.length*16<=140737488355328) :
  Calls Tryz.prog 32 #[.agg #[.bool t.1,hv,lv]] w λe w'=>∃hv' lv',e=.returned (.agg #[.bool t.1,hv',lv'])/\AA w' w.heap.size hv' lv' (cpT t)/\Ok w w':=by
 have HT:=hid ht;have HB:=hid hb;obtain⟨_,_,ho,hc,rfl,_⟩:=ht.hist;obtain⟨_,_,lo,lc,rfl,_⟩:=ht.loops;obtain⟨m,hm⟩:=qq (t.1);have HM:Hi (m=t.1):=hm;rw[<-hm];clear ht hb hm;obtain⟨q,hq⟩:=qq (t.2.1.length);obtain⟨n,hn⟩:=qq (t.2.2.length);have HQ:Hi (q=t.2.1.length/\n=t.2.2.length):=⟨hq,hn⟩;rw[<-hq,<-hn];have HTH:Hi (SL w 1 (.slice ho q hc) q (ilL t.2.1)):=by rw[hq];exact HT.o.hist
 have HTL:Hi (SL w 2 (.slice lo n lc) n (lpL t.2.2)):=by rw[hn];exact HT.o.loops
 clear hq hn HT;go_enter Tryz.func32,Tryz.ntmps32
 cases m with
 | true =>
  have HE:Hi (cpT t=EX):=by unfold Hi cpT;rw[if_pos HM.o.symm]
  go_wp2_with fail;(try simp only[Exit.inBlock,Exit.then]);refine bodyPost_ret (results_cell_row rfl _ _ (w.heap.size+1) 28 #[_,_,_] (0,0) _ rfl jj Tryz.underlying28 rfl CB) rfl ?_;exact⟨_,_,rfl,by rw[HE.o];exact⟨World.ownsRow_nil _ _ _ _,World.ownsRow_nil _ _ _ _⟩,((Ok.refl w).alloc _).alloc _⟩
 | false =>
  have HE:Hi (cpT t=t):=by unfold Hi cpT;rw[if_neg (by rw[<-HM.o];decide)]
  go_wp2_with fail;obtain⟨W,hW⟩:=qq ((w.alloc (Obj.cells #[.bool false,.slice ho q hc,.slice lo n lc] 28)).alloc (Obj.cells #[.bool false,sZ,sZ] 28));obtain⟨gr,hgr⟩:=qq (w.heap.size+1);obtain⟨gp,hgp⟩:=qq (w.heap.size);rw[<-hW,<-hgr,<-hgp];have HK:Hi (Ok w W):=by rw[hW];exact((Ok.refl w).alloc _).alloc _
  have HP:Hi (W.heap[gp]?=some (.cells #[Value.bool false,Value.slice ho q hc,Value.slice lo n lc] 28 (0,0))):=by rw[hW,hgp];exact jj
  have HR:Hi (W.heap[gr]?=some (.cells #[Value.bool false,sZ,sZ] 28 (0,0))):=by rw[hW,hgr];exact jj
  have HG:Hi (w.heap.size<=gr):=by unfold Hi;omega
  clear hW hgr hgp;replace HTH:Hi (∀Y,Ok W Y->SL Y 1 (.slice ho q hc) q (ilL t.2.1)):=λY hY=>HTH.o.below (HK.o.step hY);replace HTL:Hi (∀Y,Ok W Y->SL Y 2 (.slice lo n lc) n (lpL t.2.2)):=λY hY=>HTL.o.below (HK.o.step hY)
  have HSS:Hi (∀Y,Ok W Y->Y.cell? (aD gp 1)=some (.slice ho q hc)/\Y.cell? (aD gp 2)=some (.slice lo n lc)/\gp<Y.heap.size):=λY hY=>by have h:=Ok.row' hY HP.o;exact⟨(cell_of_row _ _ 1 _ _ _ h).trans sI,(cell_of_row _ _ 2 _ _ _ h).trans sI,za2 h⟩
  have S0:Ok W W.drew:=Below.drew (Ok.refl _);refine zd5 (λY=>Ok W Y) 7 kR ?_;refine tL 0 (pA gp 1) S0 ?_ ?_
  ·intro w' s0;clear s0;go_simp;try with_reducible rfl
  simp only[pu];refine tL 1 (.slice ho q hc) S0 ?_ ?_
  ·intro w' s0;obtain⟨z1,z2,z3⟩:=HSS.o w' s0;clear s0;go_simp;try with_reducible rfl
  simp only[pu];refine tL 3 (pA gp 2) S0 ?_ ?_
  ·intro w' s0;clear s0;go_simp;try with_reducible rfl
  simp only[pu];refine tL 4 (.slice lo n lc) S0 ?_ ?_
  ·intro w' s0;obtain⟨z1,z2,z3⟩:=HSS.o w' s0;clear s0;go_simp;try with_reducible rfl
  simp only[pu];refine zb0 (i:=2) kR rfl (λK hK=>?_);refine zj0 rfl _ _ 25 3 1 8 _ rfl Tryz.underlying25 wb1 (by rfl) dC dC W.heap.size (sZ) 0 [] (by rfl) (World.ownsRow_nil _ _ _ _) (.slice ho q hc) q (ilL t.2.1) (by rfl) (HTH.o _ (Below.drew (Ok.refl _))) (by have:=HB.o.1;have:=HQ.o.1;omega) (nR_ _) ?_;intro v1 w1 k1 k2;rw[Nat.zero_add,List.nil_append]at k1;have HK1:Hi (Ok W w1):=Ok.step (Below.drew (Ok.refl _)) (Ok.grown0 k2);have HH1:=hid k1;obtain⟨vo,vc,rfl⟩:=za0 k1;clear k1 k2;refine hK.out _ _ (λ_=>HK1.o) ?_;clear hK K;simp only[pu];refine zb0 (i:=5) kR rfl (λK hK=>?_);refine zj0 rfl _ _ 26 45 2 16 _ rfl Tryz.underlying26 wg7 (by rfl) dC dC W.heap.size (sZ) 0 [] (by rfl) (World.ownsRow_nil _ _ _ _) (.slice lo n lc) n (lpL t.2.2) (by rfl) (HTL.o _ HK1.o) (by have:=HB.o.2;have:=HQ.o.2;omega) HK1.o.le ?_;intro v2 w2 k1 k2;rw[Nat.zero_add,List.nil_append]at k1;have HK2:=hid (HK1.o.step (Ok.grown0 k2));have HH2:=hid (za1 HH1.o (Ok.grown0 k2));have HL2:=hid k1;obtain⟨uo,uc,rfl⟩:=za0 k1;clear k1 k2;refine hK.out _ _ (λ_=>HK2.o) ?_;clear hK K;simp only[pu];refine zb0 (i:=6) kR rfl (λK hK=>?_);go_simp;refine hK.out _ _ (λ_=>HK2.o) ?_;clear hK K;have HR2:Hi _:=Ok.row' HK2.o HR.o;obtain⟨c0,c1,c2,c3,c4,c5⟩:=za9 HR2.o;have lgr:=za2 HR2.o;refine zb0 (i:=7) kR rfl (λK hK=>?_);go_simp;refine hK.out _ _ (λh=>absurd rfl h) ?_;clear hK K;refine zd4 kR ?_ _;go_wp2_with fail;(try simp only[Exit.inBlock,Exit.then]);refine bodyPost_ret (results_cell_row rfl _ _ gr 28 #[_,_,_] (0,0) _ rfl (zd9 HR2.o _ _ _) Tryz.underlying28 rfl CB) rfl ?_;have hlt:gr<W.heap.size:=za2 HR.o;refine⟨_,_,rfl,?_,((((HK.o.step HK2.o).set HG.o _).set HG.o _).set HG.o _)⟩;rw[HE.o];refine⟨?_,?_⟩
  ·rw[<-HQ.o.1];exact za7 (zf6 HH2.o hlt _ _ _) HK.o.le
  rw[<-HQ.o.2];exact za7 (zf6 HL2.o hlt _ _ _) HK.o.le
end
section
open Go.RowKit Go.Maps
theorem wl9(w:World):(zeroValue 3).run Tryz.prog w=.ok (nI 0) w:=by kernel_rfl
theorem gwf{v:Int}(h0 : -9223372036854775808<=v)(h1:v<=9223372036854775807):(Lit.int .i64 v).wf=true:=by
 have e1:IntKind.i64.min = -9223372036854775808:=by decide
 have e2:IntKind.i64.max=9223372036854775807:=by decide
 simp only[Lit.wf,e1,e2];simp[h0,h1]
structure MI(k:TypeId)(D:DataW Unit)(f:Value->Option Int):Prop where
 mp:IsMap D
 val:∀key kl,keyOf Tryz.prog k key=some kl->Maps.has D kl=(f key).isSome/\D.atKey kl (.lit (.int .i64 0))=.lit (.int .i64 ((f key).getD 0))
theorem MI.nil(k:TypeId):MI k (.map []) (λ_=>Option.none):=⟨⟨[],rfl⟩,λkey kl _=>⟨rfl,rfl⟩⟩
theorem MI.put(K:Keyed Tryz.prog k){D:DataW Unit}{f':Value->Option Int}(h:MI k D f){kl:Lit}(hk:keyOf Tryz.prog k key=some kl){y:Int}(h1:f' key=some y)(h2:∀u,u≠key->f' u=f u):MI k (D.put kl (.lit (.int .i64 y))) f':=by
 refine⟨?_,λu ul hu=>?_⟩
 ·obtain⟨es,rfl⟩:=h.mp
  exact⟨_,DataW.put_eq _ _ _⟩
 by_cases e:u=key
 ·subst e
  rw[hk]at hu
  injection hu with hu
  subst hu;rw[h1];exact⟨has_put_same h.mp (K.key hk) _,atKey_put_same h.mp (K.key hk) _ _⟩
 have hne:ul≠kl:=λe1=>by subst e1;exact e (K.inj hu hk)
 rw[has_put_other hne,atKey_put_other hne,h2 u e];exact h.val u ul hu
def CH(w:World)(k:TypeId)(b N:Nat)(f:Value->Option Int):Prop:=∃n D,n<=N/\w.ownsMap Tryz.prog k (plainElem Tryz.prog 3) b n D/\MI k D f
theorem CH.made(w:World)(k:TypeId):CH (w.alloc (.map #[] 0)) k w.heap.size 0 (λ_=>Option.none):=⟨0,_,nR_ _,World.ownsMap_made w Tryz.prog k _,MI.nil k⟩
theorem CH.lt(h:CH w k b N f):b<w.heap.size:=by obtain⟨n,D,_,h1,_⟩:=h;exact h1.lt
theorem CH.kept{r:Option Nat}(h:CH w k b N f)(hg:w.grownBy w' r)(hne:some b≠r):CH w' k b N f:=by obtain⟨n,D,h0,h1,h2⟩:=h;exact⟨n,D,h0,h1.kept hg hne,h2⟩
theorem CH.ok(h:CH w k b N f)(hb:Ok w w'):CH w' k b N f:=h.kept (zu1 hb) sI
theorem CH.alloc(h:CH w k b N f)(o:Obj):CH (w.alloc o) k b N f:=by obtain⟨n,D,h0,h1,h2⟩:=h;exact⟨n,D,h0,h1.alloc o,h2⟩
theorem CH.set(h:CH w k b N f){p:Addr}(hp:b≠p.block)(v:Value):CH (w.setCell p v) k b N f:=by obtain⟨n,D,h0,h1,h2⟩:=h;exact⟨n,D,h0,h1.setCell hp v,h2⟩
theorem CH.more{M:Nat}(h:CH w k b N f)(hm:N<=M):CH w k b M f:=by obtain⟨n,D,h0,h1,h2⟩:=h;exact⟨n,D,Nat.le_trans h0 hm,h1,h2⟩
theorem CH.as{g:Value->Option Int}(h:CH w k b N f)(hf:∀key kl,keyOf Tryz.prog k key=some kl->g key=f key):CH w k b N g:=by obtain⟨n,D,h0,h1,h2⟩:=h;exact⟨n,D,h0,h1,h2.mp,λkey kl hk=>by rw[hf key kl hk];exact h2.val key kl hk⟩
theorem CH.look_ok{t:TypeId}(h:CH w k b N f)(K:Keyed Tryz.prog k)(ht:Tryz.prog.underlying t=some (.map k 3)){kl:Lit}(hk:keyOf Tryz.prog k key=some kl) :
  (Instr.lookup t (.map (some b)) key true).run Tryz.prog w=.ok (.tuple #[nI ((f key).getD 0),.bool (f key).isSome]) w:=by
 obtain⟨n,D,_,hD,hS⟩:=h;obtain⟨u,ps,hrun,hu⟩:=hD.look_ok K ht (wl9 w) (plainElem_int Tryz.underlying3 dC) hk;obtain⟨e1,e2⟩:=hS.val key kl hk;rw[e2]at hu;obtain⟨a,rfl,e,_⟩:=plainElem_int_inv Tryz.underlying3 hu;simp only[Prod.mk.injEq,DataW.lit.injEq,Lit.int.injEq,true_and]at e;rw[hrun,e1,e.1]
theorem CH.look{t:TypeId}(h:CH w k b N f)(K:Keyed Tryz.prog k)(ht:Tryz.prog.underlying t=some (.map k 3)){kl:Lit}(hk:keyOf Tryz.prog k key=some kl) :
  (Instr.lookup t (.map (some b)) key false).run Tryz.prog w=.ok (nI ((f key).getD 0)) w:=by
 obtain⟨n,D,_,hD,hS⟩:=h;obtain⟨u,ps,hrun,hu⟩:=hD.lookup K ht (wl9 w) (plainElem_int Tryz.underlying3 dC) hk;obtain⟨e1,e2⟩:=hS.val key kl hk;rw[e2]at hu;obtain⟨a,rfl,e,_⟩:=plainElem_int_inv Tryz.underlying3 hu;simp only[Prod.mk.injEq,DataW.lit.injEq,Lit.int.injEq,true_and]at e;rw[hrun,e.1]
theorem CH.put{t:TypeId}{f':Value->Option Int}(h:CH w k b N f)(K:Keyed Tryz.prog k)(ht:Tryz.prog.underlying t=some (.map k 3)){kl:Lit}(hk:keyOf Tryz.prog k key=some kl){y:Int}(h0 : -9223372036854775808<=y)(h1:y<=9223372036854775807)(hN:N<maxLen)(e1:f' key=some y)(e2:∀u,u≠key->f' u=f u) :
  ∃w',(Instr.mapUpdate t (.map (some b)) key (nI y)).run Tryz.prog w=.ok () w'/\CH w' k b (N+1) f'/\w.grownBy w' (some b):=by
 obtain⟨n,D,hn,hD,hS⟩:=h;obtain⟨w',hrun,hD',hg⟩:=hD.update K ht oM hk (plainElem_int (a:=y) Tryz.underlying3 (gwf h0 h1));exact⟨w',hrun,⟨n+1,_,by omega,hD',hS.put K hk e1 e2⟩,hg⟩
end
end Go.Proofs.YtpongdpnbclchaaGreatDoor
