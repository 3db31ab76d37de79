import Derived.Test.YtpongdpnbclchaaGreatDoorKXb
set_option linter.all false
set_option maxRecDepth 100000
namespace Go.Proofs.YtpongdpnbclchaaGreatDoor
variable{W u w:World}{g n:Nat}
section
open Go.RowKit
theorem yM3:∀(l:List Bool) (i:Nat),l[i]?=some false->(l.set i true).count false+1=l.count false
 | [],i,h=>by simp at h
 | b::l,0,h=>by simp at h;subst h;simp
 | b::l,i+1,h=>by
  have h':l[i]?=some false:=by simpa using h
  have:=yM3 l i h'
  cases b<;>simp_all<;>omega
theorem yK3{l:Array Bool}{i:Nat}(h:l.getD i true=false):l.toList[i]?=some false:=by
 rw[Array.getElem?_toList];rw[Array.getD_eq_getD_getElem?]at h
 cases e:l[i]? with
 | none=>rw[e]at h;cases h
 | some b=>rw[e]at h;simp at h;rw[h]
section
variable {P:Program} {ops:Array Oper} {Q:Exit->Act->World->Prop} {md:Region.Mode}
def wu2(md:Region.Mode)(ops:Array Oper):Bool:=(List.range ops.size).all λi=>((ops[i]?).map (·.after.all λe => !Region.binds md e||decide (e.on<i))).getD true
theorem yL5(hb:wu2 md ops=true){l:Array Bool}(hs:l.size=ops.size)(hr:Region.ready md ops l=[]):∀i,i<ops.size->l.getD i true=true:=by
 intro i
 induction i using Nat.strongRecOn with
 | _ i ih =>
  intro hi
  cases c:l.getD i true with
  | true=>rfl
  | false =>
   exfalso;have hn:i ∉ Region.ready md ops l:=by rw[hr];simp
   apply hn;rw[mem_ready];refine⟨c,ops[i],Array.getElem?_eq_getElem hi,λe he hbd=>?_⟩;have hb':=List.all_eq_true.1 hb i (List.mem_range.2 hi);rw[Array.getElem?_eq_getElem hi]at hb';simp only[Option.map_some,Option.getD_some,Array.all_eq_true_iff_forall_mem]at hb';have h1:=hb' e he;rw[hbd]at h1;have hlt:e.on<i:=by simpa using h1
   have h2:=ih e.on hlt oM;rw[Array.getD_eq_getD_getElem?,Array.getElem?_eq_getElem (by omega)]at h2 ⊢;simpa using h2
theorem yK1{S:World->Prop}{I:Array Bool->Act->World->Prop}
  (step:∀(l:Array Bool) (a:Act) (w:World) (i:Nat),I l a w->i∈Region.ready md ops l->∀K:Act->World->Prop,(∀a' w',I (l.setIfInBounds i true) a' w'->K a' w')->wpOp P ops Q i K a w)
  (hS:∀(l:Array Bool) (a:Act) (w:World),I l a w->S w)
  (fin:∀(l:Array Bool) (a:Act) (w:World),I l a w->Region.ready md ops l=[]->Q .normal a w) :
  ∀(fuel:Nat) (l:Array Bool) (a:Act) (w:World),I l a w->l.toList.count false<=fuel->DW P md ops Q S n fuel l a w
 | 0,l,a,w,h,hf=>by
  have e:Region.ready md ops l=[]:=by apply List.eq_nil_iff_forall_not_mem.2;intro i hi;have:=List.count_pos_iff.2 (mG_ (yK3 (mem_ready.1 hi).1));omega
  exact⟨e,fin l a w h e⟩
 | fuel+1,l,a,w,h,hf=>by refine⟨fin l a w h,λi hi=>step l a w i h hi _ (λa' w' h'=>⟨λ_=>hS _ _ _ h',yK1 step hS fin fuel _ a' w' h' ?_⟩)⟩;have:=yM3 l.toList i (yK3 (mem_ready.1 hi).1);rw[Array.toList_setIfInBounds];omega
theorem yL6{S:World->Prop}{fuel:Nat}{F:Act}{l0:Array Bool}{w0:World}(hg:ops.all (·.guard.isNone)=true)(I:Act->Array Bool->Act->World->Prop)
  (start:I F l0 F w0) (hf:l0.toList.count false<=fuel)
  (step:∀(l:Array Bool) (a:Act) (w:World) (i:Nat) (o:Oper),I F l a w->l.getD i true=false->ops[i]?=some o->(∀e∈o.after,Region.binds md e=true->l.getD e.on false=true)->∀K':Act->World->Prop,Shut (∀a' w',I F (l.setIfInBounds i true) a' w'->K' a' w')->Oper.wp P o a w K' Q)
  (hS:∀(l:Array Bool) (a:Act) (w:World),I F l a w->S w)
  (fin:∀(l:Array Bool) (a:Act) (w:World),I F l a w->Region.ready md ops l=[]->Q .normal a w):DW P md ops Q S n fuel l0 F w0:=by
 refine yK1 (I:=I F) (λl a w i h hi K hK=>?_) hS fin _ _ _ _ start hf;obtain⟨h0,o,ho,hd⟩:=mem_ready.1 hi;refine wpOp_step ho (λK' hK'=>?_)
 have hn:o.guard=none:=by have:=Array.all_eq_true_iff_forall_mem.1 hg o (Array.mem_of_getElem? ho);simpa using this
 rw[if_pos (by unfold Region.wanted;rw[hn])];exact step l a w i o h h0 ho hd K' (λa' w' h'=>hK' a' w' (hK a' w' h'))
end
structure Th(u:World)(B:Nat)(e:TypeId)(s nn:Nat)(xs one:List Value)(f0 f1 f2 f3:Bool)(v0 v1 v2 v3:Value):Prop where
 m1:f1=true->f0=true
 m3:f3=true->f1=true/\f2=true
 c0:f0=true->(∃g,v0=.slice (sA g 0) 0 0)/\(f1=false->u.ownsRow B e s v0 0 [])
 c1:f1=true->f3=false->u.ownsRow B e s v1 nn xs
 c2:f2=true->(∃g,v2=.slice (sA g 0) 1 1)/\(f3=false->u.ownsRow B e s v2 1 one)
 c3:f3=true->(∃g cap,v3=.slice (sA g 0) (nn+1) cap)/\u.ownsRow B e s v3 (nn+1) (xs++one)
 d:f0=true->f2=true->f1=false->∀b,v0.ownBlock=some b->v2.ownBlock≠some b
theorem Th.zero(u:World)(B:Nat)(e:TypeId)(s nn:Nat)(xs one:List Value)(v0 v1 v2 v3:Value):Th u B e s nn xs one false false false false v0 v1 v2 v3 :=
 ⟨λh=>(by cases h),λh=>(by cases h),λh=>(by cases h),λh=>(by cases h),λh=>(by cases h),λh=>(by cases h),λh=>(by cases h)⟩
section
variable {u u':World} {B s nn:Nat} {e:TypeId} {xs one:List Value} {f0 f1 f2 f3:Bool} {v0 v1 v2 v3:Value}
theorem Th.map(h:Th u B e s nn xs one f0 f1 f2 f3 v0 v1 v2 v3)(hm:∀v n ys,u.ownsRow B e s v n ys->u'.ownsRow B e s v n ys):Th u' B e s nn xs one f0 f1 f2 f3 v0 v1 v2 v3 :=
 { h with
  c0:=λk=>⟨(h.c0 k).1,λk2=>hm _ _ _ ((h.c0 k).2 k2)⟩
  c1:=λk k2=>hm _ _ _ (h.c1 k k2)
  c2:=λk=>⟨(h.c2 k).1,λk2=>hm _ _ _ ((h.c2 k).2 k2)⟩
  c3:=λk=>⟨(h.c3 k).1,hm _ _ _ (h.c3 k).2⟩ }
theorem Th.s0(h:Th u B e s nn xs one false f1 f2 f3 v0 v1 v2 v3)(hB:B<=u.heap.size):Th (u.alloc (.cells #[] e)) B e s nn xs one true f1 f2 f3 (.slice (sA u.heap.size 0) 0 0) v1 v2 v3:=by
 have hk:Ok u (u.alloc (.cells #[] e)):=(Ok.refl u).alloc _
 have h1:f1=false:=by
  cases c:f1 with
  | false=>rfl
  | true=>exact absurd (h.m1 c) dC
 have h3:f3=false:=by
  cases c:f3 with
  | false=>rfl
  | true=>rw[(h.m3 c).1]at h1;cases h1
 subst h1 h3;refine⟨λk=>rfl,λk=>(by cases k),λ_=>⟨⟨_,rfl⟩,λ_=>yI3 u B e s hB⟩,λk=>(by cases k),λk=>⟨(h.c2 k).1,λk2=>za1 ((h.c2 k).2 k2) hk⟩,λk=>(by cases k),λ_ k _ b hb hb2=>?_⟩;have e1:u.heap.size=b:=Option.some.inj hb;have:=(((h.c2 k).2 rfl).lt b hb2).2;omega
theorem Th.s1(h:Th u B e s nn xs one true false f2 f3 v0 v1 v2 v3){x:Value}(h1:u'.ownsRow B e s x (0+nn) ([]++xs))(h2:u.grownBy u' v0.ownBlock):Th u' B e s nn xs one true true f2 f3 v0 x v2 v3:=by
 have h3:f3=false:=by
  cases c:f3 with
  | false=>rfl
  | true=>exact absurd (h.m3 c).1 dC
 subst h3;refine⟨λ_=>rfl,λk=>(by cases k),λk=>⟨(h.c0 k).1,λk2=>(by cases k2)⟩,λ_ _=>by rw[Nat.zero_add,List.nil_append]at h1;exact h1,λk=>⟨(h.c2 k).1,λk2=>zb4 ((h.c2 k).2 k2) λb hb=>h2.block b (((h.c2 k).2 k2).lt b hb).2 λe1=>h.d rfl k rfl b e1.symm hb⟩,λk=>(by cases k),λ_ _ k=>(by cases k)⟩
theorem Th.s2(h:Th u B e s nn xs one f0 f1 false f3 v0 v1 v2 v3)(hB:B<=u.heap.size)(ho:one.length=1*s):Th (u.alloc (.cells one.toArray e)) B e s nn xs one f0 f1 true f3 v0 v1 (.slice (sA u.heap.size 0) 1 1) v3:=by
 have hk:Ok u (u.alloc (.cells one.toArray e)):=(Ok.refl u).alloc _
 have h3:f3=false:=by
  cases c:f3 with
  | false=>rfl
  | true=>exact absurd (h.m3 c).2 dC
 subst h3
 have hr:(u.alloc (.cells one.toArray e)).ownsRow B e s (.slice (sA u.heap.size 0) 1 1) 1 one:=by have:=World.ownsRow_lit (base:=B) (e:=e) (size:=s) u one.toArray 1 hB (by decide) (by simpa using ho);simpa using this
 refine⟨h.m1,λk=>(by cases k),λk=>⟨(h.c0 k).1,λk2=>za1 ((h.c0 k).2 k2) hk⟩,λk k2=>za1 (h.c1 k k2) hk,λ_=>⟨⟨_,rfl⟩,λ_=>hr⟩,λk=>(by cases k),λk _ k2 b hb hb2=>?_⟩;have e1:u.heap.size=b:=Option.some.inj hb2;have:=(((h.c0 k).2 k2).lt b hb).2;omega
theorem Th.s3(h:Th u B e s nn xs one f0 true true false v0 v1 v2 v3){x:Value}(h1:u'.ownsRow B e s x (nn+1) (xs++one)):Th u' B e s nn xs one f0 true true true v0 v1 v2 x:=by have h0:f0=true:=h.m1 rfl;subst h0;refine⟨λ_=>rfl,λ_=>⟨rfl,rfl⟩,λk=>⟨(h.c0 k).1,λk2=>(by cases k2)⟩,λ_ k=>(by cases k),λk=>⟨(h.c2 k).1,λk2=>(by cases k2)⟩,λ_=>⟨?_,h1⟩,λ_ _ k=>(by cases k)⟩;obtain⟨g,cap,e1,_⟩:=h1.form oM;exact⟨g,cap,e1⟩
end
theorem yI8{o:Oper}{a:Act}{K:Act->World->Prop}{Q:Exit->Act->World->Prop}(hgd:o.guard=none)(s x:Operand)(lT eT:TypeId)(sz bts:Nat)(z:Value)
  (ho:o.op=.call { callee:=.builtin .append,args:=#[s,x],argTypes:=#[lT,lT] })
  (hund:Tryz.prog.underlying lT=some (.slice eT)) (hinf:(Tryz.prog.info? eT).map (λi=>(i.zero,i.size,i.bytes))=some (some z,sz,bts)) (hzc:z.cells.size=sz) (hsz:0<sz) (hbt:0<bts)
  (base:Nat) (sv:Value) (k:Nat) (ys:List Value) (hs:a.eval s=sv) (hown:w.ownsRow base eT sz sv k ys) (v:Value) (n:Nat) (xs:List Value) (hx:a.eval x=v) (hT:SL w sz v n xs)
  (hb:(k+n)*bts<=140737488355328) (hbase:base<=w.heap.size)
  (h:∀v' w',w'.ownsRow base eT sz v' (k+n) (ys++xs)->w.grownBy w' sv.ownBlock->K (a.put o.dst v') w'):Oper.wp Tryz.prog o a w K Q:=by
 have h1:=zj0 (ops:=#[]) (E:=True) (Q:=Q) hgd s x lT eT sz bts z ho hund hinf hzc hsz hbt base sv k ys hs hown v n xs hx hT hb hbase h;rw[if_pos (by simp[Region.wanted,hgd])]at h1;exact h1
theorem yI9{w':World}{cs:Array Value}{t:TypeId}{fz:Nat×Nat}{B:Nat}{e:TypeId}{s:Nat}{v:Value}{xs:List Value}(h:w.heap[g]?=some (.cells cs t fz))(ho:w.ownsRow B e s v n xs)(he:e≠t)(hg:w.grownBy w' v.ownBlock):w'.heap[g]?=some (.cells cs t fz) :=
 (hg.block g (za2 h) λe1=>by
  obtain⟨c,f,k⟩:=zf9 ho g e1.symm;rw[h]at k
  injection k with k
  injection k with _ k2
  exact he k2.symm).trans h
structure LO(w W:World)(g:Nat)(u:World):Prop where
 ok:Ok w u
 sz:W.heap.size<=u.heap.size
 off:∀b,b≠g->b<W.heap.size->u.heap[b]?=W.heap[b]?
theorem LO.start(h:Ok w W):LO w W g W.drew:=⟨Below.drew h,nR_ _,λ_ _ _=>rfl⟩
theorem LO.step{u':World}(h:LO w W g u)(hk:Ok u u'):LO w W g u' :=
 ⟨h.ok.step hk,Nat.le_trans h.sz hk.le,λb hb hl=>(Below.block hk b (lL_ hl h.sz)).trans (h.off b hb hl)⟩
theorem LO.grow{u':World}{own:Option Nat}(h:LO w W g u)(hW:w.heap.size<=W.heap.size)(hg:u.grownBy u' own)(ho:∀b,own=some b->W.heap.size<=b):LO w W g u' :=
 ⟨h.ok.grown hg (λb e=>Nat.le_trans hW (ho b e)),Nat.le_trans h.sz hg.size,λb hb hl=>(hg.block b (lL_ hl h.sz) (λe=>by have:=ho b e.symm;omega)).trans (h.off b hb hl)⟩
theorem LO.put(h:LO w W g u)(hg:w.heap.size<=g)(a b c:Value):LO w W g (((u.setCell (aD g 0) a).setCell (aD g 1) b).setCell (aD g 2) c) :=
 ⟨h.ok.set3 hg a b c,Nat.le_trans h.sz (zF3 u g a b c),λk hk hl=>(zj4 u hk a b c).trans (h.off k hk hl)⟩
end
section
open Go.RowKit
theorem eqF {p:Prop}(h:p:=by(try simp only[pu]);try rfl):p:=h
set_option maxHeartbeats 8000000 in
theorem yL4(hv lv:Value)(t:Tok)(w:World)(ht:BC w hv lv t)(hb:t.2.1.length*8+8<=140737488355328/\t.2.2.length*16+16<=140737488355328) :
  Calls Tryz.prog 6 #[.agg #[.bool t.1,hv,lv]] w λe w'=>∃gh ch gl cl,e=.returned (.agg #[.bool t.1,.slice (sA gh 0) t.2.1.length ch,.slice (sA gl 0) t.2.2.length cl])/\w'.ownsRow w.heap.size 3 1 (.slice (sA gh 0) (t.2.1.length+1) ch) (t.2.1.length+1) (ilL t.2.1++[nI 77])/\w'.ownsRow w.heap.size 45 2 (.slice (sA gl 0) (t.2.2.length+1) cl) (t.2.2.length+1) (lpL t.2.2++[nI 77,nI 0])/\Ok w w':=by
 have HT:=hid ht;obtain⟨_,_,ho,hc,rfl,_⟩:=ht.hist;obtain⟨_,_,lo,lc,rfl,_⟩:=ht.loops;obtain⟨m,hmm⟩:=qq (t.1);obtain⟨q,hq⟩:=qq (t.2.1.length);obtain⟨n,hn⟩:=qq (t.2.2.length);have HQ:Hi (q*8+8<=140737488355328/\n*16+16<=140737488355328):=⟨hq ▸ hb.1,hn ▸ hb.2⟩;have HH:Hi (SL w 1 (.slice ho q hc) q (ilL t.2.1)):=by have:=HT.o.hist;rw[<-hq]at this;exact this
 have HL:Hi (SL w 2 (.slice lo n lc) n (lpL t.2.2)):=by have:=HT.o.loops;rw[<-hn]at this;exact this
 rw[<-hmm,<-hq,<-hn];clear hmm hq hn hb ht HT;go_enter Tryz.func6,Tryz.ntmps6
 go_upto_region 1 with (fail)
 obtain⟨W,hW⟩:=qq ((w.alloc (Obj.cells #[.bool m,.slice ho q hc,.slice lo n lc] 28)).alloc (Obj.cells #[.bool false,sZ,sZ] 28));obtain⟨gT,hgT⟩:=qq (w.heap.size);obtain⟨gR,hgR⟩:=qq (w.heap.size+1);rw[<-hW,<-hgR,<-hgT];have HKW:Hi (Ok w W):=by rw[hW];exact((Ok.refl w).alloc _).alloc _
 have HRT:Hi (W.heap[gT]?=some (.cells #[.bool m,.slice ho q hc,.slice lo n lc] 28 (0,0))):=by rw[hW,hgT];exact jj
 have HRR:Hi (W.heap[gR]?=some (.cells #[.bool false,sZ,sZ] 28 (0,0))):=by rw[hW,hgR];exact jj
 have HGG:Hi (w.heap.size<=gR/\gR<W.heap.size/\gT≠gR):=⟨by omega,za2 HRR.o,by omega⟩;clear hW hgT hgR;have S0:W.drew.heap[gT]?=some (.cells #[.bool m,.slice ho q hc,.slice lo n lc] 28 (0,0)):=Ok.row' (Below.drew (Ok.refl W)) HRT.o;refine zd5 (λY=>Y.heap[gT]?=some (.cells #[.bool m,.slice ho q hc,.slice lo n lc] 28 (0,0))) 24 kR ?_;refine tK 0 (pA gT 0) S0 ?_;simp only[pu];refine tL 1 (.bool m) S0 ?_ ?_
 ·intro w' s0;obtain⟨z0,z1,z2,_⟩:=za9 s0;have z9:=za2 s0;clear s0;go_simp;try with_reducible rfl
 simp only[pu];refine tK 3 (pA gT 1) S0 ?_;simp only[pu];refine tL 4 (.slice ho q hc) S0 ?_ ?_
 ·intro w' s0;obtain⟨z0,z1,z2,_⟩:=za9 s0;have z9:=za2 s0;clear s0;go_simp;try with_reducible rfl
 simp only[pu];refine tK 8 (pA gT 1) S0 ?_;simp only[pu];refine tL 9 (.slice ho q hc) S0 ?_ ?_
 ·intro w' s0;obtain⟨z0,z1,z2,_⟩:=za9 s0;have z9:=za2 s0;clear s0;go_simp;try with_reducible rfl
 simp only[pu];refine tK 10 (nI (q:Nat)) S0 ?_;simp only[pu];refine tK 13 (pA gT 2) S0 ?_;simp only[pu];refine tL 14 (.slice lo n lc) S0 ?_ ?_
 ·intro w' s0;obtain⟨z0,z1,z2,_⟩:=za9 s0;have z9:=za2 s0;clear s0;go_simp;try with_reducible rfl
 simp only[pu];refine tK 16 (.agg #[nI 77,nI 0]) S0 ?_;simp only[pu];refine tK 19 (pA gT 2) S0 ?_;simp only[pu];refine tL 20 (.slice lo n lc) S0 ?_ ?_
 ·intro w' s0;obtain⟨z0,z1,z2,_⟩:=za9 s0;have z9:=za2 s0;clear s0;go_simp;try with_reducible rfl
 simp only[pu];refine tK 21 (nI (n:Nat)) S0 ?_;simp only[pu];refine yL6 kR (λF l fr u=>∃(a0 a1 a2 a3 b0 b1 b2 b3 p y r k:Bool) (s5 s8 s9 s10 s14 s15 s18 s20 s21 s25 s26:Value),l=#[true,true,a0,true,true,a1,a2,a3,true,true,true,p,b0,true,true,b1,true,b2,b3,true,true,true,y,r,k]/\fr=(((((((((((F.put (some 5) s5).put (some 8) s8).put (some 9) s9).put (some 10) s10).put (some 14) s14).put (some 15) s15).put (some 18) s18).put (some 20) s20).put (some 21) s21).put (some 25) s25).put (some 26) s26)/\Hi (LO w W gR u)/\Hi (Th u W.heap.size 3 1 q (ilL t.2.1) [nI 77] a0 a1 a2 a3 s5 s8 s9 s10)/\Hi (Th u W.heap.size 45 2 n (lpL t.2.2) [nI 77,nI 0] b0 b1 b2 b3 s15 s18 s20 s21)/\Hi (p=true->a3=true/\∃g c,s10=.slice (sA g 0) (q+1) c/\s14=.slice (sA g 0) q c)/\Hi (y=true->b3=true/\∃g c,s21=.slice (sA g 0) (n+1) c/\s25=.slice (sA g 0) n c)/\Hi (r=true->p=true/\y=true/\s26=.agg #[.bool m,s14,s25])/\Hi (k=false->u.heap[gR]?=some (.cells #[.bool false,sZ,sZ] 28 (0,0)))/\Hi (k=true->r=true/\u.heap[gR]?=some (.cells #[.bool m,s14,s25] 28 (0,0)))) ?start dC ?step (λl a u h=>?hs) ?fin
 case hs=>obtain⟨a0,a1,a2,a3,b0,b1,b2,b3,p,y,r,k,s5,s8,s9,s10,s14,s15,s18,s20,s21,s25,s26,_,_,hO,_⟩:=h;exact(hO.o.off gT HGG.o.2.2 (za2 HRT.o)).trans HRT.o
 case start=>exact⟨false,false,false,false,false,false,false,false,false,false,false,false,undef,undef,undef,undef,undef,undef,undef,undef,undef,undef,undef,rfl,eqF,LO.start HKW.o,Th.zero _ _ _ _ _ _ _ _ _ _ _,Th.zero _ _ _ _ _ _ _ _ _ _ _,(λh=>by cases h),(λh=>by cases h),(λh=>by cases h),λ_=>Ok.row' (Below.drew (Ok.refl W)) HRR.o,(λh=>by cases h)⟩
 case step =>
  intro l fr u i op hI hi0 hop hd K hK;obtain⟨a0,a1,a2,a3,b0,b1,b2,b3,p,y,r,k,s5,s8,s9,s10,s14,s15,s18,s20,s21,s25,s26,rfl,rfl,hO,hA,hB,hp,hy,hr,hk0,hk1⟩:=hI;have hlt:i<25:=(Array.getElem?_eq_some_iff.1 hop).1;have hBz:W.heap.size<=u.heap.size:=hO.o.sz;rcases(show i=0\/i=1\/i=2\/i=3\/i=4\/i=5\/i=6\/i=7\/i=8\/i=9\/i=10\/i=11\/i=12\/i=13\/i=14\/i=15\/i=16\/i=17\/i=18\/i=19\/i=20\/i=21\/i=22\/i=23\/i=24 by omega) with rfl | rfl | rfl | rfl | rfl | rfl | rfl | rfl | rfl | rfl | rfl | rfl | rfl | rfl | rfl | rfl | rfl | rfl | rfl | rfl | rfl | rfl | rfl | rfl | rfl
  ·exact absurd (show true=false from hi0) dC
  ·exact absurd (show true=false from hi0) dC
  ·have f0:a0=false:=hi0
   clear hlt hd hi0;subst f0;have ho2:=Option.some.inj hop;subst ho2;clear hop;(try simp only[pu]);go_simp;refine hK.out _ _ ?_;exact⟨true,a1,a2,a3,b0,b1,b2,b3,p,y,r,k,.slice (sA u.heap.size 0) 0 0,s8,s9,s10,s14,s15,s18,s20,s21,s25,s26,rfl,eqF,hO.o.step ((Ok.refl _).alloc _),hA.o.s0 hBz,hB.o.map λ_ _ _ h=>za1 h ((Ok.refl u).alloc _),hp,hy,hr,(λh=>Ok.row' ((Ok.refl u).alloc _) (hk0.o h)),(λh=>⟨(hk1.o h).1,Ok.row' ((Ok.refl u).alloc _) (hk1.o h).2⟩)⟩
  ·exact absurd (show true=false from hi0) dC
  ·exact absurd (show true=false from hi0) dC
  ·have f0:a1=false:=hi0
   have t2:a0=true:=by have ho2:=Option.some.inj hop;subst ho2;exact hd ⟨2,.data⟩ sI rfl
   clear hlt hd hi0;subst f0;subst t2;obtain⟨⟨g5,rfl⟩,h5⟩:=hA.o.c0 rfl;have hown:=h5 rfl;have ho2:=Option.some.inj hop;subst ho2;clear hop;(try simp only[pu]);refine yI8 rfl _ _ 25 3 1 8 _ rfl Tryz.underlying25 wb1 (by rfl) dC dC W.heap.size _ 0 [] (by rfl) hown (.slice ho q hc) q (ilL t.2.1) (by rfl) (HH.o.below (hO.o.ok)) (by have:=HQ.o;omega) hBz ?_;intro v' u' k1 k2;(try simp only[pu]);refine hK.out _ _ ?_;have hk:LO w W gR u':=hO.o.grow HKW.o.le k2 (λb e=>((hown.lt b e).1));exact⟨true,true,a2,a3,b0,b1,b2,b3,p,y,r,k,.slice (sA g5 0) 0 0,v',s9,s10,s14,s15,s18,s20,s21,s25,s26,rfl,eqF,hk,hA.o.s1 k1 k2,hB.o.map λ_ _ _ h=>zd6 h hown dC k2,hp,hy,hr,(λh=>yI9 (hk0.o h) hown dC k2),(λh=>⟨(hk1.o h).1,yI9 (hk1.o h).2 hown dC k2⟩)⟩
  ·have f0:a2=false:=hi0
   clear hlt hd hi0;subst f0;have ho2:=Option.some.inj hop;subst ho2;clear hop;(try simp only[pu]);go_simp;refine hK.out _ _ ?_;exact⟨a0,a1,true,a3,b0,b1,b2,b3,p,y,r,k,s5,s8,.slice (sA u.heap.size 0) 1 1,s10,s14,s15,s18,s20,s21,s25,s26,rfl,eqF,hO.o.step ((Ok.refl _).alloc _),hA.o.s2 hBz rfl,hB.o.map λ_ _ _ h=>za1 h ((Ok.refl u).alloc _),hp,hy,hr,(λh=>Ok.row' ((Ok.refl u).alloc _) (hk0.o h)),(λh=>⟨(hk1.o h).1,Ok.row' ((Ok.refl u).alloc _) (hk1.o h).2⟩)⟩
  ·have f0:a3=false:=hi0
   have t5:a1=true:=by have ho2:=Option.some.inj hop;subst ho2;exact hd ⟨5,.data⟩ sI rfl
   have t6:a2=true:=by have ho2:=Option.some.inj hop;subst ho2;exact hd ⟨6,.data⟩ sI rfl
   clear hlt hd hi0;subst f0;subst t5;subst t6;have hown:=hA.o.c1 rfl rfl;obtain⟨⟨g9,rfl⟩,h9⟩:=hA.o.c2 rfl;have hx9:=zt1 (h9 rfl) (by simp[Value.oneCell']) (by decide);have ho2:=Option.some.inj hop;subst ho2;clear hop;(try simp only[pu]);refine yI8 rfl _ _ 25 3 1 8 _ rfl Tryz.underlying25 wb1 (by rfl) dC dC W.heap.size _ q (ilL t.2.1) (by rfl) hown _ 1 [nI 77] (by rfl) hx9 (by have:=HQ.o;omega) hBz ?_;intro v' u' k1 k2;(try simp only[pu]);refine hK.out _ _ ?_;have hk:LO w W gR u':=hO.o.grow HKW.o.le k2 (λb e=>((hown.lt b e).1));exact⟨a0,true,true,true,b0,b1,b2,b3,p,y,r,k,s5,s8,.slice (sA g9 0) 1 1,v',s14,s15,s18,s20,s21,s25,s26,rfl,eqF,hk,hA.o.s3 k1,hB.o.map λ_ _ _ h=>zd6 h hown dC k2,(λh=>by have:=(hp.o h).1;cases this),hy,hr,(λh=>yI9 (hk0.o h) hown dC k2),(λh=>⟨(hk1.o h).1,yI9 (hk1.o h).2 hown dC k2⟩)⟩
  ·exact absurd (show true=false from hi0) dC
  ·exact absurd (show true=false from hi0) dC
  ·exact absurd (show true=false from hi0) dC
  ·have f0:p=false:=hi0
   have t7:a3=true:=by have ho2:=Option.some.inj hop;subst ho2;exact hd ⟨7,.data⟩ sI rfl
   clear hlt hd hi0;subst f0;subst t7;have h3:=hA.o.c3 rfl;obtain⟨g7,c7,e10⟩:=h3.1;have h7:=h3.2;rw[e10]at h7;clear h3;have hrm:=(yt8 h7).1;have l1:(0:Int)<=(q:Int):=oM;have l2:(q:Int)<=(c7:Int):=oM;clear hrm h7;subst e10;have ho2:=Option.some.inj hop;subst ho2;clear hop;(try simp only[pu]);go_simp;refine hK.out _ _ ?_;exact⟨a0,a1,a2,true,b0,b1,b2,b3,true,y,r,k,s5,s8,s9,.slice (sA g7 0) (q+1) c7,.slice (sA g7 0) q c7,s15,s18,s20,s21,s25,s26,rfl,eqF,hO,hA,hB,(λ_=>⟨rfl,g7,c7,rfl,rfl⟩),hy,(λh=>by have:=(hr.o h).1;cases this),hk0,(λh=>by have:=(hr.o (hk1.o h).1).1;cases this)⟩
  ·have f0:b0=false:=hi0
   clear hlt hd hi0;subst f0;have ho2:=Option.some.inj hop;subst ho2;clear hop;(try simp only[pu]);go_simp;refine hK.out _ _ ?_;exact⟨a0,a1,a2,a3,true,b1,b2,b3,p,y,r,k,s5,s8,s9,s10,s14,.slice (sA u.heap.size 0) 0 0,s18,s20,s21,s25,s26,rfl,eqF,hO.o.step ((Ok.refl _).alloc _),hA.o.map λ_ _ _ h=>za1 h ((Ok.refl u).alloc _),hB.o.s0 hBz,hp,hy,hr,(λh=>Ok.row' ((Ok.refl u).alloc _) (hk0.o h)),(λh=>⟨(hk1.o h).1,Ok.row' ((Ok.refl u).alloc _) (hk1.o h).2⟩)⟩
  ·exact absurd (show true=false from hi0) dC
  ·exact absurd (show true=false from hi0) dC
  ·have f0:b1=false:=hi0
   have t12:b0=true:=by have ho2:=Option.some.inj hop;subst ho2;exact hd ⟨12,.data⟩ sI rfl
   clear hlt hd hi0;subst f0;subst t12;obtain⟨⟨g5,rfl⟩,h5⟩:=hB.o.c0 rfl;have hown:=h5 rfl;have ho2:=Option.some.inj hop;subst ho2;clear hop;(try simp only[pu]);refine yI8 rfl _ _ 26 45 2 16 _ rfl Tryz.underlying26 wg7 (by rfl) dC dC W.heap.size _ 0 [] (by rfl) hown (.slice lo n lc) n (lpL t.2.2) (by rfl) (HL.o.below (hO.o.ok)) (by have:=HQ.o;omega) hBz ?_;intro v' u' k1 k2;(try simp only[pu]);refine hK.out _ _ ?_;have hk:LO w W gR u':=hO.o.grow HKW.o.le k2 (λb e=>((hown.lt b e).1));exact⟨a0,a1,a2,a3,true,true,b2,b3,p,y,r,k,s5,s8,s9,s10,s14,.slice (sA g5 0) 0 0,v',s20,s21,s25,s26,rfl,eqF,hk,hA.o.map λ_ _ _ h=>zd6 h hown dC k2,hB.o.s1 k1 k2,hp,hy,hr,(λh=>yI9 (hk0.o h) hown dC k2),(λh=>⟨(hk1.o h).1,yI9 (hk1.o h).2 hown dC k2⟩)⟩
  ·exact absurd (show true=false from hi0) dC
  ·have f0:b2=false:=hi0
   clear hlt hd hi0;subst f0;have ho2:=Option.some.inj hop;subst ho2;clear hop;(try simp only[pu]);go_simp;refine hK.out _ _ ?_;exact⟨a0,a1,a2,a3,b0,b1,true,b3,p,y,r,k,s5,s8,s9,s10,s14,s15,s18,.slice (sA u.heap.size 0) 1 1,s21,s25,s26,rfl,eqF,hO.o.step ((Ok.refl _).alloc _),hA.o.map λ_ _ _ h=>za1 h ((Ok.refl u).alloc _),hB.o.s2 hBz rfl,hp,hy,hr,(λh=>Ok.row' ((Ok.refl u).alloc _) (hk0.o h)),(λh=>⟨(hk1.o h).1,Ok.row' ((Ok.refl u).alloc _) (hk1.o h).2⟩)⟩
  ·have f0:b3=false:=hi0
   have t15:b1=true:=by have ho2:=Option.some.inj hop;subst ho2;exact hd ⟨15,.data⟩ sI rfl
   have t17:b2=true:=by have ho2:=Option.some.inj hop;subst ho2;exact hd ⟨17,.data⟩ sI rfl
   clear hlt hd hi0;subst f0;subst t15;subst t17;have hown:=hB.o.c1 rfl rfl;obtain⟨⟨g9,rfl⟩,h9⟩:=hB.o.c2 rfl;have hx9:=zt1 (h9 rfl) (by simp[Value.oneCell']) (by decide);have ho2:=Option.some.inj hop;subst ho2;clear hop;(try simp only[pu]);refine yI8 rfl _ _ 26 45 2 16 _ rfl Tryz.underlying26 wg7 (by rfl) dC dC W.heap.size _ n (lpL t.2.2) (by rfl) hown _ 1 [nI 77,nI 0] (by rfl) hx9 (by have:=HQ.o;omega) hBz ?_;intro v' u' k1 k2;(try simp only[pu]);refine hK.out _ _ ?_;have hk:LO w W gR u':=hO.o.grow HKW.o.le k2 (λb e=>((hown.lt b e).1));exact⟨a0,a1,a2,a3,b0,true,true,true,p,y,r,k,s5,s8,s9,s10,s14,s15,s18,.slice (sA g9 0) 1 1,v',s25,s26,rfl,eqF,hk,hA.o.map λ_ _ _ h=>zd6 h hown dC k2,hB.o.s3 k1,hp,(λh=>by have:=(hy.o h).1;cases this),hr,(λh=>yI9 (hk0.o h) hown dC k2),(λh=>⟨(hk1.o h).1,yI9 (hk1.o h).2 hown dC k2⟩)⟩
  ·exact absurd (show true=false from hi0) dC
  ·exact absurd (show true=false from hi0) dC
  ·exact absurd (show true=false from hi0) dC
  ·have f0:y=false:=hi0
   have t18:b3=true:=by have ho2:=Option.some.inj hop;subst ho2;exact hd ⟨18,.data⟩ sI rfl
   clear hlt hd hi0;subst f0;subst t18;have h3:=hB.o.c3 rfl;obtain⟨g7,c7,e10⟩:=h3.1;have h7:=h3.2;rw[e10]at h7;clear h3;have hrm:=(yt8 h7).1;have l1:(0:Int)<=(n:Int):=oM;have l2:(n:Int)<=(c7:Int):=oM;clear hrm h7;subst e10;have ho2:=Option.some.inj hop;subst ho2;clear hop;(try simp only[pu]);go_simp;refine hK.out _ _ ?_;exact⟨a0,a1,a2,a3,b0,b1,b2,true,p,true,r,k,s5,s8,s9,s10,s14,s15,s18,s20,.slice (sA g7 0) (n+1) c7,.slice (sA g7 0) n c7,s26,rfl,eqF,hO,hA,hB,hp,(λ_=>⟨rfl,g7,c7,rfl,rfl⟩),(λh=>by have:=(hr.o h).2.1;cases this),hk0,(λh=>by have:=(hr.o (hk1.o h).1).2.1;cases this)⟩
  ·have f0:r=false:=hi0
   have t11:p=true:=by have ho2:=Option.some.inj hop;subst ho2;exact hd ⟨11,.data⟩ sI rfl
   have t22:y=true:=by have ho2:=Option.some.inj hop;subst ho2;exact hd ⟨22,.data⟩ sI rfl
   clear hlt hd hi0;subst f0;subst t11;subst t22;obtain⟨ta,g7,c7,rfl,rfl⟩:=hp.o rfl;obtain⟨tb,g8,c8,rfl,rfl⟩:=hy.o rfl;have ho2:=Option.some.inj hop;subst ho2;clear hop;(try simp only[pu]);go_simp;refine hK.out _ _ ?_;exact⟨a0,a1,a2,a3,b0,b1,b2,b3,true,true,true,k,s5,s8,s9,.slice (sA g7 0) (q+1) c7,.slice (sA g7 0) q c7,s15,s18,s20,.slice (sA g8 0) (n+1) c8,.slice (sA g8 0) n c8,.agg #[.bool m,.slice (sA g7 0) q c7,.slice (sA g8 0) n c8],rfl,eqF,hO,hA,hB,(λ_=>⟨ta,g7,c7,rfl,rfl⟩),(λ_=>⟨tb,g8,c8,rfl,rfl⟩),(λ_=>⟨rfl,rfl,rfl⟩),hk0,(λh=>by have:=(hk1.o h).1;cases this)⟩
  have f0:k=false:=hi0;have t23:r=true:=by have ho2:=Option.some.inj hop;subst ho2;exact hd ⟨23,.data⟩ sI rfl
  clear hlt hd hi0;subst f0;subst t23;obtain⟨t1,t2,e26⟩:=hr.o rfl;subst t1;subst t2;subst e26;have hg0:=hk0.o rfl;obtain⟨ta,g7,c7,rfl,rfl⟩:=hp.o rfl;obtain⟨tb,g8,c8,rfl,rfl⟩:=hy.o rfl;obtain⟨y0,y1,y2,y3,y4,y5⟩:=za9 hg0;have ly:=za2 hg0;have ho2:=Option.some.inj hop;subst ho2;clear hop;(try simp only[pu]);go_simp;refine hK.out _ _ ?_;have hgs:gR<W.heap.size:=HGG.o.2.1;exact⟨a0,a1,a2,a3,b0,b1,b2,b3,true,true,true,true,s5,s8,s9,.slice (sA g7 0) (q+1) c7,.slice (sA g7 0) q c7,s15,s18,s20,.slice (sA g8 0) (n+1) c8,.slice (sA g8 0) n c8,.agg #[.bool m,.slice (sA g7 0) q c7,.slice (sA g8 0) n c8],rfl,eqF,hO.o.put HGG.o.1 _ _ _,hA.o.map λ_ _ _ h=>zf6 h hgs _ _ _,hB.o.map λ_ _ _ h=>zf6 h hgs _ _ _,(λ_=>⟨ta,g7,c7,rfl,rfl⟩),(λ_=>⟨tb,g8,c8,rfl,rfl⟩),(λ_=>⟨rfl,rfl,rfl⟩),(λh=>by cases h),(λ_=>⟨rfl,zd9 hg0 _ _ _⟩)⟩
 case fin =>
  intro l fr u hI hrd;obtain⟨a0,a1,a2,a3,b0,b1,b2,b3,p,y,r,k,s5,s8,s9,s10,s14,s15,s18,s20,s21,s25,s26,rfl,rfl,hO,hA,hB,hp,hy,hr,hk0,hk1⟩:=hI;have hall:=yL5 kR rfl hrd;have tk:k=true:=hall 24 dC;clear hrd hall;subst tk;obtain⟨tr,hrow⟩:=hk1.o rfl;subst tr;obtain⟨tp,ty,e26⟩:=hr.o rfl;subst tp;subst ty;subst e26;obtain⟨ta,g7,c7,rfl,rfl⟩:=hp.o rfl;obtain⟨tb,g8,c8,rfl,rfl⟩:=hy.o rfl;have HHH:Hi _:=(hA.o.c3 ta).2;have HLL:Hi _:=(hB.o.c3 tb).2;have HRW:Hi _:=hrow;clear hA hB hp hy hr hk0 hk1 hrow ta tb;(try simp only[pu]);have hgl:=za2 HRW.o;go_wp2_with fail;(try simp only[Exit.inBlock,Exit.then]);refine bodyPost_ret (results_cell_row rfl _ _ gR 28 #[_,_,_] (0,0) _ rfl HRW.o Tryz.underlying28 rfl CB) rfl ?_;exact⟨g7,c7,g8,c8,rfl,za7 HHH.o HKW.o.le,za7 HLL.o HKW.o.le,hO.o.ok⟩
end
end Go.Proofs.YtpongdpnbclchaaGreatDoor
